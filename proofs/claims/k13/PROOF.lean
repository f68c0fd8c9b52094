import PyProof.Rows.All
import Wide.All
import OpenK.AllK
import Wide.FinOn
import Lean
import PyProof.EqAt
import PyProof.EqKinds
import PyProof.TupleCall
import PyProof.StrLawsChain
import PyProof.StrLawsIn
import PyProof.Rows.StrNews2
import PyProof.StrBlockL
import PyProof.Rows.StrClose3
import PyProof.Rows.StrClose5
import PyProof.Rows.StrFirst
import PyProof.WalkInts
import PyProof.StrOps
import PyProof.WalksEnum
import PyProof.EnumMake
import PyProof.NeKinds
import KE.KEqDict
import KE.KRevIter
import PyProof.DictWalks
import PyProof.DictValues
import PyProof.ListRange
import PyProof.CollectIter
import PyProof.ZipIter
import PyProof.Rows.ZipGen
import PyProof.FString5
import KE.KDictLaws
import KE.KDictSum
import KE.KSortTup
import PyProof.Rows.SortStr
import PyProof.DictItems
import KE.KPairComp
import KE.KUnpack
import PyProof.P3Eq
import PyProof.Rows.SetFrom
import PySem.Challenge.RW_mostwise_k13_whole_rows
set_option Elab.async false
set_option linter.all false
set_option maxRecDepth 100000
set_option maxHeartbeats 4000000
namespace L2
open PySem PySem.Spec PyProof.Rows
abbrev Key:=Sum Int Str
def b7A:Key→Value→Bool
 | .inl k,v=>Value.isInt k v
 | .inr x,v=>Value.isStrOf x v
def c9g (w:World):Key→Int
 | .inl k=>hashInt k
 | .inr x=>hashStr w x
theorem a1l:∀{k:Key} {v:Value},b7A k v=true→(∃i t,k=Sum.inl i∧v=Value.int i t)∨(∃x t,k=Sum.inr x∧v=Value.str x t)
 | .inl i,v,h=>by
  obtain ⟨t,e⟩:=Value.isInt_shape (k:=i) (v:=v) h
  exact .inl ⟨i,t,rfl,e⟩
 | .inr x,v,h=>by
  obtain ⟨t,e⟩:=Value.isStrOf_shape (x:=x) (v:=v) h
  exact .inr ⟨x,t,rfl,e⟩
theorem b6C (a b:Int):decide ((Sum.inl a:Key)=Sum.inl b)=(a == b):=by
 by_cases e:a=b
 ·subst e;simp
 ·have h:¬(Sum.inl a:Key)=Sum.inl b:=fun q=>e (Sum.inl.inj q)
  rw [decide_eq_false h]
  exact (beq_eq_false_iff_ne.mpr e).symm
theorem b7T (a b:Str):decide ((Sum.inr a:Key)=Sum.inr b)=decide (a=b):=by
 by_cases e:a=b
 ·subst e;simp
 ·have h:¬(Sum.inr a:Key)=Sum.inr b:=fun q=>e (Sum.inr.inj q)
  rw [decide_eq_false h,decide_eq_false e]
theorem b6r (a:Int) (b:Str):decide ((Sum.inl a:Key)=Sum.inr b)=false:=decide_eq_false (fun q=>nomatch q)
theorem b8h (a:Str) (b:Int):decide ((Sum.inr a:Key)=Sum.inl b)=false:=decide_eq_false (fun q=>nomatch q)
def a8m (prog:Program) (w:World):PySem.KeyKind prog w Key where
 is:=b7A
 hash:=c9g w
 inj:=fun v a b ha hb=>by
  rcases a1l ha with ⟨i,t,rfl,rfl⟩ | ⟨x,t,rfl,rfl⟩
  ·rcases a1l hb with ⟨j,u,rfl,e⟩ | ⟨y,u,rfl,e⟩
   ·injection e with e1 _;rw [e1]
   ·exact nomatch e
  ·rcases a1l hb with ⟨j,u,rfl,e⟩ | ⟨y,u,rfl,e⟩
   ·exact nomatch e
   ·injection e with e1 _;rw [e1]
 byValue:=fun k v h=>by
  rcases a1l h with ⟨i,t,rfl,rfl⟩ | ⟨x,t,rfl,rfl⟩<;>rfl
 pyHash:=fun hv h=>by
  rcases a1l hv with ⟨i,t,rfl,rfl⟩ | ⟨x,t,rfl,rfl⟩
  ·exact wpAny_pyHash_int h
  ·exact wpAny_pyHash_str h
 eqBool:=fun hu hv h=>by
  rcases a1l hu with ⟨i,t,rfl,rfl⟩ | ⟨x,t,rfl,rfl⟩
  ·rcases a1l hv with ⟨j,u,rfl,rfl⟩ | ⟨y,u,rfl,rfl⟩
   ·rw [b6C] at h;exact wpAny_eqBool_int h
   ·rw [b6r] at h;exact SeqAt.EqAt.int_str i t y u _ _ _ _ h
  ·rcases a1l hv with ⟨j,u,rfl,rfl⟩ | ⟨y,u,rfl,rfl⟩
   ·rw [b8h] at h;exact SeqAt.EqAt.str_int x t j u _ _ _ _ h
   ·rw [b7T] at h;exact wpAny_eqBool_str h
 «strs»:=fun k x t v h=>by
  rcases a1l h with ⟨i,u,rfl,e⟩ | ⟨y,u,rfl,e⟩
  ·exact nomatch e
  ·injection e with e1 _
   subst e1
   cases v<;>rfl
end L2
namespace L2
open PySem PySem.Spec PyProof.Rows
inductive V where
 | non | bl (b:Bool) | int (i:Int) | str (x:Str) | byt (b:Array UInt8) | flt (b:UInt64) | ref (a:Addr) | ty (n:String)
 deriving DecidableEq
def a1R:V→Value→Prop
 | .non,u=>u=Value.none
 | .bl b,u=>u=Value.bool b
 | .int i,u=>∃t,u=Value.int i t
 | .str x,u=>∃t,u=Value.str x t
 | .byt b,u=>∃t,u=Value.bytes b t
 | .flt b,u=>∃t,u=Value.float b t
 | .ref a,u=>u=Value.ref a
 | .ty n,u=>u=Value.type n
abbrev a1f:List V→List Value→Prop:=Paired a1R
theorem a1f.length {xs:List V} {us:List Value} (r:a1f xs us):xs.length=us.length:=Paired.length r
theorem a1f.get:∀{xs:List V} {us:List Value} {i:Nat} {x:V},a1f xs us→xs[i]?=some x→∃u,us[i]?=some u∧a1R x u
 | _,_,_,_,.nil,e=>by simp at e
 | _,_,0,_,.cons r _,e=>by simp at e;subst e;exact ⟨_,rfl,r⟩
 | _,_,i+1,x,.cons _ t,e=>by
  obtain ⟨u,h1,h2⟩:=a1f.get (i:=i) (x:=x) t (by simpa using e)
  exact ⟨u,by simpa using h1,h2⟩
theorem a1f.set {x:V} {u:Value} (r:a1R x u):∀{xs:List V} {us:List Value} (i:Nat),a1f xs us→a1f (xs.set i x) (us.set i u)
 | _,_,_,.nil=>.nil
 | _,_,0,.cons _ t=>.cons r t
 | _,_,i+1,.cons q t=>.cons q (a1f.set r i t)
theorem a1f.append:∀{xs ys:List V} {us ws:List Value},a1f xs us→a1f ys ws→a1f (xs++ys) (us++ws)
 | _,_,_,_,.nil,s=>s
 | _,_,_,_,.cons r t,s=>.cons r (a1f.append t s)
theorem a1f.take:∀{xs:List V} {us:List Value} (n:Nat),a1f xs us→a1f (xs.take n) (us.take n)
 | _,_,0,_=>.nil
 | _,_,_+1,.nil=>.nil
 | _,_,n+1,.cons r t=>.cons r (a1f.take n t)
theorem a1f.drop:∀{xs:List V} {us:List Value} (n:Nat),a1f xs us→a1f (xs.drop n) (us.drop n)
 | _,_,0,r=>r
 | _,_,_+1,.nil=>.nil
 | _,_,n+1,.cons _ t=>a1f.drop n t
theorem a1f.none_of:∀{xs:List V} {us:List Value} {i:Nat},a1f xs us→xs[i]?=none→us[i]?=none:=fun {xs us i} r e=>by
 have h1:=r.length
 have h2:xs.length≤i:=List.getElem?_eq_none_iff.mp e
 exact List.getElem?_eq_none_iff.mpr (by omega)
def a7a:Option V→Option Value→Prop
 | some v,some u=>a1R v u
 | none,none=>True
 | _,_=>False
def KV {κ:Type}:List (κ×V)→List (κ×Value)→Prop:=Paired fun (p:κ×V) (q:κ×Value)=>p.1=q.1∧a1R p.2 q.2
def kV:Key→V
 | .inl i=>.int i
 | .inr x=>.str x
inductive HO where
 | lst (xs:List V)
 | tup (xs:List V)
 | dK (kvs:List (Key×V)) | dT (kvs:List (List Key×V))
 | set (S:Int→Bool) (n:Nat)
 | ins (C dx:Addr) (fs:List (Str×V))
 | own (x:Addr)
 | xd (fs:List (Str×V))
 | met (f x:Addr)
 | rng (lo hi:Int)
 | frz (o:Obj) (u:HO)
 | tbl (ps:Array Value)
 | ext (φ:Heap→Prop)
abbrev Hp:=Addr→Option HO
def upd (H:Hp) (a:Addr) (o:HO):Hp:=fun b=>if b=a then some o else H b
theorem a0v {H:Hp} {a:Addr} {o:HO}:upd H a o a=some o:=by unfold upd;rw [if_pos rfl]
theorem a0w {H:Hp} {a b:Addr} {o:HO} (h:b≠a):upd H a o b=H b:=by unfold upd;rw [if_neg h]
theorem b5i {H:Hp} {a:Addr} {o u:HO}:upd (upd H a o) a u=upd H a u:=by
 funext b;unfold upd;split<;>rfl
theorem b0D {H:Hp} {a b:Addr} {o u:HO} (h:H a=some o) (h':H b=some u) (d:o≠u):a≠b:=by
 intro e;subst e;rw [h] at h';exact d (Option.some.inj h')
theorem a0y {H:Hp} {a b:Addr} {o:HO} (h:H a=some o) (h':H b=none):a≠b:=by
 intro e;subst e;rw [h] at h';cases h'
section
variable (P:Program) (w:World)
def a1O (H:Hp) (h:Heap) (a:Addr):HO→Prop
 | .lst xs=>xs.length≤sizeLine∧∃(its:List Value) (n:Nat),a1f xs its∧h.get? a=some {cls:=.type "list",data:=.seq its.toArray n}
 | .tup xs=>xs.length≤sizeLine∧∃its:List Value,a1f xs its∧IsTup h a its.toArray
 | .dK kvs=>kvs.length≤sizeLine∧(a == sysModules)=false∧∃vs,KV kvs vs∧h.DictOf (a8m P w) a vs
 | .dT kvs=>kvs.length≤sizeLine∧(a == sysModules)=false∧∃xs:List (List Key×Addr×Value),
   Paired (fun (p:List Key×V) (q:List Key×Addr×Value)=>p.1=q.1∧H q.2.1=some (.tup (p.1.map kV))∧a1R p.2 q.2.2) kvs xs∧
   ∃o es ep,h.get? a=some o∧o.ExactDict∧o.data=.dict es ep∧es.toList=xs.map (entryOfKey (tupleKind (a8m P w)))∧(xs.map (·.1)).Nodup
 | .set S n=>h.SetOf (intKind P w) a S n
 | .ins C dx fs=>H dx=some (.own a)∧fs.length≤1000∧dx≠a∧h.get? a=some (PySem.W.instObj C dx)∧
   ∃mA,h.Ns1 dx mA∧(∀f,a7a (fs.lookup f) (mA f))∧PySem.Within mA (fs.map (·.1))
 | .own _=>∃o,h.get? a=some o
 | .xd fs=>∃mA,h.Ns1 a mA∧∀f,a7a (fs.lookup f) (mA f)
 | .rng lo hi=>∃t u v,h.get? a=some {cls:=.type "range",data:=.fields #[.int lo t,.int hi u,.int 1 v]}
 | .frz o u=>h.get? a=some o∧a1O H h a u
 | .tbl ps=>h.get? a=some {cls:=.none,data:=.fields ps}
 | .met f x=>h.get? a=some (PySem.W.methodObj (.ref f) (.ref x))
 | .ext φ=>φ h∧(∃o,h.get? a=some o)∧∀h1 h2:Heap,φ h1→(∀o,h1.get? a=some o→h2.get? a=some o)→φ h2
def HOk (H:Hp) (h:Heap):Prop:=∀a o,H a=some o→a1O P w H h a o
end
section
variable {P:Program} {w:World} {H H':Hp} {h h':Heap} {a:Addr} {o:HO}
theorem a1O.lt (x:a1O P w H h a o):a < h.objs.size:=by
 cases o with
 | lst xs=>obtain ⟨_,_,_,_,e⟩:=x;exact Heap.lt_size e
 | tup xs=>obtain ⟨_,_,_,p⟩:=x;exact p.lt
 | dK kvs=>obtain ⟨_,_,_,_,o,_,_,e,_⟩:=x;exact Heap.lt_size e
 | dT kvs=>obtain ⟨_,_,_,_,o,_,_,e,_⟩:=x;exact Heap.lt_size e
 | set S n=>obtain ⟨o,_,_,_,e,_⟩:=x;exact Heap.lt_size e
 | ins C dx fs=>obtain ⟨_,_,_,e,_⟩:=x;exact Heap.lt_size e
 | own y=>obtain ⟨_,e⟩:=x;exact Heap.lt_size e
 | xd fs=>obtain ⟨_,⟨_,_,_,e,_⟩,_⟩:=x;exact Heap.lt_size e
 | rng lo hi=>obtain ⟨_,_,_,e⟩:=x;exact Heap.lt_size e
 | frz ob u=>obtain ⟨e,_⟩:=x;exact Heap.lt_size e
 | tbl ps=>exact Heap.lt_size (show h.get? a=some _ from x)
 | met f y=>exact Heap.lt_size (show h.get? a=some _ from x)
 | ext φ=>obtain ⟨_,⟨_,e⟩,_⟩:=x;exact Heap.lt_size e
theorem Paired.mapP {α β:Type} {F G:α→β→Prop}:∀{l₁:List α} {l₂:List β},Paired F l₁ l₂→(∀a b,F a b→G a b)→Paired G l₁ l₂
 | _,_,.nil,_=>.nil
 | _,_,.cons r t,f=>.cons (f _ _ r) (Paired.mapP t f)
theorem a1O.stay (x:a1O P w H h a o) (k:∀b u,(b=a∨H b=some (.own a))→h.get? b=some u→h'.get? b=some u)
  (ho:∀b,H b=some (.own a)→H' b=some (.own a)) (ht:∀b xs,H b=some (.tup xs)→H' b=some (.tup xs)):a1O P w H' h' a o:=by
 induction o with
 | lst xs=>obtain ⟨z,its,n,r,e⟩:=x;exact ⟨z,its,n,r,k _ _ (.inl rfl) e⟩
 | tup xs=>obtain ⟨z,its,r,ob,e,c⟩:=x;exact ⟨z,its,r,ob,k _ _ (.inl rfl) e,c⟩
 | dK kvs=>obtain ⟨z,y,vs,r,ob,es,ep,e,c⟩:=x;exact ⟨z,y,vs,r,ob,es,ep,k _ _ (.inl rfl) e,c⟩
 | dT kvs=>
  obtain ⟨z,y,xs,r,ob,es,ep,e,c⟩:=x
  exact ⟨z,y,xs,Paired.mapP r fun p q z=>⟨z.1,ht _ _ z.2.1,z.2.2⟩,ob,es,ep,k _ _ (.inl rfl) e,c⟩
 | set S n=>obtain ⟨ob,es,ep,t,e,c⟩:=x;exact ⟨ob,es,ep,t,k _ _ (.inl rfl) e,c⟩
 | ins C dx fs=>
  obtain ⟨d,z,ne,e,mA,⟨od,es,ep,e2,c⟩,r⟩:=x
  exact ⟨ho _ d,z,ne,k _ _ (.inl rfl) e,mA,⟨od,es,ep,k _ _ (.inr d) e2,c⟩,r⟩
 | own y=>obtain ⟨ob,e⟩:=x;exact ⟨ob,k _ _ (.inl rfl) e⟩
 | xd fs=>obtain ⟨mA,⟨od,es,ep,e,c⟩,r⟩:=x;exact ⟨mA,⟨od,es,ep,k _ _ (.inl rfl) e,c⟩,r⟩
 | rng lo hi=>obtain ⟨t,u,v,e⟩:=x;exact ⟨t,u,v,k _ _ (.inl rfl) e⟩
 | frz ob u ih=>obtain ⟨e,q⟩:=x;exact ⟨k _ _ (.inl rfl) e,ih q⟩
 | tbl ps=>
  have e:h.get? a=some {cls:=.none,data:=.fields ps}:=x
  show h'.get? a=some {cls:=.none,data:=.fields ps}
  exact k a _ (.inl rfl) e
 | met f y=>
  have e:h.get? a=some (PySem.W.methodObj (.ref f) (.ref y)):=x
  show h'.get? a=some (PySem.W.methodObj (.ref f) (.ref y))
  exact k a _ (.inl rfl) e
 | ext φ=>obtain ⟨p,⟨o,e⟩,st⟩:=x;exact ⟨st _ _ p fun o q=>k _ _ (.inl rfl) q,⟨o,k _ _ (.inl rfl) e⟩,st⟩
theorem HOk.lt (x:HOk P w H h) (e:H a=some o):a < h.objs.size:=(x a o e).lt
theorem HOk.fresh (x:HOk P w H h) (e:h.objs.size≤a):H a=none:=by
 cases q:H a with
 | none=>rfl
 | some u=>exact absurd (Nat.lt_of_lt_of_le (x.lt q) e) (Nat.lt_irrefl _)
theorem HOk.kept (x:HOk P w H h) (k:∀b u,h.get? b=some u→h'.get? b=some u):HOk P w H h':=fun a o e=>
 (x a o e).stay (fun b u _ q=>k b u q) (fun _ q=>q) fun _ _ q=>q
theorem HOk.laid (x:HOk P w H h) (k:∀b u,h.get? b=some u→h'.get? b=some u) (hp:h.objs.size≤a) (new:a1O P w (upd H a o) h' a o):HOk P w (upd H a o) h':=fun b u e=>by
 have hn:=x.fresh hp
 by_cases hb:b=a
 ·subst hb;rw [a0v] at e;cases e;exact new
 ·rw [a0w hb] at e
  exact (x b u e).stay (fun c v _ q=>k c v q) (fun c q=>by rw [a0w (a0y q hn)];exact q) fun c xs q=>by rw [a0w (a0y q hn)];exact q
end
def Rd (H:Hp) (a:Addr) (u:HO):Prop:=H a=some u∨∃o,H a=some (.frz o u)
theorem Rd.of {H:Hp} {a:Addr} {u:HO} (h:H a=some u):Rd H a u:=.inl h
theorem Rd.ok {P:Program} {w:World} {H:Hp} {h:Heap} {a:Addr} {u:HO} (r:Rd H a u) (x:HOk P w H h):a1O P w H h a u:=by
 rcases r with r | ⟨o,r⟩
 ·exact x a u r
 ·obtain ⟨_,q⟩:=x a _ r
  exact q
def Mut:Option HO→Prop
 | some (.lst _)=>True
 | some (.dK _)=>True
 | some (.dT _)=>True
 | some (.set _ _)=>True
 | some (.ins _ _ _)=>True
 | some (.ext _)=>True
 | _=>False
section
variable {P:Program} {w:World} {H:Hp} {h h':Heap} {x e:Addr} {o':HO}
theorem HOk.write (ok:HOk P w H h) (mu:Mut (H x)) (he:e=x∨H e=some (.own x)) (k:∀b u,b≠e→h.get? b=some u→h'.get? b=some u) (heo:∃u,h'.get? e=some u)
  (new:a1O P w (upd H x o') h' x o'):HOk P w (upd H x o') h':=fun b u q=>by
 have nown:∀c y,H c=some (.own y)→c≠x:=fun c y r z=>by subst z;rw [r] at mu;exact mu
 have ntup:∀c xs,H c=some (.tup xs)→c≠x:=fun c xs r z=>by subst z;rw [r] at mu;exact mu
 by_cases hb:b=x
 ·subst hb;rw [a0v] at q;cases q;exact new
 ·rw [a0w hb] at q
  by_cases hbe:b=e
  ·have q':H b=some (.own x):=by
    rcases he with z | z
    ·exact absurd (hbe.trans z) hb
    ·rw [hbe];exact z
   rw [q] at q';cases q'
   obtain ⟨v,hv⟩:=heo
   exact ⟨v,by rw [hbe];exact hv⟩
  ·refine (ok b u q).stay (fun c v hc r=>k c v ?_ r) (fun c r=>by rw [a0w (nown c b r)];exact r) fun c xs r=>by rw [a0w (ntup c xs r)];exact r
   rcases hc with rfl | hc
   ·exact hbe
   ·rintro rfl
    rcases he with z | z
    ·exact nown c b hc z
    ·rw [hc] at z;cases z;exact hb rfl
end
structure Un (fs ex:List Addr) (H H':Hp) (h h':Heap):Prop where
 keep:∀b o,h.get? b=some o→H b=none→b∉fs→b∉ex→h'.get? b=some o
 slot:∀b o,h.get? b=some o→H b=none→b∈fs→b∉ex→∃sl,h'.get? b=some {o with slots:=sl}
 free:∀b o,h.get? b=some o→H b=none→b∉ex→H' b=none
 there:∀b o,h.get? b=some o→b∉ex→∃o',h'.get? b=some o'
 tups:∀b xs,H b=some (.tup xs)→H' b=some (.tup xs)
 frzs:∀b o u,H b=some (.frz o u)→H' b=some (.frz o u)
 tbls:∀b ps,H b=some (.tbl ps)→∃more,H' b=some (.tbl (ps++more))
section
variable {fs fs' ex ex':List Addr} {H H1 H2:Hp} {h h1 h2 h':Heap} {a x e:Addr} {o:HO}
theorem Un.any (u:Un fs ex H H1 h h1) {b:Addr} {ob:Obj} (q:h.get? b=some ob) (n:H b=none) (hx:b∉ex):∃sl,h1.get? b=some {ob with slots:=sl}:=by
 by_cases hb:b∈fs
 ·exact u.slot b ob q n hb hx
 ·exact ⟨ob.slots,u.keep b ob q n hb hx⟩
theorem Un.trans (a:Un fs ex H H1 h h1) (b:Un fs ex H1 H2 h1 h2):Un fs ex H H2 h h2 where
 keep:=fun c ob q n hc hx=>b.keep c ob (a.keep c ob q n hc hx) (a.free c ob q n hx) hc hx
 slot:=fun c ob q n hc hx=>by
  obtain ⟨sl,e1⟩:=a.slot c ob q n hc hx
  obtain ⟨sl',e2⟩:=b.slot c _ e1 (a.free c ob q n hx) hc hx
  exact ⟨sl',e2⟩
 free:=fun c ob q n hx=>by
  obtain ⟨o',e1⟩:=a.there c ob q hx
  exact b.free c o' e1 (a.free c ob q n hx) hx
 there:=fun c ob q hx=>by
  obtain ⟨o',e1⟩:=a.there c ob q hx
  exact b.there c o' e1 hx
 tups:=fun c xs q=>b.tups c xs (a.tups c xs q)
 frzs:=fun c ob xs q=>b.frzs c ob xs (a.frzs c ob xs q)
 tbls:=fun c ps q=>by
  obtain ⟨m1,e1⟩:=a.tbls c ps q
  obtain ⟨m2,e2⟩:=b.tbls c _ e1
  exact ⟨m1++m2,by rw [e2,Array.append_assoc]⟩
theorem Un.kept (k:∀b u,h.get? b=some u→h'.get? b=some u):Un fs ex H H h h':=
 ⟨fun b ob q _ _ _=>k b ob q,fun b ob q _ _ _=>⟨ob.slots,k b ob q⟩,fun _ _ _ n _=>n,fun b ob q _=>⟨ob,k b ob q⟩,fun _ _ q=>q,fun _ _ _ q=>q,fun _ ps q=>⟨#[],by rw [q];simp⟩⟩
theorem Un.refl:Un fs ex H H h h:=Un.kept fun _ _ q=>q
theorem Un.laid (k:∀b u,h.get? b=some u→h'.get? b=some u) (hp:h.objs.size≤a) (hn:H a=none):Un fs ex H (upd H a o) h h' where
 keep:=fun b u q _ _ _=>k b u q
 slot:=fun b u q _ _ _=>⟨u.slots,k b u q⟩
 free:=fun b u q n _=>by rw [a0w (Nat.ne_of_lt (Nat.lt_of_lt_of_le (Heap.lt_size q) hp))];exact n
 there:=fun b u q _=>⟨u,k b u q⟩
 tups:=fun b xs q=>by rw [a0w (a0y q hn)];exact q
 frzs:=fun b u xs q=>by rw [a0w (a0y q hn)];exact q
 tbls:=fun b ps q=>⟨#[],by rw [a0w (a0y q hn),q];simp⟩
theorem Un.write (mu:Mut (H x)) (he:e=x∨H e=some (.own x)) (k:∀b u,b≠e→h.get? b=some u→h'.get? b=some u) (heo:∃u,h'.get? e=some u):Un fs ex H (upd H x o) h h':=by
 have hx:∀b,H b=none→b≠x:=fun b n z=>by subst z;rw [n] at mu;exact mu
 have hb:∀b,H b=none→b≠e:=fun b n z=>by
  subst z
  rcases he with r | r
  ·exact hx b n r
  ·rw [n] at r;cases r
 have hm:∀b u,H b=some u→¬Mut (some u)→b≠x:=fun b u q nm z=>by subst z;rw [q] at mu;exact nm mu
 refine ⟨fun b u q n _ _=>k b u (hb b n) q,fun b u q n _ _=>⟨u.slots,k b u (hb b n) q⟩,fun b u q n _=>by rw [a0w (hx b n)];exact n,fun b u q _=>?_,
  fun b xs q=>by rw [a0w (hm b _ q fun z=>z)];exact q,fun b u xs q=>by rw [a0w (hm b _ q fun z=>z)];exact q,fun b ps q=>⟨#[],by rw [a0w (hm b _ q fun z=>z),q];simp⟩⟩
 by_cases hbe:b=e
 ·subst hbe;exact heo
 ·exact ⟨u,k b u hbe q⟩
theorem Un.mono (u:Un fs ex H H1 h h1) (hs:∀b∈fs,b∈fs') (hx:∀b∈ex,b∈ex'):Un fs' ex' H H1 h h1:=
 ⟨fun b ob q n hb he=>u.keep b ob q n (fun z=>hb (hs b z)) fun z=>he (hx b z),fun _ _ q n _ he=>u.any q n fun z=>he (hx _ z),fun b ob q n he=>u.free b ob q n fun z=>he (hx b z),fun b ob q he=>u.there b ob q fun z=>he (hx b z),u.tups,u.frzs,u.tbls⟩
end
def trk (h:Heap) (H:Hp):List Addr:=(List.range h.objs.size).filter fun a=>(H a).isSome
def b3p (h:Heap) (H:Hp):Heap:=PySem.W.hideAll h (trk h H)
theorem b0X (h:Heap) (H:Hp):(b3p h H).objs.size=h.objs.size:=PySem.W.hideAll_size _ _
theorem b2E {h:Heap} {H:Hp} {b:Addr} {o:Obj} (e:h.get? b=some o) (n:H b=none):(b3p h H).get? b=some o:=
 PySem.W.hideAll_get _ e fun hm=>by
  have q:(H b).isSome=true:=(List.mem_filter.mp hm).2
  rw [n] at q;simp at q
theorem b4E {h:Heap} {H:Hp} {b:Addr} {o:Obj} (e:(b3p h H).get? b=some o):h.get? b=some o∧H b=none:=by
 have e':h.get? b=some o:=PySem.W.of_hideAll (trk h H) e
 refine ⟨e',?_⟩
 cases q:H b with
 | none=>rfl
 | some x=>
  have hm:b∈trk h H:=List.mem_filter.mpr ⟨List.mem_range.mpr (Heap.lt_size e'),by simp [q]⟩
  have z:(b3p h H).get? b=none:=PySem.W.hideAll_none (trk h H) hm
  rw [z] at e;cases e
def b4J (g h:Heap) (L:Addr):List (Addr×Obj):=(List.range h.objs.size).filterMap fun a=>if a=L∨(g.get? a).isSome=true then none else (h.get? a).map fun o=>(a,o)
def rest (g h:Heap) (L d:Addr):List (Addr×Obj):=(b4J g h L).filter fun p=>decide (p.1≠d)
end L2
namespace L2
open PySem PySem.Spec PyProof.Rows
structure Mod (K:PySem.W.Frag) (mg:Str→Option Value) (base:Heap):Prop where
 kin:K.In base
 glob:base.Ns mainGlobals mg
 blt:∃mb,base.Ns builtinsNs mb∧∀x:Str,x≠"__name__"→mb x=bootBuiltins x
 nolimit:base.NoLimit
structure Cx where
 prog:Program
 w:World
 K:PySem.W.Frag
 mg:Str→Option Value
 base:Heap
 A:Around
 N:List Str
 s₀:Shared
 H₀:Hp
 env:Env
 outer:List Env
 stack:List Env
 ex:List Addr
 fn:Str→Bool
 calm:Bool
 pn:List (Addr×Obj)
 xe:Value→Shared→Prop
def frs (l:List Env):List Addr:=l.filterMap (·.frame)
abbrev Cx.fs (X:Cx):List Addr:=frs X.outer
def Vis (sc:Scope) (x:Str):Prop:=sc.names.lookup x=some .local∨sc.names.lookup x=some .cell∨sc.names.lookup x=some .free
def Loc (sc:Scope) (x:Str):Prop:=sc.names.lookup x=some .local∨sc.names.lookup x=some .cell
def c8w (env:Env) (h:Heap) (m:Str→Option Value) (x:Str) (u:Value):Prop:=
 (env.kindOf x=some .local∧m x=some u)∨((env.kindOf x=some .cell∨env.kindOf x=some .free)∧∃c,env.cells.lookup x=some c∧h.IsCell c (some u))
structure Cx.Ok (X:Cx):Prop where
 mod:Mod X.K X.mg X.base
 kind:X.env.scope.kind=.function
 glob:X.env.globals=mainGlobals
 blt:X.env.builtins=builtinsNs
 above:X.s₀.heap.objs.size≤X.env.locals
 inj:∀x y c,X.env.cells.lookup x=some c→X.env.cells.lookup y=some c→x=y
 has:∀x,(X.env.kindOf x=some .cell∨X.env.kindOf x=some .free)→∃c,X.env.cells.lookup x=some c
 cab:∀x c,X.fn x=true→X.env.cells.lookup x=some c→X.s₀.heap.objs.size≤c
 hd:X.calm=true→X.A.handled=none
 frames:X.A.frames=some X.stack
 stk:X.stack=X.outer∨(X.stack=X.env::X.outer∧X.env.frame=some X.env.locals)
 exf:∀b∈X.ex,b≠X.env.locals∧∀x c,X.env.cells.lookup x=some c→c≠b
 bs:∀b o,X.base.get? b=some o→X.s₀.heap.get? b=some o∧X.H₀ b=none
 bsz:X.base.objs.size≤X.s₀.heap.objs.size
 noex:∀b o,X.base.get? b=some o→b∉X.ex
 exfs:∀b∈X.ex,b∉X.fs
 funs:X.s₀.heap.FunFrames X.base X.outer
 frf:∀b∈X.fs,X.H₀ b=none
structure Inv (X:Cx) (pins:List (Addr×Obj)) (σ:List (Option V)) (H:Hp) (s:Shared):Prop where
 ok:X.Ok
 os:s.os=X.s₀.os
 bare:AllBare s.gens
 base:Un X.fs X.ex X.H₀ H X.s₀.heap s.heap
 loc:∃m,s.heap.Ns X.env.locals m∧∀(i:Nat) (x:Str) (v:V),X.N[i]?=some x→σ[i]?=some (some v)→Vis X.env.scope x→∃u,a1R v u∧c8w X.env s.heap m x u
 cell:∀x c,X.env.cells.lookup x=some c→∃v,s.heap.IsCell c v
 free:H X.env.locals=none
 freeC:∀x c,X.env.cells.lookup x=some c→H c=none
 pin:∀p∈X.pn++pins,s.heap.get? p.1=some p.2∧H p.1=none∧p.1≠X.env.locals∧p.1∉X.fs∧∀v,p.2.data≠.cell v
 hok:HOk X.prog X.w H s.heap
 len:σ.length=X.N.length
section
variable {X:Cx} {pins:List (Addr×Obj)} {σ:List (Option V)} {H H':Hp} {s:Shared} {h':Heap}
theorem Cx.Ok.nofr (ok:X.Ok) {b:Addr} {o:Obj} (e:X.base.get? b=some o):b∉X.fs:=fun hb=>by
 have:=(ok.funs.mem hb).1
 rw [e] at this;cases this
theorem Inv.bs (I:Inv X pins σ H s):∀b o,X.base.get? b=some o→s.heap.get? b=some o∧H b=none:=fun b o e=>
 ⟨I.base.keep b o (I.ok.bs b o e).1 (I.ok.bs b o e).2 (I.ok.nofr e) (I.ok.noex b o e),I.base.free b o (I.ok.bs b o e).1 (I.ok.bs b o e).2 (I.ok.noex b o e)⟩
theorem Inv.bk (I:Inv X pins σ H s):∀b o,X.base.get? b=some o→s.heap.get? b=some o:=fun b o e=>(I.bs b o e).1
theorem Inv.mod (I:Inv X pins σ H s):Mod X.K X.mg X.base:=I.ok.mod
theorem Inv.kIn (I:Inv X pins σ H s):X.K.In s.heap:=I.ok.mod.kin.keeps I.bk
theorem Inv.nolimit (I:Inv X pins σ H s):s.heap.NoLimit:=I.ok.mod.nolimit.keeps I.bk
theorem Inv.lt (I:Inv X pins σ H s):X.env.locals < s.heap.objs.size:=let ⟨_,hn,_⟩:=I.loc;hn.lt
theorem Inv.sz (I:Inv X pins σ H s):X.s₀.heap.objs.size≤s.heap.objs.size:=Nat.le_trans I.ok.above (Nat.le_of_lt I.lt)
theorem Inv.nofs (I:Inv X pins σ H s) {a:Addr} (h:s.heap.objs.size≤a):a∉X.fs:=fun hb=>by
 obtain ⟨_,o,ho,_⟩:=I.ok.funs.mem hb
 exact absurd (Nat.lt_of_lt_of_le (Heap.lt_size ho) (Nat.le_trans I.sz h)) (Nat.lt_irrefl _)
theorem Inv.cne (I:Inv X pins σ H s):∀x c,X.env.cells.lookup x=some c→c≠X.env.locals:=fun x c e z=>by
 obtain ⟨v,o,ho,hd⟩:=I.cell x c e
 obtain ⟨m,⟨o',es,ep,ho',hd',_⟩,_⟩:=I.loc
 rw [z,ho'] at ho;cases ho;rw [hd'] at hd;cases hd
theorem Inv.funs (I:Inv X pins σ H s):s.heap.FunFrames X.base X.outer:=by
 have all:∀(l:List Env),(∀b∈frs l,b∈X.fs)→X.s₀.heap.FunFrames X.base l→s.heap.FunFrames X.base l:=by
  intro l
  induction l with
  | nil=>intro _ _;trivial
  | cons env r ih=>
   intro hs hl
   obtain ⟨hk,⟨L,o,hf,hn,ho,hd⟩,hr⟩:=hl
   have hL:L∈X.fs:=hs L (by unfold frs;rw [List.filterMap_cons,hf];exact List.mem_cons_self)
   obtain ⟨sl,e⟩:=I.base.slot L o ho (I.ok.frf L hL) hL fun z=>I.ok.exfs L z hL
   exact ⟨hk,⟨L,_,hf,hn,e,hd⟩,ih (fun b hb=>hs b (by unfold frs;rw [List.filterMap_cons,hf];exact List.mem_cons_of_mem _ hb)) hr⟩
 exact all X.outer (fun _ hb=>hb) I.ok.funs
theorem Inv.stack (I:Inv X pins σ H s):s.heap.FunFrames X.base X.stack:=by
 rcases I.ok.stk with e | ⟨e,hf⟩
 ·rw [e];exact I.funs
 ·rw [e]
  obtain ⟨m,hn,_⟩:=I.loc
  refine .cons (by rw [I.ok.kind];decide) hf hn ?_ I.funs
  exact Heap.get?_none_of_le (Nat.le_trans I.ok.bsz I.ok.above)
theorem Inv.stkSub (I:Inv X pins σ H s):∀b∈frs X.stack,b∈X.env.locals::X.fs:=fun b hb=>by
 rcases I.ok.stk with e | ⟨e,hf⟩
 ·rw [e] at hb;exact List.mem_cons_of_mem _ hb
 ·rw [e] at hb
  unfold frs at hb
  rw [List.filterMap_cons,hf] at hb
  exact hb
theorem Inv.stkFree (I:Inv X pins σ H s):∀b∈frs X.stack,H b=none:=fun b hb=>by
 rcases List.mem_cons.mp (I.stkSub b hb) with e | hb
 ·rw [e];exact I.free
 ·obtain ⟨_,o,ho,_⟩:=I.ok.funs.mem hb
  exact I.base.free b o ho (I.ok.frf b hb) fun z=>I.ok.exfs b z hb
theorem Inv.step {g':Array GenState} {t':Nat} {d':Drawn} {ch:List Addr} (I:Inv X pins σ H s)
  (hch:∀b∈ch,(b∈X.ex∨X.s₀.heap.objs.size≤b)∧b≠X.env.locals∧(∀x c,X.env.cells.lookup x=some c→c≠b)∧∀p∈X.pn++pins,p.1≠b)
  (keep:∀b o,b≠X.env.locals→b∉X.fs→b∉ch→s.heap.get? b=some o→H b=none→h'.get? b=some o)
  (slot:∀b o,b≠X.env.locals→b∈X.fs→b∉ch→s.heap.get? b=some o→H b=none→∃sl,h'.get? b=some {o with slots:=sl}) (free:∀b o,b∉ch→s.heap.get? b=some o→H b=none→H' b=none)
  (there:∀b o,b∉ch→s.heap.get? b=some o→∃o',h'.get? b=some o')
  (tups:∀b xs,H b=some (.tup xs)→H' b=some (.tup xs)) (frzs:∀b o u,H b=some (.frz o u)→H' b=some (.frz o u)) (tbls:∀b ps,H b=some (.tbl ps)→∃more,H' b=some (.tbl (ps++more)))
  (ns:∀m,s.heap.Ns X.env.locals m→h'.Ns X.env.locals m) (hok:HOk X.prog X.w H' h') (hg:AllBare g'):
  Inv X pins σ H' {s with heap:=h',gens:=g',drawn:=d',toks:=t'}:=by
 have neL:∀b o,X.s₀.heap.get? b=some o→b≠X.env.locals:=fun b o e=>Nat.ne_of_lt (Nat.lt_of_lt_of_le (Heap.lt_size e) I.ok.above)
 have neC:∀b o,X.s₀.heap.get? b=some o→b∉X.ex→b∉ch:=fun b o e hx hb=>by
  rcases (hch b hb).1 with z | z
  ·exact hx z
  ·exact absurd (Nat.lt_of_lt_of_le (Heap.lt_size e) z) (Nat.lt_irrefl _)
 have cellK:∀x c,X.env.cells.lookup x=some c→∀v,s.heap.IsCell c v→h'.IsCell c v:=fun x c e v ⟨o,ho,hd⟩=>by
  have nch:c∉ch:=fun z=>(hch c z).2.2.1 x c e rfl
  by_cases hc:c∈X.fs
  ·obtain ⟨sl,q⟩:=slot c o (I.cne x c e) hc nch ho (I.freeC x c e)
   exact ⟨_,q,hd⟩
  ·exact ⟨o,keep c o (I.cne x c e) hc nch ho (I.freeC x c e),hd⟩
 refine ⟨I.ok,I.os,hg,⟨fun b o e n hb hx=>?_,fun b o e n hb hx=>?_,fun b o e n hx=>?_,fun b o e hx=>?_,fun b xs e=>tups b xs (I.base.tups b xs e),fun b o xs e=>frzs b o xs (I.base.frzs b o xs e),fun b ps e=>?_⟩,?_,fun x c e=>?_,?_,fun x c e=>?_,fun p hp=>?_,hok,I.len⟩
 ·exact keep b o (neL b o e) hb (neC b o e hx) (I.base.keep b o e n hb hx) (I.base.free b o e n hx)
 ·obtain ⟨sl,e1⟩:=I.base.slot b o e n hb hx
  obtain ⟨sl',e2⟩:=slot b _ (neL b o e) hb (neC b o e hx) e1 (I.base.free b o e n hx)
  exact ⟨sl',e2⟩
 ·obtain ⟨o',e1⟩:=I.base.there b o e hx
  exact free b o' (neC b o e hx) e1 (I.base.free b o e n hx)
 ·obtain ⟨o',e1⟩:=I.base.there b o e hx
  exact there b o' (neC b o e hx) e1
 ·obtain ⟨m1,e1⟩:=I.base.tbls b ps e
  obtain ⟨m2,e2⟩:=tbls b _ e1
  exact ⟨m1++m2,by rw [e2,Array.append_assoc]⟩
 ·obtain ⟨m,hn,hl⟩:=I.loc
  refine ⟨m,ns m hn,fun i x v e1 e2 e3=>?_⟩
  obtain ⟨u,r,l⟩:=hl i x v e1 e2 e3
  refine ⟨u,r,?_⟩
  rcases l with l | ⟨k,c,e,z⟩
  ·exact .inl l
  ·exact .inr ⟨k,c,e,cellK x c e _ z⟩
 ·obtain ⟨v,z⟩:=I.cell x c e
  exact ⟨v,cellK x c e v z⟩
 ·obtain ⟨m,⟨o,_,_,ho,_⟩,_⟩:=I.loc
  exact free _ o (fun z=>(hch _ z).2.1 rfl) ho I.free
 ·obtain ⟨v,o,ho,hd⟩:=I.cell x c e
  exact free c o (fun z=>(hch c z).2.2.1 x c e rfl) ho (I.freeC x c e)
 ·obtain ⟨e,n,ne,nf,d⟩:=I.pin p hp
  have nch:p.1∉ch:=fun z=>(hch p.1 z).2.2.2 p hp rfl
  exact ⟨keep p.1 p.2 ne nf nch e n,free p.1 p.2 nch e n,ne,nf,d⟩
theorem Inv.un {t':Nat} (I:Inv X pins σ H s) (u:Un X.fs [] H H' s.heap h') (hok:HOk X.prog X.w H' h'):Inv X pins σ H' {s with heap:=h',toks:=t'}:=by
 obtain ⟨m,⟨o,es,ep,ho,r⟩,_⟩:=id I.loc
 obtain ⟨sl,hL⟩:=u.any ho I.free (by simp)
 exact I.step (g':=s.gens) (d':=s.drawn) (ch:=[]) (fun _ z=>nomatch z) (fun b o _ hb _ e n=>u.keep b o e n hb (by simp)) (fun b o _ hb _ e n=>u.slot b o e n hb (by simp)) (fun b o _ e n=>u.free b o e n (by simp)) (fun b o _ e=>u.there b o e (by simp)) u.tups u.frzs u.tbls (fun m' hm=>by
  obtain ⟨o',es',ep',ho',r'⟩:=hm
  rw [ho] at ho';cases ho'
  exact ⟨_,es',ep',hL,r'⟩) hok I.bare
theorem Inv.call {g':Array GenState} {t':Nat} {d':Drawn} {ch:List Addr} (I:Inv X pins σ H s) (u:Un (frs X.stack) ch H H' s.heap h') (hok:HOk X.prog X.w H' h') (hg:AllBare g')
  (hch:∀b∈ch,(b∈X.ex∨X.s₀.heap.objs.size≤b)∧b≠X.env.locals∧(∀x c,X.env.cells.lookup x=some c→c≠b)∧∀p∈X.pn++pins,p.1≠b):
  Inv X pins σ H' {s with heap:=h',gens:=g',drawn:=d',toks:=t'}:=by
 obtain ⟨m,⟨o,es,ep,ho,r⟩,_⟩:=id I.loc
 obtain ⟨sl,hL⟩:=u.any ho I.free fun z=>(hch _ z).2.1 rfl
 exact I.step (ch:=ch) hch (fun b o hL hb hc e n=>u.keep b o e n (fun z=>(List.mem_cons.mp (I.stkSub b z)).elim hL hb) hc) (fun b o _ _ hc e n=>u.any e n hc) (fun b o hc e n=>u.free b o e n hc) (fun b o hc e=>u.there b o e hc) u.tups u.frzs u.tbls (fun m' hm=>by
  obtain ⟨o',es',ep',ho',r'⟩:=hm
  rw [ho] at ho';cases ho'
  exact ⟨_,es',ep',hL,r'⟩) hok hg
theorem Inv.turned {t':Nat} {it:Addr} (I:Inv X pins σ H s) (k:∀b o,b≠it→s.heap.get? b=some o→h'.get? b=some o) (hn:H it=none) (hL:it≠X.env.locals)
  (h1:it∈X.ex∨X.s₀.heap.objs.size≤it) (h2:∀x c,X.env.cells.lookup x=some c→c≠it) (h3:∀p∈X.pn++pins,p.1≠it):Inv X pins σ H {s with heap:=h',toks:=t'}:=by
 have nit:∀b u,H b=some u→b≠it:=fun b u e z=>by rw [z,hn] at e;cases e
 refine I.step (g':=s.gens) (d':=s.drawn) (ch:=[it]) (fun b hb=>?_) (fun b o _ _ hc e _=>k b o (fun z=>hc (by simp [z])) e) (fun b o _ _ hc e _=>⟨o.slots,k b o (fun z=>hc (by simp [z])) e⟩) (fun _ _ _ _ n=>n)
  (fun b o hc e=>⟨o,k b o (fun z=>hc (by simp [z])) e⟩) (fun _ _ e=>e) (fun _ _ _ e=>e) (fun b ps e=>⟨#[],by rw [e];simp⟩) (fun m hm=>?_) (fun b u e=>?_) I.bare
 ·have e:b=it:=by simpa using hb
  subst e
  exact ⟨h1,hL,h2,h3⟩
 ·obtain ⟨o,es,ep,ho,r⟩:=hm
  exact ⟨o,es,ep,k _ o (Ne.symm hL) ho,r⟩
 ·refine (I.hok b u e).stay (fun c v hc q=>k c v ?_ q) (fun _ q=>q) fun _ _ q=>q
  rcases hc with z | z
  ·rw [z];exact nit b u e
  ·exact nit c _ z
theorem Inv.tok (I:Inv X pins σ H s) (t:Nat):Inv X pins σ H {s with toks:=t}:=I.un (h':=s.heap) (t':=t) Un.refl I.hok
theorem Inv.kept {t':Nat} (I:Inv X pins σ H s) (k:∀b u,s.heap.get? b=some u→h'.get? b=some u):Inv X pins σ H {s with heap:=h',toks:=t'}:=I.un (Un.kept k) (I.hok.kept k)
theorem Inv.laid {a:Addr} {o:HO} {t':Nat} (I:Inv X pins σ H s) (k:∀b u,s.heap.get? b=some u→h'.get? b=some u) (hp:s.heap.objs.size≤a) (new:a1O X.prog X.w (upd H a o) h' a o):
  Inv X pins σ (upd H a o) {s with heap:=h',toks:=t'}:=I.un (Un.laid k hp (I.hok.fresh hp)) (I.hok.laid k hp new)
theorem Inv.write {x e:Addr} {o:HO} {t':Nat} (I:Inv X pins σ H s) (mu:Mut (H x)) (he:e=x∨H e=some (.own x)) (k:∀b u,b≠e→s.heap.get? b=some u→h'.get? b=some u) (heo:∃u,h'.get? e=some u)
  (new:a1O X.prog X.w (upd H x o) h' x o):Inv X pins σ (upd H x o) {s with heap:=h',toks:=t'}:=I.un (Un.write mu he k heo) (I.hok.write mu he k heo new)
theorem Inv.pins_of {pins':List (Addr×Obj)} (I:Inv X pins σ H s) (h:∀p∈pins',s.heap.get? p.1=some p.2∧H p.1=none∧p.1≠X.env.locals∧p.1∉X.fs∧∀v,p.2.data≠.cell v):Inv X pins' σ H s:=
 ⟨I.ok,I.os,I.bare,I.base,I.loc,I.cell,I.free,I.freeC,fun p hp=>(List.mem_append.mp hp).elim (fun z=>I.pin p (List.mem_append_left _ z)) (h p),I.hok,I.len⟩
theorem a6j {N:List Str} (hN:N.Nodup) {i j:Nat} {x:Str} (a:N[i]?=some x) (b:N[j]?=some x):i=j:=by
 obtain ⟨h1,e1⟩:=List.getElem?_eq_some_iff.mp a
 obtain ⟨h2,e2⟩:=List.getElem?_eq_some_iff.mp b
 exact (List.getElem_inj hN).mp (e1.trans e2.symm)
theorem a7C {M:Model} {A:Around} {E:Value→Shared→Prop} {i:Nat} {x:Str} {v:V} {u:Value} {Q:Unit→Shared→Prop} (I:Inv X pins σ H s) (hN:X.N.Nodup) (hi:X.N[i]?=some x) (hx:Loc X.env.scope x) (r:a1R v u)
  (h:∀s',Inv X pins (σ.set i (some v)) H s'→(∃a,Heap.SameBut a s.heap s'.heap∧(a=X.env.locals∨X.env.cells.lookup x=some a))→Q () s') (hf:X.fn x=true∨X.env.scope.names.lookup x=some .local:=by first | exact .inl rfl | exact .inr rfl | assumption):wpAny M A (storeName X.env x u) Q E s:=by
 obtain ⟨m,hn,hl⟩:=id I.loc
 have hcls:(X.env.scope.kind == .class || (X.env.scope.kind == .module && X.env.locals != X.env.globals))=false:=by rw [I.ok.kind];rfl
 have hiσ:i < σ.length:=by rw [I.len];exact (List.getElem?_eq_some_iff.mp hi).1
 have cne:=I.cne
 have tracked:∀{a:Addr} {h':Heap},(∃o,s.heap.get? a=some o∧H a=none)→Heap.SameBut a s.heap h'→HOk X.prog X.w H h':=fun {a h'} ha hs b ob e=>by
  obtain ⟨_,_,hfree⟩:=ha
  refine (I.hok b ob e).stay (fun c w' hc q=>(hs.2 c ?_).trans q) (fun _ q=>q) fun _ _ q=>q
  rintro rfl
  rcases hc with rfl | hc
  ·rw [hfree] at e;cases e
  ·rw [hfree] at hc;cases hc
 rcases hx with hk | hk
 ·refine wpAny_storeName_local hk hn (fun h' hn' hs=>?_) hcls
  obtain ⟨oL,_,_,hoL,_⟩:=id hn
  refine h _ ⟨I.ok,I.os,I.bare,⟨fun b o e n hb hx=>?_,fun b o e n hb hx=>?_,I.base.free,fun b o e hx=>?_,I.base.tups,I.base.frzs,I.base.tbls⟩,⟨_,hn',fun j y v' e1 e2 e3=>?_⟩,fun y c e=>?_,I.free,I.freeC,fun p hp=>?_,tracked ⟨oL,hoL,I.free⟩ hs,by simpa using I.len⟩ ⟨_,hs,.inl rfl⟩
  ·exact (hs.2 b (Nat.ne_of_lt (Nat.lt_of_lt_of_le (Heap.lt_size e) I.ok.above))).trans (I.base.keep b o e n hb hx)
  ·obtain ⟨sl,e1⟩:=I.base.slot b o e n hb hx
   exact ⟨sl,(hs.2 b (Nat.ne_of_lt (Nat.lt_of_lt_of_le (Heap.lt_size e) I.ok.above))).trans e1⟩
  ·obtain ⟨o',e1⟩:=I.base.there b o e hx
   exact ⟨o',(hs.2 b (Nat.ne_of_lt (Nat.lt_of_lt_of_le (Heap.lt_size e) I.ok.above))).trans e1⟩
  ·by_cases hj:j=i
   ·subst hj
    rw [hi] at e1;cases e1
    rw [List.getElem?_set_self hiσ] at e2
    cases e2
    exact ⟨u,r,.inl ⟨hk,by simp⟩⟩
   ·rw [List.getElem?_set_ne (Ne.symm hj)] at e2
    obtain ⟨u',r',q⟩:=hl j y v' e1 e2 e3
    refine ⟨u',r',?_⟩
    rcases q with ⟨k,e⟩ | ⟨k,c,e,z⟩
    ·refine .inl ⟨k,?_⟩
     have:y≠x:=fun e=>hj (a6j hN e1 (e ▸ hi))
     simp [this,e]
    ·exact .inr ⟨k,c,e,z.sameBut hs (cne y c e)⟩
  ·obtain ⟨w',z⟩:=I.cell y c e
   exact ⟨w',z.sameBut hs (cne y c e)⟩
  ·obtain ⟨e,n,ne,nf,d⟩:=I.pin p hp
   exact ⟨(hs.2 p.1 ne).trans e,n,ne,nf,d⟩
 ·have hfn:X.fn x=true:=by
   rcases hf with z | z
   ·exact z
   ·rw [z] at hk;cases hk
  obtain ⟨c,hc⟩:=I.ok.has x (.inl hk)
  obtain ⟨w',z⟩:=I.cell x c hc
  refine wpAny_storeName_cell I.ok.kind hk hc z (fun h' hc' hs=>?_)
  obtain ⟨oc,hoc,hocd⟩:=id z
  refine h {s with heap:=h'} ⟨I.ok,I.os,I.bare,⟨fun b o e n hb hx=>?_,fun b o e n hb hx=>?_,I.base.free,fun b o e hx=>?_,I.base.tups,I.base.frzs,I.base.tbls⟩,⟨m,hn.sameBut hs (Ne.symm (cne x c hc)),fun j y v' e1 e2 e3=>?_⟩,fun y c' e=>?_,I.free,I.freeC,fun p hp=>?_,tracked ⟨oc,hoc,I.freeC x c hc⟩ hs,by simpa using I.len⟩ ⟨c,hs,.inr hc⟩
  ·exact (hs.2 b (Nat.ne_of_lt (Nat.lt_of_lt_of_le (Heap.lt_size e) (I.ok.cab x c hfn hc)))).trans (I.base.keep b o e n hb hx)
  ·obtain ⟨sl,e1⟩:=I.base.slot b o e n hb hx
   exact ⟨sl,(hs.2 b (Nat.ne_of_lt (Nat.lt_of_lt_of_le (Heap.lt_size e) (I.ok.cab x c hfn hc)))).trans e1⟩
  ·obtain ⟨o',e1⟩:=I.base.there b o e hx
   exact ⟨o',(hs.2 b (Nat.ne_of_lt (Nat.lt_of_lt_of_le (Heap.lt_size e) (I.ok.cab x c hfn hc)))).trans e1⟩
  ·by_cases hj:j=i
   ·subst hj
    rw [hi] at e1;cases e1
    rw [List.getElem?_set_self hiσ] at e2
    cases e2
    exact ⟨u,r,.inr ⟨.inl hk,c,hc,hc'⟩⟩
   ·rw [List.getElem?_set_ne (Ne.symm hj)] at e2
    obtain ⟨u',r',q⟩:=hl j y v' e1 e2 e3
    refine ⟨u',r',?_⟩
    rcases q with q | ⟨k,c',e,z'⟩
    ·exact .inl q
    ·refine .inr ⟨k,c',e,z'.sameBut hs ?_⟩
     rintro rfl
     exact hj (a6j hN e1 (I.ok.inj _ _ _ e hc ▸ hi))
  ·by_cases hcc:c'=c
   ·subst hcc;exact ⟨_,hc'⟩
   ·obtain ⟨w2,z2⟩:=I.cell y c' e
    exact ⟨w2,z2.sameBut hs hcc⟩
  ·obtain ⟨e,n,ne,nf,d⟩:=I.pin p hp
   refine ⟨(hs.2 p.1 ?_).trans e,n,ne,nf,d⟩
   intro q
   rw [q,hoc] at e
   have q':oc=p.2:=Option.some.inj e
   exact d w' (by rw [←q'];exact hocd)
theorem a6f {M:Model} {A:Around} {E:Value→Shared→Prop} {i:Nat} {x:Str} {v:V} {u:Value} {Q:Unit→Shared→Prop} (I:Inv X pins σ H s) (hN:X.N.Nodup) (hi:X.N[i]?=some x) (hx:Loc X.env.scope x) (r:a1R v u)
  (h:∀s',Inv X pins (σ.set i (some v)) H s'→Q () s') (hf:X.fn x=true∨X.env.scope.names.lookup x=some .local:=by first | exact .inl rfl | exact .inr rfl | assumption):wpAny M A (storeName X.env x u) Q E s:=
 a7C I hN hi hx r (fun s' I' _=>h s' I') hf
theorem Inv.call' {s':Shared} {ch:List Addr} (I:Inv X pins σ H s) (ho:s'.os=s.os) (u:Un (frs X.stack) ch H H' s.heap s'.heap) (hok:HOk X.prog X.w H' s'.heap) (hg:AllBare s'.gens)
  (hch:∀b∈ch,(b∈X.ex∨X.s₀.heap.objs.size≤b)∧b≠X.env.locals∧(∀x c,X.env.cells.lookup x=some c→c≠b)∧∀p∈X.pn++pins,p.1≠b):Inv X pins σ H' s':=by
 obtain ⟨h',g',d',t',o'⟩:=s'
 have e:o'=s.os:=ho
 subst e
 exact I.call (g':=g') (t':=t') (d':=d') u hok hg hch
end
abbrev XK:=Value→Option Addr→Hp→Prop
abbrev St:=List (Option V)
abbrev VK:=V→Hp→Prop
abbrev TE:=St→Hp→VK→Prop
abbrev TT:=St→Hp→(Bool→Hp→Prop)→Prop
abbrev TA:=St→Hp→(List V→Hp→Prop)→Prop
structure a8I where
 nx:St→Hp→Prop
 rt:VK
 bk:St→Hp→Prop:=fun _ _=>False
 ct:St→Hp→Prop:=fun _ _=>False
abbrev TS:=a8I→St→Hp→Prop
def EP (X:Cx) (pins:List (Addr×Obj)) (σ:St) (Q:VK) (u:Value) (s':Shared):Prop:=∃v H',Inv X pins σ H' s'∧a1R v u∧Q v H'
def TP (X:Cx) (pins:List (Addr×Obj)) (σ:St) (Q:Bool→Hp→Prop) (b:Bool) (s':Shared):Prop:=∃H',Inv X pins σ H' s'∧Q b H'
def AP (X:Cx) (pins:List (Addr×Obj)) (σ:St) (Q:List V→Hp→Prop) (us:List Value) (s':Shared):Prop:=∃vs H',Inv X pins σ H' s'∧a1f vs us∧Q vs H'
def SP (X:Cx) (pins:List (Addr×Obj)) (D:a8I) (f:Flow) (s':Shared):Prop:=
 match f with
 | .next=>∃σ' H',Inv X pins σ' H' s'∧D.nx σ' H'
 | .brk=>∃σ' H',Inv X pins σ' H' s'∧D.bk σ' H'
 | .cont=>∃σ' H',Inv X pins σ' H' s'∧D.ct σ' H'
 | .ret u=>∃v σ' H',Inv X pins σ' H' s'∧a1R v u∧D.rt v H'
def PE (X:Cx) (e:Expr) (t:TE):Prop:=
 ∀(pins:List (Addr×Obj)) (s:Shared) (σ:St) (H:Hp) (Q:VK),Inv X pins σ H s→t σ H Q→wpAny (model X.prog X.w) X.A (eval e X.env) (EP X pins σ Q) X.xe s
def PT (X:Cx) (e:Expr) (t:TT):Prop:=
 ∀(pins:List (Addr×Obj)) (s:Shared) (σ:St) (H:Hp) (Q:Bool→Hp→Prop),Inv X pins σ H s→t σ H Q→wpAny (model X.prog X.w) X.A (isTrue e X.env (eval e X.env)) (TP X pins σ Q) X.xe s
def PW (X:Cx) (e:Expr) (t:TT):Prop:=
 ∀(whole:Sem Value) (pins:List (Addr×Obj)) (s:Shared) (σ:St) (H:Hp) (Q:Bool→Hp→Prop),Inv X pins σ H s→t σ H Q→wpAny (model X.prog X.w) X.A (isTrue e X.env whole) (TP X pins σ Q) X.xe s
theorem PW.pt {X:Cx} {e:Expr} {t:TT} (h:PW X e t):PT X e t:=h _
def PA (X:Cx) (es:List Expr) (t:TA):Prop:=
 ∀(pos:Pos) (pins:List (Addr×Obj)) (s:Shared) (σ:St) (H:Hp) (Q:List V→Hp→Prop),Inv X pins σ H s→t σ H Q→wpAny (model X.prog X.w) X.A (spliced (backTo pos (starEach es X.env))) (AP X pins σ Q) X.xe s
def PS (X:Cx) (st:Stmt) (t:TS):Prop:=
 ∀(pins:List (Addr×Obj)) (s:Shared) (σ:St) (H:Hp) (D:a8I),Inv X pins σ H s→t D σ H→wpAny (model X.prog X.w) X.A (exec st X.env) (SP X pins D) X.xe s
def PSs (X:Cx) (st:List Stmt) (t:TS):Prop:=
 ∀(pins:List (Addr×Obj)) (s:Shared) (σ:St) (H:Hp) (D:a8I),Inv X pins σ H s→t D σ H→wpAny (model X.prog X.w) X.A (execs st X.env) (SP X pins D) X.xe s
theorem thn {α:Type} {t:Sem α} {Q Q':α→Shared→Prop} {M:Model} {A:Around} {E:Value→Shared→Prop} {s:Shared} (h:wpAny M A t Q E s) (hQ:∀a s,Q a s→Q' a s):wpAny M A t Q' E s:=wpAny_mono h hQ fun _ _ x=>x
end L2
namespace L2
open PySem PySem.Spec PyProof.Rows
section
variable {X:Cx}
theorem bin {a b:Expr} {ta tb:TE} (ha:PE X a ta) (hb:PE X b tb) {pins:List (Addr×Obj)} {s:Shared} {σ:St} {H:Hp} {R:V→V→Hp→Prop} (I:Inv X pins σ H s) (h:ta σ H fun x H1=>tb σ H1 fun y H2=>R x y H2)
  {α:Type} {Q:α→Shared→Prop} {f:Value→Value→Sem α}
  (hf:∀v u s2 x y H2,Inv X pins σ H2 s2→a1R x v→a1R y u→R x y H2→wpAny (model X.prog X.w) X.A (f v u) Q X.xe s2):
  wpAny (model X.prog X.w) X.A (eval a X.env) (fun v s₁=>wpAny (model X.prog X.w) X.A (eval b X.env) (fun u s₂=>wpAny (model X.prog X.w) X.A (f v u) Q X.xe s₂) X.xe s₁) X.xe s:=by
 refine thn (ha pins s σ H _ I h) fun v s1 ⟨x,H1,I1,r1,q1⟩=>?_
 refine thn (hb pins s1 σ H1 _ I1 q1) fun u s2 ⟨y,H2,I2,r2,q2⟩=>?_
 exact hf v u s2 x y H2 I2 r1 r2 q2
def a0L (i:Nat):TE:=fun σ H Q=>∃v,σ[i]?=some (some v)∧Q v H
def tC (v:V):TE:=fun _ H Q=>Q v H
theorem b8t {i:Nat} {x:Str} {pos:Pos} (hN:X.N[i]?=some x) (hv:Vis X.env.scope x) (hd:(x == ("__debug__":Str))=false:=by decide) (hcd:(x == ("__classdict__":Str))=false:=by decide):PE X (.Name x pos) (a0L i):=by
 intro pins s σ H Q I h
 obtain ⟨v,e,h⟩:=h
 obtain ⟨m,hn,hl⟩:=I.loc
 obtain ⟨u,r,l⟩:=hl i x v hN e hv
 have fin:EP X pins σ Q u s:=⟨v,H,I,r,h⟩
 rcases l with ⟨hk,hm⟩ | ⟨hk,c,hc,hcell⟩
 ·exact wpAny_Name (wpAny_loadName_local I.ok.kind hk hn hm fin) hd
 ·rcases hk with hk | hk
  ·exact wpAny_Name (wpAny_loadName_cell I.ok.kind hk hc hcell fin) hd
  ·exact wpAny_Name (wpAny_loadName_free I.ok.kind hk hc hcell fin hcd) hd
theorem a0g {i j pos}:PE X (.Constant (.int i) j pos) (tC (.int i)):=fun _ _ _ H _ I h=>wpAny_Constant_int ⟨.int i,H,I.tok _,⟨_,rfl⟩,h⟩
theorem a5f {b j pos}:PE X (.Constant (.bool b) j pos) (tC (.bl b)):=fun _ _ _ H _ I h=>Constant_bool ⟨.bl b,H,I,rfl,h⟩
theorem a1p {j pos}:PE X (.Constant .none j pos) (tC .non):=fun _ _ _ H _ I h=>Constant_none ⟨.non,H,I,rfl,h⟩
theorem a0n {x j pos}:PE X (.Constant (.str x) j pos) (tC (.str x)):=fun _ _ _ H _ I h=>Calls.Constant_str ⟨.str x,H,I.tok _,⟨_,rfl⟩,h⟩
def Gl (X:Cx) (x:Str):Prop:=X.env.kindOf x=some .globalImplicit
theorem a3m {E:Value→Shared→Prop} {pins:List (Addr×Obj)} {s:Shared} {σ:St} {H:Hp} {x:Str} {u:Value} {pos:Pos} {Q:Value→Shared→Prop} (I:Inv X pins σ H s) (hg:Gl X x) (hm:X.mg x=some u) (h:Q u s)
  (hd:(x == ("__debug__":Str))=false:=by decide):wpAny (model X.prog X.w) X.A (eval (.Name x pos) X.env) Q E s:=
 Calls.Name_function_global I.ok.kind hg (Calls.loadGlobal_global (by rw [I.ok.glob];exact I.mod.glob.keeps I.bk) hm h) hd
theorem a7Z {E:Value→Shared→Prop} {pins:List (Addr×Obj)} {s:Shared} {σ:St} {H:Hp} {x:Str} {u:Value} {pos:Pos} {Q:Value→Shared→Prop} (I:Inv X pins σ H s) (hg:Gl X x) (hm:X.mg x=none) (hv:bootBuiltins x=some u) (h:Q u s)
  (hn:x≠"__name__":=by decide) (hd:(x == ("__debug__":Str))=false:=by decide):wpAny (model X.prog X.w) X.A (eval (.Name x pos) X.env) Q E s:=by
 obtain ⟨mb,h1,h2⟩:=I.mod.blt
 exact Calls.Name_function_global I.ok.kind hg (Calls.loadGlobal_builtin (by rw [I.ok.glob];exact I.mod.glob.keeps I.bk) hm (by rw [I.ok.blt];exact h1.keeps I.bk) ((h2 x hn).trans hv) h) hd
theorem a1x {x:Str} {v:V} {u:Value} {pos:Pos} (hg:Gl X x) (hm:X.mg x=some u) (r:a1R v u) (hd:(x == ("__debug__":Str))=false:=by decide):PE X (.Name x pos) (tC v):=
 fun _ _ _ H _ I h=>a3m I hg hm ⟨v,H,I,r,h⟩ hd
theorem a2f {x:Str} {v:V} {u:Value} {pos:Pos} (hg:Gl X x) (hm:X.mg x=none) (hv:bootBuiltins x=some u) (r:a1R v u) (hn:x≠"__name__":=by decide) (hd:(x == ("__debug__":Str))=false:=by decide):PE X (.Name x pos) (tC v):=
 fun _ _ _ H _ I h=>a7Z I hg hm hv ⟨v,H,I,r,h⟩ hn hd
variable {a b:Expr} {ta tb:TE} {pos:Pos}
def tB (t:TE):TT:=fun σ H Q=>t σ H fun x H1=>∃c,x=.bl c∧Q c H1
theorem a1j {e:Expr} {t:TE} (h:PE X e t) (he:∀whole,isTrue e X.env whole=(do let v ←whole;standAt e.pos;holding [v] (truthy v)):=by intro _;rfl):PT X e (tB t):=by
 intro pins s σ H Q I hw
 refine isTrue_plain (thn (h pins s σ H _ I hw) fun v s1 ⟨x,H1,I1,r1,q1⟩=>?_) (he _)
 obtain ⟨d,rfl,q⟩:=q1
 cases r1
 exact wpAny_truthy_bool ⟨H1,I1,q⟩
variable {tA tB':TT} {rest:List Expr}
def b4s (t u:TT):TT:=fun σ H Q=>t σ H fun c H1=>if c=true then u σ H1 Q else Q false H1
def tOr (t u:TT):TT:=fun σ H Q=>t σ H fun c H1=>if c=true then Q true H1 else u σ H1 Q
def a6l (t:TT):TT:=fun σ H Q=>t σ H fun c H1=>Q (!c) H1
theorem a4T (ha:PT X a tA):PW X (.BoolOp .And [a] pos) tA:=by
 intro wh pins s σ H Q I h
 refine isTrue_and (thn (ha pins s σ H Q I h) fun c s1 e=>?_)
 cases c with
 | true=>exact isTrue_and_nil e
 | false=>exact e
theorem a2G (ha:PT X a tA):PW X (.BoolOp .Or [a] pos) tA:=by
 intro wh pins s σ H Q I h
 refine isTrue_or (thn (ha pins s σ H Q I h) fun c s1 e=>?_)
 cases c with
 | false=>exact isTrue_or_nil e
 | true=>exact e
theorem a5O (ha:PT X a tA) (hb:PW X (.BoolOp .And (b::rest) pos) tB'):PW X (.BoolOp .And (a::b::rest) pos) (b4s tA tB'):=by
 intro wh pins s σ H Q I h
 refine isTrue_and (thn (ha pins s σ H _ I h) fun c s1 ⟨H1,I1,q1⟩=>?_)
 cases c with
 | true=>exact hb wh pins s1 σ H1 Q I1 q1
 | false=>exact ⟨H1,I1,q1⟩
theorem a2I (ha:PT X a tA) (hb:PW X (.BoolOp .Or (b::rest) pos) tB'):PW X (.BoolOp .Or (a::b::rest) pos) (tOr tA tB'):=by
 intro wh pins s σ H Q I h
 refine isTrue_or (thn (ha pins s σ H _ I h) fun c s1 ⟨H1,I1,q1⟩=>?_)
 cases c with
 | true=>exact ⟨H1,I1,q1⟩
 | false=>exact hb wh pins s1 σ H1 Q I1 q1
theorem a1X (ha:PT X a tA):PT X (.UnaryOp .Not a pos) (a6l tA):=by
 intro pins s σ H Q I h
 exact isTrue_not (ha pins s σ H (fun c H1=>Q (!c) H1) I h)
def b1T (ta tb:TE):TE:=fun σ H Q=>ta σ H fun x H1=>∃c,x=.bl c∧if c=true then tb σ H1 Q else Q (.bl false) H1
def c5J (ta tb:TE):TE:=fun σ H Q=>ta σ H fun x H1=>∃c,x=.bl c∧if c=true then Q (.bl true) H1 else tb σ H1 Q
theorem a7J {op} {t:TE} (h:PE X a t):PE X (.BoolOp op [a] pos) t:=fun pins s σ H Q I hw=>BoolOp_one (h pins s σ H Q I hw)
theorem a7d (ha:PE X a ta) (hb:PE X (.BoolOp .And (b::rest) pos) tb):PE X (.BoolOp .And (a::b::rest) pos) (b1T ta tb):=by
 intro pins s σ H Q I h
 refine BoolOp_and (thn (ha pins s σ H _ I h) fun v s1 ⟨x,H1,I1,r1,q1⟩=>?_)
 obtain ⟨c,rfl,q1⟩:=q1
 cases r1
 refine wpAny_truthy_bool ?_
 cases c with
 | true=>exact hb pins s1 σ H1 Q I1 q1
 | false=>exact ⟨.bl false,H1,I1,rfl,q1⟩
theorem c2n (ha:PE X a ta) (hb:PE X (.BoolOp .Or (b::rest) pos) tb):PE X (.BoolOp .Or (a::b::rest) pos) (c5J ta tb):=by
 intro pins s σ H Q I h
 refine BoolOp_or (thn (ha pins s σ H _ I h) fun v s1 ⟨x,H1,I1,r1,q1⟩=>?_)
 obtain ⟨c,rfl,q1⟩:=q1
 cases r1
 refine wpAny_truthy_bool ?_
 cases c with
 | false=>exact hb pins s1 σ H1 Q I1 q1
 | true=>exact ⟨.bl true,H1,I1,rfl,q1⟩
def tIf (t:TT) (ta tb:TE):TE:=fun σ H Q=>t σ H fun c H1=>if c=true then ta σ H1 Q else tb σ H1 Q
theorem a3a {c:Expr} (hc:PT X c tA) (ha:PE X a ta) (hb:PE X b tb):PE X (.IfExp c a b pos) (tIf tA ta tb):=by
 intro pins s σ H Q I h
 refine wpAny_IfExp (thn (hc pins s σ H _ I h) fun d s1 ⟨H1,I1,q1⟩=>?_)
 cases d with
 | true=>exact ha pins s1 σ H1 Q I1 q1
 | false=>exact hb pins s1 σ H1 Q I1 q1
end
end L2
namespace L2
open PySem PySem.Spec PyProof.Rows
def SqL (K:PySem.W.Frag) (H:Hp) (a:Addr) (xs:List V):Prop:=
 Rd H a (.lst xs)∨
  ∃(o:Obj) (its:Array Value) (n:Nat),K.lookup a=some o∧o.cls=.type "list"∧o.dict=none∧o.data=.seq its n∧its.size≤sizeLine∧a1f xs its.toList
def SqT (K:PySem.W.Frag) (H:Hp) (a:Addr) (xs:List V):Prop:=
 Rd H a (.tup xs)∨
  ∃(o:Obj) (its:Array Value) (n:Nat),K.lookup a=some o∧o.cls=.type "tuple"∧o.data=.seq its n∧its.size≤sizeLine∧a1f xs its.toList
def c8f:Value→Option V
 | .none=>some .non
 | .bool b=>some (.bl b)
 | .int i _=>some (.int i)
 | .str x _=>some (.str x)
 | .bytes b _=>some (.byt b)
 | .float b _=>some (.flt b)
 | .ref a=>some (.ref a)
 | .type n=>some (.ty n)
 | _=>none
theorem a1R.abs {x:V} {u:Value} (r:a1R x u):c8f u=some x:=by
 cases x with
 | non=>cases r;rfl
 | bl _=>cases r;rfl
 | int _=>obtain ⟨t,rfl⟩:=r;rfl
 | str _=>obtain ⟨t,rfl⟩:=r;rfl
 | byt _=>obtain ⟨t,rfl⟩:=r;rfl
 | flt _=>obtain ⟨t,rfl⟩:=r;rfl
 | ref _=>cases r;rfl
 | ty _=>cases r;rfl
theorem a1R.inj {x y:V} {u:Value} (r:a1R x u) (q:a1R y u):x=y:=Option.some.inj (r.abs.symm.trans q.abs)
theorem a1f.inj:∀{xs ys:List V} {us:List Value},a1f xs us→a1f ys us→xs=ys
 | _,_,_,.nil,.nil=>rfl
 | _,_,_,.cons r t,.cons r' t'=>by rw [r.inj r',a1f.inj t t']
section
variable {X:Cx} {pins:List (Addr×Obj)} {σ:St} {H:Hp} {s:Shared} {a:Addr} {xs ys:List V}
theorem SqL.of {K:PySem.W.Frag} (h:H a=some (.lst xs)):SqL K H a xs:=.inl (.inl h)
theorem SqT.of {K:PySem.W.Frag} (h:H a=some (.tup xs)):SqT K H a xs:=.inl (.inl h)
theorem Inv.list (I:Inv X pins σ H s) (h:SqL X.K H a xs):∃its:List Value,a1f xs its∧PlainL s.heap a its.toArray∧xs.length≤sizeLine:=by
 rcases h with h | ⟨o,its,n,hk,hc,hd,hs,hz,r⟩
 ·obtain ⟨z,its,n,r,e⟩:=h.ok I.hok
  exact ⟨its,r,⟨_,n,e,rfl,rfl,rfl⟩,z⟩
 ·refine ⟨its.toList,r,⟨o,n,I.kIn a o hk,hc,hd,by simpa using hs⟩,?_⟩
  have e:=r.length
  simp only [Array.length_toList] at e
  omega
theorem Inv.tuple (I:Inv X pins σ H s) (h:SqT X.K H a xs):∃its:List Value,a1f xs its∧IsTup s.heap a its.toArray∧xs.length≤sizeLine:=by
 rcases h with h | ⟨o,its,n,hk,hc,hs,hz,r⟩
 ·obtain ⟨z,its,r,p⟩:=h.ok I.hok
  exact ⟨its,r,p,z⟩
 ·refine ⟨its.toList,r,⟨o,I.kIn a o hk,hc,n,by simpa using hs⟩,?_⟩
  have e:=r.length
  simp only [Array.length_toList] at e
  omega
theorem Inv.list_inj (I:Inv X pins σ H s) (h:SqL X.K H a xs) (h':SqL X.K H a ys):xs=ys:=by
 obtain ⟨its,r,⟨o,n,e,_,_,d⟩,_⟩:=I.list h
 obtain ⟨its',r',⟨o',n',e',_,_,d'⟩,_⟩:=I.list h'
 rw [e] at e';cases e'
 rw [d] at d'
 injection d' with d1 _
 have:its=its':=by simpa using congrArg Array.toList d1
 subst this
 exact r.inj r'
theorem Inv.tuple_inj (I:Inv X pins σ H s) (h:SqT X.K H a xs) (h':SqT X.K H a ys):xs=ys:=by
 obtain ⟨its,r,⟨o,e,_,n,d⟩,_⟩:=I.tuple h
 obtain ⟨its',r',⟨o',e',_,n',d'⟩,_⟩:=I.tuple h'
 rw [e] at e';cases e'
 rw [d] at d'
 injection d' with d1 _
 have:its=its':=by simpa using congrArg Array.toList d1
 subst this
 exact r.inj r'
end
abbrev Cx.wish (X:Cx) (E:Value→Shared→Prop):Cx:={X with xe:=E}
abbrev Cx.nox (X:Cx):Cx:=X.wish fun _ _=>False
theorem Cx.Ok.wish {X:Cx} (ok:X.Ok) (E:Value→Shared→Prop):(X.wish E).Ok:=
 ⟨ok.mod,ok.kind,ok.glob,ok.blt,ok.above,ok.inj,ok.has,ok.cab,ok.hd,ok.frames,ok.stk,ok.exf,ok.bs,ok.bsz,ok.noex,ok.exfs,ok.funs,ok.frf⟩
theorem Cx.Ok.unwish {X:Cx} {E:Value→Shared→Prop} (ok:(X.wish E).Ok):X.Ok:=
 ⟨ok.mod,ok.kind,ok.glob,ok.blt,ok.above,ok.inj,ok.has,ok.cab,ok.hd,ok.frames,ok.stk,ok.exf,ok.bs,ok.bsz,ok.noex,ok.exfs,ok.funs,ok.frf⟩
section
variable {X:Cx} {pins:List (Addr×Obj)} {σ:St} {H:Hp} {s:Shared} {E:Value→Shared→Prop}
theorem Inv.wish (I:Inv X pins σ H s) (E:Value→Shared→Prop):Inv (X.wish E) pins σ H s:=⟨I.ok.wish E,I.os,I.bare,I.base,I.loc,I.cell,I.free,I.freeC,I.pin,I.hok,I.len⟩
theorem Inv.unwish (I:Inv (X.wish E) pins σ H s):Inv X pins σ H s:=⟨I.ok.unwish,I.os,I.bare,I.base,I.loc,I.cell,I.free,I.freeC,I.pin,I.hok,I.len⟩
theorem SP.unwish {D:a8I} {f:Flow} {s':Shared} (h:SP (X.wish E) pins D f s'):SP X pins D f s':=by
 cases f with
 | next=>obtain ⟨σ',H',I,q⟩:=h;exact ⟨σ',H',I.unwish,q⟩
 | brk=>obtain ⟨σ',H',I,q⟩:=h;exact ⟨σ',H',I.unwish,q⟩
 | cont=>obtain ⟨σ',H',I,q⟩:=h;exact ⟨σ',H',I.unwish,q⟩
 | ret u=>obtain ⟨v,σ',H',I,r,q⟩:=h;exact ⟨v,σ',H',I.unwish,r,q⟩
theorem PE.nox {e:Expr} {t:TE} (h:PE X.nox e t):PE X e t:=fun pins s σ H Q I hw=>
 wpAny_mono (h pins s σ H Q (I.wish _) hw) (fun _ _ ⟨v,H',I',r,q⟩=>⟨v,H',I'.unwish,r,q⟩) fun _ _ z=>False.elim z
theorem PT.nox {e:Expr} {t:TT} (h:PT X.nox e t):PT X e t:=fun pins s σ H Q I hw=>
 wpAny_mono (h pins s σ H Q (I.wish _) hw) (fun _ _ ⟨H',I',q⟩=>⟨H',I'.unwish,q⟩) fun _ _ z=>False.elim z
theorem PSs.nox {st:List Stmt} {t:TS} (h:PSs X.nox st t):PSs X st t:=fun pins s σ H D I hw=>
 wpAny_mono (h pins s σ H D (I.wish _) hw) (fun _ _ q=>q.unwish) fun _ _ z=>False.elim z
end
section
variable {X:Cx} {st:Stmt} {rest:List Stmt} {t u:TS} {e:Expr} {te:TE} {pos:Pos}
def a0Y:TS:=fun D σ H=>D.nx σ H
def a2D (t u:TS):TS:=fun D σ H=>t {D with nx:=u D} σ H
theorem a0u:PSs X [] a0Y:=fun _ _ σ H _ I h=>wpAny_execs_nil ⟨σ,H,I,h⟩
theorem a0h (h1:PS X st t) (h2:PSs X rest u):PSs X (st::rest) (a2D t u):=by
 intro pins s σ H D I h
 refine wpAny_execs_cons (thn (h1 pins s σ H {D with nx:=u D} I h) fun f s1 q=>?_)
 cases f with
 | next=>
  obtain ⟨σ',H',I',q⟩:=q
  exact h2 pins s1 σ' H' D I' q
 | ret v=>exact q
 | brk=>exact q
 | cont=>exact q
theorem a0f (h1:PS X st t):PSs X [st] t:=by
 intro pins s σ H D I h
 refine wpAny_execs_cons (thn (h1 pins s σ H D I h) fun f s1 q=>?_)
 cases f with
 | next=>exact wpAny_execs_nil q
 | ret v=>exact q
 | brk=>exact q
 | cont=>exact q
theorem Inv.quiet {pins:List (Addr×Obj)} {σ:St} {H:Hp} {s:Shared} (I:Inv X pins σ H s):interactive X.env=false:=by simp [interactive,I.ok.kind]
def a7U (te:TE):TS:=fun D σ H=>te σ H fun _ H1=>D.nx σ H1
theorem a4Q (he:PE X e te) (hs:swapsWith e none pos.line X.env=pure false:=by rfl):PS X (.Expr e pos) (a7U te):=by
 intro pins s σ H D I h
 exact wpAny_Expr_any (thn (he pins s σ H _ I h) fun v s1 ⟨x,H1,I1,r1,q1⟩=>⟨σ,H1,I1,q1⟩) I.quiet hs
def a1q (te:TE):TS:=fun D σ H=>te σ H D.rt
theorem a0p (he:PE X e te):PS X (.Return (some e) pos) (a1q te):=by
 intro pins s σ H D I h
 exact wpAny_Return_some (thn (he pins s σ H _ I h) fun v s1 ⟨x,H1,I1,r1,q1⟩=>⟨x,σ,H1,I1,r1,q1⟩)
def a2e (c:TT) (t u:TS):TS:=fun D σ H=>c σ H fun b H1=>if b=true then t D σ H1 else u D σ H1
theorem a0V {c:Expr} {a b:List Stmt} {tc:TT} (hc:PT X c tc) (ha:PSs X a t) (hb:PSs X b u):PS X (.If c a b pos) (a2e tc t u):=by
 intro pins s σ H D I h
 refine wpAny_If (thn (hc pins s σ H _ I h) fun d s1 ⟨H1,I1,q1⟩=>?_)
 cases d with
 | true=>exact ha pins s1 σ H1 D I1 q1
 | false=>exact hb pins s1 σ H1 D I1 q1
end
abbrev TG:=V→St→Hp→(St→Hp→Prop)→Prop
abbrev TGs:=List V→St→Hp→(St→Hp→Prop)→Prop
def PG (X:Cx) (target:Expr) (t:TG):Prop:=
 ∀(pins:List (Addr×Obj)) (s:Shared) (σ:St) (H:Hp) (v:V) (u:Value) (Q:St→Hp→Prop),Inv X pins σ H s→a1R v u→t v σ H Q→
  wpAny (model X.prog X.w) X.A (assign target X.env u) (fun _ s'=>∃σ' H',Inv X pins σ' H' s'∧Q σ' H') X.xe s
def PGs (X:Cx) (ts:List Expr) (t:TGs):Prop:=
 ∀(pins:List (Addr×Obj)) (s:Shared) (σ:St) (H:Hp) (vs:List V) (us:List Value) (Q:St→Hp→Prop),Inv X pins σ H s→a1f vs us→t vs σ H Q→
  wpAny (model X.prog X.w) X.A (assignInOrder ((assignEach ts X.env).map (·.2)) us) (fun _ s'=>∃σ' H',Inv X pins σ' H' s'∧Q σ' H') X.xe s
section
variable {X:Cx} {pos:Pos}
def a0T (i:Nat):TG:=fun v σ H Q=>Q (σ.set i (some v)) H
theorem a1w {i:Nat} {x:Str} (hN:X.N.Nodup) (hi:X.N[i]?=some x) (hx:Loc X.env.scope x) (hf:X.fn x=true∨X.env.scope.names.lookup x=some .local:=by first | exact .inl rfl | exact .inr rfl | assumption):PG X (.Name x pos) (a0T i):=by
 intro pins s σ H v u Q I r h
 exact wpAny_assign_Name (a6f I hN hi hx r (fun s' I'=>⟨_,H,I',h⟩) hf)
def c9a:TGs:=fun vs σ H Q=>vs=[]∧Q σ H
def c3v (t:TG) (u:TGs):TGs:=fun vs σ H Q=>∃v r,vs=v::r∧t v σ H fun σ' H'=>u r σ' H' Q
theorem b4N:PGs X [] c9a:=by
 intro pins s σ H vs us Q I r h
 obtain ⟨e,h⟩:=h
 subst e
 cases r
 exact assignInOrder_nil ⟨σ,H,I,h⟩
theorem a9t {e:Expr} {es:List Expr} {t:TG} {u:TGs} (h1:PG X e t) (h2:PGs X es u)
  (hs:(assignEach (e::es) X.env).map (·.2)=assign e X.env::(assignEach es X.env).map (·.2):=by rfl):PGs X (e::es) (c3v t u):=by
 intro pins s σ H vs us Q I r h
 obtain ⟨v,vr,e1,h⟩:=h
 subst e1
 cases r with
 | cons r rr=>
  rw [hs]
  refine assignInOrder_cons (thn (h1 pins s σ H _ _ _ I r h) fun _ s1 ⟨σ1,H1,I1,q1⟩=>?_)
  exact h2 pins s1 σ1 H1 _ _ Q I1 rr q1
def c9m (K:PySem.W.Frag) (n:Nat) (t:TGs):TG:=fun v σ H Q=>∃a xs,v=.ref a∧SqT K H a xs∧xs.length=n∧t xs σ H Q
theorem b8v {es:List Expr} {k:Nat} {t:TGs} {n:Nat} (hc:X.calm=true) (h:PGs X es t)
  (hn:(assignEach es X.env).length=n:=by rfl) (hst:(assignEach es X.env).findIdx? (·.1)=none:=by rfl):PG X (.Tuple es k pos) (c9m X.K n t):=by
 intro pins s σ H v u Q I r hw
 obtain ⟨a,xs,e1,hq,hl,hw⟩:=hw
 subst e1
 cases r
 obtain ⟨its,rv,ht,hz⟩:=I.tuple hq
 refine assign_Tuple_tuple (I.ok.hd hc) ht (by simp [hn,←hl,rv.length]) hst fun h' hx=>?_
 have I1:Inv X pins σ H {s with heap:=h'}:=I.kept (t':=s.toks) fun b o e=>hx b o (Nat.ne_of_lt (Heap.lt_size e)) e
 exact h pins _ σ H xs _ Q I1 (by simpa using rv) hw
def a2u (te:TE) (g:TG):TS:=fun D σ H=>te σ H fun x H1=>g x σ H1 D.nx
theorem a0D {i:Nat} {x:Str} {e:Expr} {te:TE} {pos':Pos} (hN:X.N.Nodup) (hi:X.N[i]?=some x) (hx:Loc X.env.scope x) (he:PE X e te) (hs:swapsWith e (some (.Name x pos')) pos.line X.env=pure false:=by rfl) (hf:X.fn x=true∨X.env.scope.names.lookup x=some .local:=by first | exact .inl rfl | exact .inr rfl | assumption):
  PS X (.Assign [.Name x pos'] e pos) (a2u te (a0T i)):=by
 intro pins s σ H D I h
 refine wpAny_Assign_Name (thn (he pins s σ H _ I h) fun v s1 ⟨y,H1,I1,r1,q1⟩=>?_) hs
 exact a6f I1 hN hi hx r1 (fun s2 I2=>⟨_,H1,I2,q1⟩) hf
end
structure It where
 go:Nat→Hp→Prop
 yld:Nat→Hp→V→Hp→Prop
 stop:Nat→Hp→Prop
def b0d (X:Cx) (pins:List (Addr×Obj)) (H:Hp) (b:Addr):Prop:=
 H b=none∧b≠X.env.locals∧b∉X.fs∧(b∈X.ex∨X.s₀.heap.objs.size≤b)∧(∀x c,X.env.cells.lookup x=some c→c≠b)∧∀p∈X.pn++pins,p.1≠b
theorem Inv.fpOk {X:Cx} {pins:List (Addr×Obj)} {σ:St} {H H':Hp} {s:Shared} {b:Addr} (I:Inv X pins σ H s) (hb:s.heap.objs.size≤b) (hn:H' b=none):b0d X pins H' b:=by
 refine ⟨hn,Nat.ne_of_gt (Nat.lt_of_lt_of_le I.lt hb),I.nofs hb,.inr (Nat.le_trans I.sz hb),fun x c e z=>?_,fun p hp z=>?_⟩
 ·obtain ⟨v,q⟩:=I.cell x c e
  exact absurd (Nat.lt_of_lt_of_le q.lt (by rw [z];exact hb)) (Nat.lt_irrefl _)
 ·exact absurd (Nat.lt_of_lt_of_le (Heap.lt_size (I.pin p hp).1) (by rw [z];exact hb)) (Nat.lt_irrefl _)
structure b5B (P:Program) (w:World) (K:PySem.W.Frag) (tg:Expr) (J:It) (fp:List Addr) (it:Addr) (tn:Nat→Heap→Prop):Prop where
 mem:it∈fp
 obj:∀i h,tn i h→∀b∈fp,∃o,h.get? b=some o∧∀v,o.data≠.cell v
 keep:∀i h h',tn i h→(∀b∈fp,∀o,h.get? b=some o→h'.get? b=some o)→tn i h'
 item:∀(X:Cx),X.prog=P→X.w=w→X.K=K→X.calm=true→∀(i:Nat) (pins:List (Addr×Obj)) (s:Shared) (σ:St) (H:Hp) (E:Value→Shared→Prop),Inv X pins σ H s→(∀b∈fp,b0d X pins H b)→tn i s.heap→J.go i H→
  wpAny (model P w) X.A (pyNext (.ref it)) (fun r s1=>∃u,r=some u∧
   wpAny (model P w) X.A (letOwnedTupleGo tg (.ref it) u) (fun _ s2=>∃x H',Inv X pins σ H' s2∧a1R x u∧J.yld i H x H'∧tn (i+1) s2.heap∧∀b∈fp,H' b=none) E s1) E s
 done:∀(X:Cx),X.prog=P→X.w=w→X.K=K→X.calm=true→∀(i:Nat) (pins:List (Addr×Obj)) (s:Shared) (σ:St) (H:Hp) (E:Value→Shared→Prop),Inv X pins σ H s→(∀b∈fp,b0d X pins H b)→tn i s.heap→J.stop i H→
  wpAny (model P w) X.A (pyNext (.ref it)) (fun r s1=>r=none∧Inv X pins σ H s1) E s
 self:∀(A:Around) (i:Nat) (s:Shared) (Q:Value→Shared→Prop) (E:Value→Shared→Prop),tn i s.heap→Q (.ref it) s→wpAny (model P w) A (pyIter (.ref it)) Q E s
abbrev TI:=St→Hp→(It→Hp→Prop)→Prop
def PIE (X:Cx) (pins:List (Addr×Obj)) (σ:St) (tg:Expr) (R:It→Hp→Prop) (itv:Value) (s2:Shared):Prop:=
 ∃(it:Addr) (fp:List Addr) (tn:Nat→Heap→Prop) (J:It) (H':Hp),itv=.ref it∧Inv X pins σ H' s2∧b5B X.prog X.w X.K tg J fp it tn∧tn 0 s2.heap∧(∀b∈fp,b0d X pins H' b)∧R J H'
def PI (X:Cx) (tg iter:Expr) (wi:TI):Prop:=
 ∀(pins:List (Addr×Obj)) (s:Shared) (σ:St) (H:Hp) (R:It→Hp→Prop),Inv X pins σ H s→wi σ H R→
  wpAny (model X.prog X.w) X.A (eval iter X.env) (fun v s1=>wpAny (model X.prog X.w) X.A (pyIter v) (PIE X pins σ tg R) X.xe s1) X.xe s
theorem b3k {M:Model} {A:Around} {E:Value→Shared→Prop} {s:Shared} {tg:Expr} {it:Addr} {u:Value} {o:Obj} {n:String} {vs:Array Value} {Q:Unit→Shared→Prop} (ho:s.heap.get? it=some o) (hc:o.cls=.type n) (hd:o.data=.fields vs)
  (hn:["enumerate","zip","dict_itemiterator","dict_reverseitemiterator","odict_iterator","itertools.zip_longest","itertools.pairwise"].contains n=false) (hQ:Q () s):wpAny M A (letOwnedTupleGo tg (.ref it) u) Q E s:=by
 unfold letOwnedTupleGo
 cases tg<;>first
  | exact wpAny_pure hQ
  | (cases u<;>first
    | exact wpAny_pure hQ
    | (refine wpAny_bind (wpAny_load ho ?_);rw [hc,hd];show wpAny M A (if (["enumerate","zip","dict_itemiterator","dict_reverseitemiterator","odict_iterator","itertools.zip_longest","itertools.pairwise"].contains n && vs[0]? == some (rawInt _))=true then _ else _) Q E s;rw [if_neg (by intro h;rw [hn,Bool.false_and] at h;cases h)];exact wpAny_pure hQ))
def Itl (K:PySem.W.Frag) (a:Addr):It:=
 ⟨fun i H=>∃xs x,SqL K H a xs∧xs[i]?=some x,fun i H x H'=>H'=H∧∀xs,SqL K H a xs→xs[i]?=some x,fun i H=>∃xs,SqL K H a xs∧xs.length≤i⟩
def Itt (K:PySem.W.Frag) (a:Addr):It:=
 ⟨fun i H=>∃xs x,SqT K H a xs∧xs[i]?=some x,fun i H x H'=>H'=H∧∀xs,SqT K H a xs→xs[i]?=some x,fun i H=>∃xs,SqT K H a xs∧xs.length≤i⟩
def Itr (lo:Int) (n:Nat):It:=⟨fun i _=>i < n,fun i H x H'=>H'=H∧x=.int (lo+i),fun i _=>n≤i⟩
theorem b0y {P:Program} {w:World} {K:PySem.W.Frag} {tg:Expr} (a it:Addr):b5B P w K tg (Itl K a) [it] it (fun i h=>h.IsListIter it a i) where
 mem:=by simp
 obj:=fun i h st b hb=>by
  have e:b=it:=by simpa using hb
  subst e
  obtain ⟨o,e,c,d⟩:=st
  exact ⟨o,e,fun v z=>by rw [d] at z;cases z⟩
 keep:=fun i h h' st k=>st.at fun o e=>k it (by simp) o e
 item:=by
  intro X hP hw hK hc i pins s σ H E I hf st hg
  subst hP hw hK
  obtain ⟨xs,x,hq,hx⟩:=hg
  obtain ⟨its,rv,p,hz⟩:=I.list hq
  obtain ⟨u,hu,ru⟩:=rv.get hx
  obtain ⟨f0,f1,f2,f3,f4,f5⟩:=hf it (by simp)
  refine wpAny_pyNext_list_item st p.isList (x:=u) (by simpa using hu) fun h' st' sb=>?_
  have I1:Inv X pins σ H {s with heap:=h'}:=I.turned (t':=s.toks) (fun b o hb e=>(sb.2 b hb).trans e) f0 f1 f3 f4 f5
  obtain ⟨o,e,c,d⟩:=id st'
  exact ⟨u,rfl,b3k (s:={s with heap:=h'}) e c d (by decide) ⟨x,H,I1,ru,⟨rfl,fun ys hy=>by rw [I.list_inj hy hq];exact hx⟩,st',fun b hb=>(hf b hb).1⟩⟩
 done:=by
  intro X hP hw hK hc i pins s σ H E I hf st hg
  subst hP hw hK
  obtain ⟨xs,hq,hx⟩:=hg
  obtain ⟨its,rv,p,hz⟩:=I.list hq
  obtain ⟨f0,f1,f2,f3,f4,f5⟩:=hf it (by simp)
  have hl:=rv.length
  exact wpAny_pyNext_list_end (I.ok.hd hc) st p.isList (by simp;omega) fun h' eb=>⟨rfl,I.turned (t':=s.toks) (fun b o hb e=>eb b o hb e) f0 f1 f3 f4 f5⟩
 self:=fun _ _ _ _ _ st h=>wpAny_pyIter_listiter st h
theorem a9E {P:Program} {w:World} {K:PySem.W.Frag} {tg:Expr} (a it:Addr):b5B P w K tg (Itt K a) [it] it (fun i h=>h.IsTupleIter it a i) where
 mem:=by simp
 obj:=fun i h st b hb=>by
  have e:b=it:=by simpa using hb
  subst e
  obtain ⟨o,e,c,d⟩:=st
  exact ⟨o,e,fun v z=>by rw [d] at z;cases z⟩
 keep:=fun i h h' st k=>st.at fun o e=>k it (by simp) o e
 item:=by
  intro X hP hw hK hc i pins s σ H E I hf st hg
  subst hP hw hK
  obtain ⟨xs,x,hq,hx⟩:=hg
  obtain ⟨its,rv,p,hz⟩:=I.tuple hq
  obtain ⟨u,hu,ru⟩:=rv.get hx
  obtain ⟨f0,f1,f2,f3,f4,f5⟩:=hf it (by simp)
  refine wpAny_pyNext_tuple_item st (show s.heap.IsTuple a its.toArray from p) (x:=u) (by simpa using hu) fun h' st' sb=>?_
  have I1:Inv X pins σ H {s with heap:=h'}:=I.turned (t':=s.toks) (fun b o hb e=>(sb.2 b hb).trans e) f0 f1 f3 f4 f5
  obtain ⟨o,e,c,d⟩:=id st'
  exact ⟨u,rfl,b3k (s:={s with heap:=h'}) e c d (by decide) ⟨x,H,I1,ru,⟨rfl,fun ys hy=>by rw [I.tuple_inj hy hq];exact hx⟩,st',fun b hb=>(hf b hb).1⟩⟩
 done:=by
  intro X hP hw hK hc i pins s σ H E I hf st hg
  subst hP hw hK
  obtain ⟨xs,hq,hx⟩:=hg
  obtain ⟨its,rv,p,hz⟩:=I.tuple hq
  obtain ⟨f0,f1,f2,f3,f4,f5⟩:=hf it (by simp)
  have hl:=rv.length
  exact wpAny_pyNext_tuple_end (I.ok.hd hc) st (show s.heap.IsTuple a its.toArray from p) (by simp;omega) fun h' eb=>⟨rfl,I.turned (t':=s.toks) (fun b o hb e=>eb b o hb e) f0 f1 f3 f4 f5⟩
 self:=fun _ _ _ _ _ st h=>wpAny_pyIter_tupleiter st h
theorem a9Q {P:Program} {w:World} {K:PySem.W.Frag} {tg:Expr} (it:Addr) (lo:Int) (n:Nat):b5B P w K tg (Itr lo n) [it] it (fun i h=>IsRangeIter h it (lo+(i:Nat) * 1) ((n:Int) - (i:Nat)) 1) where
 mem:=by simp
 obj:=fun i h st b hb=>by
  have e:b=it:=by simpa using hb
  subst e
  exact ⟨_,st,fun v z=>by
   have z':Data.fields _=Data.cell v:=z
   cases z'⟩
 keep:=fun i h h' st k=>k it (by simp) _ st
 item:=by
  intro X hP hw hK hc i pins s σ H E I hf st hg
  subst hP hw hK
  obtain ⟨f0,f1,f2,f3,f4,f5⟩:=hf it (by simp)
  have W:=Walks.range (prog:=X.prog) (w:=X.w) (I.ok.hd hc) it lo 1 n
  refine W.item i s _ _ hg st fun v h' tk hv st' kk=>?_
  obtain ⟨t,rfl⟩:=hv
  have I1:Inv X pins σ H {s with heap:=h',toks:=tk}:=I.turned (fun b o hb e=>kk b o (by simpa using hb) e) f0 f1 f3 f4 f5
  refine ⟨_,rfl,b3k (s:={s with heap:=h',toks:=tk}) (n:="range_iterator") st' rfl rfl (by decide) ⟨.int (lo+i),H,I1,⟨t,?_⟩,⟨rfl,rfl⟩,st',fun b hb=>(hf b hb).1⟩⟩
  rw [Int.mul_one]
 done:=by
  intro X hP hw hK hc i pins s σ H E I hf st hg
  subst hP hw hK
  obtain ⟨f0,f1,f2,f3,f4,f5⟩:=hf it (by simp)
  exact wpAny_pyNext_range_end (I.ok.hd hc) st (by have:n≤i:=hg;omega) fun h' eb=>⟨rfl,I.turned (t':=s.toks) (fun b o hb e=>eb b o hb e) f0 f1 f3 f4 f5⟩
 self:=fun _ _ _ _ _ st h=>wpAny_pyIter_rangeiter st h
end L2
namespace L2
open PySem PySem.Spec PyProof.Rows
section
variable {X:Cx} {tg:Expr}
def a5F (K:PySem.W.Frag) (tl:TE):TI:=fun σ H R=>tl σ H fun x H1=>∃a,x=.ref a∧(∃xs,SqL K H1 a xs)∧R (Itl K a) H1
def c3t (K:PySem.W.Frag) (tl:TE):TI:=fun σ H R=>tl σ H fun x H1=>∃a,x=.ref a∧(∃xs,SqT K H1 a xs)∧R (Itt K a) H1
theorem a2U {l:Expr} {tl:TE} (hl:PE X l tl):PI X tg l (a5F X.K tl):=by
 intro pins s σ H R I h
 refine thn (hl pins s σ H _ I h) fun v s1 ⟨x,H1,I1,r1,q1⟩=>?_
 obtain ⟨a,e,⟨xs,hq⟩,q⟩:=q1
 subst e
 cases r1
 obtain ⟨its,rv,p,hz⟩:=I1.list hq
 refine wpAny_pyIter_list p.isList ?_
 refine ⟨s1.heap.objs.size,[s1.heap.objs.size],_,_,H1,rfl,I1.kept (t':=s1.toks) fun b o e=>Heap.get?_push_of_some _ e,b0y a _,⟨_,Heap.get?_push_size _ rfl,rfl,rfl⟩,fun b hb=>?_,q⟩
 have e:b=s1.heap.objs.size:=by simpa using hb
 subst e
 exact I1.fpOk (Nat.le_refl _) (I1.hok.fresh (Nat.le_refl _))
theorem b3D {l:Expr} {tl:TE} (hl:PE X l tl):PI X tg l (c3t X.K tl):=by
 intro pins s σ H R I h
 refine thn (hl pins s σ H _ I h) fun v s1 ⟨x,H1,I1,r1,q1⟩=>?_
 obtain ⟨a,e,⟨xs,hq⟩,q⟩:=q1
 subst e
 cases r1
 obtain ⟨its,rv,p,hz⟩:=I1.tuple hq
 refine wpAny_pyIter_tuple (show s1.heap.IsTuple a its.toArray from p) ?_
 refine ⟨s1.heap.objs.size,[s1.heap.objs.size],_,_,H1,rfl,I1.kept (t':=s1.toks) fun b o e=>Heap.get?_push_of_some _ e,a9E a _,⟨_,Heap.get?_push_size _ rfl,rfl,rfl⟩,fun b hb=>?_,q⟩
 have e:b=s1.heap.objs.size:=by simpa using hb
 subst e
 exact I1.fpOk (Nat.le_refl _) (I1.hok.fresh (Nat.le_refl _))
theorem b2J {pins:List (Addr×Obj)} {σ:St} {H:Hp} {s:Shared} {R:It→Hp→Prop} {E:Value→Shared→Prop} {lo hi:Int} {t u v:Tok} {tk:Nat} (I:Inv X pins σ H s) (h1:-(2 ^ 62)≤lo) (h2:lo < 2 ^ 62) (h3:-(2 ^ 62)≤hi) (h4:hi < 2 ^ 62)
  (q:R (Itr lo (hi - lo).toNat) H):wpAny (model X.prog X.w) X.A (pyIter (.ref s.heap.objs.size)) (PIE X pins σ tg R) E {s with heap:=s.heap.push {cls:=.type "range",data:=.fields #[.int lo t,.int hi u,.int 1 v]},toks:=tk}:=by
 refine wpAny_pyIter_range (IsRange.new ..) (small_one h1 h2 h3 h4) ?_
 have I1:Inv X pins σ H {s with heap:=s.heap.push {cls:=.type "range",data:=.fields #[.int lo t,.int hi u,.int 1 v]},toks:=tk}:=I.kept fun b o e=>Heap.get?_push_of_some _ e
 refine ⟨(s.heap.push {cls:=.type "range",data:=.fields #[.int lo t,.int hi u,.int 1 v]}).objs.size,[(s.heap.push {cls:=.type "range",data:=.fields #[.int lo t,.int hi u,.int 1 v]}).objs.size],_,_,H,rfl,
  I1.kept (t':=tk) fun b o e=>Heap.get?_push_of_some _ e,a9Q _ lo (hi - lo).toNat,?_,fun b hb=>?_,q⟩
 ·have e1:lo+((0:Nat):Int) * 1=lo:=by simp
  have e2:(((hi - lo).toNat:Nat):Int) - ((0:Nat):Int)=Builtin.Range.rangeSize lo hi 1:=by rw [rangeSize_one];split<;>omega
  show IsRangeIter _ _ (lo+((0:Nat):Int) * 1) ((((hi - lo).toNat:Nat):Int) - ((0:Nat):Int)) 1
  rw [e1,e2]
  exact Heap.get?_push_size _ rfl
 ·have e:b=(s.heap.push {cls:=.type "range",data:=.fields #[.int lo t,.int hi u,.int 1 v]}).objs.size:=by simpa using hb
  subst e
  exact I1.fpOk (Nat.le_refl _) (I1.hok.fresh (Nat.le_refl _))
def b2L (ta:TA):TI:=fun σ H R=>ta σ H fun vs H1=>∃j:Int,vs=[.int j]∧-(2 ^ 62)≤j∧j < 2 ^ 62∧R (Itr 0 j.toNat) H1
theorem a5t {a:Expr} {ta:TA} {p pos:Pos} (hg:Gl X "range") (hm:X.mg "range"=none) (ha:PA X [a] ta) (hs:starEach [a] X.env=[(false,eval a X.env)]:=by rfl):PI X tg (.Call (.Name "range" p) [a] [] pos) (b2L ta):=by
 intro pins s σ H R I h
 refine Call_ (a7Z I hg hm boot_range (PyProof.Rows.callWith_type1 (thn (ha pos pins s σ H _ I h) fun us s1 ⟨vs,H1,I1,r1,q1⟩=>?_) hs rfl))
 obtain ⟨j,e,q1,q2,q⟩:=q1
 subst e
 cases r1 with
 | cons r rr=>
  cases rr
  obtain ⟨t,rfl⟩:=r
  exact call_range_1 (b2J I1 (by omega) (by omega) q1 q2 (by simpa using q))
def c4p (wi:TI) (g:TG) (tb:TS):TS:=fun D σ H=>wi σ H fun J H1=>∃W:Nat→Nat→St→Hp→Prop,(∃m,W 0 m σ H1)∧∀i m σ H,W i m σ H→
 (J.stop i H∧D.nx σ H)∨(J.go i H∧∃N:St→Hp→Prop,(∀σ' H',N σ' H'→∃m',m' < m∧W (i+1) m' σ' H')∧∀x H',J.yld i H x H'→g x σ H' fun σ2 H2=>tb {D with nx:=N,ct:=N,bk:=D.nx} σ2 H2)
def a7M (fp:List Addr) (h:Heap):List (Addr×Obj):=fp.filterMap fun b=>(h.get? b).map fun o=>(b,o)
theorem a3e {fp:List Addr} {h:Heap} {b:Addr} {o:Obj} (hb:b∈fp) (e:h.get? b=some o):(b,o)∈a7M fp h:=List.mem_filterMap.mpr ⟨b,hb,by rw [e];rfl⟩
theorem b0J {fp:List Addr} {h:Heap} {p:Addr×Obj} (hp:p∈a7M fp h):p.1∈fp∧h.get? p.1=some p.2:=by
 obtain ⟨b,hb,e⟩:=List.mem_filterMap.mp hp
 cases q:h.get? b with
 | none=>rw [q] at e;cases e
 | some o=>
  rw [q] at e
  have e':(b,o)=p:=Option.some.inj e
  subst e'
  exact ⟨hb,q⟩
theorem Inv.pinned {pins:List (Addr×Obj)} {σ:St} {H:Hp} {s:Shared} {fp:List Addr} (I:Inv X pins σ H s) (hf:∀b∈fp,b0d X pins H b) (ho:∀b∈fp,∃o,s.heap.get? b=some o∧∀v,o.data≠.cell v):Inv X (pins++a7M fp s.heap) σ H s:=
 I.pins_of fun p hp=>(List.mem_append.mp hp).elim (fun z=>I.pin p (List.mem_append_right _ z)) fun z=>by
  obtain ⟨hb,e⟩:=b0J z
  obtain ⟨f0,f1,f2,_⟩:=hf p.1 hb
  obtain ⟨o,e',d⟩:=ho p.1 hb
  rw [e] at e';cases e'
  exact ⟨e,f0,f1,f2,d⟩
theorem Inv.unpinned {pins pl:List (Addr×Obj)} {σ:St} {H:Hp} {s:Shared} (I:Inv X (pins++pl) σ H s):Inv X pins σ H s:=I.pins_of fun p hp=>I.pin p (List.mem_append_right _ (List.mem_append_left _ hp))
theorem a5o {iter:Expr} {body:List Stmt} {wi:TI} {g:TG} {tb:TS} {pos:Pos} (hp:PassesOwn (model X.prog X.w) X.A X.env X.xe) (hc:X.calm=true) (hi:PI X tg iter wi) (hg:PG X tg g) (hb:PSs X body tb)
  (hs:∀x,foldedSetIterable iter X.env x=pure x:=by intro _;rfl):PS X (.For tg iter body [] pos) (c4p wi g tb):=by
 intro pins s σ H D I h
 refine wpAny_For (thn (hi pins s σ H _ I h) fun v s1 h1=>thn h1 fun itv s2 h2=>?_) hs
 obtain ⟨it,fp,tn,J,H2,e,I2,T,st2,f2,W,⟨m0,w0⟩,turn⟩:=h2
 subst e
 have stat:∀{H':Hp},(∀b∈fp,H' b=none)→∀b∈fp,b0d X pins H' b:=fun hn b hb=>⟨hn b hb,(f2 b hb).2⟩
 refine codeAny_forLoop_any (fun n s'=>∃i σ' H',Inv X pins σ' H' s'∧tn i s'.heap∧(∀b∈fp,H' b=none)∧W i n σ' H') ?_ m0 ⟨0,σ,H2,I2,st2,fun b hb=>(f2 b hb).1,w0⟩
 rintro n s3 ⟨i,σ3,H3,I3,st3,fr3,w3⟩
 rcases turn i n σ3 H3 w3 with ⟨stop,qn⟩ | ⟨go,N,hN,step⟩
 ·refine wpAny_passesOwn hp (thn (T.done X rfl rfl rfl hc i pins s3 σ3 H3 X.xe I3 (stat fr3) st3 stop) fun r s4 ⟨hr,I4⟩=>?_)
  subst hr
  exact wpAny_execs_nil ⟨σ3,H3,I4,qn⟩
 ·refine wpAny_passesOwn hp (thn (T.item X rfl rfl rfl hc i pins s3 σ3 H3 X.xe I3 (stat fr3) st3 go) fun r s4 ⟨u,hr,h4⟩=>?_)
  subst hr
  refine wpAny_passesOwn hp (thn h4 fun _ s5 ⟨x,H5,I5,r5,y5,st5,fr5⟩=>?_)
  have I5':=I5.pinned (stat fr5) (T.obj _ _ st5)
  refine wpAny_passesOwn hp (thn (hg _ s5 σ3 H5 x u _ I5' r5 (step x H5 y5)) fun _ s6 ⟨σ6,H6,I6,q6⟩=>?_)
  refine wpAny_passesOwn hp (thn (hb _ s6 σ6 H6 _ I6 q6) fun f s7 q7=>?_)
  have again:∀{σ7:St} {H7:Hp},Inv X (pins++a7M fp s5.heap) σ7 H7 s7→N σ7 H7→∃m,m < n∧∃i σ' H',Inv X pins σ' H' s7∧tn i s7.heap∧(∀b∈fp,H' b=none)∧W i m σ' H':=fun {σ7 H7} I7 n7=>by
   obtain ⟨m',hm,w7⟩:=hN σ7 H7 n7
   refine ⟨m',hm,i+1,σ7,H7,I7.unpinned,T.keep _ _ _ st5 fun b hb o e=>(I7.pin (b,o) (List.mem_append_right _ (List.mem_append_right _ (a3e hb e)))).1,fun b hb=>?_,w7⟩
   obtain ⟨o,e,d⟩:=T.obj _ _ st5 b hb
   exact (I7.pin (b,o) (List.mem_append_right _ (List.mem_append_right _ (a3e hb e)))).2.1
  cases f with
  | next=>obtain ⟨σ7,H7,I7,n7⟩:=q7;exact again I7 n7
  | cont=>obtain ⟨σ7,H7,I7,n7⟩:=q7;exact again I7 n7
  | brk=>obtain ⟨σ7,H7,I7,q7⟩:=q7;exact ⟨σ7,H7,I7.unpinned,q7⟩
  | ret v=>obtain ⟨x7,σ7,H7,I7,r7,q7⟩:=q7;exact ⟨x7,σ7,H7,I7.unpinned,r7,q7⟩
end
theorem a6Q {K:PySem.W.Frag} {a:Addr} {xs:List V} {g:TG} {tb:TS} {D:a8I} {σ:St} {H:Hp} (Pv:Nat→St→Hp→Prop) (h0:Pv 0 σ H) (hl:∀i σ H,i≤xs.length→Pv i σ H→SqL K H a xs)
  (hs:∀i x σ H,xs[i]?=some x→Pv i σ H→g x σ H fun σ2 H2=>tb {D with nx:=Pv (i+1),ct:=Pv (i+1),bk:=D.nx} σ2 H2) (hd:∀σ H,Pv xs.length σ H→D.nx σ H):
  ∃W:Nat→Nat→St→Hp→Prop,(∃m,W 0 m σ H)∧∀i m σ H,W i m σ H→
   ((Itl K a).stop i H∧D.nx σ H)∨((Itl K a).go i H∧∃N:St→Hp→Prop,(∀σ' H',N σ' H'→∃m',m' < m∧W (i+1) m' σ' H')∧∀x H',(Itl K a).yld i H x H'→g x σ H' fun σ2 H2=>tb {D with nx:=N,ct:=N,bk:=D.nx} σ2 H2):=by
 refine ⟨fun i m σ H=>m=xs.length - i∧i≤xs.length∧Pv i σ H,⟨xs.length,by simp,Nat.zero_le _,h0⟩,?_⟩
 rintro i m σ H ⟨rfl,hi,p⟩
 have q:=hl i σ H hi p
 by_cases hlt:i < xs.length
 ·refine .inr ⟨⟨xs,xs[i],q,by simp [hlt]⟩,Pv (i+1),fun σ' H' p'=>⟨xs.length - (i+1),by omega,rfl,hlt,p'⟩,fun x H' y=>?_⟩
  obtain ⟨e,y⟩:=y
  subst e
  exact hs i x σ _ (y xs q) p
 ·have e:i=xs.length:=by omega
  subst e
  exact .inl ⟨⟨xs,q,Nat.le_refl _⟩,hd σ H p⟩
theorem b1a {K:PySem.W.Frag} {a:Addr} {xs:List V} {g:TG} {tb:TS} {D:a8I} {σ:St} {H:Hp} (Pv:Nat→St→Hp→Prop) (h0:Pv 0 σ H) (hl:∀i σ H,i≤xs.length→Pv i σ H→SqT K H a xs)
  (hs:∀i x σ H,xs[i]?=some x→Pv i σ H→g x σ H fun σ2 H2=>tb {D with nx:=Pv (i+1),ct:=Pv (i+1),bk:=D.nx} σ2 H2) (hd:∀σ H,Pv xs.length σ H→D.nx σ H):
  ∃W:Nat→Nat→St→Hp→Prop,(∃m,W 0 m σ H)∧∀i m σ H,W i m σ H→
   ((Itt K a).stop i H∧D.nx σ H)∨((Itt K a).go i H∧∃N:St→Hp→Prop,(∀σ' H',N σ' H'→∃m',m' < m∧W (i+1) m' σ' H')∧∀x H',(Itt K a).yld i H x H'→g x σ H' fun σ2 H2=>tb {D with nx:=N,ct:=N,bk:=D.nx} σ2 H2):=by
 refine ⟨fun i m σ H=>m=xs.length - i∧i≤xs.length∧Pv i σ H,⟨xs.length,by simp,Nat.zero_le _,h0⟩,?_⟩
 rintro i m σ H ⟨rfl,hi,p⟩
 have q:=hl i σ H hi p
 by_cases hlt:i < xs.length
 ·refine .inr ⟨⟨xs,xs[i],q,by simp [hlt]⟩,Pv (i+1),fun σ' H' p'=>⟨xs.length - (i+1),by omega,rfl,hlt,p'⟩,fun x H' y=>?_⟩
  obtain ⟨e,y⟩:=y
  subst e
  exact hs i x σ _ (y xs q) p
 ·have e:i=xs.length:=by omega
  subst e
  exact .inl ⟨⟨xs,q,Nat.le_refl _⟩,hd σ H p⟩
theorem b0I {lo:Int} {n:Nat} {g:TG} {tb:TS} {D:a8I} {σ:St} {H:Hp} (Pv:Nat→St→Hp→Prop) (h0:Pv 0 σ H)
  (hs:∀i σ H,i < n→Pv i σ H→g (.int (lo+i)) σ H fun σ2 H2=>tb {D with nx:=Pv (i+1),ct:=Pv (i+1),bk:=D.nx} σ2 H2) (hd:∀σ H,Pv n σ H→D.nx σ H):
  ∃W:Nat→Nat→St→Hp→Prop,(∃m,W 0 m σ H)∧∀i m σ H,W i m σ H→
   ((Itr lo n).stop i H∧D.nx σ H)∨((Itr lo n).go i H∧∃N:St→Hp→Prop,(∀σ' H',N σ' H'→∃m',m' < m∧W (i+1) m' σ' H')∧∀x H',(Itr lo n).yld i H x H'→g x σ H' fun σ2 H2=>tb {D with nx:=N,ct:=N,bk:=D.nx} σ2 H2):=by
 refine ⟨fun i m σ H=>m=n - i∧i≤n∧Pv i σ H,⟨n,by simp,Nat.zero_le _,h0⟩,?_⟩
 rintro i m σ H ⟨rfl,hi,p⟩
 by_cases hlt:i < n
 ·refine .inr ⟨hlt,Pv (i+1),fun σ' H' p'=>⟨n - (i+1),by omega,rfl,hlt,p'⟩,fun x H' y=>?_⟩
  obtain ⟨e,y⟩:=y
  subst e y
  exact hs i σ _ hlt p
 ·have e:i=n:=by omega
  subst e
  exact .inl ⟨Nat.le_refl _,hd σ H p⟩
end L2
namespace L2
open PySem PySem.Spec PyProof.Rows
abbrev R2:=V→V→Hp→VK→Prop
def OpR (X:Cx) (f:Value→Value→Sem Value) (r:R2):Prop:=
 ∀(pins:List (Addr×Obj)) (s:Shared) (σ:St) (H:Hp) (x y:V) (v u:Value) (Q:VK),Inv X pins σ H s→a1R x v→a1R y u→r x y H Q→
  wpAny (model X.prog X.w) X.A (f v u) (EP X pins σ Q) X.xe s
def UnR (X:Cx) (f:Value→Sem Value) (r:V→Hp→VK→Prop):Prop:=
 ∀(pins:List (Addr×Obj)) (s:Shared) (σ:St) (H:Hp) (x:V) (v:Value) (Q:VK),Inv X pins σ H s→a1R x v→r x H Q→
  wpAny (model X.prog X.w) X.A (f v) (EP X pins σ Q) X.xe s
def a2w (X:Cx) (f:Value) (r:List V→Hp→VK→Prop):Prop:=
 ∀(pins:List (Addr×Obj)) (s:Shared) (σ:St) (H:Hp) (xs:List V) (us:List Value) (Q:VK),Inv X pins σ H s→a1f xs us→r xs H Q→
  wpAny (model X.prog X.w) X.A (call f us) (EP X pins σ Q) X.xe s
def tOp (r:R2) (ta tb:TE):TE:=fun σ H Q=>ta σ H fun x H1=>tb σ H1 fun y H2=>r x y H2 Q
def tUn (r:V→Hp→VK→Prop) (ta:TE):TE:=fun σ H Q=>ta σ H fun x H1=>r x H1 Q
def rI (C:Int→Int→Prop) (g:Int→Int→V):R2:=fun x y H Q=>∃i j,x=.int i∧y=.int j∧C i j∧Q (g i j) H
def rI0 (g:Int→Int→V):R2:=fun x y H Q=>∃i j,x=.int i∧y=.int j∧Q (g i j) H
def rU (g:Int→V):V→Hp→VK→Prop:=fun x H Q=>∃i,x=.int i∧Q (g i) H
section
variable {X:Cx} {a b c:Expr} {ta tb tc:TE} {pos:Pos}
theorem c2j (ha:PE X a ta) (hb:PE X b tb) {pins:List (Addr×Obj)} {s:Shared} {σ:St} {H:Hp} {R:V→V→Hp→Prop} (I:Inv X pins σ H s)
  (h:ta σ H fun x H1=>tb σ H1 fun y H2=>R x y H2) {Q:Value→Shared→Prop} {f:Value→Value→Sem Value}
  (hf:∀v u s2 x y H2,Inv X pins σ H2 s2→a1R x v→a1R y u→R x y H2→wpAny (model X.prog X.w) X.A (f v u) Q X.xe s2):
  wpAny (model X.prog X.w) X.A (eval a X.env) (fun v s₁=>wpAny (model X.prog X.w) X.A (eval b X.env) (fun u s₂=>wpAny (model X.prog X.w) X.A (f v u) Q X.xe s₂) X.xe s₁) X.xe s:=by
 refine thn (ha pins s σ H _ I h) fun v s1 ⟨x,H1,I1,r1,q1⟩=>?_
 refine thn (hb pins s1 σ H1 _ I1 q1) fun u s2 ⟨y,H2,I2,r2,q2⟩=>?_
 exact hf v u s2 x y H2 I2 r1 r2 q2
theorem a0B {op:Operator} {r:R2} (ho:OpR X (binaryOp op) r) (ha:PE X a ta) (hb:PE X b tb):PE X (.BinOp a op b pos) (tOp r ta tb):=by
 intro pins s σ H Q I h
 exact wpAny_BinOp (c2j ha hb I h fun v u s2 x y H2 I2 rx ry q=>ho pins s2 σ H2 x y v u Q I2 rx ry q)
theorem a4P {op:UnaryOp} {r:V→Hp→VK→Prop} (ho:UnR X (unaryOp op) r) (ha:PE X a ta):PE X (.UnaryOp op a pos) (tUn r ta):=by
 intro pins s σ H Q I h
 exact UnaryOp_ (thn (ha pins s σ H _ I h) fun v s1 ⟨x,H1,I1,r1,q1⟩=>ho pins s1 σ H1 x v Q I1 r1 q1)
theorem opI {f:Value→Value→Sem Value} {C:Int→Int→Prop} {g:Int→Int→Int}
  (rule:∀(i j:Int) (t u:Tok) (s:Shared) (Q:Value→Shared→Prop) (E:Value→Shared→Prop),C i j→Q (.int (g i j) s.toks) {s with toks:=s.toks+1}→wpAny (model X.prog X.w) X.A (f (.int i t) (.int j u)) Q E s):
  OpR X f (rI C fun i j=>.int (g i j)):=by
 intro pins s σ H x y v u Q I rx ry h
 obtain ⟨i,j,rfl,rfl,hc,q⟩:=h
 obtain ⟨t,rfl⟩:=rx
 obtain ⟨t',rfl⟩:=ry
 exact rule i j t t' s _ _ hc ⟨.int (g i j),H,I.tok _,⟨_,rfl⟩,q⟩
theorem c7m {f:Value→Value→Sem Value} {g:Int→Int→Int}
  (rule:∀(i j:Int) (t u:Tok) (s:Shared) (Q:Value→Shared→Prop) (E:Value→Shared→Prop),Q (.int (g i j) s.toks) {s with toks:=s.toks+1}→wpAny (model X.prog X.w) X.A (f (.int i t) (.int j u)) Q E s):
  OpR X f (rI0 fun i j=>.int (g i j)):=by
 intro pins s σ H x y v u Q I rx ry h
 obtain ⟨i,j,rfl,rfl,q⟩:=h
 obtain ⟨t,rfl⟩:=rx
 obtain ⟨t',rfl⟩:=ry
 exact rule i j t t' s _ _ ⟨.int (g i j),H,I.tok _,⟨_,rfl⟩,q⟩
theorem c1i {f:Value→Value→Sem Value} {g:Int→Int→Bool}
  (rule:∀(i j:Int) (t u:Tok) (s:Shared) (Q:Value→Shared→Prop) (E:Value→Shared→Prop),Q (.bool (g i j)) s→wpAny (model X.prog X.w) X.A (f (.int i t) (.int j u)) Q E s):
  OpR X f (rI0 fun i j=>.bl (g i j)):=by
 intro pins s σ H x y v u Q I rx ry h
 obtain ⟨i,j,rfl,rfl,q⟩:=h
 obtain ⟨t,rfl⟩:=rx
 obtain ⟨t',rfl⟩:=ry
 exact rule i j t t' s _ _ ⟨.bl (g i j),H,I,rfl,q⟩
def b5N (i j:Int):Prop:=0 < j∧j < 1073741824
def b4h (i j:Int):Prop:=(-(2 ^ 64) < i∧i < 2 ^ 64)∨(-(2 ^ 64) < j∧j < 2 ^ 64)
theorem b4h.ok {i j:Int} (h:b4h i j):IntMulOk i j:=by
 rcases h with ⟨h1,h2⟩ | ⟨h1,h2⟩
 ·exact .of_left (intBits_le_64 h1 h2)
 ·exact .of_right (intBits_le_64 h1 h2)
theorem b8N:OpR X (binaryOp .Add) (rI0 fun i j=>.int (i+j)):=c7m fun _ _ _ _ _ _ _ q=>add_int q
theorem b4g:OpR X (binaryOp .Sub) (rI0 fun i j=>.int (i - j)):=c7m fun _ _ _ _ _ _ _ q=>sub_int q
theorem a3Y:OpR X (binaryOp .Mult) (rI b4h fun i j=>.int (i * j)):=opI fun _ _ _ _ _ _ _ hc q=>mul_int q hc.ok
theorem a2K:OpR X (binaryOp .FloorDiv) (rI b5N fun i j=>.int (i / j)):=opI fun i j _ _ _ _ _ hc q=>by
 have h1:(0:Int) < j:=hc.1
 have h2:j < 1073741824:=hc.2
 exact floordiv_int (by omega) (by rw [Int.fdiv_eq_ediv_of_nonneg i (by omega)];exact q) (.inl (PyProof.noPylong_small (by omega)))
theorem a1A:OpR X (binaryOp .Mod) (rI (fun _ j=>0 < j) fun i j=>.int (i % j)):=opI fun i j _ _ _ _ _ hc q=>by
 have h1:(0:Int) < j:=hc
 exact mod_int' (by omega) (by rw [Int.fmod_eq_emod_of_nonneg i (by omega)];exact q)
theorem unI {f:Value→Sem Value} {g:Int→Int}
  (rule:∀(i:Int) (t:Tok) (s:Shared) (Q:Value→Shared→Prop) (E:Value→Shared→Prop),Q (.int (g i) s.toks) {s with toks:=s.toks+1}→wpAny (model X.prog X.w) X.A (f (.int i t)) Q E s):
  UnR X f (rU fun i=>.int (g i)):=by
 intro pins s σ H x v Q I rx h
 obtain ⟨i,rfl,q⟩:=h
 obtain ⟨t,rfl⟩:=rx
 exact rule i t s _ _ ⟨.int (g i),H,I.tok _,⟨_,rfl⟩,q⟩
theorem a2x:UnR X (unaryOp .USub) (rU fun i=>.int (-i)):=unI fun _ _ _ _ _ q=>neg_int q
end
def c4K:V→V→Bool
 | .non,.non=>true | .non,.int _=>true | .int _,.non=>true | .non,.bl _=>true | .bl _,.non=>true | .non,.str _=>true | .str _,.non=>true
 | .int _,.int _=>true | .bl _,.bl _=>true | .str _,.str _=>true | .byt _,.byt _=>true
 | .int _,.str _=>true | .str _,.int _=>true | .bl _,.str _=>true | .str _,.bl _=>true
 | _,_=>false
def rEq:R2:=fun x y H Q=>c4K x y=true∧Q (.bl (decide (x=y))) H
def rNe:R2:=fun x y H Q=>c4K x y=true∧Q (.bl (!decide (x=y))) H
theorem b0q {i j:Int}:decide (V.int i=V.int j)=(i == j):=by
 rw [Bool.eq_iff_iff]
 simp
theorem b3Q {i j:Bool}:decide (V.bl i=V.bl j)=(i == j):=by
 rw [Bool.eq_iff_iff]
 simp
theorem b1y {i j:Str}:decide (V.str i=V.str j)=(i == j):=by
 rw [Bool.eq_iff_iff]
 simp
theorem b1u {i j:Array UInt8}:decide (V.byt i=V.byt j)=(i.toList == j.toList):=by
 rw [Bool.eq_iff_iff]
 cases i
 cases j
 simp
section
variable {X:Cx} {a b c:Expr} {ta tb tc:TE} {pos:Pos}
theorem a0Q {pins:List (Addr×Obj)} {σ:St} {H:Hp} {s:Shared} {Q:VK} {k k':Bool} (I:Inv X pins σ H s) (q:Q (.bl k) H) (e:k=k'):EP X pins σ Q (.bool k') s:=by
 subst e
 exact ⟨.bl k,H,I,rfl,q⟩
theorem c1g:OpR X (compareOp .Eq) rEq:=by
 intro pins s σ H x y v u Q I rx ry h
 obtain ⟨hs,q⟩:=h
 cases x with
 | non=>
  cases rx
  cases y with
  | non=>cases ry;exact PySem.EqNone.eq_none_none (a0Q I q (by simp))
  | bl j=>cases ry;exact PySem.EqNone.eq_none_bool (a0Q I q (by simp))
  | int j=>obtain ⟨t',rfl⟩:=ry;exact PySem.EqNone.eq_none_int (a0Q I q (by simp))
  | str j=>obtain ⟨t',rfl⟩:=ry;exact PySem.EqNone.eq_none_str (a0Q I q (by simp))
  | _=>exact absurd (show false=true from hs) Bool.false_ne_true
 | bl i=>
  cases rx
  cases y with
  | non=>cases ry;exact PySem.EqNone.eq_bool_none (a0Q I q (by simp))
  | bl j=>cases ry;exact eq_bool (a0Q I q b3Q)
  | str j=>obtain ⟨t',rfl⟩:=ry;exact PySem.EqMixed.eq_bool_str (a0Q I q (by simp))
  | _=>exact absurd (show false=true from hs) Bool.false_ne_true
 | int i=>
  obtain ⟨t,rfl⟩:=rx
  cases y with
  | non=>cases ry;exact PySem.EqNone.eq_int_none (a0Q I q (by simp))
  | int j=>obtain ⟨t',rfl⟩:=ry;exact eq_int (a0Q I q b0q)
  | str j=>obtain ⟨t',rfl⟩:=ry;exact PySem.EqMixed.eq_int_str (a0Q I q (by simp))
  | _=>exact absurd (show false=true from hs) Bool.false_ne_true
 | str i=>
  obtain ⟨t,rfl⟩:=rx
  cases y with
  | non=>cases ry;exact PySem.EqNone.eq_str_none (a0Q I q (by simp))
  | bl j=>cases ry;exact PySem.EqMixed.eq_str_bool (a0Q I q (by simp))
  | int j=>obtain ⟨t',rfl⟩:=ry;exact PySem.EqMixed.eq_str_int (a0Q I q (by simp))
  | str j=>obtain ⟨t',rfl⟩:=ry;exact eq_str (a0Q I q b1y)
  | _=>exact absurd (show false=true from hs) Bool.false_ne_true
 | byt i=>
  obtain ⟨t,rfl⟩:=rx
  cases y with
  | byt j=>obtain ⟨t',rfl⟩:=ry;exact PySem.W.eq_bytes (a0Q I q b1u)
  | _=>exact absurd (show false=true from hs) Bool.false_ne_true
 | _=>cases y<;>exact absurd (show false=true from hs) Bool.false_ne_true
theorem c0D:OpR X (compareOp .NotEq) rNe:=by
 intro pins s σ H x y v u Q I rx ry h
 obtain ⟨hs,q⟩:=h
 cases x with
 | non=>
  cases rx
  cases y with
  | non=>cases ry;exact PySem.EqNone.ne_none_none (a0Q I q (by simp))
  | bl j=>cases ry;exact PySem.EqNone.ne_none_bool (a0Q I q (by simp))
  | int j=>obtain ⟨t',rfl⟩:=ry;exact PySem.EqNone.ne_none_int (a0Q I q (by simp))
  | str j=>obtain ⟨t',rfl⟩:=ry;exact PySem.EqNone.ne_none_str (a0Q I q (by simp))
  | _=>exact absurd (show false=true from hs) Bool.false_ne_true
 | bl i=>
  cases rx
  cases y with
  | non=>cases ry;exact PySem.EqNone.ne_bool_none (a0Q I q (by simp))
  | bl j=>cases ry;exact ne_bool (a0Q I q (congrArg not b3Q))
  | str j=>obtain ⟨t',rfl⟩:=ry;exact PySem.EqMixed.ne_bool_str (a0Q I q (by simp))
  | _=>exact absurd (show false=true from hs) Bool.false_ne_true
 | int i=>
  obtain ⟨t,rfl⟩:=rx
  cases y with
  | non=>cases ry;exact PySem.EqNone.ne_int_none (a0Q I q (by simp))
  | int j=>obtain ⟨t',rfl⟩:=ry;exact ne_int (a0Q I q (congrArg not b0q))
  | str j=>obtain ⟨t',rfl⟩:=ry;exact PySem.EqMixed.ne_int_str (a0Q I q (by simp))
  | _=>exact absurd (show false=true from hs) Bool.false_ne_true
 | str i=>
  obtain ⟨t,rfl⟩:=rx
  cases y with
  | non=>cases ry;exact PySem.EqNone.ne_str_none (a0Q I q (by simp))
  | bl j=>cases ry;exact PySem.EqMixed.ne_str_bool (a0Q I q (by simp))
  | int j=>obtain ⟨t',rfl⟩:=ry;exact PySem.EqMixed.ne_str_int (a0Q I q (by simp))
  | str j=>obtain ⟨t',rfl⟩:=ry;exact ne_str (a0Q I q (congrArg not b1y))
  | _=>exact absurd (show false=true from hs) Bool.false_ne_true
 | byt i=>
  obtain ⟨t,rfl⟩:=rx
  cases y with
  | byt j=>obtain ⟨t',rfl⟩:=ry;exact PySem.W.ne_bytes (a0Q I q (congrArg not b1u))
  | _=>exact absurd (show false=true from hs) Bool.false_ne_true
 | _=>cases y<;>exact absurd (show false=true from hs) Bool.false_ne_true
theorem c1x:OpR X (compareOp .Lt) (rI0 fun i j=>.bl (decide (i < j))):=c1i fun _ _ _ _ _ _ _ q=>lt_int q
theorem b6S:OpR X (compareOp .LtE) (rI0 fun i j=>.bl (decide (i≤j))):=c1i fun _ _ _ _ _ _ _ q=>le_int q
theorem a5d:OpR X (compareOp .Gt) (rI0 fun i j=>.bl (decide (j < i))):=c1i fun _ _ _ _ _ _ _ q=>gt_int q
theorem b0n:OpR X (compareOp .Lt) (fun x y H Q=>∃i j,x=.str i∧y=.str j∧Q (.bl (decide (i.cps.toList < j.cps.toList))) H):=by
 intro pins s σ H x y v u Q I rx ry h
 obtain ⟨i,j,rfl,rfl,q⟩:=h
 obtain ⟨t,rfl⟩:=rx
 obtain ⟨t',rfl⟩:=ry
 exact lt_str (a0Q I q rfl)
theorem b1w:OpR X (compareOp .In) (fun x y H Q=>∃i j,x=.str i∧y=.str j∧Q (.bl (!(Builtin.Str.occurrences j i 0 j.length 1).isEmpty)) H):=by
 intro pins s σ H x y v u Q I rx ry h
 obtain ⟨i,j,rfl,rfl,q⟩:=h
 obtain ⟨t,rfl⟩:=rx
 obtain ⟨t',rfl⟩:=ry
 exact in_str (a0Q I q rfl)
theorem b6W:OpR X (compareOp .Is) (fun x y H Q=>y=.non∧Q (.bl (decide (x=.non))) H):=by
 intro pins s σ H x y v u Q I rx ry h
 obtain ⟨rfl,q⟩:=h
 cases ry
 refine is_none_gen (a0Q I q ?_)
 cases x<;>first
  | (cases rx;rfl)
  | (obtain ⟨t,rfl⟩:=rx;rfl)
theorem a7q:OpR X (compareOp .NotIn) (fun x y H Q=>∃i j,x=.str i∧y=.str j∧Q (.bl (!(!(Builtin.Str.occurrences j i 0 j.length 1).isEmpty))) H):=by
 intro pins s σ H x y v u Q I rx ry h
 obtain ⟨i,j,rfl,rfl,q⟩:=h
 obtain ⟨t,rfl⟩:=rx
 obtain ⟨t',rfl⟩:=ry
 exact notIn_str (a0Q I q rfl)
theorem OpR.or {f:Value→Value→Sem Value} {r r':R2} (h:OpR X f r) (h':OpR X f r'):OpR X f (fun x y H Q=>r x y H Q∨r' x y H Q):=by
 intro pins s σ H x y v u Q I rx ry q
 rcases q with q | q
 ·exact h pins s σ H x y v u Q I rx ry q
 ·exact h' pins s σ H x y v u Q I rx ry q
theorem a0C (b:Expr) {op:CmpOp} (h:op≠.In:=by decide) (h2:op≠.NotIn:=by decide):behindInMarks op b=false:=by
 have e1:(op == CmpOp.In)=false:=by cases op<;>first | rfl | exact absurd rfl h
 have e2:(op == CmpOp.NotIn)=false:=by cases op<;>first | rfl | exact absurd rfl h2
 cases b<;>simp [behindInMarks,e1,e2]
theorem a2X {op:CmpOp} {r:R2} (ho:OpR X (compareOp op) r) (ha:PE X a ta) (hb:PE X b tb) (hm:behindInMarks op b=false):PE X (.Compare a [op] [b] pos) (tOp r ta tb):=by
 intro pins s σ H Q I h
 exact wpAny_Compare1 (c2j ha hb I h fun v u s2 x y H2 I2 rx ry q=>ho pins s2 σ H2 x y v u Q I2 rx ry q) hm
def a1c (t:TE):TT:=fun σ H Q=>t σ H fun x H'=>∃k,x=.bl k∧Q k H'
theorem a0s {op:CmpOp} {r:R2} (ho:OpR X (compareOp op) r) (ha:PE X a ta) (hb:PE X b tb) (hm:behindInMarks op b=false):PT X (.Compare a [op] [b] pos) (a1c (tOp r ta tb)):=by
 intro pins s σ H Q I h
 refine wpAny_isTrue_Compare1 (thn (ha pins s σ H _ I h) fun v s1 ⟨x,H1,I1,r1,q1⟩=>thn (hb pins s1 σ H1 _ I1 q1) fun u s2 ⟨y,H2,I2,r2,q2⟩=>
  thn (ho pins s2 σ H2 x y v u _ I2 r1 r2 q2) fun c s3 ⟨z,H3,I3,r3,k,e,q3⟩=>?_) hm
 subst e
 cases r3
 exact wpAny_truthy_bool ⟨H3,I3,q3⟩
def b3Z (r r':R2) (ta tb tc:TE):TE:=fun σ H Q=>ta σ H fun x H1=>tb σ H1 fun y H2=>r x y H2 fun z H3=>∃k,z=.bl k∧
 (if k=true then tc σ H3 fun w' H4=>r' y w' H4 Q else Q (.bl false) H3)
theorem b2F {op op':CmpOp} {r r':R2} (ho:OpR X (compareOp op) r) (ho':OpR X (compareOp op') r') (ha:PE X a ta) (hb:PE X b tb) (hc:PE X c tc)
  (hm:lastMarks [op,op'] [b,c]=false:=by with_unfolding_all rfl):PE X (.Compare a [op,op'] [b,c] pos) (b3Z r r' ta tb tc):=by
 intro pins s σ H Q I h
 refine Compare_chain (thn (ha pins s σ H _ I h) fun v s1 ⟨x,H1,I1,r1,q1⟩=>chain_link (thn (hb pins s1 σ H1 _ I1 q1) fun u s2 ⟨y,H2,I2,r2,q2⟩=>
  thn (ho pins s2 σ H2 x y v u _ I2 r1 r2 q2) fun d s3 ⟨z,H3,I3,r3,k,e,q3⟩=>?_)) hm
 subst e
 cases r3
 refine wpAny_truthy_bool ?_
 cases k with
 | false=>exact ite_ff ⟨.bl false,H3,I3,rfl,q3⟩
 | true=>exact ite_tt (chain_last (thn (hc pins s3 σ H3 _ I3 q3) fun w' s4 ⟨z',H4,I4,r4,q4⟩=>ho' pins s4 σ H4 y z' u w' Q I4 r2 r4 q4))
theorem a8L:(sizeLine:Nat) < 2 ^ 63:=by rw [sizeLine_eq];decide
theorem a9L:OpR X (binaryOp .Add) (fun x y H Q=>∃i j,x=.str i∧y=.str j∧i.length+j.length≤sizeLine∧Q (.str (i++j)) H):=by
 intro pins s σ H x y v u Q I rx ry h
 obtain ⟨i,j,rfl,rfl,hz,q⟩:=h
 obtain ⟨t,rfl⟩:=rx
 obtain ⟨t',rfl⟩:=ry
 exact add_str (fun t' tk=>⟨.str (i++j),H,I.tok _,⟨_,rfl⟩,q⟩) hz
theorem a5v {x:V} {us:List Value} (r:a1f [x] us):∃u,us=[u]∧a1R x u:=by
 cases r with
 | cons r1 r2=>cases r2;exact ⟨_,rfl,r1⟩
theorem b4z {x y:V} {us:List Value} (r:a1f [x,y] us):∃u w',us=[u,w']∧a1R x u∧a1R y w':=by
 cases r with
 | cons r1 r2=>
  cases r2 with
  | cons r3 r4=>cases r4;exact ⟨_,_,rfl,r1,r3⟩
def c3W (K:PySem.W.Frag) (x:V) (H:Hp) (n:Nat):Prop:=
 match x with
 | .str y=>y.length≤sizeLine∧n=y.length
 | .byt y=>y.size≤sizeLine∧n=y.size
 | .ref p=>(∃xs,SqL K H p xs∧n=xs.length)∨∃xs,SqT K H p xs∧n=xs.length
 | _=>False
theorem b2y:a2w X (.builtin "len") (fun xs H Q=>∃x n,xs=[x]∧c3W X.K x H n∧Q (.int n) H):=by
 intro pins s σ H xs us Q I r h
 obtain ⟨x,n,rfl,e,q⟩:=h
 obtain ⟨u,rfl,rx⟩:=a5v r
 have hl:=a8L
 have hs:sizeLine=16777216:=sizeLine_eq
 cases x with
 | str y=>
  obtain ⟨t,rfl⟩:=rx
  obtain ⟨hy,e'⟩:y.length≤sizeLine∧n=y.length:=e
  subst e'
  exact len_str (by omega) ⟨.int _,H,I.tok _,⟨_,rfl⟩,q⟩
 | byt y=>
  obtain ⟨t,rfl⟩:=rx
  obtain ⟨hy,e'⟩:y.size≤sizeLine∧n=y.size:=e
  subst e'
  exact PySem.W.len_bytes (by omega) ⟨.int _,H,I.tok _,⟨_,rfl⟩,q⟩
 | ref p=>
  cases rx
  have e':(∃xs,SqL X.K H p xs∧n=xs.length)∨∃xs,SqT X.K H p xs∧n=xs.length:=e
  rcases e' with ⟨xs,hx,e'⟩ | ⟨xs,hx,e'⟩
  ·subst e'
   obtain ⟨its,r',pl,hz⟩:=I.list hx
   have hlen:=r'.length
   exact Calls.call_len_list pl.isList (by simp only [List.size_toArray];omega) ⟨.int xs.length,H,I.tok _,⟨_,by simp only [List.size_toArray];rw [hlen]⟩,q⟩
  ·subst e'
   obtain ⟨its,r',pl,hz⟩:=I.tuple hx
   have hlen:=r'.length
   exact len_tuple pl (by simp only [List.size_toArray];omega) ⟨.int xs.length,H,I.tok _,⟨_,by simp only [List.size_toArray];rw [hlen]⟩,q⟩
 | _=>exact (show False from e).elim
end
end L2
namespace L2
open PySem PySem.Spec PyProof.Rows
structure b4Q (h:Heap) (x dx C:Addr) (mA:Str→Option Value):Prop where
 obj:h.get? x=some (PySem.W.instObj C dx)
 ns:h.Ns1 dx mA
 ne:dx≠x
theorem a8c {h:Heap} {dx:Addr} {mA:Str→Option Value} (n:h.Ns1 dx mA):∃od,h.get? dx=some od∧∀name,PySem.W.lookIn name od=some (mA name):=by
 obtain ⟨o,es,ep,ho,hd,hk,_,hm⟩:=n
 refine ⟨o,ho,fun name=>?_⟩
 have e:=hm name
 unfold nsFind findBy at e
 rw [←Array.find?_toList] at e
 unfold PySem.W.lookIn
 rw [hd]
 dsimp only
 split
 ·rename_i y q
  rw [q] at e
  exact congrArg some e
 ·rename_i q
  rw [q] at e
  have a:es.toList.any (·.refKey)=false:=by
   rw [List.any_eq_false]
   intro y hy
   obtain ⟨z,t,hkey⟩:=hk y (Array.mem_toList_iff.mp hy)
   simp [DictEntry.refKey,hkey]
  have a':¬es.toList.any (·.refKey)=true:=by rw [a];exact Bool.false_ne_true
  rw [if_neg a']
  exact congrArg some e
theorem b4Q.look {h:Heap} {x dx C:Addr} {mA:Str→Option Value} (I:b4Q h x dx C mA):∃od,PySem.W.InstAt h x (PySem.W.instObj C dx) C (some od)∧∀name,PySem.W.lookIn name od=some (mA name):=
 let ⟨od,ho,hl⟩:=a8c I.ns
 ⟨od,⟨I.obj,rfl,rfl,ho⟩,hl⟩
section
variable {prog:Program} {w:World} {A:Around} {E:Value→Shared→Prop} {s:Shared} {K:PySem.W.Frag} {x dx C f:Addr} {mA:Str→Option Value} {name:Str} {v:Value}
theorem b4Y {expr:Bool} {Q:Value→Shared→Prop} (X:K.In s.heap) (I:b4Q s.heap x dx C mA) (hg:PySem.W.plainGet K C name=true) (hh:PySem.W.hasDictIn K C=true)
  (ha:PySem.W.findIn K (.ref C) name=some none) (hv:mA name=some v) (hv':PySem.W.handedIn v=true) (h:Q v {s with toks:=s.toks+1}):
  wpAny (model prog w) A (getAttr (.ref x) name expr) Q E s:=by
 obtain ⟨od,J,hl⟩:=I.look
 exact PySem.W.get_value X J (PySem.W.plainGet_of hg).1 (PySem.W.findObj_own hh ha rfl (by rw [hl,hv])) hv' h
theorem b2l {pl:Sem Bool} {Q:Value×List Value→Shared→Prop} (X:K.In s.heap) (I:b4Q s.heap x dx C mA) (hg:PySem.W.plainGet K C name=true)
  (hf:PySem.W.findIn K (.ref C) name=some (some (.ref f))) (ht:PySem.W.isFn K (.ref f)=true) (hv:mA name=none) (h:Q (.ref f,[.ref x]) s):
  wpAny (model prog w) A (getMethod (.ref x) name pl) Q E s:=by
 obtain ⟨od,J,hl⟩:=I.look
 exact PySem.W.method_fn X J (PySem.W.plainGet_of hg).1 (PySem.W.plainGet_of hg).2 hf (beq_iff_eq.mp ht) (by show (PySem.W.lookIn name od).map (·.isSome)=some false;rw [hl,hv];rfl) h
theorem b5o {ns:List Str} {Q:Unit→Shared→Prop} (X:K.In s.heap) (I:b4Q s.heap x dx C mA)
  (hs:PySem.W.findIn K (.ref C) "__setattr__"=some (some (.builtin "object.__setattr__"))) (hp:PySem.W.plainOver K C=true) (ht:PySem.W.takerIn K C name=some none) (hh:PySem.W.hasDictIn K C=true)
  (hw:PySem.Within mA ns) (hsz:ns.length≤sizeLine)
  (h:∀h',b4Q h' x dx C (fun y=>if y=name then some v else mA y)→Heap.SameBut dx s.heap h'→Q () {s with heap:=h',toks:=s.toks+2}):
  wpAny (model prog w) A (setAttr (.ref x) name v) Q E s:=by
 obtain ⟨od,J,hl⟩:=I.look
 refine PySem.W.set_plain X J hs (PySem.W.osa_open (s:={s with toks:=s.toks+1}) (r:=none) X J hp ht fun b=>?_)
 obtain ⟨cd,hc,hd'⟩:=PySem.W.any_some hh
 have hx:s.heap.get? x=some ⟨.ref C,some dx,.plain,#[]⟩:=I.obj
 refine wpAny_bind (wpAny_pure (wpAny_bind (wpAny_bind (wpAny_loadPart hx (wpAny_bind (PySem.W.Looks.here (s:={s with toks:=s.toks+1}) (PySem.W.looks_clsIn X hc) ?_))))))
 rw [hd']
 refine wpAny_pure (a:=some dx) (wpAny_bind (wpAny_pure (wpAny_bind ?_)))
 refine wpAny_nsSet1 (s:={s with toks:=s.toks+1}) I.ns fun h' hn2 hs2=>?_
 obtain ⟨oD,esD,epD,hoD,hdD,hcD⟩:=hn2.count (PySem.Within.cons name v hw)
 refine wpAny_bind (wpAny_lookBehind hoD (by rw [hdD];exact pastItsLine_dict (Nat.le_trans hcD (by rw [List.length_cons];omega))) ?_)
 exact wpAny_pure (h _ ⟨(hs2.2 _ (Ne.symm I.ne)).trans I.obj,hn2,I.ne⟩ hs2)
theorem b2Y {R:Result→Shared→Prop} {vs:List Value} {kw:List (Str×Value)} (X:K.In s.heap) (hm:PySem.W.makesIn K C=true)
  (hi:PySem.W.findIn K (.ref C) "__init__"=some (some (.ref f))) (hf:PySem.W.typeIn K (.ref f)=some (.type "function"))
  (h:codeAny (model prog w) (A.under (.builtin "type.__call__" ⟨.ref C::vs,kw⟩)) (.call (.ref f) ⟨.ref (s.heap.objs.size+1)::vs,kw⟩) (PySem.W.InitBack (s.heap.objs.size+1) R)
   {s with heap:=(s.heap.push PySem.W.emptyDict).push (PySem.W.instObj C s.heap.objs.size)}):
  codeAny (model prog w) A (.call (.ref C) ⟨vs,kw⟩) R s:=by
 obtain ⟨hh,g,d,t,os⟩:=s
 exact PySem.W.make_core (PySem.W.makes_of X hm) (PySem.W.looks_findIn X hi) (fun self=>PySem.W.bind_fn X self hf) (.inl rfl) h
end
def a4t (f:Str) (v:V):List (Str×V)→List (Str×V)
 | []=>[(f,v)]
 | (g,x)::r=>if g=f then (g,v)::r else (g,x)::a4t f v r
theorem a0X (f g:Str) (v:V):∀fs:List (Str×V),(a4t f v fs).lookup g=if g=f then some v else fs.lookup g
 | []=>by
  show List.lookup g [(f,v)]=_
  by_cases h:g=f
  ·have hb:(g == f)=true:=beq_iff_eq.mpr h
   simp only [List.lookup,hb,if_pos h]
  ·have hb:(g == f)=false:=beq_eq_false_iff_ne.mpr h
   simp only [List.lookup,hb,if_neg h]
 | (k,x)::r=>by
  have ih:=a0X f g v r
  rw [show a4t f v ((k,x)::r)=(if k=f then (k,v)::r else (k,x)::a4t f v r) from rfl]
  by_cases hk:k=f
  ·rw [if_pos hk]
   by_cases h:g=k
   ·have hb:(g == k)=true:=beq_iff_eq.mpr h
    simp only [List.lookup,hb,if_pos (h.trans hk)]
   ·have hb:(g == k)=false:=beq_eq_false_iff_ne.mpr h
    simp only [List.lookup,hb,if_neg (fun e:g=f=>h (e.trans hk.symm))]
  ·rw [if_neg hk]
   by_cases h:g=k
   ·have hb:(g == k)=true:=beq_iff_eq.mpr h
    simp only [List.lookup,hb,if_neg (fun e:g=f=>hk (h.symm.trans e))]
   ·have hb:(g == k)=false:=beq_eq_false_iff_ne.mpr h
    simp only [List.lookup,hb]
    exact ih
theorem a5u (f:Str) (v:V):∀fs:List (Str×V),f∈(a4t f v fs).map (·.1)∧∀g,g∈fs.map (·.1)→g∈(a4t f v fs).map (·.1)
 | []=>⟨by simp [a4t],fun g h=>by simp at h⟩
 | (k,x)::r=>by
  obtain ⟨i1,i2⟩:=a5u f v r
  rw [show a4t f v ((k,x)::r)=(if k=f then (k,v)::r else (k,x)::a4t f v r) from rfl]
  by_cases hk:k=f
  ·rw [if_pos hk]
   subst hk
   exact ⟨by simp,fun g h=>by simpa using h⟩
  ·rw [if_neg hk]
   refine ⟨?_,fun g h=>?_⟩
   ·rw [List.map_cons]
    exact List.mem_cons_of_mem _ i1
   ·rw [List.map_cons] at h ⊢
    rcases List.mem_cons.mp h with e | e
    ·exact List.mem_cons.mpr (.inl e)
    ·exact List.mem_cons_of_mem _ (i2 g e)
theorem a5l (f:Str) (v:V):∀fs:List (Str×V),(a4t f v fs).length≤fs.length+1
 | []=>by simp [a4t]
 | (k,x)::r=>by
  have ih:=a5l f v r
  rw [show a4t f v ((k,x)::r)=(if k=f then (k,v)::r else (k,x)::a4t f v r) from rfl]
  by_cases hk:k=f
  ·rw [if_pos hk,List.length_cons,List.length_cons];omega
  ·rw [if_neg hk,List.length_cons,List.length_cons];omega
theorem a7a.some_of {v:V} {o:Option Value} (r:a7a (some v) o):∃u,o=some u∧a1R v u:=by
 cases o with
 | none=>exact (show False from r).elim
 | some u=>exact ⟨u,rfl,r⟩
theorem a7a.none_of {o:Option Value} (r:a7a none o):o=none:=by
 cases o with
 | none=>rfl
 | some u=>exact (show False from r).elim
theorem a7v {v:V} {u:Value} (r:a1R v u):PySem.W.handedIn u=true:=by
 cases v with
 | non=>cases (show u=Value.none from r);rfl
 | bl b=>cases (show u=Value.bool b from r);rfl
 | int i=>obtain ⟨t,e⟩:=(show ∃t,u=Value.int i t from r);cases e;rfl
 | str x=>obtain ⟨t,e⟩:=(show ∃t,u=Value.str x t from r);cases e;rfl
 | byt b=>obtain ⟨t,e⟩:=(show ∃t,u=Value.bytes b t from r);cases e;rfl
 | flt b=>obtain ⟨t,e⟩:=(show ∃t,u=Value.float b t from r);cases e;rfl
 | ref a=>cases (show u=Value.ref a from r);rfl
 | ty n=>cases (show u=Value.type n from r);rfl
section
variable {P:Program} {w:World} {H H':Hp} {h h':Heap} {a C dx:Addr} {fs fs':List (Str×V)}
theorem a6i (hok:HOk P w H h) (e:H a=some (.ins C dx fs)):∃mA,b4Q h a dx C mA∧(∀f,a7a (fs.lookup f) (mA f))∧PySem.Within mA (fs.map (·.1))∧fs.length≤1000∧H dx=some (.own a):=by
 obtain ⟨d,z,ne,ob,mA,n,r,q⟩:=(show a1O P w H h a (.ins C dx fs) from hok a _ e)
 exact ⟨mA,⟨ob,n,ne⟩,r,q,z,d⟩
end
structure Cls (K:PySem.W.Frag) (C:Addr):Prop where
 pg:PySem.W.plainGet K C Str.empty=true
 hd:PySem.W.hasDictIn K C=true
 po:PySem.W.plainOver K C=true
 sa:PySem.W.findIn K (.ref C) "__setattr__"=some (some (.builtin "object.__setattr__"))
theorem Cls.get {K:PySem.W.Frag} {C:Addr} (c:Cls K C) (f:Str):PySem.W.plainGet K C f=true:=c.pg
def a1a (K:PySem.W.Frag) (C:Addr) (f:Str):Prop:=PySem.W.findIn K (.ref C) f=some none
theorem a1a.taker {K:PySem.W.Frag} {C:Addr} {f:Str} (n:a1a K C f):PySem.W.takerIn K C f=some none:=by
 unfold PySem.W.takerIn
 rw [show PySem.W.findIn K (.ref C) f=some none from n]
 rfl
structure a9j (K:PySem.W.Frag) (C:Addr) (m:Str) (f:Addr):Prop where
 at_:PySem.W.findIn K (.ref C) m=some (some (.ref f))
 fn:PySem.W.isFn K (.ref f)=true
 kp:PySem.W.keepIn K (.ref f)=true
section
variable {X:Cx} {pins:List (Addr×Obj)} {σ:St} {H:Hp} {s:Shared} {a C dx:Addr} {fs:List (Str×V)} {f:Str} {v:V} {A:Around} {E:Value→Shared→Prop}
theorem a9W {b:Bool} {Q:Value→Shared→Prop} (I:Inv X pins σ H s) (e:H a=some (.ins C dx fs)) (c:Cls X.K C) (n:a1a X.K C f) (l:fs.lookup f=some v)
  (h:∀u s',Inv X pins σ H s'→a1R v u→Q u s'):wpAny (model X.prog X.w) A (getAttr (.ref a) f b) Q E s:=by
 obtain ⟨mA,O,r,_,_,_⟩:=a6i I.hok e
 obtain ⟨u,hu,ru⟩:=a7a.some_of (v:=v) (o:=mA f) (by rw [←l];exact r f)
 exact b4Y I.kIn O (c.get f) c.hd n hu (a7v ru) (h u _ (I.tok _) ru)
theorem a9G {m:Str} {g:Addr} {pl:Sem Bool} {Q:Value×List Value→Shared→Prop} (I:Inv X pins σ H s) (e:H a=some (.ins C dx fs)) (c:Cls X.K C) (k:a9j X.K C m g) (l:fs.lookup m=none)
  (h:Q (.ref g,[.ref a]) s):wpAny (model X.prog X.w) A (getMethod (.ref a) m pl) Q E s:=by
 obtain ⟨mA,O,r,_,_,_⟩:=a6i I.hok e
 have hn:mA m=none:=a7a.none_of (by rw [←l];exact r m)
 exact b2l I.kIn O (c.get m) k.at_ k.fn hn h
theorem b0c {y:V} {u:Value} {Q:Unit→Shared→Prop} (I:Inv X pins σ H s) (e:H a=some (.ins C dx fs)) (c:Cls X.K C) (n:a1a X.K C f) (hl:fs.length < 1000) (ry:a1R y u)
  (h:∀s',Inv X pins σ (upd H a (.ins C dx (a4t f y fs))) s'→Q () s'):wpAny (model X.prog X.w) A (setAttr (.ref a) f u) Q E s:=by
 obtain ⟨mA,O,r,wi,_,ho⟩:=a6i I.hok e
 have hz:(fs.map (·.1)).length≤sizeLine:=by rw [List.length_map,sizeLine_eq];omega
 refine b5o I.kIn O c.sa c.po n.taker c.hd wi hz fun h' O' sb=>h _ ?_
 have hd:∃o,h'.get? dx=some o:=let ⟨o,_,_,e',_⟩:=O'.ns;⟨o,e'⟩
 refine I.write (x:=a) (e:=dx) (by rw [e];exact True.intro) (.inr ho) (fun b q hb z=>(sb.2 b hb).trans z) hd ?_
 refine ⟨by rw [a0w O.ne];exact ho,?_,O.ne,O'.obj,_,O'.ns,fun g=>?_,fun g hg=>?_⟩
 ·have:=a5l f y fs;omega
 ·show a7a ((a4t f y fs).lookup g) (if g=f then some u else mA g)
  rw [a0X]
  by_cases q:g=f
  ·rw [if_pos q,if_pos q];exact ry
  ·rw [if_neg q,if_neg q];exact r g
 ·by_cases q:g=f
  ·rw [q];exact (a5u f y fs).1
  ·refine (a5u f y fs).2 g (wi g fun z=>hg ?_)
   show (if g=f then some u else mA g)=none
   rw [if_neg q];exact z
theorem Inv.made (I:Inv X pins σ H s):Inv X pins σ (upd (upd H s.heap.objs.size (.own (s.heap.objs.size+1))) (s.heap.objs.size+1) (.ins C s.heap.objs.size []))
  {s with heap:=(s.heap.push PySem.W.emptyDict).push (PySem.W.instObj C s.heap.objs.size)}:=by
 have e1:(s.heap.push PySem.W.emptyDict).get? s.heap.objs.size=some PySem.W.emptyDict:=Heap.get?_push_size s.heap rfl
 have e2:((s.heap.push PySem.W.emptyDict).push (PySem.W.instObj C s.heap.objs.size)).get? (s.heap.objs.size+1)=some (PySem.W.instObj C s.heap.objs.size):=by
  have:=Heap.get?_push_size (s.heap.push PySem.W.emptyDict) (o:=PySem.W.instObj C s.heap.objs.size) rfl
  rwa [Heap.size_push] at this
 have e3:(s.heap.push PySem.W.emptyDict).Ns s.heap.objs.size (fun _=>none):=⟨PySem.W.emptyDict,#[],_,e1,rfl,(fun e he=>absurd he (by simp)),fun _=>rfl⟩
 have I1:=I.laid (a:=s.heap.objs.size) (o:=.own (s.heap.objs.size+1)) (h':=s.heap.push PySem.W.emptyDict) (t':=s.toks) (fun b u q=>Heap.get?_push_of_some _ q) (Nat.le_refl _) ⟨_,e1⟩
 refine I1.laid (a:=s.heap.objs.size+1) (o:=.ins C s.heap.objs.size []) (t':=s.toks) (fun b u q=>Heap.get?_push_of_some _ q) (Nat.le_of_eq (Heap.size_push _ _)) ?_
 have ne:s.heap.objs.size≠s.heap.objs.size+1:=Nat.ne_of_lt (Nat.lt_succ_self _)
 refine ⟨by rw [a0w ne,a0v],Nat.zero_le _,ne,e2,fun _=>none,(Heap.Ns1.of_empty e3).at fun o q=>Heap.get?_push_of_some _ q,fun _=>True.intro,fun y hy=>absurd rfl hy⟩
theorem b0G {prog:Program} {w:World} {env:Env} {e:Expr} {f:Str} {pos:Pos} {s:Shared} {Q:Value→Shared→Prop} (hb:attributeBase e f env (eval e env)=eval e env)
  (h:wpAny (model prog w) A (eval e env) (fun o s₁=>wpAny (model prog w) A (getAttr o f true) Q E s₁) E s):wpAny (model prog w) A (eval (.Attribute e f pos) env) Q E s:=
 Attribute_any_ h (by rw [arm_eval_Attribute,hb])
end
def b3W (K:PySem.W.Frag) (ta:TE) (f:Str):TE:=fun σ H Q=>ta σ H fun x H1=>∃a C dx fs v,x=.ref a∧H1 a=some (.ins C dx fs)∧Cls K C∧a1a K C f∧fs.lookup f=some v∧Q v H1
def c5B (K:PySem.W.Frag) (ta tv:TE) (f:Str):TS:=fun D σ H=>tv σ H fun y H1=>ta σ H1 fun x H2=>∃a C dx fs,x=.ref a∧H2 a=some (.ins C dx fs)∧Cls K C∧a1a K C f∧fs.length < 1000∧
 D.nx σ (upd H2 a (.ins C dx (a4t f y fs)))
section
variable {X:Cx} {o e value:Expr} {f:Str} {pos pos' tpos:Pos} {ta tv:TE}
theorem a2R (he:PE X e ta) (hb:attributeBase e f X.env (eval e X.env)=eval e X.env):PE X (.Attribute e f pos) (b3W X.K ta f):=by
 intro pins s σ H Q I h
 refine b0G hb (thn (he pins s σ H _ I h) fun u s1 ⟨x,H1,I1,rx,a,C,dx,fs,v,ex,ea,c,n,l,q⟩=>?_)
 subst ex
 obtain rfl:u=Value.ref a:=rx
 exact a9W I1 ea c n l fun u' s2 I2 ru=>⟨v,H1,I2,ru,q⟩
theorem b1G (ha:PE X o ta) (hv:PE X value tv) (hs:swapsWith value (some (.Attribute o f pos')) pos.line X.env=pure false):PS X (.Assign [.Attribute o f pos'] value pos) (c5B X.K ta tv f):=by
 intro pins s σ H D I h
 refine plainObj_wpAny_Assign_Attribute (thn (hv pins s σ H _ I h) fun u s1 ⟨y,H1,I1,ry,q⟩=>thn (ha pins s1 σ H1 _ I1 q) fun ov s2 ⟨x,H2,I2,rx,a,C,dx,fs,ex,ea,c,n,l,q2⟩=>?_) hs
 subst ex
 obtain rfl:ov=Value.ref a:=rx
 exact b0c I2 ea c n l ry fun s3 I3=>⟨σ,_,I3,q2⟩
end
section
variable {X:Cx} {pins:List (Addr×Obj)} {σ:St} {H:Hp} {s:Shared} {A:Around} {E:Value→Shared→Prop} {Q:Value→Shared→Prop} {c:Value} {b:Bool}
inductive a7c (K:PySem.W.Frag) (H:Hp):V→Value→Prop where
 | non:a7c K H .non (.type "NoneType")
 | bl (x:Bool):a7c K H (.bl x) (.type "bool")
 | int (i:Int):a7c K H (.int i) (.type "int")
 | str (x:Str):a7c K H (.str x) (.type "str")
 | flt (x:UInt64):a7c K H (.flt x) (.type "float")
 | lst {a:Addr} {xs:List V} (e:H a=some (.lst xs)):a7c K H (.ref a) (.type "list")
 | frz {a:Addr} {o:Obj} {xs:List V} (e:H a=some (.frz o (.lst xs))):a7c K H (.ref a) (.type "list")
 | tup {a:Addr} {xs:List V} (e:H a=some (.tup xs)):a7c K H (.ref a) (.type "tuple")
 | dK {a:Addr} {kvs:List (Key×V)} (e:H a=some (.dK kvs)):a7c K H (.ref a) (.type "dict")
 | dT {a:Addr} {kvs:List (List Key×V)} (e:H a=some (.dT kvs)):a7c K H (.ref a) (.type "dict")
 | ins {a C dx:Addr} {fs:List (Str×V)} (e:H a=some (.ins C dx fs)) (cl:Cls K C) (ha:PySem.W.findIn K (.ref C) "__class__"=some (some (.builtin "object.__class__")))
   (hn:PySem.W.specialIn K (.builtin "object.__class__") "__get__"=some (some (.builtin "getset_descriptor.__get__"))) (htk:PySem.W.takesIn K (.builtin "object.__class__")=some true)
   (hm:PySem.W.mroIn K C (.type "object")=some true):a7c K H (.ref a) (.ref C)
theorem b1F {x:V} {u t:Value} (I:Inv X pins σ H s) (rx:a1R x u) (ty:a7c X.K H x t) (e:PySem.W.kitOne X.K t c=some b) (h:∀tk,Q (.bool b) {s with toks:=tk}):
  wpAny (model X.prog X.w) A (call (.builtin "isinstance") [u,c]) Q E s:=by
 cases ty with
 | non=>cases (show u=Value.none from rx);exact PySem.W.kia_one PySem.W.kitx_none I.kIn True.intro e (fun z=>nomatch z) h
 | bl y=>cases (show u=Value.bool y from rx);exact PySem.W.kia_one PySem.W.kitx_bool I.kIn True.intro e (fun z=>nomatch z) h
 | int i=>obtain ⟨t,q⟩:=(show ∃t,u=Value.int i t from rx);cases q;exact PySem.W.kia_one PySem.W.kitx_int I.kIn True.intro e (fun z=>nomatch z) h
 | str y=>obtain ⟨t,q⟩:=(show ∃t,u=Value.str y t from rx);cases q;exact PySem.W.kia_one PySem.W.kitx_str I.kIn True.intro e (fun z=>nomatch z) h
 | flt y=>obtain ⟨t,q⟩:=(show ∃t,u=Value.float y t from rx);cases q;exact PySem.W.kia_one PySem.W.kitx_float I.kIn True.intro e (fun z=>nomatch z) h
 | @lst a xs ea=>
  cases (show u=Value.ref a from rx)
  obtain ⟨_,_,n,_,h1⟩:=(show a1O X.prog X.w H s.heap a (.lst xs) from I.hok a _ ea)
  exact PySem.W.kia_one PySem.W.kitx_list I.kIn ⟨_,h1,rfl⟩ e (fun z=>nomatch z) h
 | @frz a ob xs ea=>
  cases (show u=Value.ref a from rx)
  obtain ⟨_,_,_,n,_,h1⟩:=(show a1O X.prog X.w H s.heap a (.frz ob (.lst xs)) from I.hok a _ ea)
  exact PySem.W.kia_one PySem.W.kitx_list I.kIn ⟨_,h1,rfl⟩ e (fun z=>nomatch z) h
 | @tup a xs ea=>
  cases (show u=Value.ref a from rx)
  obtain ⟨_,_,_,p⟩:=(show a1O X.prog X.w H s.heap a (.tup xs) from I.hok a _ ea)
  obtain ⟨o,h1,h2,_⟩:=p
  exact PySem.W.kia_one PySem.W.kitx_tuple I.kIn ⟨o,h1,h2⟩ e (fun z=>nomatch z) h
 | @dK a kvs ea=>
  cases (show u=Value.ref a from rx)
  obtain ⟨_,_,vs,_,p⟩:=(show a1O X.prog X.w H s.heap a (.dK kvs) from I.hok a _ ea)
  obtain ⟨o,es,ep,h1,h2,_⟩:=p
  exact PySem.W.kia_one PySem.W.kitx_dict I.kIn ⟨o,h1,h2.1⟩ e (fun z=>nomatch z) h
 | @dT a kvs ea=>
  cases (show u=Value.ref a from rx)
  obtain ⟨_,_,xs,_,o,es,ep,h1,h2,_⟩:=(show a1O X.prog X.w H s.heap a (.dT kvs) from I.hok a _ ea)
  exact PySem.W.kia_one PySem.W.kitx_dict I.kIn ⟨o,h1,h2.1⟩ e (fun z=>nomatch z) h
 | @ins a C dx fs ea cl ha hn htk hm=>
  cases (show u=Value.ref a from rx)
  obtain ⟨mA,O,_⟩:=a6i I.hok ea
  obtain ⟨od,J,_⟩:=O.look
  exact PySem.W.kia_one (PySem.W.kitx_own (cl.get _) cl.hd ha hn htk hm) I.kIn J e (fun z=>nomatch z) h
end
end L2
namespace L2
open PySem PySem.Spec PyProof.Rows
structure a2Z (k:Nat) (A:Around):Prop where
 hd:A.handled=none
 dp:A.depth+3 * k+5 < recursionLimit
 un:A.units+16 * k+200 < cLine
theorem a2Z.mono {j k:Nat} {A:Around} (r:a2Z k A) (h:j≤k):a2Z j A:=⟨r.hd,by have:=r.dp;omega,by have:=r.un;omega⟩
theorem a2Z.deeper {k:Nat} {A:Around} (r:a2Z (k+1) A) (env:Env):a2Z k (A.deeper env):=
 ⟨r.hd,by have:=r.dp;show A.depth+1+3 * k+5 < _;omega,by have:=r.un;show A.units+3+16 * k+200 < _;omega⟩
theorem a2Z.in1 {k:Nat} {A:Around} (r:a2Z (k+1) A):a2Z k A.in1:=
 ⟨r.hd,by have:=r.dp;show A.depth+3 * k+5 < _;omega,by have:=r.un;show A.units+1+16 * k+200 < _;omega⟩
theorem b0b {A:Around} {C:Addr} {us:List Value} {kw:List (Str×Value)}:(A.under (.builtin "type.__call__" ⟨.ref C::us,kw⟩)).depth=A.depth+1:=by
 first | rfl | simp [Around.under,Code.weight,Code.isCreation,Code.isGuard,Code.isCaller,Code.frames,Code.isFrame,guardIds]
theorem a9J {A:Around} {C:Addr} {us:List Value} {kw:List (Str×Value)}:(A.under (.builtin "type.__call__" ⟨.ref C::us,kw⟩)).units=A.units+1:=by
 first | rfl | simp [Around.under,Code.cUnits,Code.frames,Code.isFrame]
theorem a2Z.make {k:Nat} {A:Around} (r:a2Z (k+1) A) (C:Addr) (us:List Value) (kw:List (Str×Value)):a2Z k (A.under (.builtin "type.__call__" ⟨.ref C::us,kw⟩)):=
 ⟨r.hd,by have:=r.dp;rw [b0b];omega,by have:=r.un;rw [a9J];omega⟩
theorem a2Z.depth {k:Nat} {A:Around} (r:a2Z k A):A.depth < recursionLimit:=by have:=r.dp;omega
theorem a2Z.units {k:Nat} {A:Around} (r:a2Z k A):A.units+64 < cLine:=by have:=r.un;omega
def a0W:TA:=fun _ H Q=>Q [] H
def a0x (ta:TE) (tr:TA):TA:=fun σ H Q=>ta σ H fun x H1=>tr σ H1 fun xs H2=>Q (x::xs) H2
section
variable {X:Cx} {e:Expr} {es:List Expr} {te:TE} {t:TA} {pos:Pos}
theorem a0e:PA X [] a0W:=fun _ _ _ _ H Q I h=>Calls.spliced_nil ⟨[],H,I,.nil,h⟩
theorem a0b (ha:PE X e te) (hr:PA X es t) (hs:starEach (e::es) X.env=(false,eval e X.env)::starEach es X.env:=by rfl):PA X (e::es) (a0x te t):=by
 intro pos pins s σ H Q I h
 rw [hs]
 show wpAny _ _ (spliced ((false,eval e X.env)::backTo pos (starEach es X.env))) _ _ s
 refine Calls.spliced_cons (thn (ha pins s σ H _ I h) fun u s1 ⟨x,H1,I1,r1,q1⟩=>?_)
 exact thn (hr pos pins s1 σ H1 _ I1 q1) fun us s2 ⟨xs,H2,I2,r2,q2⟩=>⟨x::xs,H2,I2,.cons r1 r2,q2⟩
def b2n (t:TA):TE:=fun σ H Q=>t σ H fun xs H1=>xs.length≤sizeLine∧∀p,H1 p=none→Q (.ref p) (upd H1 p (.tup xs))
def a6Y (t:TA):TE:=fun σ H Q=>t σ H fun xs H1=>xs.length≤sizeLine∧∀p,H1 p=none→Q (.ref p) (upd H1 p (.lst xs))
theorem a5c {x1} (h:PA X es t):PE X (.Tuple es x1 pos) (b2n t):=by
 intro pins s σ H Q I hq
 refine wpAny_Tuple_spliced (thn (h pos pins s σ H _ I hq) fun us s1 ⟨xs,H1,I1,r,z,q⟩=>⟨by rw [←r.length];exact z,?_⟩)
 have hf:H1 s1.heap.objs.size=none:=I1.hok.fresh (Nat.le_refl _)
 refine ⟨.ref s1.heap.objs.size,upd H1 s1.heap.objs.size (.tup xs),I1.laid (t':=s1.toks) (fun b u e=>Heap.get?_push_of_some _ e) (Nat.le_refl _) ?_,rfl,q _ hf⟩
 exact ⟨z,us,r,⟨_,Heap.get?_push_size _ rfl,rfl,_,rfl⟩⟩
theorem a1z (h:PA X es t):PE X (.List es pos) (a6Y t):=by
 intro pins s σ H Q I hq
 refine wpAny_List_spliced (thn (h pos pins s σ H _ I hq) fun us s1 ⟨xs,H1,I1,r,z,q⟩=>⟨by rw [←r.length];exact z,?_⟩)
 have hf:H1 s1.heap.objs.size=none:=I1.hok.fresh (Nat.le_refl _)
 refine ⟨.ref s1.heap.objs.size,upd H1 s1.heap.objs.size (.lst xs),I1.laid (t':=s1.toks) (fun b u e=>Heap.get?_push_of_some _ e) (Nat.le_refl _) ?_,rfl,q _ hf⟩
 exact ⟨z,us,0,r,Heap.get?_push_size _ rfl⟩
end
abbrev Sp:=List V→Hp→VK→XK→Prop
abbrev CXT:=List Env→Hp→Shared→XK→Value→Shared→Prop
structure b2e (P:Program) (w:World) (K:PySem.W.Frag) (mg:Str→Option Value) (base:Heap) (A:Around) (outer:List Env) (s:Shared) (H:Hp):Prop where
 frames:A.frames=some outer
 mod:Mod K mg base
 bs:∀b o,base.get? b=some o→s.heap.get? b=some o∧H b=none
 bsz:base.objs.size≤s.heap.objs.size
 funs:s.heap.FunFrames base outer
 frf:∀b∈frs outer,H b=none
 hok:HOk P w H s.heap
 bare:AllBare s.gens
def CE (outer:List Env) (P:Program) (w:World) (H:Hp) (s:Shared) (Q:VK) (u:Value) (s':Shared):Prop:=
 ∃v H',s'.os=s.os∧AllBare s'.gens∧Un (frs outer) [] H H' s.heap s'.heap∧HOk P w H' s'.heap∧a1R v u∧Q v H'
def CR (CX:CXT) (outer:List Env) (P:Program) (w:World) (H:Hp) (s:Shared) (Q:VK) (E:XK) (r:Result) (s':Shared):Prop:=
 match r with
 | .ok (.ret u)=>CE outer P w H s Q u s'
 | .ok _=>False
 | .error e=>CX outer H s E e s'
structure a1y (P:Program) (w:World) (K:PySem.W.Frag) (mg:Str→Option Value) (base:Heap) (CX:CXT) (k:Nat) (f:Addr) (fd:FuncData) (ps:List Str) (sp:Sp):Prop where
 len:∀vs H Q E,sp vs H Q E→vs.length=ps.length
 run:∀(A:Around) (outer:List Env) (s:Shared) (H:Hp) (args:Args) (us:List Value) (vs:List V) (Q:VK) (E:XK),a2Z k A→b2e P w K mg base A outer s H→BindsTo s fd args (ps.zip us)→a1f vs us→sp vs H Q E→
  codeAny (model P w) A (.call (.ref f) args) (CR CX outer P w H s Q E) s
theorem a1y.mono {P:Program} {w:World} {K:PySem.W.Frag} {mg:Str→Option Value} {base:Heap} {CX:CXT} {j k:Nat} {f:Addr} {fd:FuncData} {ps:List Str} {sp:Sp} (F:a1y P w K mg base CX j f fd ps sp) (h:j≤k):
  a1y P w K mg base CX k f fd ps sp:=⟨F.len,fun A outer s H args us vs Q E hr=>F.run A outer s H args us vs Q E (hr.mono h)⟩
theorem a1y.imp {P:Program} {w:World} {K:PySem.W.Frag} {mg:Str→Option Value} {base:Heap} {CX:CXT} {k:Nat} {f:Addr} {fd:FuncData} {ps:List Str} {sp sp':Sp} (F:a1y P w K mg base CX k f fd ps sp)
  (h:∀vs H Q E,sp' vs H Q E→sp vs H Q E):a1y P w K mg base CX k f fd ps sp':=
 ⟨fun vs H Q E q=>F.len vs H Q E (h _ _ _ _ q),fun A outer s H args us vs Q E hr he hb hv hs=>F.run A outer s H args us vs Q E hr he hb hv (h _ _ _ _ hs)⟩
theorem b2e.make {P:Program} {w:World} {K:PySem.W.Frag} {mg:Str→Option Value} {base:Heap} {A:Around} {outer:List Env} {s:Shared} {H:Hp} (e:b2e P w K mg base A outer s H) (C:Addr) (us:List Value) (kw:List (Str×Value)):
  b2e P w K mg base (A.under (.builtin "type.__call__" ⟨.ref C::us,kw⟩)) outer s H:=⟨by first | exact e.frames | (simpa [Around.under,Code.envs,Code.isFrame,pushEnvs] using e.frames),e.mod,e.bs,e.bsz,e.funs,e.frf,e.hok,e.bare⟩
theorem b2e.in1 {P:Program} {w:World} {K:PySem.W.Frag} {mg:Str→Option Value} {base:Heap} {A:Around} {outer:List Env} {s:Shared} {H:Hp} (e:b2e P w K mg base A outer s H):
  b2e P w K mg base A.in1 outer s H:=⟨e.frames,e.mod,e.bs,e.bsz,e.funs,e.frf,e.hok,e.bare⟩
section
variable {X:Cx} {pins:List (Addr×Obj)} {σ:St} {H:Hp} {s s':Shared}
theorem Inv.env0 (I:Inv X pins σ H s):b2e X.prog X.w X.K X.mg X.base X.A X.stack s H:=
 ⟨I.ok.frames,I.ok.mod,I.bs,Nat.le_trans I.ok.bsz I.sz,I.stack,I.stkFree,I.hok,I.bare⟩
theorem Inv.after {Q:VK} {u:Value} (I:Inv X pins σ H s) (h:CE X.stack X.prog X.w H s Q u s'):EP X pins σ Q u s':=by
 obtain ⟨v,H',os,bare,un,hok,r,q⟩:=h
 obtain ⟨hh,g,d,t,os'⟩:=s'
 obtain rfl:os'=s.os:=os
 exact ⟨v,H',I.call (h':=hh) (g':=g) (d':=d) (t':=t) (ch:=[]) un hok bare (fun b z=>absurd z (by simp)),r,q⟩
end
def a0R (sp:Sp) (dvs:List V) (E:XK) (t:TA):TE:=fun σ H Q=>t σ H fun vs H1=>sp (vs++dvs) H1 Q E
def a6y (C:Addr) (m:Str) (sp:Sp) (dvs:List V) (E:XK) (ta:TE) (t:TA):TE:=fun σ H Q=>ta σ H fun x H1=>∃a dx fs,x=.ref a∧H1 a=some (.ins C dx fs)∧fs.lookup m=none∧
 t σ H1 fun vs H2=>sp (x::(vs++dvs)) H2 Q E
def b4R (C:Addr) (sp:Sp) (dvs:List V) (E:XK) (t:TA):TE:=fun σ H Q=>t σ H fun vs H1=>∀x dx,H1 x=none→H1 dx=none→dx≠x→
 sp (.ref x::(vs++dvs)) (upd (upd H1 dx (.own x)) x (.ins C dx [])) (fun v H2=>v=.non∧Q (.ref x) H2) E
def a0K (K:PySem.W.Frag) (fd:FuncData) (ps:List Str) (ds:List Value):Prop:=
 ∀(s:Shared) (us:List Value),K.In s.heap→(us++ds).length=ps.length→BindsTo s fd ⟨us,[]⟩ (ps.zip (us++ds))
theorem a0K.all {K:PySem.W.Frag} {fd:FuncData} {ps:List Str} (h:∀us:List Value,us.length=ps.length→bindArgs fd ⟨us,[]⟩=pure (ps.zip us)):a0K K fd ps []:=fun s us _ hl=>by
 rw [List.append_nil] at hl ⊢
 exact .of_eq (h us hl)
def a3j (CX:CXT) (X:Cx) (E:XK):Prop:=∀(pins:List (Addr×Obj)) (σ:St) (H:Hp) (s:Shared) (e:Value) (s':Shared),Inv X pins σ H s→CX X.stack H s E e s'→X.xe e s'
section
variable {X:Cx} {CX:CXT} {k:Nat} {f C:Addr} {fd:FuncData} {ps:List Str} {sp:Sp} {dvs:List V} {ds:List Value} {E:XK} {x m:Str} {p pos apos:Pos} {e o:Expr} {es:List Expr} {ta:TE} {t:TA}
theorem b0U {pins:List (Addr×Obj)} {σ:St} {H:Hp} {s:Shared} {Q:VK} {us:List Value} {vs:List V} (F:a1y X.prog X.w X.K X.mg X.base CX k f fd ps sp) (hr:a2Z k X.A) (hb:a0K X.K fd ps ds) (hd:a1f dvs ds) (hx:a3j CX X E)
  (I:Inv X pins σ H s) (r:a1f vs us) (h:sp (vs++dvs) H Q E):wpAny (model X.prog X.w) X.A (call (.ref f) us) (EP X pins σ Q) X.xe s:=by
 have r2:a1f (vs++dvs) (us++ds):=r.append hd
 have hl:(us++ds).length=ps.length:=by rw [←r2.length];exact F.len _ _ _ _ h
 refine wpAny_call (codeAny_mono (F.run X.A X.stack s H ⟨us,[]⟩ (us++ds) (vs++dvs) Q E hr I.env0 (hb s us I.kIn hl) r2 h) fun r s' hq=>?_)
 cases r with
 | error e=>exact hx pins σ H s e s' I hq
 | ok fl=>
  cases fl with
  | ret u=>exact I.after hq
  | next=>exact False.elim hq
  | brk=>exact False.elim hq
  | cont=>exact False.elim hq
theorem a0m (F:a1y X.prog X.w X.K X.mg X.base CX k f fd ps sp) (hr:a2Z k X.A) (hg:Gl X x) (hm:X.mg x=some (.ref f)) (hk:PySem.W.keepIn X.K (.ref f)=true) (hb:a0K X.K fd ps ds) (hd:a1f dvs ds) (hx:a3j CX X E)
  (ha:PA X (e::es) t) (hdb:(x == ("__debug__":Str))=false:=by decide) (he:starEach (e::es) X.env=(false,eval e X.env)::starEach es X.env:=by rfl) (hpl:(backTo pos (starEach es X.env)).any (·.1)=false:=by rfl):
  PE X (.Call (.Name x p) (e::es) [] pos) (a0R sp dvs E t):=by
 intro pins s σ H Q I h
 refine wpAny_Call_Name_kw (a3m I hg hm ?_ hdb)
 refine PySem.W.callWith_K (h₀:=X.base) I.ok.mod.kin hk (thn (ha pos pins s σ H _ I h) fun us s1 ⟨vs,H1,I1,r,q⟩=>⟨I1.kIn,?_⟩) he hpl
 exact b0U F hr hb hd hx I1 r q
theorem a1d {pl:Sem Bool} (he:PE X o ta) (c:Cls X.K C) (hm:a9j X.K C m f) (F:a1y X.prog X.w X.K X.mg X.base CX k f fd ps sp) (hr:a2Z k X.A) (hb:a0K X.K fd ps ds) (hd:a1f dvs ds) (hx:a3j CX X E)
  (ht:eval (.Call (.Attribute o m apos) [] [] pos) X.env=(do
   let ov ←eval o X.env
   standAt apos.atName
   let (f,first) ←holding [ov] (getMethod ov m pl)
   callWith pos f first (backTo pos (starEach [] X.env)) (backToKw pos (keywordEach [] X.env))):=by rfl):
  PE X (.Call (.Attribute o m apos) [] [] pos) (a6y C m sp dvs E ta a0W):=by
 intro pins s σ H Q I h
 refine PySem.W.methodCall_KW (pl:=pl) (thn (he pins s σ H _ I h) fun u s1 ⟨x,H1,I1,rx,a,dx,fs,ex,ea,l,q⟩=>?_) ht
 subst ex
 obtain rfl:u=Value.ref a:=rx
 refine a9G I1 ea c hm l ?_
 exact PySem.W.callWith_K0 (first:=[.ref a]) I1.kIn hm.kp (b0U (us:=[.ref a]) (vs:=[.ref a]) F hr hb hd hx I1 (.cons rfl .nil) q)
structure Mk (K:PySem.W.Frag) (C f:Addr):Prop where
 makes:PySem.W.makesIn K C=true
 init:PySem.W.findIn K (.ref C) "__init__"=some (some (.ref f))
 fn:PySem.W.isFn K (.ref f)=true
 kp:PySem.W.keepIn K (.ref C)=true
theorem b3o {pins:List (Addr×Obj)} {σ:St} {H:Hp} {s:Shared} {Q:VK} {us:List Value} {vs:List V} (M:Mk X.K C f) (F:a1y X.prog X.w X.K X.mg X.base CX k f fd ps sp) (hr:a2Z (k+1) X.A) (hb:a0K X.K fd ps ds) (hd:a1f dvs ds)
  (hx:a3j CX X E) (I:Inv X pins σ H s) (r:a1f vs us)
  (h:∀x dx,H x=none→H dx=none→dx≠x→sp (.ref x::(vs++dvs)) (upd (upd H dx (.own x)) x (.ins C dx [])) (fun v H2=>v=.non∧Q (.ref x) H2) E):
  wpAny (model X.prog X.w) X.A (call (.ref C) us) (EP X pins σ Q) X.xe s:=by
 have hq:=h (s.heap.objs.size+1) s.heap.objs.size (I.hok.fresh (Nat.le_succ _)) (I.hok.fresh (Nat.le_refl _)) (Nat.ne_of_lt (Nat.lt_succ_self _))
 have I2:=Inv.made (C:=C) I
 have r2:a1f (V.ref (s.heap.objs.size+1)::(vs++dvs)) (Value.ref (s.heap.objs.size+1)::(us++ds)):=.cons rfl (r.append hd)
 have hl:(Value.ref (s.heap.objs.size+1)::us++ds).length=ps.length:=by
  have e:=r2.length
  rw [F.len _ _ _ _ hq] at e
  exact e.symm
 refine wpAny_call (b2Y (f:=f) I.kIn M.makes M.init (beq_iff_eq.mp M.fn) (codeAny_mono (F.run _ X.stack _ _ ⟨Value.ref (s.heap.objs.size+1)::us,[]⟩ (Value.ref (s.heap.objs.size+1)::(us++ds)) _ _ E (hr.make C us [])
  (I2.env0.make C us []) (hb _ (Value.ref (s.heap.objs.size+1)::us) I2.kIn hl) r2 hq) fun r s' hq'=>?_))
 cases r with
 | error e=>exact hx pins σ _ _ e s' I2 hq'
 | ok fl=>
  cases fl with
  | ret u=>
   obtain ⟨v,H',I3,rv,ev,q3⟩:=I2.after hq'
   subst ev
   exact ⟨rv,⟨V.ref (s.heap.objs.size+1),H',I3,rfl,q3⟩⟩
  | next=>exact False.elim hq'
  | brk=>exact False.elim hq'
  | cont=>exact False.elim hq'
theorem a6g (M:Mk X.K C f) (F:a1y X.prog X.w X.K X.mg X.base CX k f fd ps sp) (hr:a2Z (k+1) X.A) (hg:Gl X x) (hm:X.mg x=some (.ref C)) (hb:a0K X.K fd ps ds) (hd:a1f dvs ds) (hx:a3j CX X E)
  (ha:PA X (e::es) t) (hdb:(x == ("__debug__":Str))=false:=by decide) (he:starEach (e::es) X.env=(false,eval e X.env)::starEach es X.env:=by rfl) (hpl:(backTo pos (starEach es X.env)).any (·.1)=false:=by rfl):
  PE X (.Call (.Name x p) (e::es) [] pos) (b4R C sp dvs E t):=by
 intro pins s σ H Q I h
 refine wpAny_Call_Name_kw (a3m I hg hm ?_ hdb)
 refine PySem.W.callWith_K (h₀:=X.base) I.ok.mod.kin M.kp (thn (ha pos pins s σ H _ I h) fun us s1 ⟨vs,H1,I1,r,q⟩=>⟨I1.kIn,?_⟩) he hpl
 exact b3o M F hr hb hd hx I1 r q
end
structure a0t (N P:List Str) (sc:Scope):Prop where
 kind:sc.kind=.function
 co:sc.isCoroutine=false
 gen:sc.isGenerator=false
 nd:N.Nodup
 pre:N.take P.length=P
 par:∀x∈P,sc.names.lookup x=some .local∨sc.names.lookup x=some .cell
 nofree:∀y∈sc.names,y.2≠.free
theorem a7G {kindOf:Str→Option NameKind} {x:Str}:∀{binds:List (Str×Value)} {m:Str→Option Value},(∀v,(x,v)∉binds)→bindL kindOf binds m x=m x
 | [],_,_=>rfl
 | (n,v)::r,m,h=>by
  unfold bindL
  rw [a7G fun w hw=>h w (List.mem_cons_of_mem _ hw)]
  split
  ·have:x≠n:=by rintro rfl;exact h v List.mem_cons_self
   simp [this]
  ·rfl
theorem a7R {kindOf:Str→Option NameKind} {x:Str}:∀{binds:List (Str×Value)} {m:Str→Option Value},(∀v,(x,v)∉binds)→bindC kindOf binds m x=m x
 | [],_,_=>rfl
 | (n,v)::r,m,h=>by
  unfold bindC
  rw [a7R fun w hw=>h w (List.mem_cons_of_mem _ hw)]
  split
  ·rfl
  ·have:x≠n:=by rintro rfl;exact h v List.mem_cons_self
   simp [this]
theorem a7z {kindOf:Str→Option NameKind} {x:Str} {v:Value}:∀{P:List Str} {vs:List Value} {i:Nat} {m:Str→Option Value},P.Nodup→P[i]?=some x→vs[i]?=some v→kindOf x=some .local→
  bindL kindOf (P.zip vs) m x=some v
 | [],_,_,_,_,h,_,_=>by simp at h
 | _::_,[],_,_,_,_,h,_=>by simp at h
 | p::P,w::vs,0,m,nd,h1,h2,hk=>by
  simp at h1 h2;subst h1;subst h2
  show bindL kindOf ((p,w)::P.zip vs) m p=_
  unfold bindL
  rw [a7G fun v hv=>(List.nodup_cons.mp nd).1 (List.of_mem_zip hv).1,if_pos hk]
  simp
 | p::P,w::vs,i+1,m,nd,h1,h2,hk=>by
  show bindL kindOf ((p,w)::P.zip vs) m x=_
  unfold bindL
  exact a7z (i:=i) (List.nodup_cons.mp nd).2 (by simpa using h1) (by simpa using h2) hk
theorem a7F {kindOf:Str→Option NameKind} {x:Str} {v:Value}:∀{P:List Str} {vs:List Value} {i:Nat} {m:Str→Option Value},P.Nodup→P[i]?=some x→vs[i]?=some v→kindOf x≠some .local→
  bindC kindOf (P.zip vs) m x=some v
 | [],_,_,_,_,h,_,_=>by simp at h
 | _::_,[],_,_,_,_,h,_=>by simp at h
 | p::P,w::vs,0,m,nd,h1,h2,hk=>by
  simp at h1 h2;subst h1;subst h2
  show bindC kindOf ((p,w)::P.zip vs) m p=_
  unfold bindC
  rw [a7R fun v hv=>(List.nodup_cons.mp nd).1 (List.of_mem_zip hv).1,if_neg hk]
  simp
 | p::P,w::vs,i+1,m,nd,h1,h2,hk=>by
  show bindC kindOf ((p,w)::P.zip vs) m x=_
  unfold bindC
  exact a7F (i:=i) (List.nodup_cons.mp nd).2 (by simpa using h1) (by simpa using h2) hk
def a0N (N:List Str) (vs:List V):St:=vs.map some++List.replicate (N.length - vs.length) none
def b1O (CX:CXT) (P:Program) (w:World) (K:PySem.W.Frag) (mg:Str→Option Value) (base:Heap) (N:List Str) (qual:Str) (scope:Scope) (f:Addr) (cd:Value) (A:Around) (outer:List Env) (s:Shared) (H:Hp) (E:XK):Cx where
 prog:=P
 w:=w
 K:=K
 mg:=mg
 base:=base
 A:=A.deeper (envOfC qual scope s.heap.objs.size f cd)
 N:=N
 s₀:=s
 H₀:=H
 env:=envOfC qual scope s.heap.objs.size f cd
 outer:=outer
 stack:=envOfC qual scope s.heap.objs.size f cd::outer
 ex:=[]
 calm:=true
 fn:=fun _=>true
 pn:=[]
 xe:=fun e s'=>wpAny (model P w) (A.deeper (envOfC qual scope s.heap.objs.size f cd)) (leaving (envOfC qual scope s.heap.objs.size f cd) e) (fun _ s''=>CX outer H s E e s'') (fun e' s''=>CX outer H s E e' s'') s'
theorem a9k {sc:Scope} {n:Nat} {x:Str} (h:sc.names.lookup x=some .cell):∃c,(cellsFrom n sc.names []).lookup x=some c:=by
 have q:=PySem.W.cellsFrom_some sc.names n [] (.inl h)
 exact Option.isSome_iff_exists.mp q
theorem b1v {CX:CXT} {P:Program} {w:World} {K:PySem.W.Frag} {mg:Str→Option Value} {base:Heap} {N ps:List Str} {qual:Str} {scope:Scope} {f:Addr} {cd:Value} {A:Around} {outer:List Env} {s s1:Shared} {H:Hp} {E:XK} {us:List Value} {vs:List V}
  (S:a0t N ps scope) (hd:A.handled=none) (e0:b2e P w K mg base A outer s H) (hl:vs.length=ps.length) (r:a1f vs us)
  (x:InCallC s s.heap.objs.size (bindL (envOfC qual scope s.heap.objs.size f cd).kindOf (ps.zip us) fun _=>none) (cellsFrom (s.heap.objs.size+1) scope.names []) (bindC (envOfC qual scope s.heap.objs.size f cd).kindOf (ps.zip us) fun _=>none) s1):
  Inv (b1O CX P w K mg base N qual scope f cd A outer s H E) [] (a0N N vs) H s1:=by
 have hpl:ps.length≤N.length:=by have:=congrArg List.length S.pre;rw [List.length_take] at this;omega
 obtain ⟨h1,tk,rfl,hk⟩:=x.done
 have noA:∀b:Addr,b∉(b1O CX P w K mg base N qual scope f cd A outer s H E).ex:=fun b z=>absurd (show b∈([]:List Addr) from z) (by simp)
 refine ⟨⟨e0.mod,S.kind,rfl,rfl,Nat.le_refl _,fun y z c h1 h2=>?_,fun y hy=>?_,fun y c _ h=>?_,fun _=>hd,Around.frames_deeper e0.frames,.inr ⟨rfl,rfl⟩,fun b z=>absurd z (noA b),e0.bs,e0.bsz,fun b _ _=>noA b,fun b z=>absurd z (noA b),e0.funs,e0.frf⟩,
  rfl,e0.bare,Un.kept hk,⟨_,x.toInCall.ns,fun i y v h1 h2 h3=>?_⟩,fun y c h=>⟨_,x.cell y c h⟩,e0.hok.fresh (Nat.le_refl _),fun y c h=>?_,fun p hp=>absurd (show p∈([]:List (Addr×Obj)) from hp) (by simp),e0.hok.kept hk,?_⟩
 ·exact name_of_addr x.apart (PySem.mem_of_lookup h1) (PySem.mem_of_lookup h2)
 ·have hy:scope.names.lookup y=some .cell∨scope.names.lookup y=some .free:=hy
  rcases hy with hy | hy
  ·exact a9k hy
  ·exact absurd rfl (S.nofree _ (PySem.mem_of_lookup hy))
 ·exact Nat.le_of_lt (x.above y c (PySem.mem_of_lookup h))
 ·have hi:i < vs.length:=by
   unfold a0N at h2
   by_cases hi:i < vs.length
   ·exact hi
   ·rw [List.getElem?_append_right (by simpa using hi)] at h2
    rw [List.getElem?_replicate] at h2
    split at h2<;>cases h2
  have ha:vs[i]?=some v:=by
   unfold a0N at h2
   rw [List.getElem?_append_left (by simpa using hi),List.getElem?_map] at h2
   cases e:vs[i]? with
   | none=>rw [e] at h2;cases h2
   | some a=>rw [e] at h2;cases h2;rfl
  obtain ⟨u,hu,rv⟩:=r.get ha
  have hp:ps[i]?=some y:=by
   rw [←S.pre,List.getElem?_take_of_lt (by omega)];exact h1
  have ndP:ps.Nodup:=by rw [←S.pre];exact S.nd.sublist (List.take_sublist _ _)
  refine ⟨u,rv,?_⟩
  rcases S.par y (List.mem_of_getElem? hp) with k | k
  ·exact .inl ⟨k,a7z ndP hp hu k⟩
  ·obtain ⟨c,e⟩:=a9k (n:=s.heap.objs.size+1) k
   refine .inr ⟨.inl k,c,e,?_⟩
   have q:=x.cell y c e
   rw [a7F ndP hp hu (by show scope.names.lookup y≠_;rw [k];decide)] at q
   exact q
 ·exact e0.hok.fresh (Nat.le_of_lt (x.above y c (PySem.mem_of_lookup h)))
 ·unfold a0N
  show _=N.length
  rw [List.length_append,List.length_map,List.length_replicate]
  omega
theorem b5a {CX:CXT} {P:Program} {w:World} {K:PySem.W.Frag} {mg:Str→Option Value} {base:Heap} {k:Nat} {f:Addr} {name qual:Str} {params:Arguments} {body:List Stmt} {scope:Scope} {dV kV doc pm cdv ct oc:Value} {an od:Option Addr}
  {osl:Array (Option Value)} {N ps:List Str} {sp:Sp} (lk:K.lookup f=some ⟨oc,od,.func (PySem.W.fnOf name qual params body scope dV kV doc pm an cdv ct),osl⟩) (hcd:PySem.W.codeIn K cdv qual=true) (S:a0t N ps scope)
  (len:∀vs H Q E,sp vs H Q E→vs.length=ps.length)
  (hbody:∀(A:Around) (outer:List Env) (s:Shared) (H:Hp) (vs:List V) (Q:VK) (E:XK),a2Z k (A.deeper (envOfC qual scope s.heap.objs.size f cdv))→sp vs H Q E→
   ∃t,PSs (b1O CX P w K mg base N qual scope f cdv A outer s H E) body t∧t {nx:=fun _ H'=>Q .non H',rt:=Q} (a0N N vs) H):
  a1y P w K mg base CX (k+1) f (PySem.W.fnOf name qual params body scope dV kV doc pm an cdv ct) ps sp:=by
 refine ⟨len,fun A outer s H args us vs Q E hr e0 hb r hsp=>?_⟩
 have hl:=len _ _ _ _ hsp
 have KX:K.In s.heap:=e0.mod.kin.keeps fun b o e=>(e0.bs b o e).1
 have lim:s.heap.NoLimit:=e0.mod.nolimit.keeps fun b o e=>(e0.bs b o e).1
 have hkind:∀y∈ps.zip us,scope.names.lookup y.1=some .local∨(scope.names.lookup y.1=some .cell∧((cellsFrom (s.heap.objs.size+1) scope.names []).lookup y.1).isSome=true):=fun ⟨n,v⟩ hy=>by
  rcases S.par n (List.of_mem_zip hy).1 with q | q
  ·exact .inl q
  ·exact .inr ⟨q,PySem.W.cellsFrom_some _ _ _ (.inl q)⟩
 refine codeAny_call_function hr.depth (KX _ _ lk) rfl S.co S.gen rfl (PySem.W.codeRec_of KX hcd) (hb _ _ _ _ ?_)
 refine wpAny_newFunctionEnv_cells S.kind hkind fun env he s1 x=>?_
 subst he
 refine ⟨lim.keeps x.toInCall.keep,codeAny_func ?_⟩
 obtain ⟨t,ht,hq⟩:=hbody A outer s H vs Q E (hr.deeper _) hsp
 have I:Inv (b1O CX P w K mg base N qual scope f cdv A outer s H E) [] (a0N N vs) H s1:=b1v S hr.hd e0 hl r x
 refine wpAny_mono (ht [] s1 (a0N N vs) H _ I hq) (fun fl s' hs=>?_) fun e s' hs=>hs
 have fin:∀{σ':St} {H':Hp} {v:V} {u:Value},Inv (b1O CX P w K mg base N qual scope f cdv A outer s H E) [] σ' H' s'→a1R v u→Q v H'→CE outer P w H s Q u s':=
  fun {σ' H' v u} J rv q=>⟨v,H',J.os,J.bare,J.base,J.hok,rv,q⟩
 cases fl with
 | ret u=>
  obtain ⟨v,σ',H',J,rv,q⟩:=hs
  exact fin J rv q
 | next=>
  obtain ⟨σ',H',J,q⟩:=hs
  exact fin (v:=V.non) (u:=Value.none) J rfl q
 | brk=>
  obtain ⟨_,_,_,q⟩:=hs
  exact False.elim q
 | cont=>
  obtain ⟨_,_,_,q⟩:=hs
  exact False.elim q
end L2
namespace L2
open PySem PySem.Spec PyProof.Rows
section
variable {X:Cx} {x:Str} {p pos:Pos} {e:Expr} {es:List Expr} {t:TA} {id T:String} {r:List V→Hp→VK→Prop}
def tCB (r:List V→Hp→VK→Prop) (t:TA):TE:=fun σ H Q=>t σ H fun vs H1=>r vs H1 Q
theorem a0r (hc:a2w X (.builtin id) r) (hg:Gl X x) (hm:X.mg x=none) (hv:bootBuiltins x=some (.builtin id)) (ha:PA X (e::es) t) (hn:x≠"__name__":=by decide) (hdb:(x == ("__debug__":Str))=false:=by decide)
  (he:starEach (e::es) X.env=(false,eval e X.env)::starEach es X.env:=by rfl) (hpl:(backTo pos (starEach es X.env)).any (·.1)=false:=by rfl):PE X (.Call (.Name x p) (e::es) [] pos) (tCB r t):=by
 intro pins s σ H Q I h
 refine wpAny_Call_Name_kw (a7Z I hg hm hv ?_ hn hdb)
 exact PyProof.Rows.callWith_builtin1 (thn (ha pos pins s σ H _ I h) fun us s1 ⟨vs,H1,I1,r1,q1⟩=>hc pins s1 σ H1 vs us Q I1 r1 q1) he hpl
theorem a5A (hc:a2w X (.type T) r) (hg:Gl X x) (hm:X.mg x=none) (hv:bootBuiltins x=some (.type T)) (ha:PA X (e::es) t) (hn:x≠"__name__":=by decide) (hdb:(x == ("__debug__":Str))=false:=by decide)
  (he:starEach (e::es) X.env=(false,eval e X.env)::starEach es X.env:=by rfl) (hpl:(backTo pos (starEach es X.env)).any (·.1)=false:=by rfl):PE X (.Call (.Name x p) (e::es) [] pos) (tCB r t):=by
 intro pins s σ H Q I h
 refine wpAny_Call_Name_kw (a7Z I hg hm hv ?_ hn hdb)
 exact PyProof.Rows.callWith_type1 (thn (ha pos pins s σ H _ I h) fun us s1 ⟨vs,H1,I1,r1,q1⟩=>hc pins s1 σ H1 vs us Q I1 r1 q1) he hpl
end
end L2
namespace HT
open PySem PyProof.Rows
section
variable {prog:Program} {w:World} {A:Around} {E:Value→Shared→Prop} {s:Shared}
theorem cat_tup {t b:Addr} {vs ws:List Value} {Q:Value→Shared→Prop} (ht:IsTup s.heap t vs.toArray) (hb:IsTup s.heap b ws.toArray) (hv:vs≠[])
  (h1:ws=[]→Q (.ref t) s) (h2:ws≠[]→Q (.ref s.heap.objs.size) {s with heap:=s.heap.push {cls:=.type "tuple",data:=.seq (vs++ws).toArray}})
  (hsz:vs.length+ws.length≤sizeLine):wpAny (model prog w) A (binaryOp .Add (.ref t) (.ref b)) Q E s:=by
 obtain ⟨⟨cls,dd,data,sl⟩,ho,hc,n,hd⟩:=id ht
 obtain ⟨⟨cls2,dd2,data2,sl2⟩,ho2,hc2,n2,hd2⟩:=id hb
 simp only at hc hd hc2 hd2
 subst hc hd hc2 hd2
 have e:vs.toArray++ws.toArray=(vs++ws).toArray:=by simp
 by_cases hw:ws=[]
 ·exact concat_meets ⟨_,ho,rfl⟩ ⟨_,ho2,rfl⟩ noFill_tuple_add seq_tuple_add PySem.F.slot_tuple_add PySem.F.entry_tuple_add (PySem.F.args_tuple_add_2 _ _)
   (tuple_addW1 t b vs.toArray ws.toArray n n2 dd dd2 sl sl2 (by simpa using hv) (by simp [hw])) ⟨ho,ho2,h1 hw⟩
 ·refine concat_meets ⟨_,ho,rfl⟩ ⟨_,ho2,rfl⟩ noFill_tuple_add seq_tuple_add PySem.F.slot_tuple_add PySem.F.entry_tuple_add (PySem.F.args_tuple_add_2 _ _)
   (tuple_addW2 t b vs.toArray ws.toArray n n2 dd dd2 sl sl2 (by simpa using hv) (by simpa using hw) (by rw [List.size_toArray,List.size_toArray];exact hsz)) ⟨ho,ho2,?_⟩
  rw [e]
  exact h2 hw
def sIx (n d:Nat):Option Int→Nat
 | none=>d
 | some v=>if v < 0 then (v+(n:Int)).toNat else min v.toNat n
theorem b8O (n d:Nat) (hd:d≤n) (o:Option Int):sIx n d o≤n:=by
 cases o with
 | none=>exact hd
 | some v=>
  show (if v < 0 then (v+(n:Int)).toNat else min v.toNat n)≤n
  by_cases hv:v < 0
  ·rw [if_pos hv];omega
  ·rw [if_neg hv];exact Nat.min_le_right _ _
theorem b1s (v:Int) (n d:Nat):(if v < 0 then max (v+(n:Int)) 0 else min v (n:Int))=((sIx n d (some v):Nat):Int):=by
 show (if v < 0 then max (v+(n:Int)) 0 else min v (n:Int))=(((if v < 0 then (v+(n:Int)).toNat else min v.toNat n):Nat):Int)
 by_cases hv:v < 0
 ·simp only [if_pos hv];omega
 ·simp only [if_neg hv];omega
theorem a9S (lo hi:Option Int) (n:Nat):Builtin.Slice.sliceAdjust lo hi 1 (n:Int)=(((sIx n 0 lo:Nat):Int),((sIx n n hi:Nat):Int)):=by
 have h1:¬((1:Int) < 0):=by omega
 unfold Builtin.Slice.sliceAdjust
 simp only [h1,if_false]
 refine Prod.ext ?_ ?_
 ·cases lo with
  | none=>rfl
  | some v=>exact b1s v n 0
 ·cases hi with
  | none=>rfl
  | some v=>exact b1s v n n
theorem a9T (i j:Nat):Builtin.Slice.slicePlaces (i:Int) (j:Int) 1=j - i:=by
 unfold Builtin.Slice.slicePlaces
 have h1:(1:Int) > 0:=by omega
 simp only [h1,if_true,Int.ediv_one]
 split<;>omega
theorem a5Y {v:Value} {o:Option Int} {Q:Option Int→Shared→Prop} (p:IsPart v o) (h:Q o s):wpAny (model prog w) A (Builtin.Slice.slicePartIndex v) Q E s:=by
 cases p with
 | none=>exact slicePart_none h
 | int i t=>exact slicePart_int h
theorem a5h {sl:Addr} {vl vu:Value} {lo hi:Option Int} {n:Nat} {Q:Int×Int×Nat→Shared→Prop} (hs:s.heap.IsSliceOf sl vl vu .none) (pl:IsPart vl lo) (pu:IsPart vu hi)
  (h:Q (((sIx n 0 lo:Nat):Int),1,sIx n n hi - sIx n 0 lo) s):wpAny (model prog w) A (Builtin.Slice.sliceApplied (.ref sl) (pure (n:Int))) Q E s:=by
 obtain ⟨os,hos,hcs,hds⟩:=id hs
 unfold Builtin.Slice.sliceApplied Builtin.Slice.sliceFields
 refine wpAny_bind (wpAny_bind (wpAny_field hos hds (x:=vl) rfl (wpAny_bind (wpAny_field hos hds (x:=vu) rfl (wpAny_bind (wpAny_field hos hds (x:=.none) rfl (wpAny_pure ?_)))))))
 refine wpAny_bind (slicePart_none ?_)
 show wpAny _ _ (if ((1:Int) == 0)=true then _ else _) _ _ s
 rw [if_neg (by decide)]
 refine wpAny_bind (a5Y pl (wpAny_bind (a5Y pu (wpAny_bind (wpAny_pure ?_)))))
 show wpAny _ _ (match Builtin.Slice.sliceAdjust lo hi 1 (n:Int) with | (lo,hi)=>pure (lo,(1:Int),Builtin.Slice.slicePlaces lo hi 1)) _ _ s
 rw [a9S lo hi n]
 show wpAny _ _ (pure (((sIx n 0 lo:Nat):Int),(1:Int),Builtin.Slice.slicePlaces ((sIx n 0 lo:Nat):Int) ((sIx n n hi:Nat):Int) 1)) _ _ s
 rw [a9T]
 exact wpAny_pure h
theorem b3d (xs:Array Value) (i k:Nat):((List.range k).filterMap fun (m:Nat)=>xs[((i:Int)+(m:Int) * 1).toNat]?).toArray=((xs.toList.drop i).take k).toArray:=by
 have e:(fun (m:Nat)=>xs[((i:Int)+(m:Int) * 1).toNat]?)=fun m=>xs[i+m]?:=by
  funext m
  have:((i:Int)+(m:Int) * 1).toNat=i+m:=by omega
  rw [this]
 rw [e]
 have:=pick_run xs i k
 rw [List.filterMap_map] at this
 have e2:((fun x=>xs[x]?)∘fun x=>i+x)=fun m=>xs[i+m]?:=rfl
 rw [e2] at this
 rw [this]
theorem getItem_tuple_cut {t sl:Addr} {items:Array Value} {vl vu:Value} {lo hi:Option Int} {Q:Value→Shared→Prop} (ht:IsTup s.heap t items) (hs:s.heap.IsSliceOf sl vl vu .none) (pl:IsPart vl lo) (pu:IsPart vu hi)
  (hw:¬(sIx items.size 0 lo=0∧sIx items.size items.size hi=items.size))
  (h:Q (.ref s.heap.objs.size) {s with heap:=s.heap.push {cls:=.type "tuple",data:=.seq ((items.toList.drop (sIx items.size 0 lo)).take (sIx items.size items.size hi - sIx items.size 0 lo)).toArray}})
  (hsz:items.size≤sizeLine):wpAny (model prog w) A (getItem (.ref t) (.ref sl)) Q E s:=by
 have htake:sizeOk (.seq ((items.toList.drop (sIx items.size 0 lo)).take (sIx items.size items.size hi - sIx items.size 0 lo)).toArray):=by
  show ((items.toList.drop (sIx items.size 0 lo)).take (sIx items.size items.size hi - sIx items.size 0 lo)).toArray.size≤sizeLine
  rw [List.size_toArray,List.length_take,List.length_drop,Array.length_toList]
  omega
 have hj:sIx items.size items.size hi≤items.size:=b8O _ _ (Nat.le_refl _) hi
 obtain ⟨os,hos,hcs,hds⟩:=id hs
 have hTs:s.TypeIs (.ref sl) "slice":=⟨os,hos,hcs⟩
 unfold getItem
 try with_reducible refine wpAny_holding ?_
 first | refine wpAny_bind (wpAny_pure ?_) | skip
 refine wpAny_bind (wpAny_sequenceKey ht.typeIs (by decide) ?_)
 refine wpAny_bind (wpAny_callSpecial?_slot (name:=Str.ofString "__getitem__") ht.typeIs PyProof.Rows.slot_tuple_getitem
  (wpAny_call_entry PyProof.Rows.slot_tuple_getitem ht.typeIs entry_tuple_getitem ?_ (args_tuple_getitem _ _)))
 show wpAny _ _ (Builtin.Tuple.tupleItemsOf (.ref t) >>= _) _ _ s
 refine wpAny_bind (tupleItemsOf_ ht ?_)
 refine wpAny_bind (wpAny_typeOf hTs ?_)
 rw [if_pos (by decide)]
 refine wpAny_bind (a5h hs pl pu ?_)
 have hno:¬((((sIx items.size 0 lo:Nat):Int) == 0 && (1:Int) == 1 && (sIx items.size items.size hi - sIx items.size 0 lo) == items.size)=true):=by
  intro q
  rw [Bool.and_eq_true,Bool.and_eq_true] at q
  have q1:((sIx items.size 0 lo:Nat):Int)=0:=eq_of_beq q.1.1
  have q2:sIx items.size items.size hi - sIx items.size 0 lo=items.size:=eq_of_beq q.2
  exact hw ⟨by omega,by omega⟩
 show wpAny _ _ (if (((sIx items.size 0 lo:Nat):Int) == 0 && (1:Int) == 1 && (sIx items.size items.size hi - sIx items.size 0 lo) == items.size)=true then _ else _) _ _ s
 rw [if_neg hno,b3d]
 first
  | exact wpAny_bind (m:=Builtin.Tuple.tupleExact _) (wpAny_newObj_type (wpAny_pure ⟨_,rfl,wpAny_pure h⟩) htake)
  | exact wpAny_bind (m:=Builtin.Tuple.tupleExact _) (wpAny_newObj_type (wpAny_bind (wpAny_pure (wpAny_pure ⟨_,rfl,wpAny_pure h⟩))) htake)
  | exact wpAny_bind (wpAny_bind (m:=Builtin.Tuple.tupleExact _) (wpAny_newObj_type (wpAny_pure (wpAny_pure ⟨_,rfl,wpAny_pure h⟩)) htake))
  | exact wpAny_bind (wpAny_bind (m:=Builtin.Tuple.tupleExact _) (wpAny_newObj_type (wpAny_pure ⟨_,rfl,wpAny_pure h⟩) htake))
end
end HT
namespace L2
open PySem PySem.Spec PyProof.Rows
abbrev TO:=St→Hp→(Option Int→Hp→Prop)→Prop
def PO (X:Cx) (e:Option Expr) (t:TO):Prop:=
 ∀(pins:List (Addr×Obj)) (s:Shared) (σ:St) (H:Hp) (Q:Option Int→Hp→Prop),Inv X pins σ H s→t σ H Q→
  wpAny (model X.prog X.w) X.A (evalPart e X.env) (fun u s'=>∃o H',Inv X pins σ H' s'∧IsPart u o∧Q o H') X.xe s
def a1N:TO:=fun _ H Q=>Q none H
def a3g (t:TE):TO:=fun σ H Q=>t σ H fun x H1=>∃i,x=.int i∧Q (some i) H1
section
variable {X:Cx} {e:Expr} {te:TE} {lo hi:Option Expr} {tl th:TO} {pos p2:Pos}
theorem a1k:PO X none a1N:=by
 intro pins s σ H Q I h
 rw [evalPart_none]
 exact wpAny_pure ⟨none,H,I,.none,h⟩
theorem a0P (h:PE X e te):PO X (some e) (a3g te):=by
 intro pins s σ H Q I hw
 rw [evalPart_some]
 refine thn (h pins s σ H _ I hw) fun u s1 ⟨x,H1,I1,r1,q1⟩=>?_
 obtain ⟨i,rfl,q⟩:=q1
 obtain ⟨t,rfl⟩:=r1
 exact ⟨some i,H1,I1,.int i t,q⟩
def SlR (X:Cx) (r:V→Option Int→Option Int→Hp→VK→Prop):Prop:=
 ∀(pins:List (Addr×Obj)) (s:Shared) (σ:St) (H:Hp) (x:V) (v vl vu:Value) (lo hi:Option Int) (sl:Addr) (Q:VK),Inv X pins σ H s→a1R x v→s.heap.IsSliceOf sl vl vu .none→IsPart vl lo→IsPart vu hi→r x lo hi H Q→
  ∃T id,typeLookup (.type T) "__getitem__"=pure (some (.builtin id))∧s.TypeIs v T∧wpAny (model X.prog X.w) X.A (getItem v (.ref sl)) (EP X pins σ Q) X.xe s
theorem SlR.or {r r':V→Option Int→Option Int→Hp→VK→Prop} (h:SlR X r) (h':SlR X r'):SlR X (fun x lo hi H Q=>r x lo hi H Q∨r' x lo hi H Q):=by
 intro pins s σ H x v vl vu lo hi sl Q I rx hs pl pu q
 rcases q with q | q
 ·exact h pins s σ H x v vl vu lo hi sl Q I rx hs pl pu q
 ·exact h' pins s σ H x v vl vu lo hi sl Q I rx hs pl pu q
def tSl (r:V→Option Int→Option Int→Hp→VK→Prop) (te:TE) (tl th:TO):TE:=fun σ H Q=>te σ H fun x H1=>tl σ H1 fun l H2=>th σ H2 fun u H3=>r x l u H3 Q
theorem a0M {r:V→Option Int→Option Int→Hp→VK→Prop} (hr:SlR X r) (he:PE X e te) (hl:PO X lo tl) (hu:PO X hi th):PE X (.Subscript e (.Slice lo hi none p2) pos) (tSl r te tl th):=by
 intro pins s σ H Q I h
 refine Subscript_ (thn (he pins s σ H _ I h) fun v s1 ⟨x,H1,I1,r1,q1⟩=>?_)
 refine wpAny_Slice (thn (hl pins s1 σ H1 _ I1 q1) fun vl s2 ⟨l,H2,I2,pl,q2⟩=>thn (hu pins s2 σ H2 _ I2 q2) fun vu s3 ⟨u,H3,I3,pu,q3⟩=>?_)
 rw [evalPart_none]
 refine wpAny_pure ?_
 have I4:Inv X pins σ H3 {s3 with heap:=s3.heap.push {cls:=.type "slice",data:=.fields #[vl,vu,.none]}}:=I3.kept (t':=s3.toks) fun b ob q=>Heap.get?_push_of_some _ q
 obtain ⟨T,id,hT,ht,hg⟩:=hr pins {s3 with heap:=s3.heap.push {cls:=.type "slice",data:=.fields #[vl,vu,.none]}} σ H3 x v vl vu l u s3.heap.objs.size Q I4 r1 (Heap.IsSliceOf.new ..) pl pu q3
 show wpAny (model X.prog X.w) X.A (subscriptTail e (.Slice lo hi none p2) v (.ref s3.heap.objs.size)) (EP X pins σ Q) X.xe {s3 with heap:=s3.heap.push {cls:=.type "slice",data:=.fields #[vl,vu,.none]}}
 exact tail_any (ops:=[.ref s3.heap.objs.size,v]) ht hT hg (by with_unfolding_all rfl)
def a8h (xs:List V) (lo hi:Option Int):List V:=(xs.drop (HT.sIx xs.length 0 lo)).take (HT.sIx xs.length xs.length hi - HT.sIx xs.length 0 lo)
theorem a5m (xs:List V) (lo hi:Option Int):(a8h xs lo hi).length≤xs.length:=by
 unfold a8h
 rw [List.length_take,List.length_drop]
 omega
def c3L (K:PySem.W.Frag):V→Option Int→Option Int→Hp→VK→Prop:=fun x lo hi H Q=>∃a xs,x=.ref a∧SqT K H a xs∧
 ¬(HT.sIx xs.length 0 lo=0∧HT.sIx xs.length xs.length hi=xs.length)∧∀p,H p=none→Q (.ref p) (upd H p (.tup (a8h xs lo hi)))
theorem b6g:SlR X (c3L X.K):=by
 intro pins s σ H x v vl vu lo hi sl Q I rx hs pl pu h
 obtain ⟨a,xs,rfl,hx,hw,q⟩:=h
 cases rx
 obtain ⟨its,r,ht,hz⟩:=I.tuple hx
 have hlen:its.toArray.size=xs.length:=by rw [List.size_toArray];exact r.length.symm
 refine ⟨"tuple",_,PyProof.Rows.slot_tuple_getitem.lookup,ht.typeIs,?_⟩
 refine HT.getItem_tuple_cut ht hs pl pu (by rw [hlen];exact hw) ?_ (by rw [hlen];exact hz)
 rw [hlen]
 refine ⟨.ref s.heap.objs.size,_,I.laid (t':=s.toks) (o:=.tup (a8h xs lo hi)) (fun b ob q=>Heap.get?_push_of_some _ q) (Nat.le_refl _) ?_,rfl,q _ (I.hok.fresh (Nat.le_refl _))⟩
 exact ⟨Nat.le_trans (a5m xs lo hi) hz,_,(r.drop (HT.sIx xs.length 0 lo)).take (HT.sIx xs.length xs.length hi - HT.sIx xs.length 0 lo),IsTup.new _ _⟩
def b7I (K:PySem.W.Frag):R2:=fun x y H Q=>∃a b xs ys,x=.ref a∧y=.ref b∧SqT K H a xs∧SqT K H b ys∧xs≠[]∧xs.length+ys.length≤sizeLine∧
 (ys=[]→Q (.ref a) H)∧(ys≠[]→∀p,H p=none→Q (.ref p) (upd H p (.tup (xs++ys))))
theorem a1f.nil_iff {xs:List V} {us:List Value} (r:a1f xs us):us=[]↔xs=[]:=by
 cases r with
 | nil=>simp
 | cons _ _=>simp
theorem b4F:OpR X (binaryOp .Add) (b7I X.K):=by
 intro pins s σ H x y v u Q I rx ry h
 obtain ⟨a,b,xs,ys,rfl,rfl,ha,hb,hx,hz,q1,q2⟩:=h
 cases rx
 cases ry
 obtain ⟨its,r1,p1,_⟩:=I.tuple ha
 obtain ⟨its2,r2,p2,_⟩:=I.tuple hb
 refine HT.cat_tup p1 p2 (fun z=>hx (r1.nil_iff.mp z)) (fun z=>⟨.ref a,H,I,rfl,q1 (r2.nil_iff.mp z)⟩) (fun z=>?_) (by rw [←r1.length,←r2.length];exact hz)
 refine ⟨.ref s.heap.objs.size,_,I.laid (t':=s.toks) (o:=.tup (xs++ys)) (fun b ob q=>Heap.get?_push_of_some _ q) (Nat.le_refl _) ?_,rfl,q2 (fun w=>z (r2.nil_iff.mpr w)) _ (I.hok.fresh (Nat.le_refl _))⟩
 exact ⟨by rw [List.length_append];exact hz,_,r1.append r2,IsTup.new _ _⟩
end
end L2
namespace L2
open PySem PySem.Spec PyProof.Rows
def ixN (n:Nat) (i:Int):Option Nat:=if 0≤i then (if i < n then some i.toNat else none) else if -(n:Int)≤i then some (i+n).toNat else none
def atI {α:Type} (xs:List α) (i:Int):Option α:=(ixN xs.length i).bind fun j=>xs[j]?
theorem b4A {n:Nat} {i:Int} {j:Nat} (h:ixN n i=some j):seqIndex? i n=some j∧j < n∧-(n:Int)≤i∧i < n:=by
 unfold ixN at h
 by_cases h0:0≤i
 ·rw [if_pos h0] at h
  by_cases h1:i < n
  ·rw [if_pos h1] at h
   have e:i.toNat=j:=Option.some.inj h
   exact ⟨by rw [seqIndex_of h0 h1,e],by omega,by omega,h1⟩
  ·rw [if_neg h1] at h;cases h
 ·rw [if_neg h0] at h
  by_cases h1:-(n:Int)≤i
  ·rw [if_pos h1] at h
   have e:(i+n).toNat=j:=Option.some.inj h
   exact ⟨by rw [seqIndex_neg (by omega) h1,e],by omega,h1,by omega⟩
  ·rw [if_neg h1] at h;cases h
theorem a8C {α:Type} {xs:List α} {i:Int} {v:α} (h:atI xs i=some v):∃j,seqIndex? i xs.length=some j∧xs[j]?=some v∧j < xs.length∧-(xs.length:Int)≤i∧i < xs.length:=by
 unfold atI at h
 cases e:ixN xs.length i with
 | none=>rw [e] at h;cases h
 | some j=>
  rw [e] at h
  obtain ⟨h1,h2,h3,h4⟩:=b4A e
  exact ⟨j,h1,h,h2,h3,h4⟩
theorem a2A {α:Type} {xs:List α} {j:Nat} {v:α} (h:xs[j]?=some v):atI xs (j:Int)=some v:=by
 have hj:j < xs.length:=(List.getElem?_eq_some_iff.mp h).1
 have e:ixN xs.length (j:Int)=some j:=by
  unfold ixN
  rw [if_pos (by omega),if_pos (by omega)];simp
 unfold atI;rw [e];exact h
def b4M (b:Expr):Prop:=∀o i,subscripted b false o i=operate [o,i] (getItem o i)
def IxR (X:Cx) (r:R2):Prop:=
 ∀(value slice:Expr) (pins:List (Addr×Obj)) (s:Shared) (σ:St) (H:Hp) (x y:V) (v u:Value) (Q:VK),Inv X pins σ H s→a1R x v→a1R y u→r x y H Q→
  subscripted slice false v u=operate [v,u] (getItem v u)→wpAny (model X.prog X.w) X.A (subscriptTail value slice v u) (EP X pins σ Q) X.xe s
def MtR (X:Cx) (id:String) (r:V→List V→Hp→VK→Prop):Prop:=
 ∀(pins:List (Addr×Obj)) (s:Shared) (σ:St) (H:Hp) (x:V) (xs:List V) (v:Value) (us:List Value) (Q:VK),Inv X pins σ H s→a1R x v→a1f xs us→r x xs H Q→
  wpAny (model X.prog X.w) X.A (call (.builtin id) (v::us)) (EP X pins σ Q) X.xe s
section
variable {X:Cx} {a b:Expr} {ta tb:TE} {pos:Pos}
theorem IxR.or {r r':R2} (h:IxR X r) (h':IxR X r'):IxR X (fun x y H Q=>r x y H Q∨r' x y H Q):=by
 intro value slice pins s σ H x y v u Q I rx ry q hs
 rcases q with q | q
 ·exact h value slice pins s σ H x y v u Q I rx ry q hs
 ·exact h' value slice pins s σ H x y v u Q I rx ry q hs
theorem MtR.or {id:String} {r r':V→List V→Hp→VK→Prop} (h:MtR X id r) (h':MtR X id r'):MtR X id (fun x xs H Q=>r x xs H Q∨r' x xs H Q):=by
 intro pins s σ H x xs v us Q I rx rs q
 rcases q with q | q
 ·exact h pins s σ H x xs v us Q I rx rs q
 ·exact h' pins s σ H x xs v us Q I rx rs q
theorem a1i {r:R2} (hr:IxR X r) (ha:PE X a ta) (hb:PE X b tb) (hs:b4M b):PE X (.Subscript a b pos) (tOp r ta tb):=by
 intro pins s σ H Q I h
 exact Subscript_ (c2j ha hb I h fun v u s2 x y H2 I2 rx ry q=>hr a b pins s2 σ H2 x y v u Q I2 rx ry q (hs _ _))
def c4w (K:PySem.W.Frag):R2:=fun x y H Q=>∃p xs i v,x=.ref p∧y=.int i∧SqL K H p xs∧atI xs i=some v∧Q v H
def c7t (K:PySem.W.Frag):R2:=fun x y H Q=>∃p xs i v,x=.ref p∧y=.int i∧SqT K H p xs∧atI xs i=some v∧Q v H
def c4g:R2:=fun x y H Q=>∃z i c,x=.str z∧y=.int i∧z.length≤sizeLine∧atI z.cps.toList i=some c∧Q (.str ⟨#[c]⟩) H
theorem b4D:IxR X (c4w X.K):=by
 intro value slice pins s σ H x y v u Q I rx ry h hs
 obtain ⟨p,xs,i,z,rfl,rfl,hq,he,q⟩:=h
 cases rx
 obtain ⟨t,rfl⟩:=ry
 obtain ⟨its,r,pl,hz⟩:=I.list hq
 obtain ⟨j,h1,h2,h3,h4,h5⟩:=a8C he
 obtain ⟨w,ew,rw'⟩:=r.get h2
 have hl:=r.length
 have hn:=a8L
 have fin:EP X pins σ Q w s:=⟨z,H,I,rw',q⟩
 by_cases h0:0≤i
 ·have hj:i.toNat=j:=by
   rw [seqIndex_of h0 h5] at h1
   exact Option.some.inj h1
  exact item_listR pl.isList h0 (by omega) (by rw [hj];simpa using ew) fin hs
 ·have hj:(i+(its.toArray.size:Int)).toNat=j:=by
   rw [seqIndex_neg (by omega) h4] at h1
   rw [List.size_toArray,←hl]
   exact Option.some.inj h1
  exact subscriptTail_builtinR (x:=w) pl.isList.typeIs slot_list_getitem.lookup
   (wpAny_getItem_list_neg (Q:=fun r s'=>r=w∧EP X pins σ Q r s') pl.isList (by omega) (by rw [List.size_toArray]<;>omega) (by omega) (by rw [hj];simpa using ew) ⟨rfl,fin⟩) hs
theorem b8x:IxR X (c7t X.K):=by
 intro value slice pins s σ H x y v u Q I rx ry h hs
 obtain ⟨p,xs,i,z,rfl,rfl,hq,he,q⟩:=h
 cases rx
 obtain ⟨t,rfl⟩:=ry
 obtain ⟨its,r,pl,hz⟩:=I.tuple hq
 obtain ⟨j,h1,h2,h3,h4,h5⟩:=a8C he
 obtain ⟨w,ew,rw'⟩:=r.get h2
 have hl:=r.length
 have hn:=a8L
 have fin:EP X pins σ Q w s:=⟨z,H,I,rw',q⟩
 exact subscriptTail_builtinR (x:=w) pl.typeIs slot_tuple_getitem.lookup
  (getItem_tuple (j:=j) (Q:=fun r s'=>r=w∧EP X pins σ Q r s') pl (by omega) (by omega) (by rw [List.size_toArray,←hl];exact h1) (by simpa using ew) ⟨rfl,fin⟩) hs
theorem b8k:IxR X c4g:=by
 intro value slice pins s σ H x y v u Q I rx ry h hs
 obtain ⟨z,i,c,rfl,rfl,hz,he,q⟩:=h
 obtain ⟨t,rfl⟩:=rx
 obtain ⟨t',rfl⟩:=ry
 obtain ⟨j,h1,h2,h3,h4,h5⟩:=a8C he
 have hl:z.cps.toList.length=z.length:=by simp [Str.length]
 rw [hl] at h1 h4 h5
 have hn:=a8L
 exact tail_any (typeIs_str s z t) slot_str_getitem.lookup (getItem_str (c:=c) (by
  have e1:decide (i < -(2 ^ 63:Int))=false:=decide_eq_false (by omega)
  have e2:decide (i≥2 ^ 63)=false:=decide_eq_false (by omega)
  rw [e1,e2,Bool.or_false]) (by rw [h1];simpa using h2) ⟨.str ⟨#[c]⟩,H,I.tok _,⟨_,rfl⟩,q⟩) hs
def rIx (K:PySem.W.Frag):R2:=fun x y H Q=>c4w K x y H Q∨c7t K x y H Q∨c4g x y H Q
theorem a0J:IxR X (rIx X.K):=b4D.or (b8x.or b8k)
theorem Inv.lst {pins:List (Addr×Obj)} {σ:St} {H:Hp} {s:Shared} {p:Addr} {xs:List V} (I:Inv X pins σ H s) (h:H p=some (.lst xs)):
  ∃(its:List Value) (n:Nat),a1f xs its∧s.heap.get? p=some {cls:=.type "list",data:=.seq its.toArray n}∧xs.length≤sizeLine:=by
 obtain ⟨z,its,n,r,e⟩:=I.hok p _ h
 exact ⟨its,n,r,e,z⟩
theorem a7m (lo hi:Option Int) (n:Nat):(sliceBounds lo hi none n).1=((HT.sIx n 0 lo:Nat):Int)∧(sliceBounds lo hi none n).2.1=((HT.sIx n n hi:Nat):Int)∧(sliceBounds lo hi none n).2.2=1:=by
 refine ⟨?_,?_,rfl⟩
 ·cases lo with
  | none=>simp [sliceBounds,HT.sIx]
  | some i=>
   simp only [sliceBounds,HT.sIx,Option.getD_none,show (1:Int) > 0 by decide,if_true]
   by_cases h:i < 0
   ·simp only [h,if_true]<;>omega
   ·simp only [h,if_false]<;>omega
 ·cases hi with
  | none=>simp [sliceBounds,HT.sIx]
  | some i=>
   simp only [sliceBounds,HT.sIx,Option.getD_none,show (1:Int) > 0 by decide,if_true]
   by_cases h:i < 0
   ·simp only [h,if_true]<;>omega
   ·simp only [h,if_false]<;>omega
theorem a6s (its:List Value) (lo hi:Option Int):slicePick its.toArray lo hi none=((its.drop (HT.sIx its.length 0 lo)).take (HT.sIx its.length its.length hi - HT.sIx its.length 0 lo)).toArray:=by
 obtain ⟨h1,h2,h3⟩:=a7m lo hi its.toArray.size
 unfold slicePick
 rw [h1,h2,h3]
 simp only [sliceRange_one,pick_run,List.size_toArray]<;>rfl
def c6p (K:PySem.W.Frag):V→Option Int→Option Int→Hp→VK→Prop:=fun x lo hi H Q=>∃a xs,x=.ref a∧SqL K H a xs∧∀p,H p=none→Q (.ref p) (upd H p (.lst (a8h xs lo hi)))
theorem b4X:SlR X (c6p X.K):=by
 intro pins s σ H x v vl vu lo hi sl Q I rx hs pl pu h
 obtain ⟨a,xs,rfl,hx,q⟩:=h
 cases rx
 obtain ⟨its,r,ht,hz⟩:=I.list hx
 have hlen:=r.length
 refine ⟨"list",_,slot_list_getitem.lookup,ht.isList.typeIs,?_⟩
 refine wpAny_getItem_list_slice ht.isList hs pl pu .none (by simp) ?_ (by rw [List.size_toArray]<;>omega)
 rw [a6s,←hlen]
 refine ⟨.ref s.heap.objs.size,_,I.laid (t':=s.toks) (o:=.lst (a8h xs lo hi)) (fun b ob q=>Heap.get?_push_of_some _ q) (Nat.le_refl _) ?_,rfl,q _ (I.hok.fresh (Nat.le_refl _))⟩
 exact ⟨Nat.le_trans (a5m xs lo hi) hz,_,0,(r.drop (HT.sIx xs.length 0 lo)).take (HT.sIx xs.length xs.length hi - HT.sIx xs.length 0 lo),Heap.get?_push_size _ rfl⟩
def a6B:V→Bool
 | .non=>true
 | .bl _=>true
 | .int _=>true
 | .str _=>true
 | _=>false
def eqV:V→V→Bool
 | .non,.non=>true
 | .bl a,.bl b=>a == b
 | .bl a,.int b=>(if a then 1 else 0) == b
 | .int a,.bl b=>a == (if b then 1 else 0)
 | .int a,.int b=>a == b
 | .str a,.str b=>a == b
 | _,_=>false
theorem b8R {A:Around} {s:Shared} {y x:V} {u v:Value} (ry:a1R y u) (rx:a1R x v) (fy:a6B y=true) (fx:a6B x=true):SeqAt.EqAt A s u v (eqV y x):=by
 cases y with
 | non=>
  cases ry
  cases x with
  | non=>cases rx;exact SeqAt.EqAt.same _
  | bl b=>cases rx;exact SeqAt.EqAt.none_bool b
  | int b=>obtain ⟨t,rfl⟩:=rx;exact SeqAt.EqAt.none_int b t
  | str b=>obtain ⟨t,rfl⟩:=rx;exact SeqAt.EqAt.none_str b t
  | _=>exact absurd (show false=true from fx) Bool.false_ne_true
 | bl a=>
  cases ry
  cases x with
  | non=>cases rx;exact SeqAt.EqAt.bool_none a
  | bl b=>cases rx;exact SeqAt.EqAt.bool_bool a b
  | int b=>obtain ⟨t,rfl⟩:=rx;exact SeqAt.EqAt.bool_int a b t
  | str b=>obtain ⟨t,rfl⟩:=rx;exact SeqAt.EqAt.bool_str a b t
  | _=>exact absurd (show false=true from fx) Bool.false_ne_true
 | int a=>
  obtain ⟨t',rfl⟩:=ry
  cases x with
  | non=>cases rx;exact SeqAt.EqAt.int_none a t'
  | bl b=>cases rx;exact SeqAt.EqAt.int_bool a t' b
  | int b=>obtain ⟨t,rfl⟩:=rx;exact SeqAt.EqAt.int_int a t' b t
  | str b=>obtain ⟨t,rfl⟩:=rx;exact SeqAt.EqAt.int_str a t' b t
  | _=>exact absurd (show false=true from fx) Bool.false_ne_true
 | str a=>
  obtain ⟨t',rfl⟩:=ry
  cases x with
  | non=>cases rx;exact SeqAt.EqAt.str_none a t'
  | bl b=>cases rx;exact SeqAt.EqAt.str_bool a t' b
  | int b=>obtain ⟨t,rfl⟩:=rx;exact SeqAt.EqAt.str_int a t' b t
  | str b=>obtain ⟨t,rfl⟩:=rx;exact SeqAt.EqAt.str_str a t' b t
  | _=>exact absurd (show false=true from fx) Bool.false_ne_true
 | _=>exact absurd (show false=true from fy) Bool.false_ne_true
def eqU (x:V) (u:Value):Bool:=match u with
 | .none=>eqV .non x
 | .bool b=>eqV (.bl b) x
 | .int i _=>eqV (.int i) x
 | .str z _=>eqV (.str z) x
 | _=>false
theorem b3T {x y:V} {u:Value} (r:a1R y u) (f:a6B y=true):eqU x u=eqV y x:=by
 cases y with
 | non=>cases r;rfl
 | bl b=>cases r;rfl
 | int i=>obtain ⟨t,rfl⟩:=r;rfl
 | str z=>obtain ⟨t,rfl⟩:=r;rfl
 | _=>exact absurd (show false=true from f) Bool.false_ne_true
theorem a5y {x:V}:∀{xs:List V} {us:List Value},a1f xs us→xs.all a6B=true→us.any (eqU x)=xs.any fun y=>eqV y x
 | _,_,.nil,_=>rfl
 | y::xs,u::us,.cons r t,f=>by
  rw [List.all_cons,Bool.and_eq_true] at f
  rw [List.any_cons,List.any_cons,b3T r f.1,a5y t f.2]
theorem a4r {A:Around} {s:Shared} {x:V} {v:Value} (rx:a1R x v) (fx:a6B x=true):∀{xs:List V} {us:List Value},a1f xs us→xs.all a6B=true→∀u∈us,SeqAt.EqAt A s u v (eqU x u)
 | _,_,.nil,_=>fun u hu=>by cases hu
 | y::xs,u::us,.cons r t,f=>fun u' hu=>by
  rw [List.all_cons,Bool.and_eq_true] at f
  rcases List.mem_cons.mp hu with rfl | hu
  ·rw [b3T r f.1];exact b8R r rx f.1 fx
  ·exact a4r rx fx t f.2 u' hu
def inV (x:V) (xs:List V):Bool:=xs.any fun y=>eqV y x
def rIn (K:PySem.W.Frag) (neg:Bool):R2:=fun x y H Q=>∃p xs,y=.ref p∧(SqL K H p xs∨SqT K H p xs)∧a6B x=true∧xs.all a6B=true∧Q (.bl (if neg then !inV x xs else inV x xs)) H
theorem b0L:OpR X (compareOp .In) (rIn X.K false):=by
 intro pins s σ H x y v u Q I rx ry h
 obtain ⟨p,xs,rfl,hq,fx,fs,q⟩:=h
 cases ry
 rcases hq with hq | hq
 ·obtain ⟨its,r,pl,hz⟩:=I.list hq
  refine SeqAt.in_listAt (eqU x) pl.isList (fun w hw=>a4r rx fx r fs w (by simpa using hw)) ⟨.bl _,H,I,rfl,?_⟩
  rw [show its.toArray.any (eqU x)=its.any (eqU x) by simp,a5y r fs]
  exact q
 ·obtain ⟨its,r,pl,hz⟩:=I.tuple hq
  refine SeqAt.in_tupleAt (eqU x) pl (fun w hw=>a4r rx fx r fs w (by simpa using hw)) ⟨.bl _,H,I,rfl,?_⟩
  rw [show its.toArray.any (eqU x)=its.any (eqU x) by simp,a5y r fs]
  exact q
theorem a7u:OpR X (compareOp .NotIn) (rIn X.K true):=by
 intro pins s σ H x y v u Q I rx ry h
 obtain ⟨p,xs,rfl,hq,fx,fs,q⟩:=h
 cases ry
 rcases hq with hq | hq
 ·obtain ⟨its,r,pl,hz⟩:=I.list hq
  refine SeqAt.notIn_listAt (eqU x) pl.isList (fun w hw=>a4r rx fx r fs w (by simpa using hw)) ⟨.bl _,H,I,rfl,?_⟩
  rw [show its.toArray.any (eqU x)=its.any (eqU x) by simp,a5y r fs]
  exact q
 ·obtain ⟨its,r,pl,hz⟩:=I.tuple hq
  refine SeqAt.notIn_tupleAt (eqU x) pl (fun w hw=>a4r rx fx r fs w (by simpa using hw)) ⟨.bl _,H,I,rfl,?_⟩
  rw [show its.toArray.any (eqU x)=its.any (eqU x) by simp,a5y r fs]
  exact q
theorem a2w.or {f:Value} {r r':List V→Hp→VK→Prop} (h:a2w X f r) (h':a2w X f r'):a2w X f (fun xs H Q=>r xs H Q∨r' xs H Q):=by
 intro pins s σ H xs us Q I rs q
 rcases q with q | q
 ·exact h pins s σ H xs us Q I rs q
 ·exact h' pins s σ H xs us Q I rs q
theorem a7D:a2w X (.type "list") (fun xs H Q=>∃p ys,xs=[.ref p]∧(SqL X.K H p ys∨SqT X.K H p ys)∧∀l,H l=none→Q (.ref l) (upd H l (.lst ys))):=by
 intro pins s σ H xs us Q I r h
 obtain ⟨p,ys,rfl,hq,q⟩:=h
 obtain ⟨u,rfl,rx⟩:=a5v r
 cases rx
 have fin:∀(its:List Value),a1f ys its→ys.length≤sizeLine→∀(h':Heap) (c':Nat),(∀b o',s.heap.get? b=some o'→h'.get? b=some o')→
   h'.get? s.heap.objs.size=some {cls:=.type "list",dict:=none,data:=.seq its.toArray c',slots:=#[]}→EP X pins σ Q (.ref s.heap.objs.size) {s with heap:=h'}:=fun its r' hz h' c' kp e=>
  ⟨.ref s.heap.objs.size,_,I.laid (t':=s.toks) kp (Nat.le_refl _) (show a1O X.prog X.w _ h' _ (.lst ys) from ⟨hz,its,c',r',e⟩),rfl,q _ (I.hok.fresh (Nat.le_refl _))⟩
 rcases hq with hq | hq
 ·obtain ⟨its,r',pl,hz⟩:=I.list hq
  have hlen:=r'.length
  obtain ⟨o,ho,hc,n,hd⟩:=pl.isList
  exact call_list_seq p (.inl rfl) ho hc hd (fun h' c' kp e=>fin its r' hz h' c' kp e) (by simp only [List.size_toArray]<;>omega)
 ·obtain ⟨its,r',pl,hz⟩:=I.tuple hq
  have hlen:=r'.length
  obtain ⟨o,ho,hc,n,hd⟩:=pl
  exact call_list_seq p (.inr rfl) ho hc hd (fun h' c' kp e=>fin its r' hz h' c' kp e) (by simp only [List.size_toArray]<;>omega)
theorem a6N:a2w X (.type "tuple") (fun xs H Q=>∃p ys,xs=[.ref p]∧((SqL X.K H p ys∧∀l,H l=none→Q (.ref l) (upd H l (.tup ys)))∨(SqT X.K H p ys∧Q (.ref p) H))):=by
 intro pins s σ H xs us Q I r h
 obtain ⟨p,ys,rfl,h⟩:=h
 obtain ⟨u,rfl,rx⟩:=a5v r
 cases rx
 rcases h with ⟨hq,q⟩ | ⟨hq,q⟩
 ·obtain ⟨its,r',pl,hz⟩:=I.list hq
  have hlen:=r'.length
  refine call_tuple_list pl.isList (fun h' kp=>?_) (by simp only [List.size_toArray]<;>omega)
  have I1:Inv X pins σ H {s with heap:=h'}:=I.kept (t':=s.toks) kp
  have I2:Inv X pins σ (upd H h'.objs.size (.tup ys)) {s with heap:=h'.push {cls:=.type "tuple",data:=.seq its.toArray}}:=
   I1.laid (t':=s.toks) (fun b o e=>Heap.get?_push_of_some _ e) (Nat.le_refl _) (show a1O X.prog X.w _ _ _ (.tup ys) from ⟨hz,its,r',IsTup.new _ _⟩)
  exact ⟨.ref h'.objs.size,_,I2,rfl,q _ (I1.hok.fresh (Nat.le_refl _))⟩
 ·obtain ⟨its,r',pl,hz⟩:=I.tuple hq
  exact call_tuple_same pl ⟨.ref p,H,I,rfl,q⟩
def tyV (K:PySem.W.Frag) (T:String) (x:V) (H:Hp):Prop:=match x with
 | .str _=>T="str"
 | .int _=>T="int"
 | .ref p=>(T="list"∧∃xs,SqL K H p xs)∨(T="tuple"∧∃o,K.lookup p=some o∧o.cls=.type "tuple"∧o.dict=none)∨
   (T="dict"∧((∃kvs,H p=some (.dK kvs))∨∃kvs,H p=some (.dT kvs)))∨(T="set"∧∃S n,H p=some (.set S n))
 | _=>False
theorem b7F {pins:List (Addr×Obj)} {σ:St} {H:Hp} {s:Shared} {T:String} {x:V} {v:Value} (I:Inv X pins σ H s) (r:a1R x v) (ty:tyV X.K T x H):
  s.TypeIs v T∧∀a,v=.ref a→∃ob,s.heap.get? a=some ob∧ob.dict=none:=by
 cases x with
 | str z=>
  obtain ⟨t,rfl⟩:=r
  cases (show T="str" from ty)
  exact ⟨typeIs_str s z t,fun _ e=>nomatch e⟩
 | int i=>
  obtain ⟨t,rfl⟩:=r
  cases (show T="int" from ty)
  exact ⟨typeIs_int s i t,fun _ e=>nomatch e⟩
 | ref p=>
  cases r
  rcases ty with ⟨rfl,xs,hq⟩ | ⟨rfl,o,hk,hc,hd⟩ | ⟨rfl,hk⟩ | ⟨rfl,S,n,hk⟩
  ·obtain ⟨its,_,pl,_⟩:=I.list hq
   refine ⟨pl.isList.typeIs,fun a e=>?_⟩
   cases e
   obtain ⟨o,n,e,c,hd,_⟩:=pl
   exact ⟨o,e,hd⟩
  ·refine ⟨⟨o,I.kIn p o hk,hc⟩,fun a e=>?_⟩
   cases e
   exact ⟨o,I.kIn _ o hk,hd⟩
  ·have z:∃o,s.heap.get? p=some o∧o.ExactDict:=by
    rcases hk with ⟨kvs,hk⟩ | ⟨kvs,hk⟩
    ·obtain ⟨_,_,_,_,o,_,_,e,ex,_⟩:=I.hok p _ hk
     exact ⟨o,e,ex⟩
    ·obtain ⟨_,_,_,_,o,_,_,e,ex,_⟩:=I.hok p _ hk
     exact ⟨o,e,ex⟩
   obtain ⟨o,e,ex⟩:=z
   refine ⟨⟨o,e,ex.1⟩,fun a e2=>?_⟩
   cases e2
   exact ⟨o,e,ex.2.1⟩
  ·obtain ⟨o,_,_,_,e,ex,_⟩:=I.hok p _ hk
   refine ⟨⟨o,e,ex.1⟩,fun a e2=>?_⟩
   cases e2
   exact ⟨o,e,ex.2.1⟩
 | _=>exact False.elim ty
def tBM (K:PySem.W.Frag) (T:String) (r:V→List V→Hp→VK→Prop) (to:TE) (t:TA):TE:=fun σ H Q=>to σ H fun x H1=>tyV K T x H1∧t σ H1 fun xs H2=>r x xs H2 Q
variable {o e:Expr} {es:List Expr} {to:TE} {t:TA} {name:Str} {apos cpos:Pos} {T id:String} {r:V→List V→Hp→VK→Prop}
theorem a2k (pa:PlainAttrs T) (slot:Slot T name id) (hty:typeOf (.builtin id)=pure (.type "method_descriptor")) (hm:MtR X id r) (ho:PE X o to) (ha:PA X (e::es) t)
  (hbase:attributeBase o name X.env (eval o X.env)=eval o X.env:=by rfl)
  (hfew:((backTo cpos (starEach (e::es) X.env)).all (fun x=>!x.1) && (backToKw cpos (keywordEach [] X.env)).all (fun x=>x.1.isSome)
   && decide ((e::es).length+([]:List Keyword).length+(if ([]:List Keyword).isEmpty then 0 else 1) < 30))=true:=by rfl)
  (hline:(apos.endLine == cpos.line)=true:=by rfl) (hs:starEach (e::es) X.env=(false,eval e X.env)::starEach es X.env:=by rfl) (hplain:(backTo cpos (starEach es X.env)).any (·.1)=false:=by rfl):
  PE X (.Call (.Attribute o name apos) (e::es) [] cpos) (tBM X.K T r to t):=by
 intro pins s σ H Q I h
 refine wpAny_Call_method_late hbase hfew hline rfl (thn (ho pins s σ H _ I h) fun v s1 ⟨x,H1,I1,r1,ty,q1⟩=>?_)
 obtain ⟨h1,h2⟩:=b7F I1 r1 ty
 refine ⟨T,id,pa,slot,hty,h1,h2,?_⟩
 have hA:=ha cpos pins s1 σ H1 _ I1 q1
 rw [hs] at hA ⊢
 refine Calls.callWith_builtin (by show (false || (backTo cpos (starEach es X.env)).any (·.1))=false;rw [hplain]<;>rfl) (Calls.evalArgs_plain ?_)
 exact thn hA fun us s2 ⟨vs,H2,I2,r2,q2⟩=>hm pins s2 σ H2 x vs v us Q I2 r1 r2 q2
end
end L2
namespace L2
open PySem PySem.Spec PyProof.Rows
def MtM (X:Cx) (id:String) (r:V→List V→Hp→VK→Prop):Prop:=
 ∀(pins:List (Addr×Obj)) (s:Shared) (σ:St) (H:Hp) (x:V) (xs:List V) (v:Value) (us:List Value) (Q:VK),Inv X pins σ H s→a1R x v→a1f xs us→r x xs H Q→
  wpAny (model X.prog X.w) X.A (call (.builtin id) (v::us)) (EP X pins σ Q) X.xe s
theorem a1f.one:∀{x:V} {us:List Value},a1f [x] us→∃u,us=[u]∧a1R x u
 | _,_,.cons r .nil=>⟨_,rfl,r⟩
theorem a1f.dropLast {xs:List V} {us:List Value} (h:a1f xs us):a1f xs.dropLast us.dropLast:=by
 induction h with
 | nil=>exact .nil
 | cons r t ih=>
  cases t with
  | nil=>exact .nil
  | cons q t'=>exact .cons r ih
theorem a1f.reverse {xs:List V} {us:List Value} (h:a1f xs us):a1f xs.reverse us.reverse:=by
 induction h with
 | nil=>exact .nil
 | cons r t ih=>rw [List.reverse_cons,List.reverse_cons];exact a1f.append ih (.cons r .nil)
section
variable {X:Cx} {pins:List (Addr×Obj)} {σ:St} {H:Hp} {s:Shared} {l b:Addr} {xs ys zs:List V}
theorem Inv.lset {its its':List Value} {n:Nat} {f:Array Value→Array Value} {t':Nat} (I:Inv X pins σ H s) (hH:H l=some (.lst xs))
  (e:s.heap.get? l=some {cls:=.type "list",data:=.seq its.toArray n}) (hf:f its.toArray=its'.toArray) (hv:a1f ys its') (hz:ys.length≤sizeLine):
  Inv X pins σ (upd H l (.lst ys)) {s with heap:=s.heap.update l (Obj.mapSeq f),toks:=t'}:=by
 have q:=PySem.IsL.update e f
 rw [hf] at q
 refine I.write (x:=l) (e:=l) (by rw [hH];exact trivial) (.inl rfl) (fun b' u hb hu=>(Heap.get?_update_other s.heap (Obj.mapSeq f) (Ne.symm hb)).trans hu) ⟨_,q⟩ ?_
 exact ⟨hz,its',_,hv,q⟩
theorem Inv.lnew {its:List Value} {t':Nat} (I:Inv X pins σ H s) (hv:a1f ys its) (hz:ys.length≤sizeLine):
  Inv X pins σ (upd H s.heap.objs.size (.lst ys)) {s with heap:=s.heap.push {cls:=.type "list",data:=.seq its.toArray},toks:=t'}:=
 I.laid (fun _ _ q=>Heap.get?_push_of_some _ q) (Nat.le_refl _) ⟨hz,its,0,hv,Heap.get?_push_size _ rfl⟩
theorem Inv.fresh (I:Inv X pins σ H s):H s.heap.objs.size=none:=I.hok.fresh (Nat.le_refl _)
theorem Inv.lstM (I:Inv X pins σ H s) (hH:H l=some (.lst xs)):xs.length≤sizeLine∧∃(its:List Value) (n:Nat),a1f xs its∧xs.length=its.length∧s.heap.get? l=some {cls:=.type "list",data:=.seq its.toArray n}:=by
 obtain ⟨z,its,n,r,e⟩:=I.hok l _ hH
 exact ⟨z,its,n,r,r.length,e⟩
theorem b3q {n:Nat} (h:n≤sizeLine):Builtin.List.listTooLong n=false:=by
 unfold Builtin.List.listTooLong
 exact decide_eq_false (by omega)
end
section
variable {X:Cx}
def b5G:V→List V→Hp→VK→Prop:=fun x vs H Q=>∃l xs y,x=.ref l∧vs=[y]∧H l=some (.lst xs)∧xs.length < sizeLine∧Q .non (upd H l (.lst (xs++[y])))
theorem a2N:MtM X "list.append" b5G:=by
 intro pins s σ H x vs v us Q I rx rv h
 obtain ⟨l,xs,y,rfl,rfl,hH,hz,q⟩:=h
 cases rx
 obtain ⟨u,rfl,ru⟩:=rv.one
 obtain ⟨z,its,n,r,hl,e⟩:=I.lstM hH
 refine call_meets F.slot_list_append ⟨_,e,rfl⟩ F.entry_list_append (F.args_list_append_2 _ _) (PySem.list_append l its.toArray n u (by rw [List.size_toArray];omega)) ⟨e,?_⟩
 refine ⟨.non,_,I.lset (its':=its++[u]) hH e (by simp) (r.append (.cons ru .nil)) ?_,rfl,q⟩
 rw [List.length_append,List.length_singleton]
 omega
def b1M:V→List V→Hp→VK→Prop:=fun x vs H Q=>∃l b xs zs,x=.ref l∧vs=[.ref b]∧H l=some (.lst xs)∧H b=some (.lst zs)∧xs.length+zs.length≤sizeLine∧Q .non (upd H l (.lst (xs++zs)))
theorem b0K:MtM X "list.extend" b1M:=by
 intro pins s σ H x vs v us Q I rx rv h
 obtain ⟨l,b,xs,zs,rfl,rfl,hH,hB,hz,q⟩:=h
 cases rx
 obtain ⟨u,rfl,ru⟩:=rv.one
 cases ru
 obtain ⟨z,its,n,r,hl,e⟩:=I.lstM hH
 obtain ⟨z2,its2,n2,r2,hl2,e2⟩:=I.lstM hB
 have hsz:its.toArray.size+its2.toArray.size≤sizeLine:=by rw [List.size_toArray,List.size_toArray];omega
 have hlong:¬(!its.toArray.isEmpty && Builtin.List.listTooLong (its.toArray.size+its2.toArray.size))=true:=by
  rw [b3q hsz,Bool.and_false]
  exact Bool.false_ne_true
 refine call_meets F.slot_list_extend ⟨_,e,rfl⟩ F.entry_list_extend (F.args_list_extend_2 _ _)
  (AutoSeq1.list_extend_list_list_0 l its.toArray n b its2.toArray n2 hlong (by rw [List.size_toArray];omega) (by omega)) ⟨e,e2,?_⟩
 refine ⟨.non,_,I.lset (its':=its++its2) hH e (by simp) (r.append r2) ?_,rfl,q⟩
 rw [List.length_append]
 omega
def c4f:R2:=fun x y H Q=>∃l b xs zs,x=.ref l∧y=.ref b∧H l=some (.lst xs)∧H b=some (.lst zs)∧xs.length+zs.length≤sizeLine∧∀p,H p=none→Q (.ref p) (upd H p (.lst (xs++zs)))
theorem b7e:OpR X (binaryOp .Add) c4f:=by
 intro pins s σ H x y v u Q I rx ry h
 obtain ⟨l,b,xs,zs,rfl,rfl,hH,hB,hz,q⟩:=h
 cases rx
 cases ry
 obtain ⟨z,its,n,r,hl,e⟩:=I.lstM hH
 obtain ⟨z2,its2,n2,r2,hl2,e2⟩:=I.lstM hB
 refine PySem.P.add_list e e2 ?_ (by rw [List.size_toArray,List.size_toArray];omega)
 have ea:its.toArray++its2.toArray=(its++its2).toArray:=by simp
 rw [ea]
 exact ⟨.ref _,_,I.lnew (t':=s.toks) (r.append r2) (by rw [List.length_append];omega),rfl,q _ I.fresh⟩
end
section
variable {prog:Program} {w:World} {A:Around} {E:Value→Shared→Prop} {s:Shared}
set_option maxRecDepth 100000 in
end
end L2
namespace L2
open PySem PySem.Spec PyProof.Rows
section
variable {κ:Type} [DecidableEq κ]
def b2f (kvs:List (κ×V)) (k:κ):Option V:=(kvs.find? fun kv=>decide (kv.1=k)).map (·.2)
def c6F (kvs:List (κ×V)) (k:κ) (v:V):List (κ×V):=
 if (kvs.any fun kv=>decide (kv.1=k))=true then kvs.map (fun kv=>if kv.1=k then (kv.1,v) else kv) else kvs++[(k,v)]
def b8y (kvs:List (κ×V)) (k:κ):List (κ×V):=kvs.filter fun kv=>decide (kv.1≠k)
theorem a6n {p:κ×V} {r:List (κ×V)} {k:κ} (e:p.1=k):b2f (p::r) k=some p.2:=by simp [b2f,List.find?_cons,e]
theorem a6U {p:κ×V} {r:List (κ×V)} {k:κ} (e:¬p.1=k):b2f (p::r) k=b2f r k:=by simp [b2f,List.find?_cons,e]
theorem a9C (k:κ):∀kvs:List (κ×V),(kvs.any fun kv=>decide (kv.1=k))=(b2f kvs k).isSome
 | []=>rfl
 | p::r=>by
  rw [List.any_cons]
  by_cases e:p.1=k
  ·simp only [a6n e,decide_eq_true e,Bool.true_or,Option.isSome_some]
  ·rw [a6U e,decide_eq_false e,Bool.false_or];exact a9C k r
theorem a7a.getD {o:Option V} {u:Option Value} {d:V} {d':Value} (r:a7a o u) (rd:a1R d d'):a1R (o.getD d) (u.getD d'):=by
 cases o with
 | none=>cases u with
  | none=>exact rd
  | some _=>exact (show False from r).elim
 | some _=>cases u with
  | none=>exact (show False from r).elim
  | some _=>exact r
theorem KV.val {kvs:List (κ×V)} {vs:List (κ×Value)} (r:KV kvs vs) (k:κ):a7a (b2f kvs k) (valueAt vs k):=by
 unfold KV at r
 induction r with
 | nil=>exact True.intro
 | @cons p q ps qs h t ih=>
  obtain ⟨h1,h2⟩:=h
  by_cases e:p.1=k
  ·have e':q.1=k:=h1.symm.trans e
   have b:valueAt (q::qs) k=some q.2:=by simp [valueAt,List.find?_cons,e']
   rw [a6n e,b];exact h2
  ·have e':¬q.1=k:=fun z=>e (h1.trans z)
   have b:valueAt (q::qs) k=valueAt qs k:=by simp [valueAt,List.find?_cons,e']
   rw [a6U e,b];exact ih
theorem KV.any {kvs:List (κ×V)} {vs:List (κ×Value)} (r:KV kvs vs) (k:κ):(kvs.any fun kv=>decide (kv.1=k))=vs.any fun kv=>decide (kv.1=k):=by
 unfold KV at r
 induction r with
 | nil=>rfl
 | cons h t ih=>rw [List.any_cons,List.any_cons,ih,h.1]
theorem KV.drop {kvs:List (κ×V)} {vs:List (κ×Value)} (r:KV kvs vs) (k:κ):KV (b8y kvs k) (without vs k):=by
 unfold KV at r ⊢
 unfold b8y without
 induction r with
 | nil=>exact .nil
 | @cons p q ps qs h t ih=>
  obtain ⟨h1,h2⟩:=h
  rw [List.filter_cons,List.filter_cons]
  by_cases e:p.1=k
  ·have a:¬decide (p.1≠k)=true:=by simp [e]
   have b:¬decide (q.1≠k)=true:=by simp [h1.symm.trans e]
   rw [if_neg a,if_neg b];exact ih
  ·have e':¬q.1=k:=fun z=>e (h1.trans z)
   have a:decide (p.1≠k)=true:=by simp [e]
   have b:decide (q.1≠k)=true:=by simp [e']
   rw [if_pos a,if_pos b];exact .cons ⟨h1,h2⟩ ih
theorem KV.length {kvs:List (κ×V)} {vs:List (κ×Value)} (r:KV kvs vs):kvs.length=vs.length:=Paired.length r
end
abbrev KT (H:Hp):List (List Key×V)→List (List Key×Addr×Value)→Prop:=Paired fun p q=>p.1=q.1∧H q.2.1=some (.tup (p.1.map kV))∧a1R p.2 q.2.2
theorem KT.val {H:Hp} {kvs:List (List Key×V)} {xs:List (List Key×Addr×Value)} (r:KT H kvs xs) (k:List Key):a7a (b2f kvs k) ((atKey xs k).map (·.2)):=by
 induction r with
 | nil=>exact True.intro
 | @cons p q ps qs h t ih=>
  obtain ⟨h1,_,h2⟩:=h
  by_cases e:p.1=k
  ·have e':q.1=k:=h1.symm.trans e
   have b:atKey (q::qs) k=some q.2:=by simp [atKey,List.find?_cons,e']
   rw [a6n e,b];exact h2
  ·have e':¬q.1=k:=fun z=>e (h1.trans z)
   have b:atKey (q::qs) k=atKey qs k:=by simp [atKey,List.find?_cons,e']
   rw [a6U e,b];exact ih
theorem KT.keeps {H H':Hp} {kvs:List (List Key×V)} {xs:List (List Key×Addr×Value)} (r:KT H kvs xs) (ht:∀b ys,H b=some (.tup ys)→H' b=some (.tup ys)):KT H' kvs xs:=
 Paired.mapP r fun _ _ z=>⟨z.1,ht _ _ z.2.1,z.2.2⟩
section
variable {P:Program} {w:World} {H:Hp} {h:Heap} {a:Addr}
theorem c1z {u:HO} (ok:HOk P w H h) (e:Rd H a u):a1O P w H h a u:=e.ok ok
theorem c2p {kvs:List (Key×V)} (ok:HOk P w H h) (e:Rd H a (.dK kvs)):kvs.length≤sizeLine∧(a == sysModules)=false∧∃vs,KV kvs vs∧h.DictOf (a8m P w) a vs:=
 show a1O P w H h a (.dK kvs) from c1z ok e
end
section
variable {X:Cx} {pins:List (Addr×Obj)} {σ:St} {H:Hp} {s:Shared} {a:Addr} {kvs:List (Key×V)} {k:Key} {u:Value} {A:Around} {E:Value→Shared→Prop}
theorem c0Q {Q:Value→Shared→Prop} (I:Inv X pins σ H s) (e:Rd H a (.dK kvs)) (h:∀t s',Inv X pins σ H s'→Q (.int kvs.length t) s'):wpAny (model X.prog X.w) A (call (.builtin "len") [.ref a]) Q E s:=by
 obtain ⟨z,hd,vs,rel,dd⟩:=c2p I.hok e
 refine call_len_dict hd dd (by rw [←rel.length];rw [sizeLine_eq] at z;omega) ?_
 rw [←rel.length]
 exact h _ _ (I.tok _)
end
def IsD (H:Hp) (a:Addr):Prop:=(∃kvs,Rd H a (.dK kvs))∨∃kvs,Rd H a (.dT kvs)
end L2
namespace Att
open PySem PySem.W PySem.Calls PyProof.Rows
theorem a5j {P:Params} {h:Heap}:∀(ns:List Int) (vs:List Value),WellAll P h vs (ns.map WData.int)→IntsAre vs ns:=by
 intro ns
 induction ns with
 | nil=>
  intro vs w
  rw [List.map_nil] at w
  cases w
  exact .nil
 | cons n ns ih=>
  intro vs w
  rw [List.map_cons] at w
  cases w with
  | cons a b=>
   cases a
   exact .cons _ _ (ih _ b)
theorem b0V {l:OpenLaw} {n:Nat} (hn:l.most=some n) {P:Params} {h:Heap} {args:List WData} {vals:List Value}
  (hpre:l.row.toRowW.claim.pre args=true) (hwl:WellAll P h vals args):
  ∃a vs ns,vals=[Value.ref a]∧args=[WData.list (ns.map WData.int)]∧h.get? a=some {cls:=.type "list",data:=.seq vs.toArray}∧IntsAre vs ns∧ns.length≤n:=by
 have hsh:WShape.hasAll [] args [.list .int]=true:=(pre_splitW hpre).1
 have hc:l.pre.holds [] {args:=args}=true:=(pre_splitW hpre).2
 obtain ⟨d,r,rfl,h1,h2⟩:=hasAllW_cons hsh
 obtain rfl:=hasAllW_nil h2
 obtain ⟨xs,rfl,h3⟩:=hasW_list h1
 obtain ⟨ns,rfl⟩:=items_int h3
 have hlen:ns.length≤n:=by
  unfold OpenLaw.pre at hc
  have h4:(WTm.not (.lt (.lit (.int (n:Int))) (.len (.arg 0)))).holds [] {args:=[.list (ns.map .int)]}=true:=by
   have h4:=(holds_andW hc).1
   rw [hn] at h4
   exact h4
  have h5:=condW_of h4 (w_not (w_lt w_lit (w_len_list (w_arg rfl))))
  rw [List.length_map] at h5
  refine Nat.le_of_not_lt fun q=>?_
  have q':(n:Int) < ((ns.length:Nat):Int):=by omega
  first
   | (rw [decide_eq_true q'] at h5;exact absurd h5 (by decide))
   | (simp at h5;omega)
 cases hwl with
 | cons w1 w2=>
  cases w2
  cases w1 with
  | list ho hall=>exact ⟨_,_,ns,rfl,rfl,ho,a5j ns _ hall,hlen⟩
theorem b0w (l:OpenLaw) (args:List WData):l.row.toRowW.claim.post args (.bool true) args=true:=
 postW_of (r:=l.row.toRowW) (X:=(true == true))
  (show WShape.has [] (.bool true) .bool=true by first | rfl | decide | simp [WShape.has,WShape.arms,WShape.armsAll])
  (show (WTm.eq .res (.lit (.bool true))).value [] {args:=args,res:=some (.bool true),after:=args}=some (.bool (true == true)) from w_eq_bool (w_res rfl) w_lit) rfl
theorem attach_call {l:OpenLaw} {n:Nat} {q:Program} {loose:List Str} {XP:(Str→Option Value)→Heap→Prop} {YP:World→Heap→Prop} {d:DefRec}
  (hn:l.most=some n) (hdf:d.params.defaults=[])
  (call:∀(w:World) (s₀ s₁:Shared) (mg mb:Str→Option Value) (fa:Addr) (o:Obj) (pm cd doc:Value) (a:Addr) (vs:List Value) (ns:List Int),
   Ground q loose [] XP w s₀ mg mb s₁.heap→YP w s₁.heap→
   s₁.heap.get? fa=some o→o.data=.func (docDef d.name d.params d.body d.scope pm cd doc)→s₁.heap.CodeRec cd d.name→mg d.name=some (.ref fa)→
   s₁.heap.get? a=some {cls:=.type "list",data:=.seq vs.toArray}→IntsAre vs ns→ns.length≤n→s₁.gens=#[]→
   codeAny (model l.prog w) callerA (.call (.ref fa) ⟨[.ref a],[]⟩) (fun r s'=>r=.ok (.ret (.bool true))∧OldK s₁.heap s'.heap∧s'.os=s₁.os∧AllBare s'.gens) s₁):
  WalkO q loose XP YP l.row.toRowW d [] (fun f vs=>PySem.call f vs):=by
 intro w s₀ s₁ mg mb G Y fa o pm cd doc dV kV ho hd hcd hD hmg hg args vals as hpre hlay hrd hwl hlo
 obtain rfl:dV=.none:=Dflts.none hD hdf
 obtain rfl:kV=.none:=Dflts.noKw hD
 obtain ⟨a,vs,ns,rfl,rfl,hobj,hints,hlen⟩:=b0V hn hpre hwl
 refine enter_call (codeAny_mono (call w s₀ s₁ mg mb fa o pm cd doc a vs ns G Y ho (fd_plain hd) hcd hmg hobj hints hlen hg) fun r s' hq=>?_)
 obtain ⟨rfl,h2,h3,h4⟩:=hq
 exact ⟨.inl ⟨.bool true,.bool true,[],rfl,fun _=>rfl,.bool true,b0w l _,fun _=>⟨List.Pairwise.nil,fun _ hm=>(nomatch hm)⟩⟩,h2,h3,h4⟩
end Att
namespace L2
open PySem PySem.Spec PyProof.Rows
theorem a7H:∀{vs:List Value} {ns:List Int},IntsAre vs ns→a1f (ns.map V.int) vs
 | _,_,.nil=>.nil
 | _,_,.cons n t h=>.cons ⟨t,rfl⟩ (a7H h)
def b7k (H:Hp):Prop:=∀b,H b=none∨∃o xs,H b=some (.frz o (.lst xs))
theorem b3m {P:Program} {w:World} {K:PySem.W.Frag} {mg mb:Str→Option Value} {CX:CXT} {k:Nat} {fa a:Addr} {fd:FuncData} {x:Str} {sp:Sp} {s₁:Shared} {vs:List Value} {ns:List Int}
  (KX:K.In s₁.heap) (hns:s₁.heap.Ns mainGlobals mg) (hb:s₁.heap.Ns builtinsNs mb) (hbb:∀x:Str,x≠"__name__"→mb x=bootBuiltins x) (hlim:s₁.heap.NoLimit) (hg:s₁.gens=#[])
  (ha:s₁.heap.get? a=some {cls:=.type "list",data:=.seq vs.toArray}) (hi:IntsAre vs ns) (hl:ns.length≤sizeLine) (hr:a2Z k callerA)
  (F:∀base:Heap,K.In base→base.Ns mainGlobals mg→a1y P w K mg base CX k fa fd [x] sp) (hbind:∀(s:Shared) (u:Value),BindsTo s fd ⟨[u],[]⟩ [(x,u)])
  (hsp:∀H:Hp,b7k H→SqL K H a (ns.map V.int)→sp [.ref a] H (fun v _=>v=.bl true) fun _ _ _=>False)
  (hCX:∀H e s',CX [] H s₁ (fun _ _ _=>False) e s'→False):
  codeAny (model P w) callerA (.call (.ref fa) ⟨[.ref a],[]⟩) (fun r s'=>r=.ok (.ret (.bool true))∧OldK s₁.heap s'.heap∧s'.os=s₁.os∧AllBare s'.gens) s₁:=by
 have rv:=a7H hi
 have lenV:=hi.length
 have core:∀H:Hp,b7k H→SqL K H a (ns.map V.int)→HOk P w H s₁.heap→(∀b,H b≠none→b=a)→(H a≠none→K.lookup a=none)→
   codeAny (model P w) callerA (.call (.ref fa) ⟨[.ref a],[]⟩) (fun r s'=>r=.ok (.ret (.bool true))∧OldK s₁.heap s'.heap∧s'.os=s₁.os∧AllBare s'.gens) s₁:=by
  intro H hO hS hok hA hK
  have base_of:∀{b:Addr} {o:Obj},s₁.heap.get? b=some o→H b=none→(b3p s₁.heap H).get? b=some o:=fun e n=>b2E e n
  have noA:∀{b:Addr} {o:Obj} {es:Array DictEntry} {ep:Nat},s₁.heap.get? b=some o→o.data=.dict es ep→H b=none:=fun {b o es ep} e d=>by
   cases q:H b with
   | none=>rfl
   | some u=>
    have e':b=a:=hA b (by rw [q];simp)
    subst e'
    rw [ha] at e;cases e
    have d':Data.seq vs.toArray _=Data.dict es ep:=d
    cases d'
  have nsK:∀{b:Addr} {m:Str→Option Value},s₁.heap.Ns b m→(b3p s₁.heap H).Ns b m:=fun {b m} ⟨o,es,ep,e,d,r⟩=>⟨o,es,ep,base_of e (noA e d),d,r⟩
  have hKb:K.In (b3p s₁.heap H):=fun b o e=>base_of (KX b o e) (by
   cases q:H b with
   | none=>rfl
   | some u=>
    have e':b=a:=hA b (by rw [q];simp)
    subst e'
    rw [hK (by rw [q];simp)] at e;cases e)
  have hM:Mod K mg (b3p s₁.heap H):=⟨hKb,nsK hns,⟨mb,nsK hb,hbb⟩,let ⟨mc,h1,h2⟩:=hlim;⟨mc,nsK h1,h2⟩⟩
  have e0:b2e P w K mg (b3p s₁.heap H) callerA [] s₁ H:=⟨rfl,hM,fun b o e=>b4E e,Nat.le_of_eq (b0X _ _),trivial,fun b hb=>absurd (show b∈([]:List Addr) from hb) (by simp),hok,.of_eq hg⟩
  refine codeAny_mono ((F _ hKb (nsK hns)).run callerA [] s₁ H ⟨[.ref a],[]⟩ [.ref a] [.ref a] _ _ hr e0 (hbind s₁ (.ref a)) (.cons rfl .nil) (hsp H hO hS)) fun r s' h=>?_
  cases r with
  | error e=>exact (hCX H e s' h).elim
  | ok fl=>
   cases fl with
   | next=>exact False.elim h
   | brk=>exact False.elim h
   | cont=>exact False.elim h
   | ret u=>
    obtain ⟨v,H',os,bare,un,hok',r',q⟩:=h
    have q':v=.bl true:=q
    subst q'
    obtain rfl:u=Value.bool true:=r'
    refine ⟨rfl,OldK.of_keep fun b o e=>?_,os,bare⟩
    cases q:H b with
    | none=>exact un.keep b o e q (by intro z;exact absurd (show b∈([]:List Addr) from z) (by simp)) (by simp)
    | some u=>
     rcases hO b with z | ⟨ob,xs,z⟩
     ·rw [q] at z;cases z
     ·have z2:=un.frzs b ob _ z
      obtain ⟨e1,_⟩:=hok b _ z
      obtain ⟨e2,_⟩:=hok' b _ z2
      rw [e] at e1;cases e1
      exact e2
 cases hk:K.lookup a with
 | some o=>
  have e:=KX a o hk
  rw [ha] at e
  cases e
  refine core (fun _=>none) (fun _=>.inl rfl) (.inr ⟨_,vs.toArray,_,hk,rfl,rfl,rfl,by rw [List.size_toArray,lenV];exact hl,by simpa using rv⟩) (fun b u z=>by have z':(none:Option HO)=some u:=z;cases z') (fun b z=>absurd rfl z) fun z=>absurd rfl z
 | none=>
  refine core (fun b=>if b=a then some (.frz {cls:=.type "list",data:=.seq vs.toArray} (.lst (ns.map V.int))) else none) (fun b=>?_) (.inl (.inr ⟨{cls:=.type "list",data:=.seq vs.toArray},if_pos rfl⟩)) (fun b u z=>?_) (fun b z=>?_) fun _=>hk
  ·by_cases hb:b=a
   ·exact .inr ⟨_,_,if_pos hb⟩
   ·exact .inl (if_neg hb)
  ·by_cases hb:b=a
   ·have z':=(if_pos hb).symm.trans z
    cases z'
    subst hb
    exact ⟨ha,by rw [List.length_map];exact hl,vs,_,rv,ha⟩
   ·have z':=(if_neg hb).symm.trans z
    cases z'
  ·by_cases hb:b=a
   ·exact hb
   ·exact absurd (if_neg hb) z
end L2
namespace L2
open PySem PySem.Spec PyProof.Rows
abbrev KOf {K:PySem.W.Frag} {h:Heap} (_:K.In h):PySem.W.Frag:=K
theorem b5k {l:PySem.W.OpenLaw} {n k:Nat} {q:Program} {loose:List Str} {XP:(Str→Option Value)→Heap→Prop} {YP:World→Heap→Prop} {d:DefRec} {K:Params→PySem.W.Frag} {CX:World→CXT} {sp:World→Sp} {x:Str}
  (hn:l.most=some n) (hn2:n≤sizeLine) (hdf:d.params.defaults=[]) (hr:a2Z k callerA)
  (hY:∀(w:World) (h:Heap),YP w h→(K w.params).In h)
  (F:∀(w:World) (mg:Str→Option Value) (fa:Addr) (h:Heap),(K w.params).In h→h.Ns mainGlobals mg→mg d.name=some (.ref fa)→
   ∃fd:FuncData,(∀(s:Shared) (u:Value),BindsTo s fd ⟨[u],[]⟩ [(x,u)])∧
    ∀base:Heap,(K w.params).In base→base.Ns mainGlobals mg→a1y l.prog w (K w.params) mg base (CX w) k fa fd [x] (sp w))
  (hsp:∀(w:World) (H:Hp) (a:Addr) (ns:List Int),ns.length≤n→b7k H→SqL (K w.params) H a (ns.map V.int)→sp w [.ref a] H (fun v _=>v=.bl true) fun _ _ _=>False)
  (hCX:∀(w:World) (H:Hp) (s:Shared) (e:Value) (s':Shared),CX w [] H s (fun _ _ _=>False) e s'→False):
  PySem.W.WalkO q loose XP YP l.row.toRowW d [] (fun f vs=>PySem.call f vs):=by
 refine Att.attach_call hn hdf fun w s₀ s₁ mg mb fa o pm cd doc a vs ns G Y ho hd hcd hmg hobj hints hlen hg=>?_
 have KX:=hY w _ Y
 obtain ⟨fd,hb,hF⟩:=F w mg fa _ KX G.T.g hmg
 exact b3m KX G.T.g G.T.b G.T.builtins G.T.nolimit hg hobj hints (Nat.le_trans hlen hn2) hr hF hb (fun H hO hS=>hsp w H a ns hlen hO hS) fun H e s'=>hCX w H s₁ e s'
theorem b2B {l:PySem.W.OpenLaw} {n k:Nat} {q:Program} {loose:List Str} {XP:(Str→Option Value)→Heap→Prop} {YP:World→Heap→Prop} {d:DefRec} {K:Params→PySem.W.Frag} {CX:CXT} {sp:PySem.W.Frag→Sp} {x:Str}
  (hn:l.most=some n) (hn2:n≤sizeLine) (hdf:d.params.defaults=[]) (hr:a2Z k callerA)
  (hY:∀(w:World) (h:Heap),YP w h→(K w.params).In h)
  (F:∀(w:World) (mg:Str→Option Value) (fa:Addr) (h:Heap),(K w.params).In h→h.Ns mainGlobals mg→mg d.name=some (.ref fa)→
   ∃fd:FuncData,(∀(s:Shared) (u:Value),BindsTo s fd ⟨[u],[]⟩ [(x,u)])∧
    ∀base:Heap,(K w.params).In base→base.Ns mainGlobals mg→a1y l.prog w (K w.params) mg base CX k fa fd [x] (sp (K w.params)))
  (hsp:∀(K:PySem.W.Frag) (H:Hp) (a:Addr) (ns:List Int),ns.length≤n→b7k H→SqL K H a (ns.map V.int)→sp K [.ref a] H (fun v _=>v=.bl true) fun _ _ _=>False)
  (hCX:∀(H:Hp) (s:Shared) (e:Value) (s':Shared),CX [] H s (fun _ _ _=>False) e s'→False):
  PySem.W.WalkO q loose XP YP l.row.toRowW d [] (fun f vs=>PySem.call f vs):=
 b5k (K:=K) (CX:=fun _=>CX) (sp:=fun w=>sp (K w.params)) hn hn2 hdf hr hY F (fun w H a ns h1 h2 h3=>hsp (K w.params) H a ns h1 h2 h3) fun _ H s e s'=>hCX H s e s'
end L2
namespace L2
open PySem PySem.Spec PyProof.Rows
def a0o (s:Stmt) (j:Nat):Stmt:=match s with
 | .ClassDef _ _ _ body _ _ _ _ _ _ _=>body.getD j (.Pass ⟨0,0,0,0⟩)
 | _=>.Pass ⟨0,0,0,0⟩
def a0d (s:Stmt):Arguments:=match s with
 | .FunctionDef _ a _ _ _ _ _ _ _ _=>a
 | _=>{posonlyargs:=[],args:=[],vararg:=none,kwonlyargs:=[],kw_defaults:=[],kwarg:=none,defaults:=[]}
def a0c (s:Stmt):List Stmt:=match s with
 | .FunctionDef _ _ b _ _ _ _ _ _ _=>b
 | _=>[]
def a0a (s:Stmt):Scope:=match s with
 | .FunctionDef _ _ _ _ _ _ sc _ _ _=>sc
 | _=>{kind:=.function,names:=[],isGenerator:=false,isCoroutine:=false}
abbrev CX0:CXT:=fun _ _ _ _ _ _=>False
abbrev E0:XK:=fun _ _ _=>False
theorem a0z {X:Cx}:a3j CX0 X E0:=fun _ _ _ _ _ _ _ h=>h.elim
structure Fun (K:PySem.W.Frag) (x qual:Str) (st:Stmt) (f:Addr) (fd:FuncData):Prop where
 ex:∃(oc:Value) (od:Option Addr) (kV doc pm:Value) (an:Option Addr) (cdv ct:Value) (osl:Array (Option Value)),
  fd=PySem.W.fnOf x qual (a0d st) (a0c st) (a0a st) .none kV doc pm an cdv ct∧K.lookup f=some ⟨oc,od,.func fd,osl⟩∧PySem.W.codeIn K cdv qual=true
 kp:PySem.W.keepIn K (.ref f)=true
section
variable {P:Program} {w:World} {K:PySem.W.Frag} {mg:Str→Option Value} {base:Heap}
theorem Fun.ok {x qual:Str} {st:Stmt} {f:Addr} {fd:FuncData} {N ps:List Str} {k:Nat} {sp:Sp} (F:Fun K x qual st f fd) (S:a0t N ps (a0a st)) (len:∀vs H Q E,sp vs H Q E→vs.length=ps.length)
  (hbody:∀(cdv:Value) (A:Around) (outer:List Env) (s:Shared) (H:Hp) (vs:List V) (Q:VK) (E:XK),a2Z k (A.deeper (envOfC qual (a0a st) s.heap.objs.size f cdv))→sp vs H Q E→
   ∃t,PSs (b1O CX0 P w K mg base N qual (a0a st) f cdv A outer s H E).nox (a0c st) t∧t {nx:=fun _ H'=>Q .non H',rt:=Q} (a0N N vs) H):a1y P w K mg base CX0 (k+1) f fd ps sp:=by
 obtain ⟨oc,od,kV,doc,pm,an,cdv,ct,osl,rfl,lk,hcd⟩:=F.ex
 refine b5a lk hcd S len fun A outer s H vs Q E hr hsp=>?_
 obtain ⟨t,h,q⟩:=hbody cdv A outer s H vs Q E hr hsp
 exact ⟨t,h.nox,q⟩
theorem Fun.binds {x qual:Str} {st:Stmt} {f:Addr} {fd:FuncData} {ps:List Str} (F:Fun K x qual st f fd)
  (h:∀(kV doc pm:Value) (an:Option Addr) (cdv ct:Value) (us:List Value),us.length=ps.length→bindArgs (PySem.W.fnOf x qual (a0d st) (a0c st) (a0a st) .none kV doc pm an cdv ct) ⟨us,[]⟩=pure (ps.zip us)):a0K K fd ps []:=by
 obtain ⟨oc,od,kV,doc,pm,an,cdv,ct,osl,rfl,lk,hcd⟩:=F.ex
 exact .all (h kV doc pm an cdv ct)
theorem a0l {x qual:Str} {st:Stmt} {f:Addr} {oc:Value} {od an:Option Addr} {osl:Array (Option Value)} {kV doc pm cdv ct:Value} (l:K.lookup f=some ⟨oc,od,.func (PySem.W.fnOf x qual (a0d st) (a0c st) (a0a st) .none kV doc pm an cdv ct),osl⟩)
  (c:PySem.W.codeIn K cdv qual=true) (k:PySem.W.keepIn K (.ref f)=true):Fun K x qual st f (PySem.W.fnOf x qual (a0d st) (a0c st) (a0a st) .none kV doc pm an cdv ct):=⟨⟨oc,od,kV,doc,pm,an,cdv,ct,osl,rfl,l,c⟩,k⟩
end
section
variable {X:Cx}
theorem pv (i:Nat) {x:Str} {pos:Pos} (hN:X.N[i]?=some x:=by rfl) (hv:Vis X.env.scope x:=by first | exact Or.inl rfl | exact Or.inr (Or.inl rfl) | exact Or.inr (Or.inr rfl)) (hd:(x == ("__debug__":Str))=false:=by decide)
  (hcd:(x == ("__classdict__":Str))=false:=by decide):PE X (.Name x pos) (a0L i):=b8t hN hv hd hcd
end
theorem a1L {c A B:Prop} [Decidable c] (h1:c→A) (h2:¬c→B):if c then A else B:=by
 by_cases h:c
 ·rw [if_pos h]
  exact h1 h
 ·rw [if_neg h]
  exact h2 h
def a0A (H H':Hp):Prop:=∀b o,H b=some o→H' b=some o
theorem a0A.refl (H:Hp):a0A H H:=fun _ _ h=>h
theorem a0A.trans {H H1 H2:Hp} (a:a0A H H1) (b:a0A H1 H2):a0A H H2:=fun c o h=>b c o (a c o h)
theorem a0A.free {H H':Hp} (e:a0A H H') {l:Addr} (h:H' l=Option.none):H l=Option.none:=by
 cases q:H l with
 | none=>rfl
 | some o=>
  rw [e l o q] at h
  cases h
theorem a0A.seq {K:PySem.W.Frag} {H H':Hp} {a:Addr} {xs:List V} (e:a0A H H') (h:SqL K H a xs):SqL K H' a xs:=by
 rcases h with (h | ⟨o,h⟩) | h
 ·exact .inl (.inl (e _ _ h))
 ·exact .inl (.inr ⟨o,e _ _ h⟩)
 ·exact .inr h
section
variable {X:Cx}
theorem b1x:a2w X (.builtin "len") (fun xs H Q=>∃a kvs,xs=[V.ref a]∧H a=some (.dK kvs)∧Q (.int kvs.length) H):=by
 intro pins s σ H xs us Q I r h
 obtain ⟨a,kvs,rfl,ha,q⟩:=h
 obtain ⟨u,rfl,ru⟩:=a5v r
 cases ru
 exact c0Q I (.inl ha) fun t s' I'=>⟨.int kvs.length,H,I',⟨t,rfl⟩,q⟩
end
end L2
namespace Tx
open PySem PySem.Builtin PySem.Builtin.Str PySem.StrLaws PyProof.Rows
abbrev mk (l:List Nat):Str:=⟨l.toArray⟩
theorem a5S (x:Str):mk x.cps.toList=x:=by obtain ⟨⟨l⟩⟩:=x;rfl
theorem a0i (l:List Nat):(mk l).length=l.length:=by show l.toArray.size=_;simp
theorem a4j (a b:List Nat):mk a++mk b=mk (a++b):=by
 show (⟨a.toArray++b.toArray⟩:Str)=_
 simp
theorem a1t {a b:List Nat} (h:mk a=mk b):a=b:=by simpa [mk] using h
theorem a3N (l:List Nat) (c i:Nat):subAt (mk l) (mk [c]) i=decide (l[i]?=some c):=by
 rw [subAt_eq]
 show ((l.drop i).take 1 == [c])=_
 cases e:l[i]? with
 | none=>
  have:l.drop i=[]:=List.drop_eq_nil_of_le (by simpa using e)
  rw [this];simp
 | some d=>
  have hi:=(List.getElem?_eq_some_iff.mp e)
  obtain ⟨h1,h2⟩:=hi
  rw [List.drop_eq_getElem_cons h1,h2]
  show (d == c && true)=decide (some d=some c)
  by_cases z:d=c
  ·subst z;simp
  ·simp [z]
def idx (l:List Nat) (c:Nat) (is:List Nat):List Nat:=is.filter fun i=>decide (l[i]?=some c)
theorem a8l (l:List Nat) (c limit:Nat):∀(is:List Nat) (st:Array Nat×Nat),is.Pairwise (· < ·)→(∀i∈is,st.2≤i)→st.1.size≤limit→
  (forIn is st (occBody (mk l) (mk [c]) (mk l).length limit)).run.1.toList=st.1.toList++(idx l c is).take (limit - st.1.size)
 | [],st,_,_,_=>by
  show st.1.toList=_
  simp [idx]
 | i::is,st,hp,hf,hs=>by
  have hp':=(List.pairwise_cons.mp hp)
  by_cases hc:((st.fst.size < limit∧st.snd≤i)∧i+(mk [c]).length≤(mk l).length)∧subAt (mk l) (mk [c]) i=true
  ·have hb:occBody (mk l) (mk [c]) (mk l).length limit i st=pure (ForInStep.yield (st.fst.push i,i+(mk [c]).length)):=if_pos hc
   have hd:decide (l[i]?=some c)=true:=by rw [←a3N];exact hc.2
   have ih:=a8l l c limit is (st.1.push i,i+(mk [c]).length) hp'.2 (fun j hj=>by rw [a0i];exact hp'.1 j hj) (by simp;omega)
   rw [List.forIn_cons,hb]
   refine Eq.trans ih ?_
   unfold idx
   rw [List.filter_cons,if_pos hd]
   have e:limit - st.1.size=(limit - (st.1.push i).size)+1:=by simp;omega
   rw [e,List.take_succ_cons]
   simp
  ·have hb:occBody (mk l) (mk [c]) (mk l).length limit i st=pure (ForInStep.yield (st.fst,st.snd)):=if_neg hc
   have ih:=a8l l c limit is st hp'.2 (fun j hj=>hf j (List.mem_cons_of_mem _ hj)) hs
   rw [List.forIn_cons,hb]
   refine Eq.trans ih ?_
   by_cases hd:decide (l[i]?=some c)=true
   ·have hi:i < l.length:=(List.getElem?_eq_some_iff.mp (by simpa using hd)).1
    have hsz:¬st.1.size < limit:=fun z=>hc ⟨⟨⟨z,hf i List.mem_cons_self⟩,by rw [a0i,a0i];exact hi⟩,by rw [a3N];exact hd⟩
    have e:limit - st.1.size=0:=by omega
    rw [e];simp
   ·unfold idx
    rw [List.filter_cons,if_neg hd]
theorem a9r (n:Nat):(List.range' 0 n).Pairwise (· < ·):=by
 rw [←List.range_eq_range'];exact List.pairwise_lt_range
theorem a4e (l:List Nat) (c limit:Nat):occurrences (mk l) (mk [c]) 0 (mk l).length limit=(idx l c (List.range (l.length+1))).take limit:=by
 rw [occ_eq,a8l l c limit _ _ (a9r _) (fun _ _=>Nat.zero_le _) (Nat.zero_le _)]
 rw [a0i,List.range_eq_range']
 simp
theorem a7L {l:List Nat} {c:Nat} (h:c∉l) (is:List Nat):idx l c is=[]:=by
 unfold idx
 rw [List.filter_eq_nil_iff]
 intro i _ z
 exact h (List.mem_of_getElem? (by simpa using z))
theorem a6S {a b:List Nat} {c:Nat} (h:c∉a):idx (a++c::b) c (List.range ((a++c::b).length+1))=a.length::(idx b c (List.range (b.length+1))).map (·+(a.length+1)):=by
 have e:(a++c::b).length+1=a.length+(1+(b.length+1)):=by simp;omega
 unfold idx
 rw [e,List.range_add,List.filter_append,List.filter_eq_nil_iff.mpr,List.nil_append]
 ·have e2:List.range (1+(b.length+1))=0::(List.range (b.length+1)).map (·+1):=by rw [Nat.add_comm 1,List.range_succ_eq_map]
  rw [e2,List.map_cons,List.map_map,List.filter_cons,if_pos (by simp),List.filter_map]
  congr 1
  have e3:((fun x=>a.length+x)∘(fun x=>x+1))=(fun x=>x+(a.length+1)):=by funext x;simp;omega
  rw [e3]
  congr 1
  refine List.filter_congr fun i _=>?_
  simp only [Function.comp]
  rw [List.getElem?_append_right (by omega),show i+(a.length+1) - a.length=i+1 by omega,List.getElem?_cons_succ]
 ·intro i hi z
  have hi':=List.mem_range.mp hi
  have z':(a++c::b)[i]?=some c:=by simpa using z
  rw [List.getElem?_append_left hi'] at z'
  exact h (List.mem_of_getElem? z')
theorem a3i (l:List Nat) (i j:Nat):strSub (mk l) i j=mk ((l.drop i).take (j - i)):=by
 rw [←a5S (strSub (mk l) i j),strSub_toList]
theorem a8e (p b:List Nat) (i j:Nat):strSub (mk (p++b)) (i+p.length) (j+p.length)=strSub (mk b) i j:=by
 rw [a3i,a3i,List.drop_append,List.drop_eq_nil_of_le (by omega),List.nil_append,show i+p.length - p.length=i by omega,show j+p.length - (i+p.length)=j - i by omega]
theorem a3p (p b:List Nat) (w:Nat):∀(cuts:List Nat) (a:Nat),partsFrom (mk (p++b)) w (a+p.length) (cuts.map (·+p.length))=partsFrom (mk b) w a cuts
 | [],a=>by
  show [strSub (mk (p++b)) (a+p.length) (mk (p++b)).length]=[strSub (mk b) a (mk b).length]
  rw [a0i,a0i,List.length_append,Nat.add_comm p.length,a8e]
 | k::ks,a=>by
  show strSub (mk (p++b)) (a+p.length) (k+p.length)::partsFrom (mk (p++b)) w (k+p.length+w) (ks.map (·+p.length))=strSub (mk b) a k::partsFrom (mk b) w (k+w) ks
  rw [a8e,show k+p.length+w=(k+w)+p.length by omega,a3p p b w ks]
def a0F (c:Nat):List Nat→List (List Nat)
 | []=>[[]]
 | d::r=>if d=c then []::a0F c r else match a0F c r with
  | []=>[[d]]
  | p::ps=>(d::p)::ps
theorem a4L (c:Nat) (l:List Nat):a0F c l≠[]:=by
 cases l with
 | nil=>simp [a0F]
 | cons d r=>
  unfold a0F
  split
  ·simp
  ·split<;>simp
theorem a1D {c:Nat}:∀{l:List Nat},c∉l→a0F c l=[l]
 | [],_=>rfl
 | d::r,h=>by
  have h1:d≠c:=fun e=>h (by simp [e])
  have h2:c∉r:=fun e=>h (List.mem_cons_of_mem _ e)
  unfold a0F
  rw [if_neg h1,a1D h2]
theorem a2i {c:Nat} {b:List Nat}:∀{a:List Nat},c∉a→a0F c (a++c::b)=a::a0F c b
 | [],_=>by show (if c=c then _ else _)=_;rw [if_pos rfl]
 | d::r,h=>by
  have h1:d≠c:=fun e=>h (by simp [e])
  have h2:c∉r:=fun e=>h (List.mem_cons_of_mem _ e)
  show (if d=c then _ else _)=_
  rw [if_neg h1]
  show (match a0F c (r++c::b) with | []=>[[d]] | p::ps=>(d::p)::ps)=_
  rw [a2i h2]
theorem a5a {c:Nat}:∀{l:List Nat},c∈l→∃a b,l=a++c::b∧c∉a
 | d::r,h=>by
  by_cases e:d=c
  ·exact ⟨[],r,by rw [e];rfl,by simp⟩
  ·obtain ⟨a,b,e1,h1⟩:=a5a (l:=r) (by
    rcases List.mem_cons.mp h with z | z
    ·exact absurd z.symm e
    ·exact z)
   exact ⟨d::a,b,by rw [e1];rfl,by simp [h1,Ne.symm e]⟩
theorem b0E (c:Nat):∀(n:Nat) (l:List Nat),l.length≤n→partsFrom (mk l) 1 0 (idx l c (List.range (l.length+1)))=(a0F c l).map mk:=by
 intro n
 induction n with
 | zero=>
  intro l h
  have:l=[]:=List.length_eq_zero_iff.mp (by omega)
  subst this
  rw [a7L (by simp)]
  rfl
 | succ n ih=>
  intro l h
  by_cases hc:c∈l
  ·obtain ⟨a,b,rfl,ha⟩:=a5a hc
   rw [a6S ha,a2i ha,List.map_cons]
   show strSub (mk (a++c::b)) 0 a.length::partsFrom (mk (a++c::b)) 1 (a.length+1) _=_
   have e:a++c::b=(a++[c])++b:=by simp
   have hl:(a++[c]).length=a.length+1:=by simp
   rw [a3i]
   refine congr (congrArg List.cons (by simp)) ?_
   rw [e,←hl]
   have:=a3p (a++[c]) b 1 (idx b c (List.range (b.length+1))) 0
   rw [Nat.zero_add] at this
   rw [this]
   exact ih b (by simp at h;omega)
  ·rw [a7L hc,a1D hc]
   show [strSub (mk l) 0 (mk l).length]=[mk l]
   rw [sub_whole]
theorem b0f {c:Nat} (h:c < 256) (x:Str):decide (PySem.Builtin.Str.strKind x < PySem.Builtin.Str.strKind (mk [c]))=false:=by
 have e:PySem.Builtin.Str.strKind (mk [c])=1:=by
  unfold PySem.Builtin.Str.strKind
  rw [if_pos (by simp [h])]
 rw [e,decide_eq_false_iff_not]
 unfold PySem.Builtin.Str.strKind
 split
 ·omega
 ·split<;>omega
theorem a3c {c:Nat} (h:c < 256) (l:List Nat):Txt.split (mk l) (mk [c])=(a0F c l).map mk:=by
 unfold Txt.split
 rw [b0f h,Bool.or_false,a0i,a0i]
 by_cases h0:l.length < 1
 ·have:l=[]:=List.length_eq_zero_iff.mp (by omega)
  subst this
  rfl
 ·rw [if_neg (by simp only [List.length_singleton,decide_eq_true_eq];exact h0)]
  have e:occurrences (mk l) (mk [c]) 0 l.length (l.length+1)=idx l c (List.range (l.length+1)):=by
   have:=a4e l c (l.length+1)
   rw [a0i] at this
   rw [this,List.take_of_length_le]
   unfold idx
   exact Nat.le_trans (List.length_filter_le _ _) (by simp)
  rw [e,partsBetween_eq]
  by_cases hc:c∈l
  ·rw [if_neg,List.length_singleton]
   ·exact b0E c l.length l (Nat.le_refl _)
   ·obtain ⟨a,b,rfl,ha⟩:=a5a hc
    rw [a6S ha];simp
  ·rw [a7L hc,a1D hc];rfl
theorem b4t {c:Nat} {l:List Nat} (h:c∉l):Txt.partition (mk l) (mk [c])=(mk l,Str.empty,Str.empty):=by
 unfold Txt.partition
 rw [a4e,a7L h];rfl
theorem b5g {c:Nat} {a b:List Nat} (h:c∉a):Txt.partition (mk (a++c::b)) (mk [c])=(mk a,mk [c],mk b):=by
 unfold Txt.partition
 rw [a4e,a6S h]
 show (strSub (mk (a++c::b)) 0 a.length,mk [c],strSub (mk (a++c::b)) (a.length+1) (mk (a++c::b)).length)=_
 rw [a3i,a3i,a0i]
 have e1:List.drop (a.length+1) (a++c::b)=b:=by
  rw [List.drop_append,List.drop_eq_nil_of_le (by omega),show a.length+1 - a.length=1 by omega];rfl
 rw [e1]
 simp
 exact List.take_of_length_le (by omega)
theorem a9O (c:Nat) (l:List Nat):(c∉l∧Txt.partition (mk l) (mk [c])=(mk l,Str.empty,Str.empty))∨∃a b,l=a++c::b∧c∉a∧Txt.partition (mk l) (mk [c])=(mk a,mk [c],mk b):=by
 by_cases h:c∈l
 ·obtain ⟨a,b,rfl,ha⟩:=a5a h
  exact .inr ⟨a,b,rfl,ha,b5g ha⟩
 ·exact .inl ⟨h,b4t h⟩
theorem a5T (c:Nat) (l:List Nat):Txt.startswith (mk l) (mk [c])=decide (l[0]?=some c):=by
 unfold Txt.startswith
 rw [a3N,a0i,a0i]
 cases l with
 | nil=>rfl
 | cons d r=>simp
theorem b3c (c:Nat) (l:List Nat):Txt.endswith (mk l) (mk [c])=decide (l.getLast?=some c):=by
 unfold Txt.endswith
 rw [a3N,a0i,a0i,List.getLast?_eq_getElem?]
 cases l with
 | nil=>rfl
 | cons d r=>simp
theorem a8U (l:List Nat) {j:Int} (h0:0≤j) (h1:j≤l.length):Txt.slice (mk l) none (some j)=mk (l.take j.toNat):=by
 have:=slice_closes_toL (x:=mk l) h0 (by rw [a0i];exact h1)
 have e:=eq_of_beq this
 rw [e];simp
theorem a4N (l:List Nat) {i:Int} (h0:0≤i) (h1:i≤l.length):Txt.slice (mk l) (some i) none=mk (l.drop i.toNat):=by
 have:=slice_closes_fromL (x:=mk l) (b:=l.length) h0 (by rw [a0i];exact h1) (by rw [a0i])
 have e:=eq_of_beq this
 rw [e]
 simp
 rw [List.take_of_length_le]
 rw [List.length_drop];omega
theorem a4U (l:List Nat) (h:l≠[]):Txt.slice (mk l) none (some (-1))=mk l.dropLast:=by
 have hl:0 < l.length:=List.length_pos_iff.mpr h
 have:=slice_closes_to_neg (x:=mk l) (j:=-1) (k:=-1+l.length) (by decide) (by rw [a0i];omega) (by rw [a0i])
 have e:=eq_of_beq this
 rw [e,List.dropLast_eq_take]
 simp
 congr 1;omega
theorem b3n (c a b:List Nat):Txt.join (mk c) [mk a,mk b]=mk (a++c++b):=by
 show (⟨a.toArray++c.toArray++b.toArray⟩:Str)=_
 simp
theorem b6b (c:Nat) (x:Str):(!(occurrences x (mk [c]) 0 x.length 1).isEmpty)=decide (c∈x.cps.toList):=found_one x c
end Tx
namespace L2
open PySem PySem.Spec PyProof.Rows
abbrev NoE:Value→Shared→Prop:=fun _ _=>False
section
variable {prog:Program} {w:World} {A:Around} {R:Result→Shared→Prop} {s:Shared}
theorem a7f {elt target iter:Expr} {ifs:List Expr} {scope:Scope} {pos:Pos} {it acc:Value} {env:Env} (I:Nat→Shared→Prop)
  (turn:∀n s,I n s→wpAny (model prog w) A (pyNext it) (fun r s₁=>match r with
   | none=>R (.ok .next) s₁
   | some v=>wpAny (model prog w) A (letOwnedTupleGo target it v) (fun _ s₂=>wpAny (model prog w) A (assign target env v) (fun _ s₃=>
     wpAny (model prog w) A (forIn ifs true fun c r=>if r=true then do let ok ←isTrue c env (eval c env);pure (ForInStep.yield ok) else pure (ForInStep.yield r)) (fun ok s₄=>
      if ok=true then wpAny (model prog w) A (eval elt env) (fun x s₅=>wpAny (model prog w) A (call (.builtin "list.append") [acc,x]) (fun _ s₆=>∃m,m < n∧I m s₆) NoE s₅) NoE s₄
      else ∃m,m < n∧I m s₄) NoE s₃) NoE s₂) NoE s₁) NoE s)
  (n:Nat) (h:I n s):codeAny (model prog w) A (.compLoop (.ListComp elt [⟨target,iter,ifs,0⟩] scope pos) 0 it acc env) R s:=by
 refine codeAny_loop rfl I (fun n s hI=>?_) n h
 show wpAny _ A ((compTurn (.ListComp elt [⟨target,iter,ifs,0⟩] scope pos) 0 it acc env).onRaise (fun x=>do noteFrame x env;theTreesLotGoes x)) _ _ s
 refine wpAny_noted ?_
 rw [compTurn_list]
 refine wpAny_noRaise ?_
 refine wpAny_bind (wpAny_standAt (wpAny_bind (wpAny_mono (turn n s hI) (fun r s₁ h₁=>?_) fun _ _ h'=>h')))
 cases r with
 | none=>exact wpAny_pure h₁
 | some v=>
  refine wpAny_bind (wpAny_mono h₁ (fun _ s₂ h₂=>wpAny_bind (wpAny_mono h₂ (fun _ s₃ h₃=>wpAny_bind (wpAny_mono h₃ (fun ok s₄ h₄=>?_) fun _ _ h'=>h')) fun _ _ h'=>h')) fun _ _ h'=>h')
  cases ok with
  | false=>exact wpAny_pure ⟨rfl,h₄⟩
  | true=>exact wpAny_bind (wpAny_bind (wpAny_mono h₄ (fun x s₅ h₅=>wpAny_bind (wpAny_mono h₅ (fun _ s₆ h₆=>wpAny_pure (wpAny_pure ⟨rfl,h₆⟩)) fun _ _ h'=>h')) fun _ _ h'=>h'))
end
def a5g (env:Env):List (Str×NameKind)→List (Str×Addr)→List (Str×Addr)
 | [],cs=>cs
 | (n,k)::r,cs=>a5g env r (if (k == NameKind.free)=true then (n,(env.cells.lookup n).getD 0)::cs else cs)
theorem a2O {scope:Scope} {env:Env} (h:∀y∈scope.names,y.2=NameKind.free→∃c,env.cells.lookup y.1=some c):closureFor scope env=pure (a5g env scope.names []):=by
 have all:∀(l:List (Str×NameKind)) (cs:List (Str×Addr)),(∀y∈l,y.2=NameKind.free→∃c,env.cells.lookup y.1=some c)→
   (forIn l cs fun (x:Str×NameKind) (cs:List (Str×Addr))=>(if (x.2 == NameKind.free)=true then do let a ←cellOf env x.1;pure (ForInStep.yield ((x.1,a)::cs)) else pure (ForInStep.yield cs):Sem (ForInStep (List (Str×Addr)))))=pure (a5g env l cs):=by
  intro l
  induction l with
  | nil=>intro cs _;rfl
  | cons y l ih=>
   intro cs hy
   obtain ⟨n,k⟩:=y
   rw [List.forIn_cons]
   by_cases hk:(k == NameKind.free)=true
   ·obtain ⟨c,hc⟩:=hy (n,k) List.mem_cons_self (by simpa using hk)
    have e1:cellOf env n=pure c:=by unfold cellOf;rw [hc]
    have e2:a5g env ((n,k)::l) cs=a5g env l ((n,c)::cs):=by
     show a5g env l (if (k == NameKind.free)=true then (n,(env.cells.lookup n).getD 0)::cs else cs)=_
     rw [if_pos hk,hc];rfl
    rw [e2,←ih ((n,c)::cs) fun z hz=>hy z (List.mem_cons_of_mem _ hz)]
    simp only [hk,if_true,e1,pure_bind]
   ·have e2:a5g env ((n,k)::l) cs=a5g env l cs:=by
     show a5g env l (if (k == NameKind.free)=true then (n,(env.cells.lookup n).getD 0)::cs else cs)=_
     rw [if_neg hk]
    rw [e2,←ih cs fun z hz=>hy z (List.mem_cons_of_mem _ hz)]
    have hk':(k == NameKind.free)=false:=by simpa using hk
    simp only [hk',Bool.false_eq_true,if_false,pure_bind]
 have e:=all scope.names [] h
 unfold closureFor
 first
  | (rw [show (pure (a5g env scope.names []):Sem (List (Str×Addr)))=(pure (a5g env scope.names []) >>= fun cs=>pure cs) from rfl,←e];rfl)
  | (simp only [bind_pure];exact e)
  | (simpa using e)
theorem a7g {env:Env} {x:Str} {c:Addr}:∀{l:List (Str×NameKind)} {cs:List (Str×Addr)},(∀y∈l,y.2=NameKind.free→∃c,env.cells.lookup y.1=some c)→
  (∀y d,cs.lookup y=some d→env.cells.lookup y=some d)→(a5g env l cs).lookup x=some c→env.cells.lookup x=some c
 | [],_,_,hc,h=>hc x c h
 | (n,k)::r,cs,hy,hc,h=>by
  refine a7g (l:=r) (cs:=if (k == NameKind.free)=true then (n,(env.cells.lookup n).getD 0)::cs else cs) (fun z hz=>hy z (List.mem_cons_of_mem _ hz)) (fun y d q=>?_) h
  by_cases hk:(k == NameKind.free)=true
  ·rw [if_pos hk] at q
   obtain ⟨c',hc'⟩:=hy (n,k) List.mem_cons_self (by simpa using hk)
   rw [hc',List.lookup_cons] at q
   by_cases e:(y == n)=true
   ·rw [e] at q
    have e':y=n:=by simpa using e
    rw [e',hc'];exact q
   ·have e':(y == n)=false:=by simpa using e
    rw [e'] at q
    exact hc y d q
  ·rw [if_neg hk] at q
   exact hc y d q
theorem a6V {env:Env} {x:Str}:∀{l:List (Str×NameKind)} {cs:List (Str×Addr)},((x,NameKind.free)∈l∨∃c,cs.lookup x=some c)→∃c,(a5g env l cs).lookup x=some c
 | [],_,h=>by
  rcases h with h | h
  ·cases h
  ·exact h
 | (n,k)::r,cs,h=>by
  refine a6V (l:=r) (cs:=if (k == NameKind.free)=true then (n,(env.cells.lookup n).getD 0)::cs else cs) ?_
  rcases h with h | ⟨c,h⟩
  ·rcases List.mem_cons.mp h with e | e
   ·cases e
    refine .inr ?_
    rw [if_pos (by rfl),List.lookup_cons,beq_self_eq_true]
    exact ⟨_,rfl⟩
   ·exact .inl e
  ·refine .inr ?_
   by_cases hk:(k == NameKind.free)=true
   ·rw [if_pos hk,List.lookup_cons]
    by_cases e:(x == n)=true
    ·rw [e];exact ⟨_,rfl⟩
    ·have e':(x == n)=false:=by simpa using e
     rw [e'];exact ⟨c,h⟩
   ·rw [if_neg hk];exact ⟨c,h⟩
theorem a2h {env:Env}:∀{names:List (Str×NameKind)} {x:Str},names.lookup x=some .free→
  (names.map fun (n,k)=>if (k == NameKind.free && env.scope.kind == .function && env.kindOf n == some .cell) then (n,NameKind.cell) else (n,k)).lookup x=some .cell∨
  (names.map fun (n,k)=>if (k == NameKind.free && env.scope.kind == .function && env.kindOf n == some .cell) then (n,NameKind.cell) else (n,k)).lookup x=some .free
 | [],_,h=>by simp at h
 | (n,k)::r,x,h=>by
  have ih:=@a2h env r x
  rw [List.map_cons]
  show List.lookup x ((if (k == NameKind.free && env.scope.kind == .function && env.kindOf n == some .cell)=true then (n,NameKind.cell) else (n,k))::_)=_∨List.lookup x ((if (k == NameKind.free && env.scope.kind == .function && env.kindOf n == some .cell)=true then (n,NameKind.cell) else (n,k))::_)=_
  cases hx:x == n with
  | true=>
   simp only [List.lookup_cons,hx] at h
   cases h
   by_cases hc:(NameKind.free == NameKind.free && env.scope.kind == .function && env.kindOf n == some .cell)=true
   ·rw [if_pos hc];exact .inl (by simp only [List.lookup_cons,hx])
   ·rw [if_neg hc];exact .inr (by simp only [List.lookup_cons,hx])
  | false=>
   simp only [List.lookup_cons,hx] at h
   by_cases hc:(k == NameKind.free && env.scope.kind == .function && env.kindOf n == some .cell)=true
   ·rw [if_pos hc];simp only [List.lookup_cons,hx];exact ih h
   ·rw [if_neg hc];simp only [List.lookup_cons,hx];exact ih h
theorem a5M {env:Env}:∀{names:List (Str×NameKind)} {x:Str},(∀y∈names,y.2≠NameKind.cell)→
  ((names.map fun (n,k)=>if (k == NameKind.free && env.scope.kind == .function && env.kindOf n == some .cell) then (n,NameKind.cell) else (n,k)).lookup x=some .cell∨
  (names.map fun (n,k)=>if (k == NameKind.free && env.scope.kind == .function && env.kindOf n == some .cell) then (n,NameKind.cell) else (n,k)).lookup x=some .free)→(x,NameKind.free)∈names
 | [],_,_,h=>by rcases h with h | h<;>simp at h
 | (n,k)::r,x,hn,h=>by
  have ih:=@a5M env r x fun y hy=>hn y (List.mem_cons_of_mem _ hy)
  have hk:=hn (n,k) List.mem_cons_self
  rw [List.map_cons] at h
  by_cases hc:(k == NameKind.free && env.scope.kind == .function && env.kindOf n == some .cell)=true
  ·have hk1:k=NameKind.free:=by
    rw [Bool.and_eq_true,Bool.and_eq_true] at hc
    simpa using hc.1.1
   simp only [hc,if_true,List.lookup_cons] at h
   cases hx:x == n with
   | true=>have e:x=n:=(by simpa using hx);rw [e,hk1];exact List.mem_cons_self
   | false=>rw [hx] at h;exact List.mem_cons_of_mem _ (ih h)
  ·have hc':(k == NameKind.free && env.scope.kind == .function && env.kindOf n == some .cell)=false:=by simpa using hc
   simp only [hc',Bool.false_eq_true,if_false,List.lookup_cons] at h
   cases hx:x == n with
   | true=>
    rw [hx] at h
    have e:x=n:=by simpa using hx
    rcases h with h | h
    ·exact absurd (Option.some.inj h) hk
    ·rw [e,Option.some.inj h];exact List.mem_cons_self
   | false=>rw [hx] at h;exact List.mem_cons_of_mem _ (ih h)
def a1P (X:Cx) (Nc:List Str) (scope:Scope) (cl:List (Str×Addr)) (C:Addr) (s:Shared) (H:Hp) (ex:List Addr):Cx where
 prog:=X.prog
 w:=X.w
 K:=X.K
 mg:=X.mg
 base:=X.base
 A:=X.A
 N:=Nc
 s₀:=s
 H₀:=H
 env:=compEnvC scope cl C X.env
 outer:=X.stack
 stack:=X.stack
 ex:=ex
 fn:=fun _=>false
 calm:=X.calm
 pn:=[]
 xe:=NoE
def a5z (js:List (Option Nat)) (σ:St):St:=js.map fun o=>match o with
 | none=>none
 | some j=>(σ[j]?).getD none
structure a9A (X:Cx) (Nc:List Str) (js:List (Option Nat)) (scope:Scope):Prop where
 kind:scope.kind=.function
 nocell:∀y∈scope.names,y.2≠NameKind.cell
 names:∀y∈scope.names,y.2=NameKind.local→scope.names.lookup y.1=some NameKind.local
 free:∀y∈scope.names,y.2=NameKind.free→X.env.kindOf y.1=some NameKind.cell∨X.env.kindOf y.1=some NameKind.free
 len:js.length=Nc.length
 map:∀(i:Nat) (y:Str) (j:Nat),Nc[i]?=some y→js[i]?=some (some j)→X.N[j]?=some y∧scope.names.lookup y=some NameKind.free
def b7J (sc:Scope) (N Nc:List Str) (js:List (Option Nat)) (scope:Scope):Bool:=
 scope.kind == .function && scope.names.all (fun y=>y.2 != NameKind.cell) && scope.names.all (fun y=>y.2 != NameKind.local || scope.names.lookup y.1 == some NameKind.local) &&
 scope.names.all (fun y=>y.2 != NameKind.free || sc.names.lookup y.1 == some NameKind.cell || sc.names.lookup y.1 == some NameKind.free) && js.length == Nc.length &&
 (Nc.zip js).all (fun p=>match p.2 with | none=>true | some j=>N[j]? == some p.1 && scope.names.lookup p.1 == some NameKind.free)
theorem a1M {X:Cx} {sc:Scope} {N Nc:List Str} {js:List (Option Nat)} {scope:Scope} (hsc:X.env.scope=sc) (hN:X.N=N) (h:b7J sc N Nc js scope=true):a9A X Nc js scope:=by
 unfold b7J at h
 rw [Bool.and_eq_true,Bool.and_eq_true,Bool.and_eq_true,Bool.and_eq_true,Bool.and_eq_true] at h
 obtain ⟨⟨⟨⟨⟨h1,h2⟩,h3⟩,h4⟩,h5⟩,h6⟩:=h
 rw [List.all_eq_true] at h2 h3 h4 h6
 have h5':js.length=Nc.length:=by simpa using h5
 refine ⟨by simpa using h1,fun y hy=>by simpa using h2 y hy,fun y hy e=>?_,fun y hy e=>?_,h5',fun i y j e1 e2=>?_⟩
 ·have q:=h3 y hy
  rw [e] at q
  simpa using q
 ·have q:=h4 y hy
  rw [e] at q
  show X.env.scope.names.lookup y.1=_∨X.env.scope.names.lookup y.1=_
  rw [hsc]
  simpa using q
 ·have hm:(y,some j)∈Nc.zip js:=by
   refine List.mem_of_getElem? (i:=i) ?_
   rw [List.getElem?_zip_eq_some]
   exact ⟨e1,e2⟩
  have q:=h6 _ hm
  simp only [Bool.and_eq_true,beq_iff_eq] at q
  rw [hN]
  exact q
def PTs (X:Cx) (ifs:List Expr) (t:TT):Prop:=
 ∀(pins:List (Addr×Obj)) (s:Shared) (σ:St) (H:Hp) (Q:Bool→Hp→Prop),Inv X pins σ H s→t σ H Q→
  wpAny (model X.prog X.w) X.A (forIn ifs true fun c r=>if r=true then do let ok ←isTrue c X.env (eval c X.env);pure (ForInStep.yield ok) else pure (ForInStep.yield r)) (TP X pins σ Q) X.xe s
def c7x:TT:=fun _ H Q=>Q true H
theorem a4S {X:Cx}:PTs X [] c7x:=fun pins s σ H Q I h=>wpAny_tests_nil ⟨H,I,h⟩
theorem a8y {X:Cx} {c:Expr} {t:TT} (hc:PT X c t):PTs X [c] t:=fun pins s σ H Q I h=>wpAny_tests_one (hc pins s σ H Q I h)
def b3a (js:List (Option Nat)) (wi:TI) (g:TG) (tt:TT) (te:TE):TE:=fun σ H Q=>wi σ H fun J H1=>∀D,H1 D=none→∃W:Nat→Nat→St→Hp→List V→Prop,(∃m,W 0 m (a5z js σ) (upd H1 D (.lst [])) [])∧
 ∀i m σ' H' ys,W i m σ' H' ys→H' D=some (.lst ys)∧((J.stop i H'∧Q (.ref D) H')∨(J.go i H'∧ys.length < sizeLine∧∀x H2,J.yld i H' x H2→g x σ' H2 fun σ2 H3=>tt σ2 H3 fun b H4=>
  if b=true then te σ2 H4 fun v H5=>H5 D=some (.lst ys)∧∃m',m' < m∧W (i+1) m' σ2 (upd H5 D (.lst (ys++[v]))) (ys++[v]) else ∃m',m' < m∧W (i+1) m' σ2 H4 ys))
section
variable {X:Cx} {elt target iter:Expr} {ifs:List Expr} {scope:Scope} {pos:Pos} {Nc:List Str} {js:List (Option Nat)} {wi:TI} {g:TG} {tt:TT} {te:TE}
theorem a5N {pins:List (Addr×Obj)} {σ:St} {H2:Hp} {s₂:Shared} {E:Value→Shared→Prop} {it:Addr} {fp:List Addr} {tn:Nat→Heap→Prop} {J:It} {Q:VK} {RR:Value→Addr→Result→Shared→Prop} (ok:a9A X Nc js scope) (hc:X.calm=true)
  (hg:∀C cl s H ex,PG (a1P X Nc scope cl C s H ex) target g) (ht:∀C cl s H ex,PTs (a1P X Nc scope cl C s H ex) ifs tt) (he:∀C cl s H ex,PE (a1P X Nc scope cl C s H ex) elt te)
  (I2:Inv X pins σ H2 s₂) (T:b5B X.prog X.w X.K target J fp it tn) (st2:tn 0 s₂.heap) (f2:∀b∈fp,b0d X pins H2 b)
  (h:∀D,H2 D=none→∃W:Nat→Nat→St→Hp→List V→Prop,(∃m,W 0 m (a5z js σ) (upd H2 D (.lst [])) [])∧
   ∀i m σ' H' ys,W i m σ' H' ys→H' D=some (.lst ys)∧((J.stop i H'∧Q (.ref D) H')∨(J.go i H'∧ys.length < sizeLine∧∀x H2,J.yld i H' x H2→g x σ' H2 fun σ2 H3=>tt σ2 H3 fun b H4=>
    if b=true then te σ2 H4 fun v H5=>H5 D=some (.lst ys)∧∃m',m' < m∧W (i+1) m' σ2 (upd H5 D (.lst (ys++[v]))) (ys++[v]) else ∃m',m' < m∧W (i+1) m' σ2 H4 ys)))
  (hRR:∀(D C:Addr) (s':Shared) (H':Hp) (m:Str→Option Value),Inv X pins σ H' s'→s'.heap.Ns C m→b0d X pins H' C→Q (.ref D) H'→RR (.ref D) C (.ok .next) s'):
  wpAny (model X.prog X.w) X.A (newList []) (fun acc s₃=>wpAny (model X.prog X.w) X.A (newFunctionEnv scope X.env.globals (a5g X.env scope.names []) [] X.env.qual none .none (some X.env)) (fun cenv s₄=>
   codeAny (model X.prog X.w) X.A (.compStart (.ListComp elt [⟨target,iter,ifs,0⟩] scope pos) 0 (.ref it) acc {cenv with scope:=relabel scope X.env}) (RR acc cenv.locals) s₄) E s₃) E s₂:=by
 have hfr:∀y∈scope.names,y.2=NameKind.free→∃c,X.env.cells.lookup y.1=some c:=fun y hy e=>I2.ok.has y.1 (ok.free y hy e)
 refine wpAny_newObj_type (wpAny_newFunctionEnv ok.nocell (by intro y hy;simp at hy) (fun h₁ hns₁ hsb₁=>?_) ok.kind)
 dsimp only at hns₁ hsb₁ ⊢
 generalize hHL:s₂.heap.push {cls:=.type "list",dict:=none,data:=.seq ([]:List Value).toArray}=HL at hns₁ hsb₁ ⊢
 have hC:HL.objs.size=s₂.heap.objs.size+1:=by rw [←hHL,Heap.size_push]
 have hCle:s₂.heap.objs.size≤HL.objs.size:=by rw [hC];exact Nat.le_succ _
 have hDC:s₂.heap.objs.size≠HL.objs.size:=by rw [hC];exact Nat.ne_of_lt (Nat.lt_succ_self _)
 have old:∀b o,s₂.heap.get? b=some o→h₁.get? b=some o:=fun b o e=>hsb₁.extBut b o (Nat.ne_of_lt (Nat.lt_of_lt_of_le (Heap.lt_size e) hCle)) (Heap.get?_push_of_some _ (hHL ▸ Heap.get?_push_of_some _ e))
 have hacc:h₁.get? s₂.heap.objs.size=some {cls:=.type "list",dict:=none,data:=.seq ([]:List Value).toArray}:=hsb₁.extBut _ _ hDC (Heap.get?_push_of_some _ (hHL ▸ Heap.get?_push_size _ rfl))
 have hD0:H2 s₂.heap.objs.size=none:=I2.hok.fresh (Nat.le_refl _)
 have hC0:H2 HL.objs.size=none:=I2.hok.fresh hCle
 obtain ⟨W,⟨m0,w0⟩,turn⟩:=h _ hD0
 have hlook:∀x c,(a5g X.env scope.names []).lookup x=some c→X.env.cells.lookup x=some c:=fun x c e=>a7g hfr (fun y d q=>by simp at q) e
 have hlt:∀b∈fp,b < s₂.heap.objs.size:=fun b hb=>let ⟨o,e,_⟩:=T.obj 0 _ st2 b hb;Heap.lt_size e
 have okc:(a1P X Nc scope (a5g X.env scope.names []) HL.objs.size s₂ H2 fp).Ok:=by
  refine ⟨I2.ok.mod,by show scope.kind=_;exact ok.kind,I2.ok.glob,I2.ok.blt,hCle,fun x y c e1 e2=>I2.ok.inj x y c (hlook x c e1) (hlook y c e2),fun x hx=>?_,fun x c z _=>absurd z Bool.false_ne_true,I2.ok.hd,I2.ok.frames,.inl rfl,fun b hb=>⟨?_,fun x c e=>(f2 b hb).2.2.2.2.1 x c (hlook x c e)⟩,
   I2.bs,Nat.le_trans I2.ok.bsz I2.sz,fun b o e hb=>?_,fun b hb z=>?_,I2.stack,I2.stkFree⟩
  ·exact a6V (.inl (a5M ok.nocell hx))
  ·exact Nat.ne_of_lt (Nat.lt_of_lt_of_le (hlt b hb) hCle)
  ·rcases (f2 b hb).2.2.2.1 with z | z
   ·exact I2.ok.noex b o e z
   ·exact absurd (Nat.lt_of_lt_of_le (Heap.lt_size e) (Nat.le_trans I2.ok.bsz z)) (Nat.lt_irrefl _)
  ·rcases List.mem_cons.mp (I2.stkSub b z) with e | e
   ·exact (f2 b hb).2.1 e
   ·exact (f2 b hb).2.2.1 e
 have fpc:∀{H':Hp},(∀b∈fp,H' b=none)→∀b∈fp,b0d (a1P X Nc scope (a5g X.env scope.names []) HL.objs.size s₂ H2 fp) [] H' b:=fun {H'} hn b hb=>
  ⟨hn b hb,(okc.exf b hb).1,okc.exfs b hb,.inl hb,(okc.exf b hb).2,fun p hp=>absurd (show p∈([]:List (Addr×Obj)) from hp) (by simp)⟩
 have Ic:Inv (a1P X Nc scope (a5g X.env scope.names []) HL.objs.size s₂ H2 fp) [] (a5z js σ) (upd H2 s₂.heap.objs.size (.lst [])) {s₂ with heap:=h₁,toks:=s₂.toks+([]:List (Str×Value)).length}:=by
  refine ⟨okc,rfl,I2.bare,Un.laid old (Nat.le_refl _) hD0,⟨_,hns₁,fun i x v e1 e2 e3=>?_⟩,fun x c e=>?_,?_,fun x c e=>?_,fun p hp=>absurd (show p∈([]:List (Addr×Obj)) from hp) (by simp),?_,?_⟩
  ·have e1':Nc[i]?=some x:=e1
   unfold a5z at e2
   rw [List.getElem?_map] at e2
   cases ej:js[i]? with
   | none=>rw [ej] at e2;simp at e2
   | some oj=>
    rw [ej] at e2
    cases oj with
    | none=>simp at e2
    | some j=>
     have e2':(σ[j]?).getD none=some v:=by simpa using e2
     have e2'':σ[j]?=some (some v):=by
      cases q:σ[j]? with
      | none=>rw [q] at e2';simp at e2'
      | some z=>rw [q] at e2';simp at e2';rw [e2']
     obtain ⟨hN,hF⟩:=ok.map i x j e1' ej
     have hmem:(x,NameKind.free)∈scope.names:=PySem.mem_of_lookup hF
     have hkX:=ok.free _ hmem rfl
     obtain ⟨m,hn,hl⟩:=I2.loc
     have hvis:Vis X.env.scope x:=by
      rcases hkX with z | z
      ·exact .inr (.inl z)
      ·exact .inr (.inr z)
     obtain ⟨u,ru,lk⟩:=hl j x v hN e2'' hvis
     refine ⟨u,ru,.inr ?_⟩
     rcases lk with ⟨k1,_⟩ | ⟨_,c,ec,ic⟩
     ·have k1':X.env.kindOf x=some NameKind.local:=k1
      rcases hkX with z | z
      ·rw [z] at k1';cases k1'
      ·rw [z] at k1';cases k1'
     ·obtain ⟨c',hc'⟩:=a6V (env:=X.env) (l:=scope.names) (cs:=[]) (x:=x) (.inl hmem)
      have e':=hlook x c' hc'
      rw [ec] at e'
      cases e'
      exact ⟨a2h hF,c,hc',ic.keeps old⟩
  ·obtain ⟨v,q⟩:=I2.cell x c (hlook x c e)
   exact ⟨v,q.keeps old⟩
  ·show upd H2 s₂.heap.objs.size (.lst []) HL.objs.size=none
   rw [a0w (Ne.symm hDC)];exact hC0
  ·obtain ⟨v,q⟩:=I2.cell x c (hlook x c e)
   rw [a0w (Nat.ne_of_lt q.lt)]
   exact I2.freeC x c (hlook x c e)
  ·exact I2.hok.laid old (Nat.le_refl _) ⟨Nat.zero_le _,[],_,.nil,hacc⟩
  ·show (a5z js σ).length=Nc.length
   unfold a5z
   rw [List.length_map];exact ok.len
 have back:∀{σ':St} {H':Hp} {s':Shared},Inv (a1P X Nc scope (a5g X.env scope.names []) HL.objs.size s₂ H2 fp) [] σ' H' s'→Inv X pins σ H' s':=fun {σ' H' s'} I4=>
  I2.call' (ch:=fp) I4.os I4.base I4.hok I4.bare fun b hb=>⟨(f2 b hb).2.2.2.1,(f2 b hb).2.1,(f2 b hb).2.2.2.2.1,(f2 b hb).2.2.2.2.2⟩
 have st1:tn 0 h₁:=T.keep 0 _ _ st2 fun b _ o e=>old b o e
 have loop:∀s₃:Shared,s₃={s₂ with heap:=h₁,toks:=s₂.toks+([]:List (Str×Value)).length}→
   codeAny (model X.prog X.w) X.A (.compLoop (.ListComp elt [⟨target,iter,ifs,0⟩] scope pos) 0 (.ref it) (.ref s₂.heap.objs.size) (compEnvC scope (a5g X.env scope.names []) HL.objs.size X.env))
    (RR (.ref s₂.heap.objs.size) HL.objs.size) s₃:=by
  rintro s₃ rfl
  refine a7f (fun n s'=>∃i σ' H' ys,Inv (a1P X Nc scope (a5g X.env scope.names []) HL.objs.size s₂ H2 fp) [] σ' H' s'∧tn i s'.heap∧(∀b∈fp,H' b=none)∧W i n σ' H' ys) ?_ m0
   ⟨0,a5z js σ,_,[],Ic,st1,fun b hb=>by rw [a0w (Nat.ne_of_lt (hlt b hb))];exact (f2 b hb).1,w0⟩
  rintro n s3 ⟨i,σ3,H3,ys,I3,st3,fr3,w3⟩
  obtain ⟨hD3,tn3⟩:=turn i n σ3 H3 ys w3
  rcases tn3 with ⟨stop,q⟩ | ⟨go,hys,step⟩
  ·refine thn (T.done (a1P X Nc scope (a5g X.env scope.names []) HL.objs.size s₂ H2 fp) rfl rfl rfl hc i [] s3 σ3 H3 NoE I3 (fpc fr3) st3 stop) fun r s4 ⟨hr,I4⟩=>?_
   subst hr
   obtain ⟨m4,n4,_⟩:=I4.loc
   exact hRR _ _ s4 H3 m4 (back I4) n4 (I2.fpOk hCle I4.free) q
  ·refine thn (T.item (a1P X Nc scope (a5g X.env scope.names []) HL.objs.size s₂ H2 fp) rfl rfl rfl hc i [] s3 σ3 H3 NoE I3 (fpc fr3) st3 go) fun r s4 ⟨u,hr,h4⟩=>?_
   subst hr
   refine thn h4 fun _ s5 ⟨x,H5,I5,r5,y5,st5,fr5⟩=>?_
   have I5':=I5.pinned (fpc fr5) (T.obj _ _ st5)
   have fin:∀{σ7:St} {H7:Hp} {s7:Shared} {zs:List V} {m':Nat},Inv (a1P X Nc scope (a5g X.env scope.names []) HL.objs.size s₂ H2 fp) ([]++a7M fp s5.heap) σ7 H7 s7→m' < n→W (i+1) m' σ7 H7 zs→
     ∃m,m < n∧∃i σ' H' ys,Inv (a1P X Nc scope (a5g X.env scope.names []) HL.objs.size s₂ H2 fp) [] σ' H' s7∧tn i s7.heap∧(∀b∈fp,H' b=none)∧W i m σ' H' ys:=fun {σ7 H7 s7 zs m'} I7 hm w7=>by
    refine ⟨m',hm,i+1,σ7,H7,zs,I7.unpinned,T.keep _ _ _ st5 fun b hb o e=>(I7.pin (b,o) (List.mem_append_right _ (List.mem_append_right _ (a3e hb e)))).1,fun b hb=>?_,w7⟩
    obtain ⟨o,e,d⟩:=T.obj _ _ st5 b hb
    exact (I7.pin (b,o) (List.mem_append_right _ (List.mem_append_right _ (a3e hb e)))).2.1
   refine thn (hg _ _ _ _ _ _ s5 σ3 H5 x u _ I5' r5 (step x H5 y5)) fun _ s6 ⟨σ6,H6,I6,q6⟩=>?_
   refine thn (ht _ _ _ _ _ _ s6 σ6 H6 _ I6 q6) fun b s7 ⟨H7,I7,q7⟩=>?_
   cases b with
   | false=>
    obtain ⟨m',hm,w7⟩:=q7
    exact fin I7 hm w7
   | true=>
    refine thn (he _ _ _ _ _ _ s7 σ6 H7 _ I7 q7) fun v s8 ⟨y,H8,I8,r8,hD8,m',hm,w8⟩=>?_
    refine thn (a2N _ s8 σ6 H8 (.ref s₂.heap.objs.size) [y] (.ref s₂.heap.objs.size) [v] (fun _ H9=>H9=upd H8 s₂.heap.objs.size (.lst (ys++[y]))) I8 rfl (.cons r8 .nil) ⟨_,ys,y,rfl,rfl,hD8,hys,rfl⟩) fun v9 s9 ⟨_,H9,I9,_,e9⟩=>?_
    subst e9
    exact fin I9 hm w8
 exact codeAny_compStart_list (loop _ rfl) (T.self X.A 0 _ _ _ st1 (loop _ rfl))
theorem a3w (ok:a9A X Nc js scope) (hc:X.calm=true) (hi:PI X target iter wi)
  (hg:∀C cl s H ex,PG (a1P X Nc scope cl C s H ex) target g) (ht:∀C cl s H ex,PTs (a1P X Nc scope cl C s H ex) ifs tt) (he:∀C cl s H ex,PE (a1P X Nc scope cl C s H ex) elt te)
  (hs:∀x,foldedSetIterable iter X.env x=pure x:=by intro _;rfl):PE X (.ListComp elt [⟨target,iter,ifs,0⟩] scope pos) (b3a js wi g tt te):=by
 intro pins s σ H Q I h
 have hfr:∀y∈scope.names,y.2=NameKind.free→∃c,X.env.cells.lookup y.1=some c:=fun y hy e=>I.ok.has y.1 (ok.free y hy e)
 rw [eval_ListComp]
 refine wpAny_comprehension_free (use:=none) rfl hs (a2O hfr) ok.kind ok.names (thn (hi pins s σ H _ I h) fun v s1 h1=>thn h1 fun itv s2 h2=>?_)
 obtain ⟨it,fp,tn,J,H2,e,I2,T,st2,f2,h⟩:=h2
 subst e
 refine a5N (RR:=fun acc C=>compPost (model X.prog X.w) X.A X.xe none (EP X pins σ Q) acc C) (Q:=Q) ok hc hg ht he I2 T st2 f2 h ?_
 intro D C s' H' m I' n' fC q
 refine ⟨m,n',fun h' sb=>⟨.ref D,H',?_,rfl,q⟩⟩
 exact I'.turned (t':=s'.toks) (fun b o hb e=>(sb.2 b hb).trans e) fC.1 fC.2.1 fC.2.2.2.1 fC.2.2.2.2.1 fC.2.2.2.2.2
theorem a5Z {i:Nat} {y:Str} {py spos:Pos} (ok:a9A X Nc js scope) (hc:X.calm=true) (hi:PI X target iter wi)
  (hg:∀C cl s H ex,PG (a1P X Nc scope cl C s H ex) target g) (ht:∀C cl s H ex,PTs (a1P X Nc scope cl C s H ex) ifs tt) (he:∀C cl s H ex,PE (a1P X Nc scope cl C s H ex) elt te)
  (hN:X.N.Nodup) (hy:X.N[i]?=some y) (hx:Loc X.env.scope y) (hsw:swapsWith (.ListComp elt [⟨target,iter,ifs,0⟩] scope pos) (some (.Name y py)) spos.line X.env=pure true)
  (hs:∀x,foldedSetIterable iter X.env x=pure x:=by intro _;rfl) (hf:X.fn y=true∨X.env.scope.names.lookup y=some .local:=by first | exact .inl rfl | exact .inr rfl | assumption):
  PS X (.Assign [.Name y py] (.ListComp elt [⟨target,iter,ifs,0⟩] scope pos) spos) (fun D σ H=>b3a js wi g tt te σ H fun v H'=>D.nx (σ.set i (some v)) H'):=by
 intro pins s σ H D I h
 have hfr:∀y∈scope.names,y.2=NameKind.free→∃c,X.env.cells.lookup y.1=some c:=fun y hy e=>I.ok.has y.1 (ok.free y hy e)
 rw [exec_Assign_Name_used _ _ _ _ hsw]
 refine wpAny_bind (wpAny_standAt (wpAny_bind ?_))
 show wpAny _ X.A (do let _ ←comprehension (.ListComp elt [⟨target,iter,ifs,0⟩] scope pos) scope X.env _ (newList []) false (eval iter X.env) (some (assign (.Name y py) X.env))) _ _ s
 refine wpAny_bind (thn (wpAny_comprehension_free (use:=some (assign (.Name y py) X.env)) (Q:=fun _ s'=>SP X pins D .next s') rfl hs (a2O hfr) ok.kind ok.names
  (thn (hi pins s σ H _ I h) fun v s1 h1=>thn h1 fun itv s2 h2=>?_)) fun _ s' hq=>wpAny_pure (wpAny_pure hq))
 obtain ⟨it,fp,tn,J,H2,e,I2,T,st2,f2,h⟩:=h2
 subst e
 refine a5N (RR:=fun acc C=>compPost (model X.prog X.w) X.A X.xe (some (assign (.Name y py) X.env)) (fun _ s'=>SP X pins D .next s') acc C) (Q:=fun v H'=>D.nx (σ.set i (some v)) H') ok hc hg ht he I2 T st2 f2 h ?_
 intro Da C s' H' m I' n' fC q
 show wpAny _ X.A (assign (.Name y py) X.env (.ref Da)) _ _ _
 refine wpAny_assign_Name (a7C I' hN hy hx (show a1R (.ref Da) (.ref Da) from rfl) (fun s'' I'' hsb=>?_) hf)
 obtain ⟨a,sb,ha⟩:=hsb
 have hCa:C≠a:=by
  rcases ha with e | e
  ·rw [e];exact fC.2.1
  ·exact fun z=>fC.2.2.2.2.1 y a e z.symm
 refine ⟨m,n'.sameBut sb hCa,fun h' sb'=>⟨σ.set i (some (.ref Da)),H',?_,q⟩⟩
 exact I''.turned (t':=s''.toks) (fun b o hb e=>(sb'.2 b hb).trans e) fC.1 fC.2.1 fC.2.2.2.1 fC.2.2.2.2.1 fC.2.2.2.2.2
end
section
variable {js:List (Option Nat)} {g:TG} {tt:TT} {te:TE} {σ:St} {H:Hp} {Q:VK}
def b3e (J:It) (js:List (Option Nat)) (g:TG) (tt:TT) (te:TE) (σ:St) (H:Hp) (Q:VK):Prop:=
 ∀D,H D=none→∃W:Nat→Nat→St→Hp→List V→Prop,(∃m,W 0 m (a5z js σ) (upd H D (.lst [])) [])∧
 ∀i m σ' H' ys,W i m σ' H' ys→H' D=some (.lst ys)∧((J.stop i H'∧Q (.ref D) H')∨(J.go i H'∧ys.length < sizeLine∧∀x H2,J.yld i H' x H2→g x σ' H2 fun σ2 H3=>tt σ2 H3 fun b H4=>
  if b=true then te σ2 H4 fun v H5=>H5 D=some (.lst ys)∧∃m',m' < m∧W (i+1) m' σ2 (upd H5 D (.lst (ys++[v]))) (ys++[v]) else ∃m',m' < m∧W (i+1) m' σ2 H4 ys))
structure Src (J:It) (n:Nat) (f:Nat→V) (Ok:Hp→Prop):Prop where
 go:∀i H,i < n→Ok H→J.go i H
 yld:∀i H x H',i < n→Ok H→J.yld i H x H'→H'=H∧x=f i
 stop:∀H,Ok H→J.stop n H
theorem a3M {K:PySem.W.Frag} {a:Addr} {xs:List V}:Src (Itl K a) xs.length (fun i=>(xs[i]?).getD .non) (fun H=>SqL K H a xs):=
 ⟨fun i H hi h=>⟨xs,xs[i],h,by simp [hi]⟩,fun i H x H' hi h y=>⟨y.1,by rw [y.2 xs h];rfl⟩,fun H h=>⟨xs,h,Nat.le_refl _⟩⟩
theorem a7e {lo:Int} {n:Nat}:Src (Itr lo n) n (fun i=>.int (lo+i)) (fun _=>True):=
 ⟨fun i H hi _=>hi,fun i H x H' hi _ y=>y,fun H _=>Nat.le_refl _⟩
theorem b0T {J:It} {n:Nat} {f:Nat→V} {Ok:Hp→Prop} (S:Src J n f Ok) (hn:n≤sizeLine) (Pv:Addr→Nat→St→Hp→List V→Prop) (h0:∀D,H D=none→Pv D 0 (a5z js σ) (upd H D (.lst [])) [])
  (hk:∀D i σ' H' ys,H D=none→i≤n→Pv D i σ' H' ys→Ok H'∧H' D=some (.lst ys)∧ys.length≤i)
  (hs:∀D i σ' H' ys (R:St→Hp→List V→Prop),H D=none→i < n→Pv D i σ' H' ys→(∀a b c,Pv D (i+1) a b c→R a b c)→g (f i) σ' H' fun σ2 H3=>tt σ2 H3 fun b H4=>
   if b=true then te σ2 H4 fun v H5=>H5 D=some (.lst ys)∧R σ2 (upd H5 D (.lst (ys++[v]))) (ys++[v]) else R σ2 H4 ys)
  (hd:∀D σ' H' ys,H D=none→Pv D n σ' H' ys→Q (.ref D) H'):b3e J js g tt te σ H Q:=by
 intro D hD
 refine ⟨fun i m σ' H' ys=>m=n - i∧i≤n∧Pv D i σ' H' ys,⟨n,by simp,Nat.zero_le _,h0 D hD⟩,?_⟩
 rintro i m σ' H' ys ⟨rfl,hi,p⟩
 obtain ⟨q1,q2,q3⟩:=hk D i σ' H' ys hD hi p
 refine ⟨q2,?_⟩
 by_cases hlt:i < n
 ·refine .inr ⟨S.go i H' hlt q1,by omega,fun x H2 y=>?_⟩
  obtain ⟨rfl,rfl⟩:=S.yld i H' x H2 hlt q1 y
  exact hs D i σ' _ ys (fun σ2 H3 ys'=>∃m',m' < n - i∧(m'=n - (i+1)∧i+1≤n∧Pv D (i+1) σ2 H3 ys')) hD hlt p fun a b c r=>⟨n - (i+1),by omega,rfl,hlt,r⟩
 ·have e:i=n:=by omega
  subst e
  exact .inl ⟨S.stop H' q1,hd D σ' H' ys hD p⟩
end
end L2
namespace L2
open PySem PySem.Spec PyProof.Rows
def Itf (n:Nat) (f:Nat→V):It:=⟨fun i _=>i < n,fun i H x H'=>H'=H∧x=f i,fun i _=>i=n⟩
theorem b6e {n:Nat} {f:Nat→V}:Src (Itf n f) n f (fun _=>True):=⟨fun _ _ hi _=>hi,fun _ _ _ _ _ _ y=>y,fun _ _=>rfl⟩
theorem b1d {P:Program} {w:World} {K:PySem.W.Frag} {tg:Expr} {it:Addr} {n:Nat} {Pv:Nat→Value→Prop} {St':Nat→Heap→Prop} {f:Nat→V}
  (W:∀A:Around,A.handled=none→Walks P w A it [it] [it] n Pv St') (hP:∀i v,Pv i v→a1R (f i) v)
  (ho:∀i h,St' i h→∃o ty vs,h.get? it=some o∧o.cls=.type ty∧o.data=.fields vs∧["enumerate","zip","dict_itemiterator","dict_reverseitemiterator","odict_iterator","itertools.zip_longest","itertools.pairwise"].contains ty=false)
  (hself:∀(A:Around) (i:Nat) (s:Shared) (Q:Value→Shared→Prop) (E:Value→Shared→Prop),St' i s.heap→Q (.ref it) s→wpAny (model P w) A (pyIter (.ref it)) Q E s):b5B P w K tg (Itf n f) [it] it St' where
 mem:=by simp
 obj:=fun i h st b hb=>by
  have e:b=it:=by simpa using hb
  subst e
  obtain ⟨o,ty,vs,h1,h2,h3,_⟩:=ho i h st
  exact ⟨o,h1,fun v z=>by rw [h3] at z;cases z⟩
 keep:=fun i h h' st k=>by
  exact (W {depth:=0,units:=0,frames:=none,handled:=none} rfl).frame i h h' st k
 item:=by
  intro X hPr hw hK hc i pins s σ H E I hf st hg
  subst hPr hw hK
  obtain ⟨f0,f1,f2,f3,f4,f5⟩:=hf it (by simp)
  refine (W X.A (I.ok.hd hc)).item i s _ E hg st fun v h' tk pv st' kp=>?_
  have I1:Inv X pins σ H {s with heap:=h',toks:=tk}:=I.turned (t':=tk) (fun b o hb e=>kp b o (by simpa using hb) e) f0 f1 f3 f4 f5
  obtain ⟨o,ty,vs,h1,h2,h3,h4⟩:=ho (i+1) h' st'
  exact ⟨v,rfl,b3k (s:={s with heap:=h',toks:=tk}) h1 h2 h3 h4 ⟨f i,H,I1,hP i v pv,⟨rfl,rfl⟩,st',fun b hb=>(hf b hb).1⟩⟩
 done:=by
  intro X hPr hw hK hc i pins s σ H E I hf st hg
  subst hPr hw hK
  obtain ⟨f0,f1,f2,f3,f4,f5⟩:=hf it (by simp)
  have hg':i=n:=hg
  subst hg'
  exact (W X.A (I.ok.hd hc)).done s _ E st fun h' tk kp=>⟨rfl,I.turned (t':=tk) (fun b o hb e=>kp b o (by simpa using hb) e) f0 f1 f3 f4 f5⟩
 self:=hself
def b1l (z:Str) (i:Nat):V:=.str ⟨#[(z.cps[i]?).getD 0]⟩
section
variable {X:Cx} {tg:Expr}
def c2c (tl:TE):TI:=fun σ H R=>tl σ H fun x H1=>∃z,x=.str z∧R (Itf z.cps.size (b1l z)) H1
theorem a9c {z:Str} (i:Nat) (v:Value) (h:SignAt z i v):a1R (b1l z i) v:=by
 obtain ⟨c,u,e,rfl⟩:=h
 exact ⟨u,by rw [e];rfl⟩
theorem b3H {l:Expr} {tl:TE} (hl:PE X l tl):PI X tg l (c2c tl):=by
 intro pins s σ H R I h
 refine thn (hl pins s σ H _ I h) fun v s1 ⟨x,H1,I1,r1,q1⟩=>?_
 obtain ⟨z,e,q⟩:=q1
 subst e
 obtain ⟨t,rfl⟩:=r1
 cases ha:z.cps.all (· < 128) with
 | false=>
  refine wpAny_pyIter_wide ha ?_
  refine ⟨s1.heap.objs.size,[s1.heap.objs.size],_,_,H1,rfl,I1.kept (t':=s1.toks) fun b o e=>Heap.get?_push_of_some _ e,
   b1d (fun A hA=>Walks.strWide hA _ z t) a9c (fun i h ⟨o,h1,h2,h3⟩=>⟨o,_,_,h1,h2,h3,by decide⟩) (fun A i s Q E st q=>wpAny_pyIter_striter_wide st q),⟨_,Heap.get?_push_size _ rfl,rfl,rfl⟩,fun b hb=>?_,q⟩
  have e:b=s1.heap.objs.size:=by simpa using hb
  subst e
  exact I1.fpOk (Nat.le_refl _) (I1.hok.fresh (Nat.le_refl _))
 | true=>
  refine wpAny_pyIter_ascii ha ?_
  refine ⟨s1.heap.objs.size,[s1.heap.objs.size],_,_,H1,rfl,I1.kept (t':=s1.toks) fun b o e=>Heap.get?_push_of_some _ e,
   b1d (fun A hA=>Walks.strAscii hA _ z t) a9c (fun i h ⟨o,h1,h2,h3⟩=>⟨o,_,_,h1,h2,h3,by decide⟩) (fun A i s Q E st q=>wpAny_pyIter_striter_ascii st q),⟨_,Heap.get?_push_size _ rfl,rfl,rfl⟩,fun b hb=>?_,q⟩
  have e:b=s1.heap.objs.size:=by simpa using hb
  subst e
  exact I1.fpOk (Nat.le_refl _) (I1.hok.fresh (Nat.le_refl _))
end
section
variable {X:Cx}
def b5T:V→Option Value
 | .ty n=>some (.type n)
 | .ref a=>some (.ref a)
 | _=>none
theorem a6t {c:V} {u v:Value} (h:b5T c=some u) (r:a1R c v):v=u:=by
 cases c with
 | ty n=>cases h;exact r
 | ref a=>cases h;exact r
 | _=>cases h
def b3t (K:PySem.W.Frag):List V→Hp→VK→Prop:=fun xs H Q=>∃x c u t b,xs=[x,c]∧b5T c=some u∧a7c K H x t∧PySem.W.kitOne K t u=some b∧Q (.bl b) H
theorem a0Z:a2w X (.builtin "isinstance") (b3t X.K):=by
 intro pins s σ H xs us Q I r h
 obtain ⟨x,c,u,t,b,rfl,hu,ty,e,q⟩:=h
 obtain ⟨v,u',rfl,rv,ru'⟩:=b4z r
 cases a6t hu ru'
 exact b1F I rv ty e fun tk=>⟨.bl b,H,I.tok _,rfl,q⟩
theorem b2R {bs:List Bool} {its:List Value} (r:a1f (bs.map V.bl) its) {i:Nat} {v:Value} (h:its[i]?=some v):∃b,bs[i]?=some b∧v=.bool b:=by
 have hi:i < its.length:=(List.getElem?_eq_some_iff.mp h).1
 have hl:=r.length
 rw [List.length_map] at hl
 have hb:bs[i]?=some bs[i]:=List.getElem?_eq_getElem (by omega)
 obtain ⟨u,hu,ru⟩:=r.get (i:=i) (x:=V.bl bs[i]) (by rw [List.getElem?_map,hb];rfl)
 rw [h] at hu;cases hu
 exact ⟨_,hb,ru⟩
theorem a2r (hc:X.calm=true):a2w X (.builtin "all") (fun xs H Q=>∃(p:Addr) (bs:List Bool),xs=[.ref p]∧SqL X.K H p (bs.map V.bl)∧Q (.bl (bs.all id)) H):=by
 intro pins s σ H xs us Q I r h
 obtain ⟨p,bs,rfl,hq,q⟩:=h
 obtain ⟨u,rfl,ru⟩:=a5v r
 cases ru
 obtain ⟨its,rv,pl,hz⟩:=I.list hq
 have hl:=pl.isList
 have hlt:p < s.heap.objs.size:=by obtain ⟨_,e,_⟩:=hl;exact Heap.lt_size e
 refine call_all_walk (wpAny_pyIter_list hl ?_)
 refine ⟨s.heap.objs.size,[s.heap.objs.size,p],[s.heap.objs.size],its.toArray.size,_,_,fun i=>(bs[i]?).getD true,rfl,Walks.list (A:=X.A.in1) (I.ok.hd hc) _ p (Nat.ne_of_lt hlt) its.toArray,
  ⟨⟨_,Heap.get?_push_size _ rfl,rfl,rfl⟩,hl.push _⟩,fun i v s' Q' E' hP hQ=>?_,fun h' tk hk=>?_⟩
 ·obtain ⟨b,e,rfl⟩:=b2R rv (i:=i) (v:=v) (by simpa using hP)
  simp only [e,Option.getD_some] at hQ
  exact wpAny_truthy_bool hQ
 ·have e:((List.range its.toArray.size).all fun i=>(bs[i]?).getD true)=bs.all id:=by
   have hb:=rv.length
   rw [List.length_map] at hb
   rw [List.size_toArray,←hb];exact LSm.range_all bs
  rw [e]
  exact ⟨.bl (bs.all id),H,I.kept (t':=tk) (LSm.kept_iter hk),rfl,q⟩
def c4l:V→Option Int→Option Int→Hp→VK→Prop:=fun x lo hi H Q=>∃z,x=.str z∧z.length≤sizeLine∧Q (.str (Txt.slice z lo hi)) H
theorem b6R:SlR X c4l:=by
 intro pins s σ H x v vl vu lo hi sl Q I rx hs pl pu h
 obtain ⟨z,rfl,hz,q⟩:=h
 obtain ⟨t,rfl⟩:=rx
 obtain ⟨o,ho,hc,hd⟩:=hs
 refine ⟨"str",_,PySem.F.slot_str_getitem.lookup,typeIs_str _ _ _,?_⟩
 have fin:∀(l u:Option Int) (t':Tok) (k:Nat),Q (.str (Txt.slice z l u)) H→EP X pins σ Q (.str (Txt.slice z l u) t') {s with toks:=k}:=fun l u t' k q=>⟨.str _,H,I.tok _,⟨_,rfl⟩,q⟩
 cases pl with
 | none=>
  cases pu with
  | none=>exact wpAny_getItem_str_slice (l:=none) (u:=none) (st:=none) ⟨o,ho,hc,hd⟩ rfl (post_val_or_str ⟨Nat.le_trans (Txt.slice_le z _ _) hz,fun t' k=>fin _ _ t' k q⟩)
  | int j uj=>exact wpAny_getItem_str_slice (l:=none) (u:=some (j,uj)) (st:=none) ⟨o,ho,hc,hd⟩ rfl (post_val_or_str ⟨Nat.le_trans (Txt.slice_le z _ _) hz,fun t' k=>fin _ _ t' k q⟩)
 | int i ui=>
  cases pu with
  | none=>exact wpAny_getItem_str_slice (l:=some (i,ui)) (u:=none) (st:=none) ⟨o,ho,hc,hd⟩ rfl (post_val_or_str ⟨Nat.le_trans (Txt.slice_le z _ _) hz,fun t' k=>fin _ _ t' k q⟩)
  | int j uj=>exact wpAny_getItem_str_slice (l:=some (i,ui)) (u:=some (j,uj)) (st:=none) ⟨o,ho,hc,hd⟩ rfl (post_val_or_str ⟨Nat.le_trans (Txt.slice_le z _ _) hz,fun t' k=>fin _ _ t' k q⟩)
theorem a6K:MtR X "str.startswith" (fun x xs H Q=>∃a b,x=.str a∧xs=[.str b]∧Q (.bl (Txt.startswith a b)) H):=by
 intro pins s σ H x xs v us Q I rx rs h
 obtain ⟨a,b,rfl,rfl,q⟩:=h
 obtain ⟨t,rfl⟩:=rx
 obtain ⟨u,rfl,t',rfl⟩:=a5v rs
 exact SC.startswith ⟨.bl _,H,I,rfl,q⟩
theorem a8p:MtR X "str.endswith" (fun x xs H Q=>∃a b,x=.str a∧xs=[.str b]∧Q (.bl (Txt.endswith a b)) H):=by
 intro pins s σ H x xs v us Q I rx rs h
 obtain ⟨a,b,rfl,rfl,q⟩:=h
 obtain ⟨t,rfl⟩:=rx
 obtain ⟨u,rfl,t',rfl⟩:=a5v rs
 exact SC.endswith ⟨.bl _,H,I,rfl,q⟩
theorem b4x:MtR X "str.find" (fun x xs H Q=>∃a b,x=.str a∧xs=[.str b]∧Q (.int (Txt.find a b)) H):=by
 intro pins s σ H x xs v us Q I rx rs h
 obtain ⟨a,b,rfl,rfl,q⟩:=h
 obtain ⟨t,rfl⟩:=rx
 obtain ⟨u,rfl,t',rfl⟩:=a5v rs
 exact SC.find ⟨.int _,H,I.tok _,⟨_,rfl⟩,q⟩
end
end L2
namespace L2
open PySem PySem.Spec PyProof.Rows
theorem a0I:bootBuiltins "len"=some (.builtin "len"):=by decide+kernel
theorem a0q:bootBuiltins "isinstance"=some (.builtin "isinstance"):=by decide+kernel
theorem a5p:bootBuiltins "all"=some (.builtin "all"):=by decide+kernel
theorem a2S:bootBuiltins "str"=some (.type "str"):=by decide+kernel
theorem a3f:bootBuiltins "bool"=some (.type "bool"):=by decide+kernel
theorem a9F:bootBuiltins "list"=some (.type "list"):=by decide+kernel
theorem a3k:bootBuiltins "tuple"=some (.type "tuple"):=by decide+kernel
theorem a5e:bootBuiltins "ValueError"=some (.type "ValueError"):=by decide+kernel
section
variable {X:Cx}
def c1l:R2:=fun x y H Q=>∃i j,x=.str i∧y=.str j∧i.length+j.length≤sizeLine∧Q (.str (i++j)) H
def c1G:R2:=rI0 fun i j=>.int (i+j)
def b2t (K:PySem.W.Frag):R2:=fun x y H Q=>c1G x y H Q∨c1l x y H Q∨c4f x y H Q∨b7I K x y H Q
theorem a0E:OpR X (binaryOp .Add) (b2t X.K):=b8N.or (a9L.or (b7e.or b4F))
theorem a1r {K:PySem.W.Frag} {i j:Int} {H:Hp} {Q:VK}:b2t K (.int i) (.int j) H Q↔Q (.int (i+j)) H:=by
 constructor
 ·rintro (⟨a,b,e1,e2,q⟩ | ⟨a,b,e1,_⟩ | ⟨a,b,_,_,e1,_⟩ | ⟨a,b,_,_,e1,_⟩)
  ·cases e1;cases e2;exact q
  ·cases e1
  ·cases e1
  ·cases e1
 ·exact fun q=>.inl ⟨i,j,rfl,rfl,q⟩
theorem a1h {K:PySem.W.Frag} {i j:Str} {H:Hp} {Q:VK}:b2t K (.str i) (.str j) H Q↔(i.length+j.length≤sizeLine∧Q (.str (i++j)) H):=by
 constructor
 ·rintro (⟨a,b,e1,_⟩ | ⟨a,b,e1,e2,q⟩ | ⟨a,b,_,_,e1,_⟩ | ⟨a,b,_,_,e1,_⟩)
  ·cases e1
  ·cases e1;cases e2;exact q
  ·cases e1
  ·cases e1
 ·exact fun q=>.inr (.inl ⟨i,j,rfl,rfl,q⟩)
theorem b0B {i j:Int} {H:Hp} {Q:VK}:rEq (.int i) (.int j) H Q↔Q (.bl (decide (i=j))) H:=by
 unfold rEq
 have e:decide (V.int i=V.int j)=decide (i=j):=by
  by_cases h:i=j
  ·subst h;simp
  ·simp [h]
 rw [e]
 exact ⟨fun h=>h.2,fun h=>⟨rfl,h⟩⟩
theorem b0A {i j:Str} {H:Hp} {Q:VK}:rEq (.str i) (.str j) H Q↔Q (.bl (decide (i=j))) H:=by
 unfold rEq
 have e:decide (V.str i=V.str j)=decide (i=j):=by
  by_cases h:i=j
  ·subst h;simp
  ·simp [h]
 rw [e]
 exact ⟨fun h=>h.2,fun h=>⟨rfl,h⟩⟩
def inS (c s:Str):Bool:=!(Builtin.Str.occurrences s c 0 s.length 1).isEmpty
def c5c:R2:=fun x y H Q=>∃i j,x=.str i∧y=.str j∧Q (.bl (inS i j)) H
def b1k:R2:=fun x y H Q=>∃i j,x=.str i∧y=.str j∧Q (.bl (!inS i j)) H
def c0X (K:PySem.W.Frag):R2:=fun x y H Q=>c5c x y H Q∨rIn K false x y H Q
def a8t (K:PySem.W.Frag):R2:=fun x y H Q=>b1k x y H Q∨rIn K true x y H Q
theorem b6u:OpR X (compareOp .In) c5c:=b1w
theorem b2b:OpR X (compareOp .NotIn) b1k:=a7q
theorem b4a:OpR X (compareOp .In) (c0X X.K):=b6u.or b0L
theorem a4l:OpR X (compareOp .NotIn) (a8t X.K):=b2b.or a7u
theorem a6v {K:PySem.W.Frag} {i j:Str} {H:Hp} {Q:VK}:c0X K (.str i) (.str j) H Q↔Q (.bl (inS i j)) H:=by
 constructor
 ·rintro (⟨a,b,e1,e2,q⟩ | ⟨a,b,e1,_⟩)
  ·cases e1;cases e2;exact q
  ·cases e1
 ·exact fun q=>.inl ⟨i,j,rfl,rfl,q⟩
def b3f (K:PySem.W.Frag):List V→Hp→VK→Prop:=fun xs H Q=>(∃x n,xs=[x]∧c3W K x H n∧Q (.int n) H)∨∃a kvs,xs=[V.ref a]∧H a=some (.dK kvs)∧Q (.int kvs.length) H
theorem a0H:a2w X (.builtin "len") (b3f X.K):=b2y.or b1x
theorem a1V {K:PySem.W.Frag} {z:Str} {H:Hp} {Q:VK}:b3f K [.str z] H Q↔(z.length≤sizeLine∧Q (.int z.length) H):=by
 constructor
 ·rintro (⟨x,n,e1,e2,q⟩ | ⟨a,kvs,e1,_⟩)
  ·cases e1
   obtain ⟨h1,rfl⟩:z.length≤sizeLine∧n=z.length:=e2
   exact ⟨h1,q⟩
  ·cases e1
 ·exact fun q=>.inl ⟨.str z,z.length,rfl,⟨q.1,rfl⟩,q.2⟩
theorem a1o {K:PySem.W.Frag} {a:Addr} {xs:List V} {H:Hp} {Q:VK} (h:SqL K H a xs) (q:Q (.int xs.length) H):b3f K [.ref a] H Q:=.inl ⟨.ref a,xs.length,rfl,.inl ⟨xs,h,rfl⟩,q⟩
theorem b0m {K:PySem.W.Frag} {a:Addr} {xs:List V} {H:Hp} {Q:VK} (h:SqT K H a xs) (q:Q (.int xs.length) H):b3f K [.ref a] H Q:=.inl ⟨.ref a,xs.length,rfl,.inr ⟨xs,h,rfl⟩,q⟩
def c6S (K:PySem.W.Frag):V→Option Int→Option Int→Hp→VK→Prop:=fun x lo hi H Q=>c4l x lo hi H Q∨c6p K x lo hi H Q∨c3L K x lo hi H Q
theorem a1v:SlR X (c6S X.K):=b6R.or (b4X.or b6g)
theorem a1E {K:PySem.W.Frag} {z:Str} {lo hi:Option Int} {H:Hp} {Q:VK}:c6S K (.str z) lo hi H Q↔(z.length≤sizeLine∧Q (.str (Txt.slice z lo hi)) H):=by
 constructor
 ·rintro (⟨x,e1,q⟩ | ⟨a,xs,e1,_⟩ | ⟨a,xs,e1,_⟩)
  ·cases e1;exact q
  ·cases e1
  ·cases e1
 ·exact fun q=>.inl ⟨z,rfl,q⟩
theorem a8n {K:PySem.W.Frag} {z:Str} {i:Int} {H:Hp} {Q:VK}:rIx K (.str z) (.int i) H Q↔(z.length≤sizeLine∧∃c,atI z.cps.toList i=some c∧Q (.str ⟨#[c]⟩) H):=by
 constructor
 ·rintro (⟨p,xs,j,v,e1,_⟩ | ⟨p,xs,j,v,e1,_⟩ | ⟨y,j,c,e1,e2,h1,h2,q⟩)
  ·cases e1
  ·cases e1
  ·cases e1;cases e2;exact ⟨h1,c,h2,q⟩
 ·rintro ⟨h1,c,h2,q⟩
  exact .inr (.inr ⟨z,i,c,rfl,rfl,h1,h2,q⟩)
theorem a1m {K:PySem.W.Frag} {a:Addr} {xs:List V} {i:Int} {v:V} {H:Hp} {Q:VK} (h:SqL K H a xs) (e:atI xs i=some v) (q:Q v H):rIx K (.ref a) (.int i) H Q:=.inl ⟨a,xs,i,v,rfl,rfl,h,e,q⟩
theorem a1g {K:PySem.W.Frag} {a:Addr} {xs:List V} {i:Int} {v:V} {H:Hp} {Q:VK} (h:SqT K H a xs) (e:atI xs i=some v) (q:Q v H):rIx K (.ref a) (.int i) H Q:=.inr (.inl ⟨a,xs,i,v,rfl,rfl,h,e,q⟩)
theorem a2H {C:Int→Int→Prop} {g:Int→Int→V} {i j:Int} {H:Hp} {Q:VK}:rI C g (.int i) (.int j) H Q↔(C i j∧Q (g i j) H):=by
 constructor
 ·rintro ⟨a,b,e1,e2,q⟩;cases e1;cases e2;exact q
 ·exact fun q=>⟨i,j,rfl,rfl,q⟩
theorem a1F {g:Int→Int→V} {i j:Int} {H:Hp} {Q:VK}:rI0 g (.int i) (.int j) H Q↔Q (g i j) H:=by
 constructor
 ·rintro ⟨a,b,e1,e2,q⟩;cases e1;cases e2;exact q
 ·exact fun q=>⟨i,j,rfl,rfl,q⟩
theorem a2F {g:Int→V} {i:Int} {H:Hp} {Q:VK}:rU g (.int i) H Q↔Q (g i) H:=by
 constructor
 ·rintro ⟨a,e1,q⟩;cases e1;exact q
 ·exact fun q=>⟨i,rfl,q⟩
theorem a1b {k:Bool} {P:Bool→Prop}:(∃c,V.bl k=V.bl c∧P c)↔P k:=by
 constructor
 ·rintro ⟨c,e,q⟩;cases e;exact q
 ·exact fun q=>⟨k,rfl,q⟩
theorem a3x {k:Int} {P:Int→Prop}:(∃c,V.int k=V.int c∧P c)↔P k:=by
 constructor
 ·rintro ⟨c,e,q⟩;cases e;exact q
 ·exact fun q=>⟨k,rfl,q⟩
theorem b5X {k:Str} {P:Str→Prop}:(∃c,V.str k=V.str c∧P c)↔P k:=by
 constructor
 ·rintro ⟨c,e,q⟩;cases e;exact q
 ·exact fun q=>⟨k,rfl,q⟩
theorem a0j {v:V} {P:V→Prop}:(∃x,some (some v)=some (some x)∧P x)↔P v:=by
 constructor
 ·rintro ⟨c,e,q⟩;cases e;exact q
 ·exact fun q=>⟨v,rfl,q⟩
end
theorem a0A.upd {H:Hp} {a:Addr} {o:HO} (h:H a=none):a0A H (upd H a o):=fun b u e=>by rw [a0w (a0y e h)];exact e
theorem a0A.up {H H':Hp} {a:Addr} {o:HO} (s:a0A H H') (h:H' a=none):a0A H (L2.upd H' a o):=s.trans (a0A.upd h)
theorem a0A.tup {K:PySem.W.Frag} {H H':Hp} {a:Addr} {xs:List V} (e:a0A H H') (h:SqT K H a xs):SqT K H' a xs:=by
 rcases h with (h | ⟨o,h⟩) | h
 ·exact .inl (.inl (e _ _ h))
 ·exact .inl (.inr ⟨o,e _ _ h⟩)
 ·exact .inr h
theorem a7c.same {K:PySem.W.Frag} {H H':Hp} {x:V} {t:Value} (s:a0A H H') (h:a7c K H x t):a7c K H' x t:=by
 cases h with
 | non=>exact .non
 | bl b=>exact .bl b
 | int i=>exact .int i
 | str z=>exact .str z
 | flt z=>exact .flt z
 | lst e=>exact .lst (s _ _ e)
 | frz e=>exact .frz (s _ _ e)
 | tup e=>exact .tup (s _ _ e)
 | dK e=>exact .dK (s _ _ e)
 | dT e=>exact .dT (s _ _ e)
 | ins e cl ha hn htk hm=>exact .ins (s _ _ e) cl ha hn htk hm
section
variable {X:Cx} {st:Stmt} {rest:List Stmt} {t u:TS}
def c7Y (t u:TS):TS:=fun D σ H=>∃M:St→Hp→Prop,t {D with nx:=M} σ H∧∀σ' H',M σ' H'→u D σ' H'
theorem a0O (h1:PS X st t) (h2:PSs X rest u):PSs X (st::rest) (c7Y t u):=by
 intro pins s σ H D I h
 obtain ⟨M,q1,q2⟩:=h
 refine wpAny_execs_cons (thn (h1 pins s σ H {D with nx:=M} I q1) fun f s1 q=>?_)
 cases f with
 | next=>
  obtain ⟨σ',H',I',q⟩:=q
  exact h2 pins s1 σ' H' D I' (q2 σ' H' q)
 | ret v=>exact q
 | brk=>exact q
 | cont=>exact q
end
theorem a8k {K:PySem.W.Frag}:PySem.W.kitOne K (.type "int") (.type "str")=some false:=by kernel_rfl
theorem a8f {K:PySem.W.Frag}:PySem.W.kitOne K (.type "bool") (.type "str")=some false:=by kernel_rfl
theorem a7p {K:PySem.W.Frag}:PySem.W.kitOne K (.type "NoneType") (.type "str")=some false:=by kernel_rfl
theorem a8b {K:PySem.W.Frag}:PySem.W.kitOne K (.type "list") (.type "str")=some false:=by kernel_rfl
theorem a2z {K:PySem.W.Frag}:PySem.W.kitOne K (.type "str") (.type "str")=some true:=by kernel_rfl
theorem a3J {K:PySem.W.Frag}:PySem.W.kitOne K (.type "bool") (.type "bool")=some true:=by kernel_rfl
end L2
namespace L2
open PySem PySem.Spec PyProof.Rows
theorem a8B {k:Addr} {P:Addr→Prop}:(∃c,V.ref k=V.ref c∧P c)↔P k:=by
 constructor
 ·rintro ⟨c,e,q⟩;cases e;exact q
 ·exact fun q=>⟨k,rfl,q⟩
theorem b0S {i j:Int} {H:Hp} {Q:VK}:rNe (.int i) (.int j) H Q↔Q (.bl (!decide (i=j))) H:=by
 unfold rNe
 have e:decide (V.int i=V.int j)=decide (i=j):=by
  by_cases h:i=j
  ·subst h;simp
  ·simp [h]
 rw [e]
 exact ⟨fun h=>h.2,fun h=>⟨rfl,h⟩⟩
theorem b1p {i j:Str} {H:Hp} {Q:VK}:rNe (.str i) (.str j) H Q↔Q (.bl (!decide (i=j))) H:=by
 unfold rNe
 have e:decide (V.str i=V.str j)=decide (i=j):=by
  by_cases h:i=j
  ·subst h;simp
  ·simp [h]
 rw [e]
 exact ⟨fun h=>h.2,fun h=>⟨rfl,h⟩⟩
theorem a5P {α:Type} {xs:List α} {i:Int} (h0:0≤i) (h1:i < xs.length):∃v,atI xs i=some v∧v∈xs∧xs[i.toNat]?=some v:=by
 have hk:i.toNat < xs.length:=by omega
 refine ⟨xs[i.toNat],?_,List.getElem_mem hk,List.getElem?_eq_getElem hk⟩
 unfold atI ixN
 rw [if_pos h0,if_pos h1]
 exact List.getElem?_eq_getElem hk
theorem a2g {i j:Int} (h:0 < j):0≤i % j∧i % j < j:=⟨Int.emod_nonneg _ (by omega),Int.emod_lt_of_pos _ h⟩
theorem ite_tt {A B:Prop}:(if true=true then A else B)=A:=if_pos rfl
theorem a1U {A B:Prop}:(if false=true then A else B)=B:=if_neg Bool.false_ne_true
theorem a4b {A B:Prop}:(if true=false then A else B)=B:=if_neg (by decide)
theorem ite_ff {A B:Prop}:(if false=false then A else B)=A:=if_pos rfl
theorem a2t {H:Hp} {p:Addr} (hp:H p=none) (o:HO):∃H',upd H p o=H'∧a0A H H'∧H' p=some o:=⟨_,rfl,a0A.upd hp,a0v⟩
def c7r (J:It) (g:TG) (tb:TS) (D:a8I) (σ:St) (H:Hp):Prop:=∃W:Nat→Nat→St→Hp→Prop,(∃m,W 0 m σ H)∧∀i m σ H,W i m σ H→
 (J.stop i H∧D.nx σ H)∨(J.go i H∧∃N:St→Hp→Prop,(∀σ' H',N σ' H'→∃m',m' < m∧W (i+1) m' σ' H')∧∀x H',J.yld i H x H'→g x σ H' fun σ2 H2=>tb {D with nx:=N,ct:=N,bk:=D.nx} σ2 H2)
theorem a3o {wi:TI} {g:TG} {tb:TS} {D:a8I} {σ:St} {H:Hp}:c4p wi g tb D σ H=wi σ H fun J H1=>c7r J g tb D σ H1:=rfl
theorem a1Z {js:List (Option Nat)} {wi:TI} {g:TG} {tt:TT} {te:TE} {σ:St} {H:Hp} {Q:VK}:b3a js wi g tt te σ H Q=wi σ H fun J H1=>b3e J js g tt te σ H1 Q:=rfl
theorem a5X {J:It} {n:Nat} {f:Nat→V} {Ok:Hp→Prop} {js:List (Option Nat)} {te:TE} {σ:St} {H:Hp} {Q:VK} (S:Src J n f Ok) (hn:n≤sizeLine) (σr:St) (hσ:a5z js σ=none::σr) (Pr:Nat→V→Prop)
  (hOk:∀H',a0A H H'→Ok H') (hs:∀i H' (R:V→Hp→Prop),i < n→a0A H H'→(∀v H'',a0A H' H''→Pr i v→R v H'')→te (some (f i)::σr) H' R)
  (hd:∀D H' ys,H D=none→a0A H H'→H' D=some (.lst ys)→ys.length=n→(∀i v,ys[i]?=some v→Pr i v)→Q (.ref D) H'):b3e J js (a0T 0) c7x te σ H Q:=by
 refine b0T S hn (fun D i σ' H' ys=>(∃a,σ'=a::σr)∧a0A H H'∧H' D=some (.lst ys)∧ys.length=i∧∀j v,ys[j]?=some v→Pr j v) ?_ ?_ ?_ ?_
 ·intro D hD
  exact ⟨⟨none,hσ⟩,a0A.upd hD,a0v,rfl,fun j v e=>by simp at e⟩
 ·rintro D i σ' H' ys hD hi ⟨_,s,h,hl,_⟩
  exact ⟨hOk _ s,h,Nat.le_of_eq hl⟩
 ·rintro D i σ' H' ys R hD hi ⟨⟨a,rfl⟩,s,h,hl,hp⟩ hR
  show te (some (f i)::σr) H' _
  refine hs i H' _ hi s fun v H'' s2 pv=>⟨s2 _ _ h,hR _ _ _ ⟨⟨_,rfl⟩,?_,a0v,by simp [hl],fun j v' e=>?_⟩⟩
  ·intro b o e
   rw [a0w (a0y e hD)]
   exact s2 b o (s b o e)
  ·rw [List.getElem?_append] at e
   split at e
   ·exact hp j v' e
   ·rename_i hj
    have e1:j=ys.length:=by
     have:=(List.getElem?_eq_some_iff.mp e).1
     simp at this;omega
    subst e1
    simp at e
    subst e
    rw [hl];exact pv
 ·rintro D σ' H' ys hD ⟨_,s,h,hl,hp⟩
  exact hd D H' ys hD s h hl hp
section
variable {K:PySem.W.Frag} {H:Hp} {Q:VK}
theorem a1S {z:Str}:b3t K [.str z,.ty "str"] H Q↔Q (.bl true) H:=by
 constructor
 ·rintro ⟨x,c,u,t,b,e1,hu,ty,e,q⟩
  cases e1;cases hu;cases ty
  rw [a2z] at e;cases e;exact q
 ·exact fun q=>⟨_,_,_,_,_,rfl,rfl,.str z,a2z,q⟩
theorem a7T {z:Bool}:b3t K [.bl z,.ty "bool"] H Q↔Q (.bl true) H:=by
 constructor
 ·rintro ⟨x,c,u,t,b,e1,hu,ty,e,q⟩
  cases e1;cases hu;cases ty
  rw [a3J] at e;cases e;exact q
 ·exact fun q=>⟨_,_,_,_,_,rfl,rfl,.bl z,a3J,q⟩
def a3Q (K:PySem.W.Frag) (H:Hp) (x:V):Prop:=∃t,a7c K H x t∧PySem.W.kitOne K t (.type "str")=some false
theorem a3Q.same {H':Hp} {x:V} (s:a0A H H') (h:a3Q K H x):a3Q K H' x:=let ⟨t,a,b⟩:=h;⟨t,a.same s,b⟩
theorem a6M {x:V} (h:a3Q K H x) (q:Q (.bl false) H):b3t K [x,.ty "str"] H Q:=let ⟨t,a,b⟩:=h;⟨_,_,_,_,_,rfl,rfl,a,b,q⟩
end
end L2
namespace L2
open PySem PySem.Spec PyProof.Rows
theorem a5q {K:PySem.W.Frag}:PySem.W.kitOne K (.type "tuple") (.type "tuple")=some true:=by kernel_rfl
section
variable {K:PySem.W.Frag} {H:Hp} {Q:VK}
def b1q:V→List V→Hp→VK→Prop:=fun x xs H Q=>∃a b,x=.str a∧xs=[.str b]∧Q (.bl (Txt.startswith a b)) H
def b6o:V→List V→Hp→VK→Prop:=fun x xs H Q=>∃a b,x=.str a∧xs=[.str b]∧Q (.bl (Txt.endswith a b)) H
def b7n:V→List V→Hp→VK→Prop:=fun x xs H Q=>∃a b,x=.str a∧xs=[.str b]∧Q (.int (Txt.find a b)) H
def b4m:V→List V→Hp→VK→Prop:=fun x xs H Q=>∃a b,x=.str a∧xs=[.str b]∧(b.length == 0)=false∧a.length+2≤sizeLine∧∀p,H p=none→Q (.ref p) (upd H p (.lst ((Txt.split a b).map V.str)))
def b5R:V→List V→Hp→VK→Prop:=fun x xs H Q=>∃a b,x=.str a∧xs=[.str b]∧(b.length == 0)=false∧a.length≤sizeLine∧
 ∀p,H p=none→Q (.ref p) (upd H p (.tup [.str (Txt.partition a b).1,.str (Txt.partition a b).2.1,.str (Txt.partition a b).2.2]))
def b8M (K:PySem.W.Frag):V→List V→Hp→VK→Prop:=fun x xs H Q=>∃z p ys,x=.str z∧xs=[.ref p]∧(SqL K H p (ys.map V.str)∨SqT K H p (ys.map V.str))∧(ys.map (·.length)).sum+ys.length * z.length≤16777216∧Q (.str (Txt.join z ys)) H
theorem a5L {a b:Str}:b1q (.str a) [.str b] H Q↔Q (.bl (Txt.startswith a b)) H:=⟨by rintro ⟨_,_,e1,e2,q⟩;cases e1;cases e2;exact q,fun q=>⟨_,_,rfl,rfl,q⟩⟩
theorem b2o {a b:Str}:b6o (.str a) [.str b] H Q↔Q (.bl (Txt.endswith a b)) H:=⟨by rintro ⟨_,_,e1,e2,q⟩;cases e1;cases e2;exact q,fun q=>⟨_,_,rfl,rfl,q⟩⟩
theorem a9o {a b:Str}:b7n (.str a) [.str b] H Q↔Q (.int (Txt.find a b)) H:=⟨by rintro ⟨_,_,e1,e2,q⟩;cases e1;cases e2;exact q,fun q=>⟨_,_,rfl,rfl,q⟩⟩
theorem a2V {a b:Str}:b4m (.str a) [.str b] H Q↔((b.length == 0)=false∧a.length+2≤sizeLine∧∀p,H p=none→Q (.ref p) (upd H p (.lst ((Txt.split a b).map V.str)))):=
 ⟨by rintro ⟨_,_,e1,e2,q⟩;cases e1;cases e2;exact q,fun q=>⟨_,_,rfl,rfl,q⟩⟩
theorem a6m {a b:Str}:b5R (.str a) [.str b] H Q↔((b.length == 0)=false∧a.length≤sizeLine∧
  ∀p,H p=none→Q (.ref p) (upd H p (.tup [.str (Txt.partition a b).1,.str (Txt.partition a b).2.1,.str (Txt.partition a b).2.2]))):=⟨by rintro ⟨_,_,e1,e2,q⟩;cases e1;cases e2;exact q,fun q=>⟨_,_,rfl,rfl,q⟩⟩
theorem a4h {z:Str} {p:Addr} {ys:List Str} (h:SqL K H p (ys.map V.str)∨SqT K H p (ys.map V.str)) (hl:(ys.map (·.length)).sum+ys.length * z.length≤16777216) (q:Q (.str (Txt.join z ys)) H):b8M K (.str z) [.ref p] H Q:=⟨z,p,ys,rfl,rfl,h,hl,q⟩
theorem a1G {z:Str} {P:Prop}:(tyV K "str" (.str z) H∧P)↔P:=⟨fun h=>h.2,fun h=>⟨rfl,h⟩⟩
def b8Q (K:PySem.W.Frag):List V→Hp→VK→Prop:=fun xs H Q=>∃p ys,xs=[.ref p]∧((SqL K H p ys∧∀l,H l=none→Q (.ref l) (upd H l (.tup ys)))∨SqT K H p ys∧Q (.ref p) H)
def b5x (K:PySem.W.Frag):List V→Hp→VK→Prop:=fun xs H Q=>∃p ys,xs=[.ref p]∧(SqL K H p ys∨SqT K H p ys)∧∀l,H l=none→Q (.ref l) (upd H l (.lst ys))
end
def c2J:R2:=fun x y H Q=>y=.non∧Q (.bl (decide (x=.non))) H
section
variable {H:Hp} {Q:VK}
theorem a3C {a:Addr}:c2J (.ref a) .non H Q↔Q (.bl false) H:=⟨fun h=>h.2,fun h=>⟨rfl,h⟩⟩
theorem a3R:c2J .non .non H Q↔Q (.bl true) H:=⟨fun h=>h.2,fun h=>⟨rfl,h⟩⟩
end
mutual
inductive Den (K:PySem.W.Frag) (H:Hp):V→PyData→Prop
 | non:Den K H .non .none
 | bl (b:Bool):Den K H (.bl b) (.bool b)
 | int (i:Int):Den K H (.int i) (.int i)
 | str (x:Str):Den K H (.str x) (.str x)
 | lst {a:Addr} {xs:List V} {ds:List PyData}:SqL K H a xs→DenAll K H xs ds→Den K H (.ref a) (.list ds)
 | tup {a:Addr} {xs:List V} {ds:List PyData}:SqT K H a xs→DenAll K H xs ds→Den K H (.ref a) (.tuple ds)
inductive DenAll (K:PySem.W.Frag) (H:Hp):List V→List PyData→Prop
 | nil:DenAll K H [] []
 | cons {x:V} {xs:List V} {d:PyData} {ds:List PyData}:Den K H x d→DenAll K H xs ds→DenAll K H (x::xs) (d::ds)
end
theorem a6k {K:PySem.W.Frag} {H:Hp}:∀ys:List Str,DenAll K H (ys.map V.str) (ys.map PyData.str)
 | []=>.nil
 | y::ys=>.cons (.str y) (a6k ys)
theorem b0M {K:PySem.W.Frag} {H:Hp}:∀ys:List Bool,DenAll K H (ys.map V.bl) (ys.map PyData.bool)
 | []=>.nil
 | y::ys=>.cons (.bl y) (b0M ys)
def c5j (K:PySem.W.Frag):R2:=fun x y H Q=>∃d e,Den K H x d∧Den K H y e∧SeqAt.shaped d=true∧SeqAt.shaped e=true∧Q (.bl (PyData.eqv d e)) H
def c4v (K:PySem.W.Frag):R2:=fun x y H Q=>∃d e,Den K H x d∧Den K H y e∧SeqAt.shaped d=true∧SeqAt.shaped e=true∧Q (.bl (!PyData.eqv d e)) H
def b5I (K:PySem.W.Frag):R2:=fun x y H Q=>rEq x y H Q∨c5j K x y H Q
def b9E (K:PySem.W.Frag):R2:=fun x y H Q=>rNe x y H Q∨c4v K x y H Q
section
variable {K:PySem.W.Frag} {H:Hp} {Q:VK}
theorem a2m {i j:Str}:b5I K (.str i) (.str j) H Q↔Q (.bl (decide (i=j))) H:=by
 constructor
 ·rintro (h | ⟨d,e,h1,h2,_,_,q⟩)
  ·exact b0A.mp h
  ·cases h1;cases h2
   rw [show decide (i=j)=PyData.eqv (.str i) (.str j) from by simp only [PyData.eqv];by_cases z:i=j<;>simp [z]];exact q
 ·exact fun q=>.inl (b0A.mpr q)
theorem a2p {i j:Int}:b5I K (.int i) (.int j) H Q↔Q (.bl (decide (i=j))) H:=by
 constructor
 ·rintro (h | ⟨d,e,h1,h2,_,_,q⟩)
  ·exact b0B.mp h
  ·cases h1;cases h2
   rw [show decide (i=j)=PyData.eqv (.int i) (.int j) from by simp only [PyData.eqv];by_cases z:i=j<;>simp [z]];exact q
 ·exact fun q=>.inl (b0B.mpr q)
theorem a2o {i j:Str}:b9E K (.str i) (.str j) H Q↔Q (.bl (!decide (i=j))) H:=by
 constructor
 ·rintro (h | ⟨d,e,h1,h2,_,_,q⟩)
  ·exact b1p.mp h
  ·cases h1;cases h2
   rw [show decide (i=j)=PyData.eqv (.str i) (.str j) from by simp only [PyData.eqv];by_cases z:i=j<;>simp [z]];exact q
 ·exact fun q=>.inl (b1p.mpr q)
theorem b2G {i j:Int}:b9E K (.int i) (.int j) H Q↔Q (.bl (!decide (i=j))) H:=by
 constructor
 ·rintro (h | ⟨d,e,h1,h2,_,_,q⟩)
  ·exact b0S.mp h
  ·cases h1;cases h2
   rw [show decide (i=j)=PyData.eqv (.int i) (.int j) from by simp only [PyData.eqv];by_cases z:i=j<;>simp [z]];exact q
 ·exact fun q=>.inl (b0S.mpr q)
mutual
theorem a8J:∀d:PyData,SeqAt.shaped d=true→PyData.eqv d d=true
 | .none,_=>rfl
 | .bool b,_=>by simp [PyData.eqv]
 | .int i,_=>by simp [PyData.eqv]
 | .str x,_=>by simp [PyData.eqv]
 | .list xs,h=>by
  simp only [PyData.eqv]
  exact eqvAll_self xs (by unfold SeqAt.shaped at h;simpa [PyData.canLay0] using (Bool.and_eq_true_iff.mp h).1)
 | .tuple xs,h=>by
  simp only [PyData.eqv]
  exact eqvAll_self xs (by unfold SeqAt.shaped at h;simpa [PyData.canLay0] using (Bool.and_eq_true_iff.mp h).1)
 | .dict _,h=>by unfold SeqAt.shaped at h;simp [PyData.canLay0] at h
theorem eqvAll_self:∀ds:List PyData,PyData.canLayAll0 ds=true→PyData.eqvAll ds ds=true
 | [],_=>rfl
 | d::ds,h=>by
  simp only [PyData.canLayAll0,Bool.and_eq_true] at h
  simp only [PyData.eqvAll,Bool.and_eq_true]
  exact ⟨eqv_self' d h.1,eqvAll_self ds h.2⟩
theorem eqv_self':∀d:PyData,PyData.canLay0 d=true→PyData.eqv d d=true
 | .none,_=>rfl
 | .bool b,_=>by simp [PyData.eqv]
 | .int i,_=>by simp [PyData.eqv]
 | .str x,_=>by simp [PyData.eqv]
 | .list xs,h=>by
  simp only [PyData.eqv]
  exact eqvAll_self xs (by simpa [PyData.canLay0] using h)
 | .tuple xs,h=>by
  simp only [PyData.eqv]
  exact eqvAll_self xs (by simpa [PyData.canLay0] using h)
 | .dict _,h=>by simp [PyData.canLay0] at h
end
theorem a2T {x y:V} {d:PyData} (h1:Den K H x d) (h2:Den K H y d) (hs:SeqAt.shaped d=true) (q:Q (.bl true) H):b5I K x y H Q:=.inr ⟨d,d,h1,h2,hs,hs,by rw [a8J d hs];exact q⟩
theorem b1t {x y:V} {d:PyData} (h1:Den K H x d) (h2:Den K H y d) (hs:SeqAt.shaped d=true) (q:Q (.bl false) H):b9E K x y H Q:=.inr ⟨d,d,h1,h2,hs,hs,by rw [a8J d hs];exact q⟩
theorem b2D {a:Addr} {xs:List V} (h:H a=some (.tup xs)) (q:Q (.bl true) H):b3t K [.ref a,.ty "tuple"] H Q:=⟨_,_,_,_,_,rfl,rfl,.tup h,a5q,q⟩
end
section
variable {X:Cx}
theorem a8a:OpR X (compareOp .Is) c2J:=b6W
theorem a7N:MtR X "str.startswith" b1q:=a6K
theorem b4V:MtR X "str.endswith" b6o:=a8p
theorem a9m:MtR X "str.find" b7n:=b4x
theorem a7l:∀l:List (Str×Tok),a1f ((l.map (·.1)).map V.str) (strValues l)
 | []=>.nil
 | p::r=>.cons ⟨p.2,rfl⟩ (a7l r)
theorem a4d:MtR X "str.split" b4m:=by
 intro pins s σ H x xs v us Q I rx rs h
 obtain ⟨z,y,rfl,rfl,hy,hz,q⟩:=h
 obtain ⟨t,rfl⟩:=rx
 obtain ⟨u,rfl,t',rfl⟩:=a5v rs
 have fin:∀(l:List (Str×Tok)) (k:Nat),l.map (·.1)=Txt.split z y→l.length≤sizeLine→
   EP X pins σ Q (.ref s.heap.objs.size) {s with heap:=s.heap.push {cls:=.type "list",data:=.seq (strValues l).toArray},toks:=k}:=fun l k e hl=>
  ⟨.ref s.heap.objs.size,_,I.laid (t':=k) (fun _ _ q=>Heap.get?_push_of_some _ q) (Nat.le_refl _) (show a1O X.prog X.w _ _ _ (.lst ((Txt.split z y).map V.str)) from
   ⟨by rw [List.length_map,←e,List.length_map];exact hl,strValues l,_,by rw [←e];exact a7l l,Heap.get?_push_size _ rfl⟩),rfl,q _ (I.hok.fresh (Nat.le_refl _))⟩
 have hn:(Builtin.Str.partsBetween z (Builtin.Str.occurrences z y 0 z.length (z.length+1)) y.length).length≤sizeLine:=by
  have e1:=StrLaws.occ_length_le z y 0 z.length (z.length+1)
  rw [length_partsBetween];omega
 cases h1:(decide (z.length < y.length) || decide (Builtin.Str.strKind z < Builtin.Str.strKind y))
 ·cases hf:(Builtin.Str.occurrences z y 0 z.length (z.length+1)).isEmpty
  ·refine call_meets F.slot_str_split (typeIs_str _ _ _) F.entry_str_split (F.args_str_split_2 _ _) (meets_str_split_sep z y t t' h1 hy hf (by omega) hn) ?_
   show wants (EP X pins σ Q) X.xe _ {s with toks:=_,heap:=s.heap.push {cls:=.type "list",data:=.seq (strsFrom s.toks (Builtin.Str.partsBetween z (Builtin.Str.occurrences z y 0 z.length (z.length+1)) y.length)).toArray}}
   rw [strsFrom_eq]
   refine fin (numbered s.toks _) _ ((numbered_texts _ _).trans ((if_neg (ne_true_of_eq_false h1)).trans (if_neg (ne_true_of_eq_false hf))).symm) ?_
   have:=congrArg List.length (numbered_texts s.toks (Builtin.Str.partsBetween z (Builtin.Str.occurrences z y 0 z.length (z.length+1)) y.length))
   rw [List.length_map] at this
   rw [this];exact hn
  ·exact call_meets F.slot_str_split (typeIs_str _ _ _) F.entry_str_split (F.args_str_split_2 _ _) (meets_str_split_not_found z y t t' h1 hy hf)
    (fin [(z,t)] s.toks ((if_neg (ne_true_of_eq_false h1)).trans (if_pos hf)).symm (by show 1≤sizeLine;decide))
 ·exact call_meets F.slot_str_split (typeIs_str _ _ _) F.entry_str_split (F.args_str_split_2 _ _) (meets_str_split_cannot_occur z y t t' h1)
   (fin [(z,t)] s.toks (if_pos h1).symm (by show 1≤sizeLine;decide))
theorem a2P:MtR X "str.partition" b5R:=by
 intro pins s σ H x xs v us Q I rx rs h
 obtain ⟨z,y,rfl,rfl,hy,hz,q⟩:=h
 obtain ⟨t,rfl⟩:=rx
 obtain ⟨u,rfl,t',rfl⟩:=a5v rs
 have fin:∀(a b c:Str) (ta tb tc:Tok) (k:Nat),Txt.partition z y=(a,b,c)→
   EP X pins σ Q (.ref s.heap.objs.size) {s with heap:=s.heap.push {cls:=.type "tuple",data:=.seq [.str a ta,.str b tb,.str c tc].toArray},toks:=k}:=fun a b c ta tb tc k e=>
  ⟨.ref s.heap.objs.size,_,I.laid (t':=k) (fun _ _ q=>Heap.get?_push_of_some _ q) (Nat.le_refl _) (show a1O X.prog X.w _ _ _ (.tup [.str (Txt.partition z y).1,.str (Txt.partition z y).2.1,.str (Txt.partition z y).2.2]) from
   ⟨by show 3≤sizeLine;decide,[.str a ta,.str b tb,.str c tc],by rw [e];exact .cons ⟨ta,rfl⟩ (.cons ⟨tb,rfl⟩ (.cons ⟨tc,rfl⟩ .nil)),⟨_,Heap.get?_push_size _ rfl,rfl,_,rfl⟩⟩),rfl,q _ (I.hok.fresh (Nat.le_refl _))⟩
 refine call_meets F.slot_str_partition (typeIs_str _ _ _) F.entry_str_partition (F.args_str_partition_2 _ _) (meets_str_partition z y t t' hy hz) ?_
 have h':=fin
 unfold Txt.partition at h'
 revert h'
 cases Builtin.Str.occurrences z y 0 z.length 1 with
 | nil=>intro h';exact h' _ _ _ _ _ _ _ rfl
 | cons i r=>intro h';exact h' _ _ _ _ _ _ _ rfl
theorem a6L:∀{ys:List Str} {us:List Value},a1f (ys.map V.str) us→StrsAre us ys
 | [],_,r=>by rw [List.map_nil] at r;cases r;exact .nil
 | y::ys,_,r=>by
  rw [List.map_cons] at r
  cases r with
  | cons h t=>obtain ⟨tk,rfl⟩:=h;exact .cons y tk (a6L t)
theorem a6x:MtR X "str.join" (b8M X.K):=by
 intro pins s σ H x xs v us Q I rx rs h
 obtain ⟨z,p,ys,rfl,rfl,hq,hl,q⟩:=h
 obtain ⟨t,rfl⟩:=rx
 obtain ⟨u,rfl,ru⟩:=a5v rs
 cases ru
 rcases hq with hq | hq
 ·obtain ⟨its,r,pl,_⟩:=I.list hq
  exact join_list pl.isList (by simpa using a6L r) hl fun t' k=>⟨.str _,H,I.tok _,⟨_,rfl⟩,q⟩
 ·obtain ⟨its,r,pl,_⟩:=I.tuple hq
  exact join_tuple pl (by simpa using a6L r) hl fun t' k=>⟨.str _,H,I.tok _,⟨_,rfl⟩,q⟩
theorem a5I:a2w X (.type "tuple") (b8Q X.K):=by
 intro pins s σ H xs us Q I r h
 obtain ⟨p,ys,e,h⟩:=h
 exact a6N pins s σ H xs us Q I r ⟨p,ys,e,h⟩
theorem a8r:a2w X (.type "list") (b5x X.K):=a7D
mutual
theorem Den.reads {pins:List (Addr×Obj)} {σ:St} {H:Hp} {s:Shared} (I:Inv X pins σ H s):∀{x:V} {d:PyData} {u:Value},Den X.K H x d→a1R x u→∃as,Reads s.heap u d as
 | _,_,_,.non,r=>by cases r;exact ⟨_,.none⟩
 | _,_,_,.bl b,r=>by cases r;exact ⟨_,.bool b⟩
 | _,_,_,.int i,r=>by obtain ⟨t,rfl⟩:=r;exact ⟨_,.int i t⟩
 | _,_,_,.str x,r=>by obtain ⟨t,rfl⟩:=r;exact ⟨_,.str x t⟩
 | _,_,_,.lst h hs,r=>by
  cases r
  obtain ⟨its,rv,pl,_⟩:=I.list h
  obtain ⟨o,ho,hc,n,hd⟩:=pl.isList
  obtain ⟨as,ra⟩:=DenAll.reads I hs rv
  exact ⟨_,.list ho hc hd (by simpa using ra)⟩
 | _,_,_,.tup h hs,r=>by
  cases r
  obtain ⟨its,rv,pl,_⟩:=I.tuple h
  obtain ⟨o,ho,hc,n,hd⟩:=pl
  obtain ⟨as,ra⟩:=DenAll.reads I hs rv
  exact ⟨_,.tuple ho hc hd (by simpa using ra)⟩
theorem DenAll.reads {pins:List (Addr×Obj)} {σ:St} {H:Hp} {s:Shared} (I:Inv X pins σ H s):∀{xs:List V} {ds:List PyData} {us:List Value},DenAll X.K H xs ds→a1f xs us→∃as,ReadsAll s.heap us ds as
 | _,_,_,.nil,r=>by cases r;exact ⟨_,.nil⟩
 | _,_,_,.cons h hs,r=>by
  cases r with
  | cons r1 r2=>
   obtain ⟨as,ra⟩:=Den.reads I h r1
   obtain ⟨bs,rb⟩:=DenAll.reads I hs r2
   exact ⟨_,.cons ra rb⟩
end
theorem b8l (hu:X.A.units+64 < cLine):OpR X (compareOp .Eq) (c5j X.K):=by
 intro pins s σ H x y v u Q I rx ry h
 obtain ⟨d,e,h1,h2,s1,s2,q⟩:=h
 obtain ⟨as,ra⟩:=h1.reads I rx
 obtain ⟨bs,rb⟩:=h2.reads I ry
 exact eq_dataH ra rb s1 s2 hu ⟨.bl _,H,I,rfl,q⟩
theorem b7W (hu:X.A.units+64 < cLine):OpR X (compareOp .NotEq) (c4v X.K):=by
 intro pins s σ H x y v u Q I rx ry h
 obtain ⟨d,e,h1,h2,s1,s2,q⟩:=h
 obtain ⟨as,ra⟩:=h1.reads I rx
 obtain ⟨bs,rb⟩:=h2.reads I ry
 exact ne_dataH ra rb s1 s2 hu ⟨.bl _,H,I,rfl,q⟩
theorem a1C (hu:X.A.units+64 < cLine):OpR X (compareOp .Eq) (b5I X.K):=c1g.or (b8l hu)
theorem a4A (hu:X.A.units+64 < cLine):OpR X (compareOp .NotEq) (b9E X.K):=c0D.or (b7W hu)
variable {K:PySem.W.Frag}
theorem a6F (h:X.K=K):OpR X (binaryOp .Add) (b2t K):=h ▸ a0E
theorem b3u (h:X.K=K):OpR X (compareOp .In) (c0X K):=h ▸ b4a
theorem b0p (h:X.K=K):OpR X (compareOp .NotIn) (a8t K):=h ▸ a4l
theorem b6L (hu:X.A.units+64 < cLine) (h:X.K=K):OpR X (compareOp .Eq) (b5I K):=h ▸ a1C hu
theorem b5E (h:X.K=K):IxR X (rIx K):=h ▸ a0J
end
end L2
namespace L2
open PySem PySem.Spec PyProof.Rows PySem.W
end L2
namespace L2
open PySem PySem.Spec PyProof.Rows
theorem b1e {J:It} {n:Nat} {f:Nat→V} {Ok:Hp→Prop} {js:List (Option Nat)} {tt:TT} {te:TE} {σ:St} {H:Hp} {Q:VK} (S:Src J n f Ok) (hn:n≤sizeLine) (σr:St) (hσ:a5z js σ=none::σr) (keep:Nat→Bool) (val:Nat→V)
  (hOk:∀H',a0A H H'→Ok H') (hs:∀i H' (R:Bool→Hp→Prop),i < n→a0A H H'→(∀H'',a0A H' H''→R (keep i) H'')→tt (some (f i)::σr) H' R)
  (he:∀i H' (R:V→Hp→Prop),i < n→a0A H H'→(∀H'',a0A H' H''→R (val i) H'')→te (some (f i)::σr) H' R)
  (hd:∀D H',H D=none→a0A H H'→H' D=some (.lst (((List.range n).filter keep).map val))→Q (.ref D) H'):b3e J js (a0T 0) tt te σ H Q:=by
 refine b0T S hn (fun D i σ' H' ys=>(∃a,σ'=a::σr)∧a0A H H'∧H' D=some (.lst ys)∧ys=((List.range i).filter keep).map val) ?_ ?_ ?_ ?_
 ·intro D hD
  exact ⟨⟨none,hσ⟩,a0A.upd hD,a0v,rfl⟩
 ·rintro D i σ' H' ys hD hi ⟨_,s,h,rfl⟩
  refine ⟨hOk _ s,h,?_⟩
  rw [List.length_map]
  exact Nat.le_trans (List.length_filter_le _ _) (by simp)
 ·rintro D i σ' H' ys R hD hi ⟨⟨a,rfl⟩,s,h,rfl⟩ hR
  show tt (some (f i)::σr) H' _
  refine hs i H' _ hi s fun H2 s2=>?_
  cases hk:keep i with
  | false=>
   rw [if_neg Bool.false_ne_true]
   refine hR _ _ _ ⟨⟨_,rfl⟩,s.trans s2,s2 _ _ h,?_⟩
   rw [List.range_succ,List.filter_append,List.filter_cons,hk];simp
  | true=>
   rw [if_pos rfl]
   refine he i H2 _ hi (s.trans s2) fun H3 s3=>⟨s3 _ _ (s2 _ _ h),hR _ _ _ ⟨⟨_,rfl⟩,?_,a0v,?_⟩⟩
   ·intro b o e
    rw [a0w (a0y e hD)]
    exact s3 b o (s2 b o (s b o e))
   ·rw [List.range_succ,List.filter_append,List.filter_cons,hk];simp
 ·rintro D σ' H' ys hD ⟨_,s,h,rfl⟩
  exact hd D H' hD s h
structure b7D (K:PySem.W.Frag) (C:Addr) (m:Str) (f:Addr):Prop where
 ga:PySem.W.specialIn K (.ref C) "__getattribute__"=some (some (.builtin "type.__getattribute__"))
 rd:PySem.W.readsIn K C (.type "type")=true
 at_:PySem.W.findCls K (.ref C) (.type "type") m=some (.val (.ref f))
 kp:PySem.W.keepIn K (.ref f)=true
structure TyI (K:PySem.W.Frag) (C:Addr):Prop where
 ha:PySem.W.findIn K (.ref C) "__class__"=some (some (.builtin "object.__class__"))
 hn:PySem.W.specialIn K (.builtin "object.__class__") "__get__"=some (some (.builtin "getset_descriptor.__get__"))
 htk:PySem.W.takesIn K (.builtin "object.__class__")=some true
 hm:PySem.W.mroIn K C (.type "object")=some true
theorem a1K {K:PySem.W.Frag} {C D:Addr} {cd:ClassData} {b:Bool} (hc:PySem.W.clsIn K D=some cd) (ht:PySem.W.typeIn K (.ref D)=some (.type "type")) (hs:PySem.W.subIn K (.ref C) (.ref D)=some b) (ho:PySem.W.subIn K (.ref C) (.ref C)=some true):
  PySem.W.kitOne K (.ref C) (.ref D)=some b:=by
 unfold PySem.W.kitOne
 by_cases e:(Value.ref C == Value.ref D)=true
 ·rw [if_pos e]
  have e':C=D:=by
   have:=eq_of_beq e
   injection this
  rw [←e',ho] at hs
  exact hs
 ·rw [if_neg e]
  show (if ((PySem.W.clsIn K D).isSome && PySem.W.typeIn K (.ref D) == some (.type "type"))=true then PySem.W.subIn K (.ref C) (.ref D) else none)=_
  rw [hc,ht,if_pos (by simp),hs]
theorem a1e {K:PySem.W.Frag} {H:Hp} {Q:VK} {a C D dx:Addr} {fs:List (Str×V)} {b:Bool} (h:H a=some (.ins C dx fs)) (c:Cls K C) (ty:TyI K C) (k:PySem.W.kitOne K (.ref C) (.ref D)=some b) (q:Q (.bl b) H):b3t K [.ref a,.ref D] H Q:=
 ⟨_,_,_,_,_,rfl,rfl,.ins h c ty.ha ty.hn ty.htk ty.hm,k,q⟩
section
variable {X:Cx}
def c9l:R2:=fun x y H Q=>∃i j,x=.str i∧y=.str j∧Q (.bl (decide (i.cps.toList < j.cps.toList))) H
def c0M:R2:=fun x y H Q=>rI0 (fun i j=>.bl (decide (i < j))) x y H Q∨c9l x y H Q
theorem a5H:OpR X (compareOp .Lt) c0M:=c1x.or b0n
theorem a4w {i j:Int} {H:Hp} {Q:VK}:c0M (.int i) (.int j) H Q↔Q (.bl (decide (i < j))) H:=by
 constructor
 ·rintro (⟨a,b,e1,e2,q⟩ | ⟨a,b,e1,_⟩)
  ·cases e1;cases e2;exact q
  ·cases e1
 ·exact fun q=>.inl ⟨i,j,rfl,rfl,q⟩
theorem b2u {i j:Str} {H:Hp} {Q:VK}:c0M (.str i) (.str j) H Q↔Q (.bl (decide (i.cps.toList < j.cps.toList))) H:=by
 constructor
 ·rintro (⟨a,b,e1,_⟩ | ⟨a,b,e1,e2,q⟩)
  ·cases e1
  ·cases e1;cases e2;exact q
 ·exact fun q=>.inr ⟨i,j,rfl,rfl,q⟩
end
section
variable {X:Cx} {o e:Expr} {es:List Expr} {apos pos:Pos} {m:Str} {C f:Addr} {fd:FuncData} {ps:List Str} {sp:Sp} {CX:CXT} {k:Nat} {E:XK} {dvs:List V} {ds:List Value} {ta:TE} {t:TA}
def b4Z (t u:TE):TE:=fun σ H Q=>t σ H Q∨u σ H Q
theorem a2E {t u:TE} (h1:PE X e t) (h2:PE X e u):PE X e (b4Z t u):=fun pins s σ H Q I h=>h.elim (h1 pins s σ H Q I) (h2 pins s σ H Q I)
def b3s (C:Addr) (sp:Sp) (dvs:List V) (E:XK) (ta:TE) (t:TA):TE:=fun σ H Q=>ta σ H fun x H1=>x=.ref C∧t σ H1 fun vs H2=>sp (vs++dvs) H2 Q E
theorem b3h {pl:Sem Bool} (he:PE X o ta) (hm:b7D X.K C m f) (F:a1y X.prog X.w X.K X.mg X.base CX k f fd ps sp) (hr:a2Z k X.A) (hb:a0K X.K fd ps ds) (hd:a1f dvs ds) (hx:a3j CX X E) (ha:PA X (e::es) t)
  (hst:starEach (e::es) X.env=(false,eval e X.env)::starEach es X.env:=by rfl) (hpl:(backTo pos (starEach es X.env)).any (·.1)=false:=by rfl)
  (ht:eval (.Call (.Attribute o m apos) (e::es) [] pos) X.env=(do
   let ov ←eval o X.env
   standAt apos.atName
   let (f,first) ←holding [ov] (getMethod ov m pl)
   callWith pos f first (backTo pos (starEach (e::es) X.env)) (backToKw pos (keywordEach [] X.env))):=by rfl):
  PE X (.Call (.Attribute o m apos) (e::es) [] pos) (b3s C sp dvs E ta t):=by
 intro pins s σ H Q I h
 refine PySem.W.methodCall_KW (pl:=pl) (thn (he pins s σ H _ I h) fun u s1 ⟨x,H1,I1,rx,ex,q⟩=>?_) ht
 subst ex
 obtain rfl:u=Value.ref C:=rx
 refine PySem.W.method_cls I1.kIn hm.ga (PySem.W.cls_value I1.kIn hm.rd hm.at_ rfl ?_)
 refine PySem.W.callWith_K (first:=[]) (h₀:=X.base) I.ok.mod.kin hm.kp (thn (ha pos pins _ σ H1 _ (I1.tok _) q) fun us s2 ⟨vs,H2,I2,r,q2⟩=>⟨I2.kIn,?_⟩) hst hpl
 exact b0U (us:=us) (vs:=vs) F hr hb hd hx I2 r q2
end
end L2
namespace L2
open PySem PySem.Spec PyProof.Rows
theorem b5C {α:Type} (l:List α) (v:α):atI (l++[v]) (-1)=some v:=by
 unfold atI ixN
 rw [if_neg (by decide),if_pos (by simp;omega)]
 show (l++[v])[((-1:Int)+((l++[v]).length:Nat)).toNat]?=some v
 rw [show ((-1:Int)+((l++[v]).length:Nat)).toNat=l.length by simp;omega]
 simp
theorem none_of {H H':Hp} (s:a0A H H') {p:Addr} (h:H' p=none):H p=none:=by
 cases e:H p with
 | none=>rfl
 | some o=>rw [s _ _ e] at h;cases h
end L2
namespace L2
open PySem PySem.Spec PyProof.Rows PySem.W
def Ite (K:PySem.W.Frag) (a:Addr):It:=
 ⟨fun i H=>∃xs x,SqL K H a xs∧xs[i]?=some x,fun i H x H'=>∃p v,H p=none∧(∀xs,SqL K H a xs→xs[i]?=some v)∧x=.ref p∧H'=upd H p (.tup [.int i,v]),fun i H=>∃xs,SqL K H a xs∧xs.length≤i⟩
def b6q (K:PySem.W.Frag) (ta:TA):TI:=fun σ H R=>ta σ H fun vs H1=>∃a,vs=[.ref a]∧(∃xs,SqL K H1 a xs)∧R (Ite K a) H1
section
variable {X:Cx} {pins:List (Addr×Obj)} {σ:St} {H:Hp} {s:Shared} {h':Heap} {tg:Expr}
theorem Inv.turned2 {t':Nat} {e it:Addr} (I:Inv X pins σ H s) (k:∀b o,b≠e→b≠it→s.heap.get? b=some o→h'.get? b=some o) (f1:b0d X pins H e) (f2:b0d X pins H it):Inv X pins σ H {s with heap:=h',toks:=t'}:=by
 obtain ⟨a0,a1,a2,a3,a4,a5⟩:=f1
 obtain ⟨b0,b1,b2,b3,b4,b5⟩:=f2
 have ne:∀b u,H b=some u→b≠e:=fun b u q z=>by rw [z,a0] at q;cases q
 have nit:∀b u,H b=some u→b≠it:=fun b u q z=>by rw [z,b0] at q;cases q
 refine I.step (g':=s.gens) (d':=s.drawn) (ch:=[e,it]) (fun b hb=>?_) (fun b o _ _ hc q _=>k b o (fun z=>hc (by simp [z])) (fun z=>hc (by simp [z])) q) (fun b o _ _ hc q _=>⟨o.slots,k b o (fun z=>hc (by simp [z])) (fun z=>hc (by simp [z])) q⟩) (fun _ _ _ _ n=>n)
  (fun b o hc q=>⟨o,k b o (fun z=>hc (by simp [z])) (fun z=>hc (by simp [z])) q⟩) (fun _ _ q=>q) (fun _ _ _ q=>q) (fun b ps q=>⟨#[],by rw [q];simp⟩) (fun m hm=>?_) (fun b u q=>?_) I.bare
 ·rcases List.mem_cons.mp hb with z | z
  ·subst z;exact ⟨a3,a1,a4,a5⟩
  ·rw [List.mem_singleton.mp z];exact ⟨b3,b1,b4,b5⟩
 ·obtain ⟨o,es,ep,ho,r⟩:=hm
  exact ⟨o,es,ep,k _ o (Ne.symm a1) (Ne.symm b1) ho,r⟩
 ·refine (I.hok b u q).stay (fun c v hc z=>k c v ?_ ?_ z) (fun _ z=>z) fun _ _ z=>z
  ·rcases hc with z | z
   ·rw [z];exact ne b u q
   ·exact ne c _ z
  ·rcases hc with z | z
   ·rw [z];exact nit b u q
   ·exact nit c _ z
theorem b1c {P:Program} {w:World} {K:PySem.W.Frag} {elts:List Expr} {x1:Nat} {pos:Pos} (a e it:Addr) (hei:e≠it):b5B P w K (.Tuple elts x1 pos) (Ite K a) [e,it] e (fun i h=>(∃old,IsEnum h e it i old)∧h.IsListIter it a i) where
 mem:=by simp
 obj:=fun i h st b hb=>by
  obtain ⟨⟨old,he⟩,o,e1,c,d⟩:=st
  rcases List.mem_cons.mp hb with z | z
  ·subst z;exact ⟨_,he,fun v z=>by cases z⟩
  ·rw [List.mem_singleton.mp z];exact ⟨o,e1,fun v z=>by rw [d] at z;cases z⟩
 keep:=fun i h h' st k=>by
  obtain ⟨⟨old,he⟩,hit⟩:=st
  exact ⟨⟨old,k e (by simp) _ he⟩,hit.at fun o q=>k it (by simp) o q⟩
 item:=by
  intro X hP hw hK hc i pins s σ H E I hf st hg
  subst hP hw hK
  obtain ⟨⟨old,he⟩,hit⟩:=st
  obtain ⟨xs,x,hq,hx⟩:=hg
  obtain ⟨its,rv,p,hz⟩:=I.list hq
  obtain ⟨u,hu,ru⟩:=rv.get hx
  refine wpAny_pyNext_enum_item he hit p.isList (x:=u) (by simpa using hu) hei fun h' ho hit' hT hsz hk=>?_
  refine ⟨_,rfl,?_⟩
  refine wpAny_letOwnedTupleGo_enum ho fun h2 he2 hs2=>?_
  have hfr:H s.heap.objs.size=none:=I.hok.fresh (Nat.le_refl _)
  have helt:e < s.heap.objs.size:=Heap.lt_size he
  have hilt:it < s.heap.objs.size:=by obtain ⟨_,z,_⟩:=hit;exact Heap.lt_size z
  have hL:=Heap.get?_push_size s.heap (o:={cls:=.type "tuple",data:=.seq #[.int i s.toks,u]}) rfl
  have I1:Inv X pins σ (upd H s.heap.objs.size (.tup [.int i,x])) {s with heap:=s.heap.push {cls:=.type "tuple",data:=.seq #[.int i s.toks,u]},toks:=s.toks+1}:=
   I.laid (t':=s.toks+1) (fun b o q=>Heap.get?_push_of_some _ q) (Nat.le_refl _) ⟨by simp only [List.length_cons,List.length_nil];decide,[.int i s.toks,u],.cons ⟨_,rfl⟩ (.cons ru .nil),⟨_,hL,rfl,_,rfl⟩⟩
  have up:∀b,b < s.heap.objs.size→upd H s.heap.objs.size (.tup [.int i,x]) b=H b:=fun b hb=>a0w (Nat.ne_of_lt hb)
  have fp:∀b,b < s.heap.objs.size→b0d X pins H b→b0d X pins (upd H s.heap.objs.size (.tup [.int i,x])) b:=fun b hb ⟨c0,c1,c2,c3,c4,c5⟩=>⟨by rw [up b hb];exact c0,c1,c2,c3,c4,c5⟩
  have I2:Inv X pins σ (upd H s.heap.objs.size (.tup [.int i,x])) {s with heap:=h2,toks:=s.toks+1}:=by
   refine I1.turned2 (h':=h2) (t':=s.toks+1) (fun b o h1 h3 q=>?_) (fp e helt (hf e (by simp))) (fp it hilt (hf it (by simp)))
   rw [hs2.2 b h1]
   by_cases z:b=s.heap.objs.size
   ·subst z
    have q':(s.heap.push {cls:=.type "tuple",data:=.seq #[.int i s.toks,u]}).get? s.heap.objs.size=some o:=q
    rw [hL] at q';rw [←q'];exact hT
   ·have q':s.heap.get? b=some o:=by
     have q2:(s.heap.push {cls:=.type "tuple",data:=.seq #[.int i s.toks,u]}).get? b=some o:=q
     rw [Heap.get?_push_ne _ _ _ z] at q2;exact q2
    exact hk b o h1 h3 q'
  exact ⟨.ref s.heap.objs.size,_,I2,rfl,⟨s.heap.objs.size,x,hfr,fun ys hy=>by rw [I.list_inj hy hq];exact hx,rfl,rfl⟩,⟨⟨_,by simpa using he2⟩,hit'.at fun o y=>(hs2.2 it hei.symm).trans y⟩,fun b hb=>by
   have hb':b < s.heap.objs.size:=by
    rcases List.mem_cons.mp hb with z | z
    ·rw [z];exact helt
    ·rw [List.mem_singleton.mp z];exact hilt
   rw [up b hb'];exact (hf b hb).1⟩
 done:=by
  intro X hP hw hK hc i pins s σ H E I hf st hg
  subst hP hw hK
  obtain ⟨⟨old,he⟩,hit⟩:=st
  obtain ⟨xs,hq,hx⟩:=hg
  obtain ⟨its,rv,p,hz⟩:=I.list hq
  have hl:=rv.length
  exact wpAny_pyNext_enum_end (I.ok.hd hc) he hit p.isList (by simp;omega) fun h' hk=>⟨rfl,I.turned2 (t':=s.toks) (fun b o h1 h3 q=>hk b o h3 q) (hf e (by simp)) (hf it (by simp))⟩
 self:=fun _ _ _ _ _ st h=>by
  obtain ⟨⟨old,he⟩,_⟩:=st
  exact wpAny_pyIter_enum he h
theorem a5B:bootBuiltins "enumerate"=some (.type "enumerate"):=by decide+kernel
theorem b4T {a:Expr} {ta:TA} {p pos:Pos} {elts:List Expr} {x1:Nat} {tpos:Pos} (hg:Gl X "enumerate") (hm:X.mg "enumerate"=none) (ha:PA X [a] ta) (hs:starEach [a] X.env=[(false,eval a X.env)]:=by rfl):PI X (.Tuple elts x1 tpos) (.Call (.Name "enumerate" p) [a] [] pos) (b6q X.K ta):=by
 intro pins s σ H R I h
 refine Call_ (a7Z I hg hm a5B (PyProof.Rows.callWith_type1 (thn (ha pos pins s σ H _ I h) fun us s1 ⟨vs,H1,I1,r1,q1⟩=>?_) hs rfl))
 obtain ⟨l,e,⟨xs,hq⟩,q⟩:=q1
 subst e
 cases r1 with
 | cons r rr=>
  cases rr
  cases r
  obtain ⟨its,rv,pl,hz⟩:=I1.list hq
  refine call_enumerate_list pl.isList fun h' he hit hsz hk=>?_
  refine wpAny_pyIter_enum he ?_
  have I2:=I1.kept (t':=s1.toks) hk
  refine ⟨s1.heap.objs.size+1,[s1.heap.objs.size+1,s1.heap.objs.size],_,_,H1,rfl,I2,b1c l _ _ (Nat.succ_ne_self _),⟨⟨_,he⟩,hit⟩,fun b hb=>?_,q⟩
  have hb':s1.heap.objs.size≤b:=by
   rcases List.mem_cons.mp hb with z | z
   ·rw [z];exact Nat.le_succ _
   ·rw [List.mem_singleton.mp z];exact Nat.le_refl _
  exact I1.fpOk hb' (I1.hok.fresh hb')
end
end L2
namespace L2
open PySem PySem.Spec PyProof.Rows PySem.W
structure b9w (K:PySem.W.Frag) (x qual:Str) (st:Stmt) (f:Addr) (fd:FuncData) (T:Addr) (ds:List Value):Prop where
 ex:∃(oc:Value) (od:Option Addr) (kV doc pm:Value) (an:Option Addr) (cdv ct:Value) (osl:Array (Option Value)) (oT:Obj) (nT:Nat),
  fd=PySem.W.fnOf x qual (a0d st) (a0c st) (a0a st) (.ref T) kV doc pm an cdv ct∧K.lookup f=some ⟨oc,od,.func fd,osl⟩∧PySem.W.codeIn K cdv qual=true∧K.lookup T=some oT∧oT.data=.seq ds.toArray nT
 kp:PySem.W.keepIn K (.ref f)=true
section
variable {P:Program} {w:World} {K:PySem.W.Frag} {mg:Str→Option Value} {base:Heap}
theorem b9w.ok {x qual:Str} {st:Stmt} {f:Addr} {fd:FuncData} {T:Addr} {ds:List Value} {N ps:List Str} {k:Nat} {sp:Sp} (F:b9w K x qual st f fd T ds) (S:a0t N ps (a0a st)) (len:∀vs H Q E,sp vs H Q E→vs.length=ps.length)
  (hbody:∀(cdv:Value) (A:Around) (outer:List Env) (s:Shared) (H:Hp) (vs:List V) (Q:VK) (E:XK),a2Z k (A.deeper (envOfC qual (a0a st) s.heap.objs.size f cdv))→sp vs H Q E→
   ∃t,PSs (b1O CX0 P w K mg base N qual (a0a st) f cdv A outer s H E).nox (a0c st) t∧t {nx:=fun _ H'=>Q .non H',rt:=Q} (a0N N vs) H):a1y P w K mg base CX0 (k+1) f fd ps sp:=by
 obtain ⟨oc,od,kV,doc,pm,an,cdv,ct,osl,oT,nT,rfl,lk,hcd,_⟩:=F.ex
 refine b5a lk hcd S len fun A outer s H vs Q E hr hsp=>?_
 obtain ⟨t,h,q⟩:=hbody cdv A outer s H vs Q E hr hsp
 exact ⟨t,h.nox,q⟩
theorem b9w.binds {x qual:Str} {st:Stmt} {f:Addr} {fd:FuncData} {T:Addr} {ds:List Value} {ps:List Str} (es:List Value) (F:b9w K x qual st f fd T ds)
  (h:∀(kV doc pm:Value) (an:Option Addr) (cdv ct:Value) (us:List Value),(us++es).length=ps.length→∃k,bindArgs (PySem.W.fnOf x qual (a0d st) (a0c st) (a0a st) (.ref T) kV doc pm an cdv ct) ⟨us,[]⟩=seqItems? (.ref T) >>= k∧k (some ds.toArray)=pure (ps.zip (us++es))):a0K K fd ps es:=by
 obtain ⟨oc,od,kV,doc,pm,an,cdv,ct,osl,oT,nT,rfl,lk,hcd,lT,hT⟩:=F.ex
 intro s us X hl
 obtain ⟨k,h1,h2⟩:=h kV doc pm an cdv ct us hl
 exact PySem.W.binds_K X rfl lT hT h1 h2
end
end L2
namespace L2
open PySem PySem.Spec PyProof.Rows PySem.W
end L2
namespace L2
open PySem PySem.Spec PyProof.Rows PySem.W
section
variable {α β:Type}
def TOk (n:Nat) (P:α→Prop):KasT α→Prop
 | .ret a=>P a
 | .ask i j k=>i < n∧j < n∧∀b,TOk n P (k b)
def c1o (lt:Nat→Nat→Bool):KasT α→α
 | .ret a=>a
 | .ask i j k=>c1o lt (k (lt i j))
theorem TOk.run {n:Nat} {P:α→Prop} {lt:Nat→Nat→Bool}:∀{t:KasT α},TOk n P t→P (c1o lt t)
 | .ret _,h=>h
 | .ask i j k,h=>show P (c1o lt (k (lt i j))) from TOk.run (h.2.2 (lt i j))
theorem TOk.bind {n:Nat} {P:α→Prop} {R:β→Prop} {f:α→KasT β} (hf:∀a,P a→TOk n R (f a)):∀{t:KasT α},TOk n P t→TOk n R (t.bind f)
 | .ret _,h=>hf _ h
 | .ask i j k,h=>⟨h.1,h.2.1,fun b=>TOk.bind hf (h.2.2 b)⟩
end
def a7O (n:Nat) (p:Array Nat):Prop:=p.Perm (List.toArray (List.range n))
theorem a7O.list {n:Nat} {p:Array Nat} (h:a7O n p):p.toList.Perm (List.range n):=Array.perm_iff_toList_perm.mp h
theorem a7O.lt {n:Nat} {p:Array Nat} (h:a7O n p) (hn:0 < n) (i:Nat):p.getD i 0 < n:=by
 by_cases hi:i < p.size
 ·have h1:p[i]∈List.range n:=h.list.mem_iff.mp (by simp)
  have e:p.getD i 0=p[i]:=by simp [Array.getD,hi]
  rw [e];exact List.mem_range.mp h1
 ·have e:p.getD i 0=0:=by simp [Array.getD,hi]
  rw [e];exact hn
end L2
namespace L2
open PySem PySem.Spec PyProof.Rows PySem.W
end L2
namespace L2
open PySem PySem.Spec PyProof.Rows PySem.W
def c7P (K:PySem.W.Frag):R2:=fun x y H Q=>∃(a b:Addr) (xs:List V),x=.ref a∧y=.ref b∧SqL K H a xs∧SqL K H b []∧Q (.bl (decide (xs=[]))) H
section
variable {X:Cx}
theorem b3K (hu:X.A.units+64 < cLine):OpR X (compareOp .Eq) (c7P X.K):=by
 intro pins s σ H x y v u Q I rx ry h
 obtain ⟨a,b,xs,rfl,rfl,ha,hb,q⟩:=h
 cases rx
 cases ry
 obtain ⟨its,rv,p1,_⟩:=I.list ha
 obtain ⟨its2,rv2,p2,_⟩:=I.list hb
 have hl:=rv.length
 have hl2:=rv2.length
 cases rv2
 by_cases hx:xs=[]
 ·subst hx
  cases rv
  rw [decide_eq_true rfl] at q
  exact SeqAt.eq_listAt (e:=fun _=>true) p1.isList p2.isList rfl (by omega) (fun j h1 _=>absurd h1 (by simp)) ⟨.bl _,H,I,rfl,q⟩
 ·rw [decide_eq_false hx] at q
  refine SeqAt.eq_list_lengthsAt p1.isList p2.isList ?_ (by omega) ⟨.bl _,H,I,rfl,q⟩
  have:its.length≠0:=fun z=>hx (List.length_eq_zero_iff.mp (by omega))
  simp [this]
end
end L2
namespace L2
open PySem PySem.Spec PySem.W PyProof.Rows
theorem a7O.size {n:Nat} {p:Array Nat} (h:a7O n p):p.size=n:=by
 have:=Array.Perm.size_eq h;simpa using this
theorem a7O.inj {n:Nat} {p:Array Nat} (h:a7O n p) {i j:Nat} (hi:i < n) (hj:j < n) (e:i≠j):p.getD i 0≠p.getD j 0:=by
 have nd:p.toList.Nodup:=(h.list.nodup_iff).mpr List.nodup_range
 have hs:=h.size
 rw [List.nodup_iff_pairwise_ne,List.pairwise_iff_getElem] at nd
 have e1:p.getD i 0=p[i]'(by omega):=by simp [Array.getD,show i < p.size by omega]
 have e2:p.getD j 0=p[j]'(by omega):=by simp [Array.getD,show j < p.size by omega]
 rw [e1,e2]
 rcases Nat.lt_or_gt_of_ne e with q | q
 ·exact nd i j (by simpa using (by omega:i < p.size)) (by simpa using (by omega:j < p.size)) q
 ·exact Ne.symm (nd j i (by simpa using (by omega:j < p.size)) (by simpa using (by omega:i < p.size)) q)
def a6q (H:Hp) (q:Str) (cv:Value):Prop:=∃c' o vs t,cv=.ref c'∧H c'=some (.frz o (.own c'))∧o.data=.fields vs∧vs[1]?=some (.str q t)
def c2r (T:Addr) (q:Str) (H:Hp):Prop:=∃ps,H T=some (.tbl ps)∧TriplesOk ps.toList∧∀pos cv,codeAmong pos ps.toList=some cv→a6q H q cv
abbrev Ex (H H':Hp):Prop:=∀a o,H a=some o→H' a=some o
theorem a6q.mono {q:Str} {cv:Value} {H H':Hp} (h:a6q H q cv) (k:Ex H H'):a6q H' q cv:=let ⟨c',o,vs,t,a,b,r⟩:=h;⟨c',o,vs,t,a,k _ _ b,r⟩
theorem c2r.mono {T:Addr} {q:Str} {H H':Hp} (h:c2r T q H) (k:Ex H H'):c2r T q H':=let ⟨ps,a,b,c⟩:=h;⟨ps,k _ _ a,b,fun pos cv e=>(c pos cv e).mono k⟩
section
variable {X:Cx} {pins:List (Addr×Obj)} {σ:St} {H:Hp} {s:Shared}
structure c4k (X:Cx) (pins:List (Addr×Obj)) (a:Addr):Prop where
 s0:X.s₀.heap.objs.size≤a
 loc:a≠X.env.locals
 cell:∀x c,X.env.cells.lookup x=some c→c≠a
 pin:∀p∈X.pn++pins,p.1≠a
 fs:a∉X.fs
theorem Inv.mine (I:Inv X pins σ H s) {a:Addr} (h:s.heap.objs.size≤a):c4k X pins a:=
 ⟨Nat.le_trans I.sz h,Nat.ne_of_gt (Nat.lt_of_lt_of_le I.lt h),fun x c e z=>by
  obtain ⟨v,q⟩:=I.cell x c e
  exact absurd (Nat.lt_of_lt_of_le q.lt h) (by rw [z];exact Nat.lt_irrefl _),fun p hp z=>by
  obtain ⟨e,_⟩:=I.pin p hp
  exact absurd (Nat.lt_of_lt_of_le (Heap.lt_size e) h) (by rw [z];exact Nat.lt_irrefl _),I.nofs h⟩
theorem Inv.adopt {t':Nat} {a:Addr} {o:HO} {h':Heap} (I:Inv X pins σ H s) (hn:H a=none) (hm:c4k X pins a) (k:∀b u,b≠a→s.heap.get? b=some u→h'.get? b=some u)
  (new:a1O X.prog X.w (upd H a o) h' a o):Inv X pins σ (upd H a o) {s with heap:=h',toks:=t'}:=by
 have na:∀b u,H b=some u→b≠a:=fun b u e z=>by rw [z,hn] at e;cases e
 refine I.step (g':=s.gens) (d':=s.drawn) (ch:=[a]) (fun b hb=>?_) (fun b o _ _ hc e _=>k b o (fun z=>hc (by simp [z])) e) (fun b o _ _ hc e _=>⟨o.slots,k b o (fun z=>hc (by simp [z])) e⟩)
  (fun b _ hc _ n=>by rw [a0w (fun z=>hc (by simp [z]))];exact n) (fun b o hc e=>⟨o,k b o (fun z=>hc (by simp [z])) e⟩) (fun b _ e=>by rw [a0w (na b _ e)];exact e) (fun b _ _ e=>by rw [a0w (na b _ e)];exact e)
  (fun b ps e=>⟨#[],by rw [a0w (na b _ e),e];simp⟩) (fun m hm'=>?_) (fun b u e=>?_) I.bare
 ·have e:b=a:=by simpa using hb
  subst e
  exact ⟨.inr hm.s0,hm.loc,hm.cell,hm.pin⟩
 ·obtain ⟨ob,es,ep,ho,r⟩:=hm'
  exact ⟨ob,es,ep,k _ ob (Ne.symm hm.loc) ho,r⟩
 ·by_cases hb:b=a
  ·subst hb;rw [a0v] at e;cases e;exact new
  ·rw [a0w hb] at e
   refine (I.hok b u e).stay (fun c v hc q=>k c v ?_ q) (fun c q=>by rw [a0w (na c _ q)];exact q) fun c xs q=>by rw [a0w (na c _ q)];exact q
   rcases hc with z | z
   ·rw [z];exact hb
   ·exact na c _ z
end
end L2
namespace L2
open PySem PySem.Spec PySem.W PyProof.Rows
section
variable {prog:Program} {w:World} {A:Around} {E:Value→Shared→Prop} {s:Shared} {K:PySem.W.Frag} {x C:Addr} {ox:Obj} {od:Option Obj} {name:Str} {expr:Bool} {Q:Value→Shared→Prop}
theorem b2S (self:Value):bindSpecial (.builtin "BaseException.__getattribute__") self=pure (.builtin "BaseException.__getattribute__",[self]):=by kernel_rfl
theorem b1A:plainId "BaseException.__getattribute__"=true:=by decide+kernel
theorem b2k:builtinKind "BaseException.__getattribute__"=some .slot:=by decide+kernel
theorem b1j:splitId "BaseException.__getattribute__"=some ("BaseException","__getattribute__"):=by decide+kernel
theorem b7o:(Value.builtin "BaseException.__getattribute__" == Value.builtin "object.__getattribute__")=false:=by decide+kernel
theorem a7o {fill:Bool} {tk:Tok} {Q:Value→Shared→Prop} (X:K.In s.heap) (I:InstAt s.heap x ox C od) (hga:findIn K (.ref C) "__getattribute__"=some (some (.builtin "BaseException.__getattribute__"))) (hgt:findIn K (.ref C) "__getattr__"=some none) (hb:mroIn K C (.type "BaseException")=some true)
  (h:wpAny (model prog w) A.in1 (Builtin.«object.__getattribute__» ⟨[.ref x,.str name tk],[]⟩) (fun fin s'=>∃v,fin=.done (.ret v)∧wpAny (model prog w) A (handedOut v) Q E s') (fun _ _=>False) s):
  wpAny (model prog w) A (getAttrBy (.ref x) (.str name tk) fill expr) Q E s:=by
 obtain ⟨hp,g,d,t,os⟩:=s
 have L0:=I.type (M:=model prog w)
 have L1:=looks_findIn (M:=model prog w) X hga
 have L2:=looks_findIn (M:=model prog w) X hgt
 have L3:Looks (model prog w) hp (isInstance (.ref x) (.type "BaseException")) true:=L0.andThen (looks_mroIn X hb)
 unfold getAttrBy
 refine wpAny_holding (wpAny_bind (L0.at (wpAny_bind (L1.at ?_))))
 show wpAny _ _ (if (onTheHeap (.ref C) && (Value.builtin "BaseException.__getattribute__" == Value.builtin "object.__getattribute__"))=true then _ else getAttrByItsOwn (.ref x) (.str name tk) (.ref C) (.builtin "BaseException.__getattribute__") fill expr) _ _ _
 rw [b7o,Bool.and_false,if_neg Bool.false_ne_true]
 unfold getAttrByItsOwn
 refine wpAny_bind (L2.at ?_)
 refine wpAny_bind (wpAny_attempt (wpAny_holding ?_))
 have e0:callGetattribute (.ref x) (.str name tk) (.builtin "BaseException.__getattribute__") expr=boundAndCalled (.builtin "BaseException.__getattribute__") (.ref x) (.str name tk):=by
  unfold callGetattribute
  rw [show (expr && onTheHeap (.builtin "BaseException.__getattribute__"))=false from by cases expr<;>rfl,if_neg Bool.false_ne_true]
 rw [e0]
 unfold boundAndCalled
 rw [b2S]
 refine wpAny_bind (wpAny_pure ?_)
 show wpAny (model prog w) A (call (.builtin "BaseException.__getattribute__") [.ref x,.str name tk]) _ _ _
 refine wpAny_call ?_
 refine codeAny_call_builtin b1A PySem.F.entry_bexc_ga ?_
 refine check_slot (M:=model prog w) (s:=⟨hp,g,d,t,os⟩) (i:="BaseException.__getattribute__") (owner:="BaseException") (n:="__getattribute__") (self:=.ref x) (rest:=[.str name tk]) (kw:=[]) b2k b1j L3 (PySem.F.args_bexc_ga _ _) ?_
 refine wpAny_mono h (fun fin s' hv=>?_) fun _ _ z=>z.elim
 obtain ⟨v,rfl,hv⟩:=hv
 exact hv
theorem a9M {v:Value} (X:K.In s.heap) (I:InstAt s.heap x ox C od) (hga:findIn K (.ref C) "__getattribute__"=some (some (.builtin "BaseException.__getattribute__"))) (hgt:findIn K (.ref C) "__getattr__"=some none) (hb:mroIn K C (.type "BaseException")=some true)
  (hf:findObj K C od name=some (.value v)) (hh:handedIn v=true) (h:Q v {s with toks:=s.toks+1}):wpAny (model prog w) A (getAttr (.ref x) name expr) Q E s:=by
 unfold getAttr
 refine wpAny_bind (wpAny_mkText (a7o (s:={s with toks:=s.toks+1}) X I hga hgt hb ?_))
 obtain ⟨hp,g,d,t,os⟩:=s
 have L0:=I.type (M:=model prog w)
 have L3:=looks_find (M:=model prog w) X I hf
 unfold Builtin.«object.__getattribute__»
 refine wpAny_bind (wpAny_pure (wpAny_bind (wpAny_pure (wpAny_bind (L0.at (wpAny_bind (L3.at ?_)))))))
 refine wpAny_pure ⟨v,rfl,?_⟩
 rw [handedOut_of hh];exact wpAny_pure h
end
end L2
namespace L2
open PySem PySem.Spec PySem.W PyProof.Rows PySem.Builtin PySem.Builtin.ObjectAttr
theorem c9r:classOwn (.type "ValueError") "__setattr__"=pure none:=by kernel_rfl
theorem c8b:classOwn (.type "Exception") "__setattr__"=pure none:=by kernel_rfl
theorem c8U:classOwn (.type "BaseException") "__setattr__"=pure none:=by kernel_rfl
theorem c8t (self:Value) (l:List Value):refuseLoop self "__setattr__" (.type "ValueError"::l)=refuseLoop self "__setattr__" l:=by
 unfold refuseLoop
 simp only [List.forIn_cons]
 rw [c9r]
 rfl
theorem c8n (self:Value) (l:List Value):refuseLoop self "__setattr__" (.type "Exception"::l)=refuseLoop self "__setattr__" l:=by
 unfold refuseLoop
 simp only [List.forIn_cons]
 rw [c8b]
 rfl
theorem c8a (self:Value) (l:List Value):refuseLoop self "__setattr__" (.type "BaseException"::l)=refuseLoop self "__setattr__" l:=by
 unfold refuseLoop
 simp only [List.forIn_cons]
 rw [c8U]
 rfl
def a9n:List Value→Bool
 | .ref _::r=>a9n r
 | [.type a,.type b,.type c,.type d]=>a == "ValueError" && b == "Exception" && c == "BaseException" && d == "object"
 | _=>false
theorem a8g (self:Value):∀{l:List Value},a9n l=true→refuseLoop self "__setattr__" l=pure ()
 | .ref c::r,e=>by rw [refuseLoop_ref];exact a8g self (by cases r<;>first | exact e | cases e)
 | [.type a,.type b,.type c,.type d],e=>by
  have e':(a == "ValueError" && b == "Exception" && c == "BaseException" && d == "object")=true:=e
  rw [Bool.and_eq_true,Bool.and_eq_true,Bool.and_eq_true] at e'
  obtain ⟨⟨⟨h1,h2⟩,h3⟩,h4⟩:=e'
  rw [beq_iff_eq.mp h1,beq_iff_eq.mp h2,beq_iff_eq.mp h3,beq_iff_eq.mp h4,c8t,c8n,c8a]
  exact PySem.F.store_object.passes self
theorem b0s:∀{l:List Value},a9n l=true→l.contains (.type "object")=true∧l.isEmpty=false
 | .ref c::r,e=>⟨by rw [List.contains_cons,(b0s (l:=r) (by cases r<;>first | exact e | cases e)).1,Bool.or_true],rfl⟩
 | [.type a,.type b,.type c,.type d],e=>by
  have e':(a == "ValueError" && b == "Exception" && c == "BaseException" && d == "object")=true:=e
  rw [Bool.and_eq_true] at e'
  refine ⟨?_,rfl⟩
  rw [beq_iff_eq.mp e'.2];simp
def a9g (K:PySem.W.Frag) (C:Addr):Bool:=(clsIn K C).any fun cd=>a9n cd.mro
section
variable {prog:Program} {w:World} {A:Around} {E:Value→Shared→Prop} {s:Shared} {K:PySem.W.Frag} {x C:Addr} {R:Result→Shared→Prop}
theorem b1K {ox:Obj} {od:Option Obj} {name:Str} {tk:Tok} {v:Value} {r:Option Value} (X:K.In s.heap) (I:InstAt s.heap x ox C od) (hp:a9g K C=true) (ht:takerIn K C name=some r)
  (h:∀b,wpAny (model prog w) A.in1 (match r with | some a=>setByDescriptor a (.ref x) v | none=>storeInOwnDict (.ref x) (.ref C) (.str name tk) name v b)
   (fun fin s'=>match fin with | .done f=>R (.ok f) s' | .again c'=>c'.quiet=true∧codeAny (model prog w) A c' R s') (fun e s'=>R (.error e) s') s):
  codeAny (model prog w) A (.call (.builtin "object.__setattr__") ⟨[.ref x,.str name tk,v],[]⟩) R s:=by
 have SF:=PySem.F.store_object
 obtain ⟨cd,hc,ho⟩:=any_some hp
 have ne:cd.mro.isEmpty=false:=(b0s ho).2
 have sub:Looks (model prog w) s.heap (isInstance (.ref x) (.type "object")) true:=I.type.andThen (looks_mroIn X (by unfold mroIn;rw [hc,Option.bind_some,if_neg (by rw [ne];decide),(b0s ho).1]))
 refine codeAny_call_builtin SF.slot.plain SF.entry (@check_slot (model prog w) _ _ s "object.__setattr__" "object" "__setattr__" (.ref x) [.str name tk,v] [] _ SF.kind SF.split sub (SF.args (.ref x) (.str name tk) v) ?_)
 obtain ⟨attr,ha,hr⟩:=Option.bind_eq_some_iff.mp ht
 have hm:Looks (model prog w) s.heap (mroOf (.ref C)) cd.mro:=(looks_clsIn X hc).andThen .now
 have L3:Looks (model prog w) s.heap (storeTaker? attr) r:=by
  cases attr with
  | none=>cases hr;exact .now
  | some a=>
   obtain ⟨b,hb,rfl⟩:=Option.map_eq_some_iff.mp hr
   refine (looks_takesIn X hb).andThen ?_
   cases b<;>exact .now
 rw [osa_eq,refuse_eq]
 refine wpAny_bind (wpAny_bind (I.type.here (wpAny_bind (hm.here ?_))))
 rw [a8g _ ho]
 refine wpAny_pure (wpAny_bind (I.type.here (wpAny_bind ((looks_findIn X ha).here (wpAny_bind (L3.here ?_))))))
 exact h _
end
end L2
namespace L2
open PySem PySem.Spec PySem.W PyProof.Rows PySem.Builtin PySem.Builtin.ObjectAttr
section
variable {prog:Program} {w:World} {A:Around} {E:Value→Shared→Prop} {s:Shared} {K:PySem.W.Frag} {x C:Addr} {name:Str} {v:Value}
theorem a9Z {vs:Array Value} {sl:Array (Option Value)} {Q:Unit→Shared→Prop} (X:K.In s.heap) (hx:s.heap.get? x=some ⟨.ref C,none,.fields vs,sl⟩)
  (hs:PySem.W.findIn K (.ref C) "__setattr__"=some (some (.builtin "object.__setattr__"))) (hp:a9g K C=true) (ht:PySem.W.takerIn K C name=some none) (hh:PySem.W.hasDictIn K C=true)
  (h:∀h',h'.get? x=some ⟨.ref C,some s.heap.objs.size,.fields vs,sl⟩→h'.Ns1 s.heap.objs.size (fun y=>if y=name then some v else none)→(∀b o,b≠x→s.heap.get? b=some o→h'.get? b=some o)→Q () {s with heap:=h',toks:=s.toks+2}):
  wpAny (model prog w) A (setAttr (.ref x) name v) Q E s:=by
 have J:InstAt s.heap x ⟨.ref C,none,.fields vs,sl⟩ C none:=⟨hx,rfl,rfl,True.intro⟩
 have hxs:x < s.heap.objs.size:=Heap.lt_size hx
 refine PySem.W.set_plain X J hs (b1K (s:={s with toks:=s.toks+1}) (r:=none) X J hp ht fun b=>?_)
 obtain ⟨cd,hc,hd'⟩:=PySem.W.any_some hh
 refine wpAny_bind (wpAny_pure (wpAny_bind (wpAny_bind (wpAny_loadPart hx (wpAny_bind (PySem.W.Looks.here (s:={s with toks:=s.toks+1}) (PySem.W.looks_clsIn X hc) ?_))))))
 rw [hd']
 show wpAny (model prog w) A.in1 (alloc {cls:=.type "dict",data:=.dict #[]} >>= fun d=>update x (fun o=>{o with dict:=some d}) >>= fun _=>dictMade (.ref C) x d) _ _ _
 have hne:x≠s.heap.objs.size:=Nat.ne_of_lt hxs
 have hx1:(s.heap.push {cls:=.type "dict",data:=.dict #[]}).get? x=some ⟨.ref C,none,.fields vs,sl⟩:=Heap.get?_push_of_some _ hx
 have hx2:((s.heap.push {cls:=.type "dict",data:=.dict #[]}).update x (fun o=>{o with dict:=some s.heap.objs.size})).get? x=some ⟨.ref C,some s.heap.objs.size,.fields vs,sl⟩:=Heap.get?_update_self (fun o:Obj=>{o with dict:=some s.heap.objs.size}) hx1 rfl
 have e1:((s.heap.push {cls:=.type "dict",data:=.dict #[]}).update x (fun o=>{o with dict:=some s.heap.objs.size})).get? s.heap.objs.size=some {cls:=.type "dict",data:=.dict #[]}:=by
  rw [Heap.get?_update_ne _ _ _ _ (Ne.symm hne)];exact Heap.get?_push_size s.heap rfl
 have e3:((s.heap.push {cls:=.type "dict",data:=.dict #[]}).update x (fun o=>{o with dict:=some s.heap.objs.size})).Ns s.heap.objs.size (fun _=>none):=⟨_,#[],_,e1,rfl,(fun e he=>absurd he (by simp)),fun _=>rfl⟩
 refine wpAny_bind (wpAny_alloc (wpAny_bind (wpAny_update hx1 ?_)))
 refine wpAny_pure (a:=some s.heap.objs.size) ?_
 show wpAny (model prog w) A.in1 (storeInDict s.heap.objs.size (.str name s.toks) name v) _ _ _
 refine wpAny_bind (wpAny_pure (wpAny_bind ?_))
 refine wpAny_nsSet1 (Heap.Ns1.of_empty e3) fun h' hn2 hs2=>?_
 obtain ⟨oD,esD,epD,hoD,hdD,hcD⟩:=hn2.count (PySem.Within.cons (ns:=[]) name v fun y hy=>absurd rfl hy)
 refine wpAny_bind (wpAny_lookBehind hoD (by rw [hdD];exact pastItsLine_dict (Nat.le_trans hcD (by rw [List.length_cons];exact Nat.succ_le_succ (Nat.zero_le _)))) ?_)
 refine wpAny_pure (h h' ((hs2.2 _ hne).trans hx2) hn2 fun b o hb e=>?_)
 rw [hs2.2 _ (Nat.ne_of_lt (Heap.lt_size e)),Heap.get?_update_ne _ _ _ _ hb]
 exact Heap.get?_push_of_some _ e
end
end L2
namespace L2
open PySem PySem.Spec PySem.W PySem.Calls PyProof.Rows PySem.Builtin PySem.Builtin.ObjectAttr
abbrev bmV:List Value:=[.type "ValueError",.type "Exception",.type "BaseException",.type "object"]
def b6P (K:PySem.W.Frag) (C:Addr):Bool:=match K.lookup C with
 | some ⟨.type "type",_,.cls cd,sl⟩=>(match cd.mro,sl.toList with
  | .ref C'::bm,[_,_,_,_,some (.builtin n),_]=>C' == C && n == "ValueError.__new__" && !cd.hasDel && !cd.abstract && tailIn K bmV bm && specialIn K (.ref C) "__call__" == some (some (.builtin "type.__call__")) && instIn K (.ref C) (.type "type") == some true
  | _,_=>false)
 | _=>false
structure b3w (M:Model) (h:Heap) (C:Addr):Prop where
 cls:∃(nm q:Str) (N:Addr) (bs bm:List Value) (hdct:Bool) (sn:List Str) (sub:List Value) (col:Option Bool) (dd:Option Addr) (k0 k1 k2 k3 k5:Option Value),h.get? C=some (excClassObj nm q C N bs bm hdct sn sub false col dd k0 k1 k2 k3 k5 "ValueError.__new__")∧OwnTail h bmV bm
 call:Looks M h (specialOf (.ref C) "__call__") (some (.builtin "type.__call__"))
 typ:Looks M h (isInstance (.ref C) (.type "type")) true
theorem a7t {K:PySem.W.Frag} {M:Model} {h:Heap} (X:K.In h) {C:Addr} (q:b6P K C=true):b3w M h C:=by
 unfold b6P at q
 split at q
 ·rename_i dd cd sl ho
  split at q
  ·rename_i C' bm k0 k1 k2 k3 n k5 hm hs
   simp only [Bool.and_eq_true,beq_iff_eq,Bool.not_eq_true'] at q
   obtain ⟨⟨⟨⟨⟨⟨rfl,rfl⟩,hdel⟩,hab⟩,ht⟩,hcall⟩,hins⟩:=q
   obtain ⟨nm,bs,mro,ns,qn,hd,sn,sub,ab,col,del⟩:=cd
   dsimp only at hm hdel hab
   subst hm hdel hab
   have hsl:sl=#[k0,k1,k2,k3,some (.builtin "ValueError.__new__"),k5]:=by
    obtain ⟨l⟩:=sl
    simp only at hs
    rw [hs]
   subst hsl
   exact ⟨⟨nm,qn,ns,bs,bm,hd,sn,sub,col,dd,k0,k1,k2,k3,k5,X _ _ ho,tail_of_in X ht⟩,looks_specialIn X hcall,looks_instIn X hins⟩
  ·cases q
 ·cases q
abbrev b4f (rest:List Value):Obj:={cls:=.type "tuple",data:=.seq rest.toArray}
abbrev b2V (C T:Addr):Obj:={cls:=.ref C,data:=.fields #[.ref T,.none,.none,.none,.bool false,.none]}
section
variable {prog:Program} {w:World} {A:Around} {K:PySem.W.Frag} {C:Addr} {R:Result→Shared→Prop} {h:Heap} {g:Array GenState} {d:Drawn} {t:Nat} {os:OsState}
theorem b2z {rest:List Value} {fI:Addr} (X:K.In h) (Y:b3w (model prog w) h C) (hi:findIn K (.ref C) "__init__"=some (some (.ref fI))) (hf:typeIn K (.ref fI)=some (.type "function")) (hrest:rest.length≤sizeLine)
  (hq:codeAny (model prog w) (A.under (.builtin "type.__call__" ⟨.ref C::rest,[]⟩)) (.call (.ref fI) ⟨.ref (h.objs.size+1)::rest,[]⟩) (InitBack (h.objs.size+1) R) ⟨(h.push (b4f rest)).push (b2V C h.objs.size),g,d,t,os⟩):
  codeAny (model prog w) A (.call (.ref C) ⟨rest,[]⟩) R ⟨h,g,d,t,os⟩:=by
 obtain ⟨⟨nm,qn,N,bs,bm,hdct,sn,sub,col,dd,k0,k1,k2,k3,k5,hC,T⟩,call,typ⟩:=Y
 have Fn:=PySem.F.excBase_ValueError
 have hBn:bmV.contains (.type "ValueError")=true:=by decide+kernel
 refine codeAny_of_tree ?_
 show wpAny _ _ (callAny (.ref C) _) _ _ _
 refine nd_load hC ?_
 show wpAny _ _ (callAny.viaDunder (.ref C) _) _ _ _
 unfold callAny.viaDunder
 refine wpAny_bind (call.at ?_)
 dsimp only
 rw [tc_bind]
 refine wpAny_bind (wpAny_pure (wpAny_bind (wpAny_pure ?_)))
 refine wpAny_pure (a:=Fin.again (.call (.builtin "type.__call__") ⟨.ref C::rest,[]⟩)) (And.intro rfl ?_)
 refine codeAny_call_builtin_at (Code.quiet_builtin _ (by decide+kernel)) entry_typeCall (check_slot tc_kind tc_split typ (tc_args _ _ _) ?_)
 repeat (first | with_reducible refine wpAny_loadPart_at hC ?_ | with_reducible refine wpAny_madeBy_exc hC ?_ | wp_step)
 refine codeAny_call_builtin_code (Code.quiet_builtin _ Fn.quiet) (wpAny_check_new_subU Fn hBn T hC ?_)
 refine codeAny_exc_new_subU Fn hBn Fn T hC ?_ hrest
 show wpAny _ _ _ _ _ _
 have k:∀b o,h.get? b=some o→((h.push (b4f rest)).push (b2V C h.objs.size)).get? b=some o:=fun b o e=>Heap.get?_push_of_some _ (Heap.get?_push_of_some _ e)
 have hC₁:=k _ _ hC
 have hget:((h.push (b4f rest)).push (b2V C h.objs.size)).get? (h.objs.size+1)=some (b2V C h.objs.size):=by heap_get
 have hcC:(Value.ref C::bm).contains (.ref C)=true:=by simp
 have t1:Looks (model prog w) ((h.push (b4f rest)).push (b2V C h.objs.size)) (typeOf (.ref (h.objs.size+1))) (.ref C):=(Looks.ld hget).andThen .now
 have i1:=(looks_findIn (M:=model prog w) X hi).keeps k
 have b1:=(bind_fn (M:=model prog w) X (.ref (h.objs.size+1)) hf).keeps k
 unfold isInstance callSpecial? specialOf
 refine wpAny_bind (wpAny_bind (t1.at (wpAny_isSubtype_exc hC₁ ?_)))
 rw [hcC]
 simp only [Bool.not_true,Bool.false_eq_true,if_false]
 refine wpAny_bind (wpAny_holding (wpAny_bind (wpAny_bind (t1.at (i1.at ?_)))))
 refine wpAny_holding (wpAny_bind (b1.at ?_))
 refine wpAny_bind (wpAny_call (codeAny_mono hq fun r s' z=>?_))
 rcases r with e | (v | _ | _ | _)<;>first | exact z | exact z.elim | skip
 obtain ⟨rfl,z⟩:=z
 exact wpAny_pure (wpAny_pure z)
end
end L2
namespace L2
open PySem PySem.Spec PySem.W PySem.Calls PyProof.Rows PySem.Builtin PySem.Builtin.ObjectAttr
structure a4M (K:PySem.W.Frag) (C:Addr):Prop where
 ga:findIn K (.ref C) "__getattribute__"=some (some (.builtin "BaseException.__getattribute__"))
 gt:findIn K (.ref C) "__getattr__"=some none
 bx:mroIn K C (.type "BaseException")=some true
 hd:hasDictIn K C=true
 cc:findIn K (.ref C) "__class__"=some (some (.builtin "object.__class__"))
 cg:specialIn K (.builtin "object.__class__") "__get__"=some (some (.builtin "getset_descriptor.__get__"))
 ct:takesIn K (.builtin "object.__class__")=some true
 mo:mroIn K C (.type "object")=some true
 sa:findIn K (.ref C) "__setattr__"=some (some (.builtin "object.__setattr__"))
 ov:a9g K C=true
 xc:b6P K C=true
theorem a6Z {K:PySem.W.Frag} {C:Addr} {od:Option Obj} {name:Str} {a g:Value} (hc:(clsIn K C).isSome=true) (ha:findIn K (.ref C) name=some (some a)) (hg:specialIn K a "__get__"=some (some g)) (ht:takesIn K a=some true):findObj K C od name=some (.bind g a):=by
 obtain ⟨cd,hc⟩:=Option.isSome_iff_exists.mp hc
 unfold findObj
 rw [hc,Option.bind_some,ha,Option.bind_some]
 simp [hg,ht]
section
variable {prog:Program} {w:World} {A:Around} {E:Value→Shared→Prop} {s:Shared} {K:PySem.W.Frag} {x C:Addr} {ox:Obj} {od:Option Obj}
theorem b6G {Q:Option Value→Shared→Prop} (Y:a4M K C) (X:K.In s.heap) (I:InstAt s.heap x ox C od) (h:Q (some (.ref C)) {s with toks:=s.toks+1}):wpAny (model prog w) A (getAttr? (.ref x) "__class__") Q E s:=by
 have hf:findObj K C od "__class__"=some (.bind (.builtin "getset_descriptor.__get__") (.builtin "object.__class__")):=a6Z (by obtain ⟨cd,hc,_⟩:=any_some Y.hd;rw [hc];rfl) Y.cc Y.cg Y.ct
 unfold getAttr? getAttrBy?
 refine wpAny_bind (wpAny_mkText (wpAny_bind (wpAny_attempt (a7o (s:={s with toks:=s.toks+1}) X I Y.ga Y.gt Y.bx ?_))))
 obtain ⟨hp,g,d,t,os⟩:=s
 have L0:=I.type (M:=model prog w)
 have L3:=looks_find (M:=model prog w) X I hf
 unfold Builtin.«object.__getattribute__»
 refine wpAny_bind (wpAny_pure (wpAny_bind (wpAny_pure (wpAny_bind (L0.at (wpAny_bind (L3.at ?_)))))))
 show wpAny _ _ (holding [Value.builtin "object.__class__"] (call (.builtin "getset_descriptor.__get__") [.builtin "object.__class__",.ref x,.ref C]) >>= ret) _ _ _
 refine wpAny_bind (wpAny_holding (wpAny_call (class_get (s:=⟨hp,g,d,t+1,os⟩) X I Y.mo ?_)))
 refine wpAny_pure ⟨_,rfl,?_⟩
 rw [handedOut_of (v:=.ref C) rfl]
 exact wpAny_pure (wpAny_pure h)
theorem a8T (Y:a4M K C):KitX K (.ref x) (.ref C) (fun h=>InstAt h x ox C od) where
 ty:=fun _ _ _ I=>I.type
 it:=fun _ _ X _=>by
  obtain ⟨cdD,hcD,_⟩:=any_some Y.hd
  unfold clsIn at hcD
  split at hcD
  ·rename_i c' d' cd' sl' ho
   intro A' Q' E' s' k q
   unfold isType loadHead
   exact wpAny_bind (wpAny_loadPart (k _ _ (X _ _ ho)) (wpAny_pure q))
  ·cases hcD
 ne:=fun h tp dd its n sl X htp=>by
  obtain ⟨cdD,hcD,_⟩:=any_some Y.hd
  refine Bool.eq_false_iff.mpr fun q=>?_
  have e:C=tp:=Value.ref.inj (beq_iff_eq.mp q)
  subst e
  unfold clsIn at hcD
  split at hcD
  ·rename_i c' d' cd' sl' ho
   have z:=(X _ _ ho).symm.trans htp
   cases z
  ·cases hcD
 ca:=fun X I k=>b6G Y X I k
end
end L2
namespace L2
open PySem PySem.Spec PySem.W PyProof.Rows
def a7b (x C:Addr) (od:Option Addr):HO:=.ext fun h=>∃vs sl,h.get? x=some ⟨.ref C,od,.fields vs,sl⟩∧vs[1]?=some Value.none
def b5y (x C:Addr) (od:Option Addr) (T:Addr):HO:=.ext fun h=>∃vs sl,h.get? x=some ⟨.ref C,od,.fields vs,sl⟩∧vs[1]?=some (Value.ref T)
theorem b4d {P:Program} {w:World} {H:Hp} {h:Heap} {x C:Addr} {od:Option Addr} {vs:Array Value} {sl:Array (Option Value)} (e:h.get? x=some ⟨.ref C,od,.fields vs,sl⟩) (e1:vs[1]?=some Value.none):a1O P w H h x (a7b x C od):=
 ⟨⟨vs,sl,e,e1⟩,⟨_,e⟩,fun h1 h2 p k=>let ⟨vs,sl,e,e1⟩:=p;⟨vs,sl,k _ e,e1⟩⟩
theorem b5f {P:Program} {w:World} {H:Hp} {h:Heap} {x C T:Addr} {od:Option Addr} {vs:Array Value} {sl:Array (Option Value)} (e:h.get? x=some ⟨.ref C,od,.fields vs,sl⟩) (e1:vs[1]?=some (Value.ref T)):a1O P w H h x (b5y x C od T):=
 ⟨⟨vs,sl,e,e1⟩,⟨_,e⟩,fun h1 h2 p k=>let ⟨vs,sl,e,e1⟩:=p;⟨vs,sl,k _ e,e1⟩⟩
def IsX (H:Hp) (x C:Addr) (od:Option Addr):Prop:=H x=some (a7b x C od)∨∃T,H x=some (b5y x C od T)
theorem a2a {P:Program} {w:World} {H:Hp} {h:Heap} {x C:Addr} {od:Option Addr} (ok:HOk P w H h) (e:H x=some (a7b x C od)):∃vs sl,h.get? x=some ⟨.ref C,od,.fields vs,sl⟩∧vs[1]?=some Value.none:=(ok x _ e).1
theorem a2l {P:Program} {w:World} {H:Hp} {h:Heap} {x C T:Addr} {od:Option Addr} (ok:HOk P w H h) (e:H x=some (b5y x C od T)):∃vs sl,h.get? x=some ⟨.ref C,od,.fields vs,sl⟩∧vs[1]?=some (Value.ref T):=(ok x _ e).1
theorem a6I {P:Program} {w:World} {H:Hp} {h:Heap} {x C:Addr} {od:Option Addr} (ok:HOk P w H h) (e:IsX H x C od):∃vs sl,h.get? x=some ⟨.ref C,od,.fields vs,sl⟩:=by
 rcases e with e | ⟨T,e⟩
 ·obtain ⟨vs,sl,q,_⟩:=a2a ok e;exact ⟨vs,sl,q⟩
 ·obtain ⟨vs,sl,q,_⟩:=a2l ok e;exact ⟨vs,sl,q⟩
structure MkX (K:PySem.W.Frag) (C f:Addr):Prop where
 xc:b6P K C=true
 init:PySem.W.findIn K (.ref C) "__init__"=some (some (.ref f))
 fn:PySem.W.isFn K (.ref f)=true
 kp:PySem.W.keepIn K (.ref C)=true
def b3M (C:Addr) (sp:Sp) (dvs:List V) (E:XK) (t:TA):TE:=fun σ H Q=>t σ H fun vs H1=>vs.length≤1000∧∀x,H1 x=none→sp (.ref x::(vs++dvs)) (upd H1 x (a7b x C none)) (fun v H2=>v=.non∧Q (.ref x) H2) E
section
variable {X:Cx} {CX:CXT} {k:Nat} {f C:Addr} {fd:FuncData} {ps:List Str} {sp:Sp} {dvs:List V} {ds:List Value} {E:XK} {x m:Str} {p pos apos:Pos} {e o:Expr} {es:List Expr} {ta tv:TE} {t:TA}
theorem b0z {pins:List (Addr×Obj)} {σ:St} {H:Hp} {s:Shared} {Q:VK} {us:List Value} {vs:List V} (M:MkX X.K C f) (F:a1y X.prog X.w X.K X.mg X.base CX k f fd ps sp) (hr:a2Z (k+1) X.A) (hb:a0K X.K fd ps ds) (hd:a1f dvs ds)
  (hx:a3j CX X E) (I:Inv X pins σ H s) (r:a1f vs us) (hvl:vs.length≤1000)
  (h:∀x,H x=none→sp (.ref x::(vs++dvs)) (upd H x (a7b x C none)) (fun v H2=>v=.non∧Q (.ref x) H2) E):
  wpAny (model X.prog X.w) X.A (call (.ref C) us) (EP X pins σ Q) X.xe s:=by
 have hq:=h (s.heap.objs.size+1) (I.hok.fresh (Nat.le_succ _))
 have e2:((s.heap.push (b4f us)).push (b2V C s.heap.objs.size)).get? (s.heap.objs.size+1)=some (b2V C s.heap.objs.size):=by
  have:=Heap.get?_push_size (s.heap.push (b4f us)) (o:=b2V C s.heap.objs.size) rfl
  rwa [Heap.size_push] at this
 have I1:=I.kept (t':=s.toks) (h':=s.heap.push (b4f us)) fun b u q=>Heap.get?_push_of_some _ q
 have I2:Inv X pins σ (upd H (s.heap.objs.size+1) (a7b (s.heap.objs.size+1) C none)) {s with heap:=(s.heap.push (b4f us)).push (b2V C s.heap.objs.size)}:=
  I1.laid (t':=s.toks) (a:=s.heap.objs.size+1) (o:=a7b (s.heap.objs.size+1) C none) (fun b u q=>Heap.get?_push_of_some _ q) (Nat.le_of_eq (Heap.size_push _ _)) (b4d e2 rfl)
 have r2:a1f (V.ref (s.heap.objs.size+1)::(vs++dvs)) (Value.ref (s.heap.objs.size+1)::(us++ds)):=.cons rfl (r.append hd)
 have hl:(Value.ref (s.heap.objs.size+1)::us++ds).length=ps.length:=by
  have e:=r2.length
  rw [F.len _ _ _ _ hq] at e
  exact e.symm
 have hrest:us.length≤sizeLine:=Nat.le_trans (by rw [←r.length];exact hvl) (by decide)
 have main:codeAny (model X.prog X.w) X.A (.call (.ref C) ⟨us,[]⟩) (fun r s'=>match r with | .ok (.ret v)=>EP X pins σ Q v s' | .ok _=>False | .error e=>X.xe e s') s:=by
  have kin:=I.kIn
  obtain ⟨hh,g,d,tk,os⟩:=s
  refine b2z (fI:=f) kin (a7t kin M.xc) M.init (beq_iff_eq.mp M.fn) hrest (codeAny_mono (F.run _ X.stack _ _ ⟨Value.ref (hh.objs.size+1)::us,[]⟩ (Value.ref (hh.objs.size+1)::(us++ds)) _ _ E (hr.make C us [])
   (I2.env0.make C us []) (hb _ (Value.ref (hh.objs.size+1)::us) I2.kIn hl) r2 hq) fun r s' hq'=>?_)
  cases r with
  | error e=>exact hx pins σ _ _ e s' I2 hq'
  | ok fl=>
   cases fl with
   | ret u=>
    obtain ⟨v,H',I3,rv,ev,q3⟩:=I2.after hq'
    subst ev
    exact ⟨rv,⟨V.ref (hh.objs.size+1),H',I3,rfl,q3⟩⟩
   | next=>exact False.elim hq'
   | brk=>exact False.elim hq'
   | cont=>exact False.elim hq'
 exact wpAny_call main
theorem a6h (M:MkX X.K C f) (F:a1y X.prog X.w X.K X.mg X.base CX k f fd ps sp) (hr:a2Z (k+1) X.A) (hg:Gl X x) (hm:X.mg x=some (.ref C)) (hb:a0K X.K fd ps ds) (hd:a1f dvs ds) (hx:a3j CX X E)
  (ha:PA X (e::es) t) (hdb:(x == ("__debug__":Str))=false:=by decide) (he:starEach (e::es) X.env=(false,eval e X.env)::starEach es X.env:=by rfl) (hpl:(backTo pos (starEach es X.env)).any (·.1)=false:=by rfl):
  PE X (.Call (.Name x p) (e::es) [] pos) (b3M C sp dvs E t):=by
 intro pins s σ H Q I h
 refine wpAny_Call_Name_kw (a3m I hg hm ?_ hdb)
 refine PySem.W.callWith_K (h₀:=X.base) I.ok.mod.kin M.kp (thn (ha pos pins s σ H _ I h) fun us s1 ⟨vs,H1,I1,r,hl,q⟩=>⟨I1.kIn,?_⟩) he hpl
 exact b0z M F hr hb hd hx I1 r hl q
def b4C (K:PySem.W.Frag) (ta tv:TE) (f:Str):TS:=fun D σ H=>tv σ H fun y H1=>ta σ H1 fun x H2=>∃a C,x=.ref a∧H2 a=some (a7b a C none)∧a4M K C∧a1a K C f∧
 ∀d,H2 d=none→D.nx σ (upd (upd H2 a (a7b a C (some d))) d (.xd [(f,y)]))
theorem b0F {f:Str} {value:Expr} {pos':Pos} (ha:PE X o ta) (hv:PE X value tv) (hs:swapsWith value (some (.Attribute o f pos')) pos.line X.env=pure false):PS X (.Assign [.Attribute o f pos'] value pos) (b4C X.K ta tv f):=by
 intro pins s σ H D I h
 refine plainObj_wpAny_Assign_Attribute (thn (hv pins s σ H _ I h) fun u s1 ⟨y,H1,I1,ry,q⟩=>thn (ha pins s1 σ H1 _ I1 q) fun ov s2 ⟨x,H2,I2,rx,a,C,ex,ea,c,n,q2⟩=>?_) hs
 subst ex
 obtain rfl:ov=Value.ref a:=rx
 obtain ⟨vs,sl,hx,h1n⟩:=a2a I2.hok ea
 refine a9Z I2.kIn hx c.sa c.ov (by unfold takerIn;rw [show findIn X.K (.ref C) f=some none from n];rfl) c.hd fun h' g1 g2 g3=>?_
 have hda:s2.heap.objs.size≠a:=Nat.ne_of_gt (Heap.lt_size hx)
 have I3:=I2.write (t':=s2.toks+2) (x:=a) (e:=a) (o:=a7b a C (some s2.heap.objs.size)) (h':=h') (by rw [ea];trivial) (.inl rfl) (fun b u hb e=>g3 b u hb e) ⟨_,g1⟩ (b4d g1 h1n)
 have hn:upd H2 a (a7b a C (some s2.heap.objs.size)) s2.heap.objs.size=none:=by rw [a0w hda];exact I2.hok.fresh (Nat.le_refl _)
 have I4:=I3.adopt (t':=s2.toks+2) (a:=s2.heap.objs.size) (o:=.xd [(f,y)]) (h':=h') hn (I2.mine (Nat.le_refl _)) (fun b u _ e=>e) ⟨_,g2,fun g=>by
  by_cases z:g=f
  ·rw [z]
   show a7a (List.lookup f [(f,y)]) (if f=f then some u else none)
   rw [if_pos rfl,List.lookup_cons,beq_self_eq_true];exact ry
  ·show a7a (List.lookup g [(f,y)]) (if g=f then some u else none)
   rw [if_neg z,List.lookup_cons,beq_eq_false_iff_ne.mpr z];exact True.intro⟩
 exact ⟨σ,_,I4,q2 _ (I2.hok.fresh (Nat.le_refl _))⟩
def b6A (K:PySem.W.Frag) (ta:TE) (f:Str):TE:=fun σ H Q=>ta σ H fun x H1=>∃a C d fs v,x=.ref a∧IsX H1 a C (some d)∧H1 d=some (.xd fs)∧a4M K C∧a1a K C f∧fs.lookup f=some v∧Q v H1
theorem a9q {P:Program} {w:World} {H:Hp} {h:Heap} {x C d:Addr} {fs:List (Str×V)} (ok:HOk P w H h) (e:IsX H x C (some d)) (ed:H d=some (.xd fs)):∃(ox od:Obj) (mA:Str→Option Value),InstAt h x ox C (some od)∧(∀f,a7a (fs.lookup f) (mA f))∧∀name,PySem.W.lookIn name od=some (mA name):=by
 obtain ⟨vs,sl,hx⟩:=a6I ok e
 obtain ⟨mA,n,r⟩:=ok d _ ed
 obtain ⟨od,ho,hl⟩:=a8c n
 exact ⟨_,od,mA,⟨hx,rfl,rfl,ho⟩,r,hl⟩
theorem a8j {f:Str} (he:PE X e ta) (hb:attributeBase e f X.env (eval e X.env)=eval e X.env):PE X (.Attribute e f pos) (b6A X.K ta f):=by
 intro pins s σ H Q I h
 refine b0G hb (thn (he pins s σ H _ I h) fun u s1 ⟨x,H1,I1,rx,a,C,d,fs,v,ex,ea,ed,c,n,l,q⟩=>?_)
 subst ex
 obtain rfl:u=Value.ref a:=rx
 obtain ⟨ox,od,mA,J,r,hl⟩:=a9q I1.hok ea ed
 obtain ⟨u,hu,ru⟩:=a7a.some_of (v:=v) (o:=mA f) (by rw [←l];exact r f)
 exact a9M I1.kIn J c.ga c.gt c.bx (PySem.W.findObj_own c.hd n rfl (by rw [hl,hu])) (a7v ru) ⟨v,H1,I1.tok _,ru,q⟩
def b7E (K:PySem.W.Frag):List V→Hp→VK→Prop:=fun xs H Q=>∃a C d fs c u b,xs=[.ref a,c]∧b5T c=some u∧IsX H a C (some d)∧H d=some (.xd fs)∧a4M K C∧PySem.W.kitOne K (.ref C) u=some b∧Q (.bl b) H
def b8A (K:PySem.W.Frag):List V→Hp→VK→Prop:=fun xs H Q=>∃a C c u b,xs=[.ref a,c]∧b5T c=some u∧IsX H a C none∧a4M K C∧PySem.W.kitOne K (.ref C) u=some b∧Q (.bl b) H
def b4y (K:PySem.W.Frag):List V→Hp→VK→Prop:=fun xs H Q=>b3t K xs H Q∨(b7E K xs H Q∨b8A K xs H Q)
theorem a7W:a2w X (.builtin "isinstance") (b7E X.K):=by
 intro pins s σ H xs us Q I r h
 obtain ⟨a,C,d,fs,c,u,b,rfl,hu,ea,ed,xc,e,q⟩:=h
 obtain ⟨v,u',rfl,rv,ru'⟩:=b4z r
 cases a6t hu ru'
 cases rv
 obtain ⟨ox,od,mA,J,_⟩:=a9q I.hok ea ed
 exact kia_one (a8T xc) I.kIn J e (fun z=>nomatch z) fun tk=>⟨.bl b,H,I.tok _,rfl,q⟩
theorem a7I:a2w X (.builtin "isinstance") (b8A X.K):=by
 intro pins s σ H xs us Q I r h
 obtain ⟨a,C,c,u,b,rfl,hu,ea,xc,e,q⟩:=h
 obtain ⟨v,u',rfl,rv,ru'⟩:=b4z r
 cases a6t hu ru'
 cases rv
 obtain ⟨vs,sl,hx⟩:=a6I I.hok ea
 have J:InstAt s.heap a ⟨.ref C,none,.fields vs,sl⟩ C none:=⟨hx,rfl,rfl,True.intro⟩
 exact kia_one (a8T xc) I.kIn J e (fun z=>nomatch z) fun tk=>⟨.bl b,H,I.tok _,rfl,q⟩
theorem a1s:a2w X (.builtin "isinstance") (b4y X.K):=a2w.or a0Z (a2w.or a7W a7I)
end
end L2
namespace L2
open PySem PySem.Spec PySem.W PySem.Calls PyProof.Rows
def b6z (K:PySem.W.Frag) (C:Addr):Bool:=match K.lookup C with
 | some ⟨.type "type",_,.cls cd,sl⟩=>(match cd.mro,sl.toList with
  | .ref C'::bm,[_,_,_,_,some (.builtin n),_]=>C' == C && n == "ValueError.__new__" && !cd.hasDel && !cd.abstract && tailIn K bmV bm && specialIn K (.ref C) "__call__" == some (some (.builtin "type.__call__")) && instIn K (.ref C) (.type "type") == some true && nsOkIn K cd.ns && nsIn K cd.ns "__init__" == some none
  | _,_=>false)
 | _=>false
structure c8T (K:PySem.W.Frag) (C:Addr):Prop where
 xc:b6z K C=true
 kp:PySem.W.keepIn K (.ref C)=true
end L2
namespace L2
open PySem PySem.Spec PySem.W PySem.Calls PyProof.Rows
structure XOk (K:PySem.W.Frag) (C f:Addr) (m:Str):Prop where
 c:a4M K C
 mx:MkX K C f
 no:a1a K C m
structure c6h (K:PySem.W.Frag) (C:Addr):Prop where
 c:a4M K C
 mx:c8T K C
def a5U (K:PySem.W.Frag) (C:Addr):Bool:=
 findIn K (.ref C) "__getattribute__" == some (some (.builtin "BaseException.__getattribute__")) && findIn K (.ref C) "__getattr__" == some none && mroIn K C (.type "BaseException") == some true && hasDictIn K C &&
 findIn K (.ref C) "__class__" == some (some (.builtin "object.__class__")) && specialIn K (.builtin "object.__class__") "__get__" == some (some (.builtin "getset_descriptor.__get__")) && takesIn K (.builtin "object.__class__") == some true &&
 mroIn K C (.type "object") == some true && findIn K (.ref C) "__setattr__" == some (some (.builtin "object.__setattr__")) && a9g K C && b6P K C
theorem a4M.of_in {K:PySem.W.Frag} {C:Addr} (q:a5U K C=true):a4M K C:=by
 unfold a5U at q
 simp only [Bool.and_eq_true,beq_iff_eq] at q
 obtain ⟨⟨⟨⟨⟨⟨⟨⟨⟨⟨h1,h2⟩,h3⟩,h4⟩,h5⟩,h6⟩,h7⟩,h8⟩,h9⟩,h10⟩,h11⟩:=q
 exact ⟨h1,h2,h3,h4,h5,h6,h7,h8,h9,h10,h11⟩
def b2O (K:PySem.W.Frag) (C f:Addr) (m:Str):Bool:=a5U K C && findIn K (.ref C) "__init__" == some (some (.ref f)) && isFn K (.ref f) && keepIn K (.ref C) && findIn K (.ref C) m == some none
theorem XOk.of_in {K:PySem.W.Frag} {C f:Addr} {m:Str} (q:b2O K C f m=true):XOk K C f m:=by
 unfold b2O at q
 simp only [Bool.and_eq_true,beq_iff_eq] at q
 obtain ⟨⟨⟨⟨h1,h2⟩,h3⟩,h4⟩,h5⟩:=q
 exact ⟨.of_in h1,⟨(a4M.of_in h1).xc,h2,h3,h4⟩,h5⟩
def b4o (K:PySem.W.Frag) (C:Addr):Bool:=a5U K C && b6z K C && keepIn K (.ref C)
theorem c6h.of_in {K:PySem.W.Frag} {C:Addr} (q:b4o K C=true):c6h K C:=by
 unfold b4o at q
 simp only [Bool.and_eq_true] at q
 obtain ⟨⟨h1,h2⟩,h3⟩:=q
 exact ⟨.of_in h1,h2,h3⟩
def b5F (K:PySem.W.Frag) (cs:List Addr) (us:List Value) (b:Nat→Nat→Bool):Prop:=∀i j c u,cs[i]?=some c→us[j]?=some u→kitOne K (.ref c) u=some (b i j)
def a6u (K:PySem.W.Frag) (cs:List Addr) (us:List Value) (b:Nat→Nat→Bool):Bool:=
 (List.range cs.length).all fun i=>(List.range us.length).all fun j=>match cs[i]?,us[j]? with | some c,some u=>kitOne K (.ref c) u == some (b i j) | _,_=>true
theorem a9D {K:PySem.W.Frag} {cs:List Addr} {us:List Value} {b:Nat→Nat→Bool} (q:a6u K cs us b=true):b5F K cs us b:=by
 intro i j c u hc hu
 unfold a6u at q
 have h1:=List.all_eq_true.mp q i (List.mem_range.mpr (List.getElem?_eq_some_iff.mp hc).1)
 have h2:=List.all_eq_true.mp h1 j (List.mem_range.mpr (List.getElem?_eq_some_iff.mp hu).1)
 rw [hc,hu] at h2
 simpa using h2
def b3g (H:Hp) (x C:Addr) (m:Str) (v:V):Prop:=∃d,IsX H x C (some d)∧H d=some (.xd [(m,v)])
theorem IsX.same {H H':Hp} {x C:Addr} {od:Option Addr} (s:a0A H H') (h:IsX H x C od):IsX H' x C od:=h.imp (s _ _) fun ⟨T,e⟩=>⟨T,s _ _ e⟩
theorem b3g.same {H H':Hp} {x C:Addr} {m:Str} {v:V} (s:a0A H H') (h:b3g H x C m v):b3g H' x C m v:=let ⟨d,a,b⟩:=h;⟨d,a.same s,s _ _ b⟩
def c1S (C:Addr) (m:Str):Sp:=fun vs H Q _=>∃x v,vs=[.ref x,v]∧H x=some (a7b x C none)∧∀d,H d=none→Q .non (upd (upd H x (a7b x C (some d))) d (.xd [(m,v)]))
theorem a8q {K:PySem.W.Frag} {ta:TE} {m:Str} {σ:St} {H:Hp} {Q:VK} {x C f:Addr} {v:V} (O:XOk K C f m) (e:b3g H x C m v) (hta:∀R:VK,R (.ref x) H→ta σ H R) (q:Q v H):b6A K ta m σ H Q:=by
 obtain ⟨d,h1,h2⟩:=e
 exact hta _ ⟨x,C,d,_,v,rfl,h1,h2,O.c,O.no,by rw [List.lookup_cons,beq_self_eq_true],q⟩
theorem a8u {K:PySem.W.Frag} {H:Hp} {Q:VK} {x C:Addr} {m:Str} {v c:V} {u:Value} {b:Bool} (O:a4M K C) (e:b3g H x C m v) (hu:b5T c=some u) (hk:kitOne K (.ref C) u=some b) (q:Q (.bl b) H):b4y K [.ref x,c] H Q:=by
 obtain ⟨d,h1,h2⟩:=e
 exact .inr (.inl ⟨x,C,d,_,c,u,b,rfl,hu,h1,h2,O,hk,q⟩)
end L2
namespace L2
open PySem PySem.Spec PySem.W PySem.Calls PyProof.Rows
theorem b2w {K:PySem.W.Frag} {a:Addr} {xs:List V} {g:TG} {tb:TS} {D:a8I} {σ:St} {H:Hp} (Pv:Nat→St→Hp→Prop) (h0:Pv 0 σ H) (hl:∀i σ H,i≤xs.length→Pv i σ H→SqL K H a xs)
  (hs:∀i x σ H p,xs[i]?=some x→Pv i σ H→H p=none→g (.ref p) σ (upd H p (.tup [.int i,x])) fun σ2 H2=>tb {D with nx:=Pv (i+1),ct:=Pv (i+1),bk:=D.nx} σ2 H2) (hd:∀σ H,Pv xs.length σ H→D.nx σ H):
  ∃W:Nat→Nat→St→Hp→Prop,(∃m,W 0 m σ H)∧∀i m σ H,W i m σ H→
   ((Ite K a).stop i H∧D.nx σ H)∨((Ite K a).go i H∧∃N:St→Hp→Prop,(∀σ' H',N σ' H'→∃m',m' < m∧W (i+1) m' σ' H')∧∀x H',(Ite K a).yld i H x H'→g x σ H' fun σ2 H2=>tb {D with nx:=N,ct:=N,bk:=D.nx} σ2 H2):=by
 refine ⟨fun i m σ H=>m=xs.length - i∧i≤xs.length∧Pv i σ H,⟨xs.length,by simp,Nat.zero_le _,h0⟩,?_⟩
 rintro i m σ H ⟨rfl,hi,p⟩
 have q:=hl i σ H hi p
 by_cases hlt:i < xs.length
 ·refine .inr ⟨⟨xs,xs[i],q,by simp [hlt]⟩,Pv (i+1),fun σ' H' p'=>⟨xs.length - (i+1),by omega,rfl,hlt,p'⟩,?_⟩
  rintro x H' ⟨pp,w,hpn,hw,rfl,rfl⟩
  exact hs i w σ H pp (hw xs q) p hpn
 ·have e:i=xs.length:=by omega
  subst e
  exact .inl ⟨⟨xs,q,Nat.le_refl _⟩,hd σ H p⟩
mutual
theorem Den.same {K:PySem.W.Frag} {H H':Hp} (s:a0A H H'):∀{x:V} {d:PyData},Den K H x d→Den K H' x d
 | _,_,.non=>.non
 | _,_,.bl b=>.bl b
 | _,_,.int i=>.int i
 | _,_,.str z=>.str z
 | _,_,.lst h a=>.lst (s.seq h) (DenAll.same s a)
 | _,_,.tup h a=>.tup (s.tup h) (DenAll.same s a)
theorem DenAll.same {K:PySem.W.Frag} {H H':Hp} (s:a0A H H'):∀{xs:List V} {ds:List PyData},DenAll K H xs ds→DenAll K H' xs ds
 | _,_,.nil=>.nil
 | _,_,.cons a b=>.cons (Den.same s a) (DenAll.same s b)
end
def b7p (H:Hp) (x C:Addr):Option (Str×V)→Prop
 | some (m,v)=>b3g H x C m v
 | none=>IsX H x C none
theorem b7p.same {H H':Hp} {x C:Addr} (s:a0A H H'):∀{o:Option (Str×V)},b7p H x C o→b7p H' x C o
 | some (_,_),h=>b3g.same s h
 | none,h=>IsX.same s h
def b2d (H:Hp):List Addr→List (Addr×Option (Str×V))→Prop
 | [],[]=>True
 | x::xs,e::es=>b7p H x e.1 e.2∧b2d H xs es
 | _,_=>False
theorem b2d.same {H H':Hp} (s:a0A H H'):∀{xs:List Addr} {es:List (Addr×Option (Str×V))},b2d H xs es→b2d H' xs es
 | [],[],_=>trivial
 | _::_,_::_,⟨a,b⟩=>⟨a.same s,b2d.same s b⟩
 | [],_::_,h=>h
 | _::_,[],h=>h
theorem b2d.len {H:Hp}:∀{xs:List Addr} {es:List (Addr×Option (Str×V))},b2d H xs es→xs.length=es.length
 | [],[],_=>rfl
 | _::_,_::_,⟨_,b⟩=>congrArg (·+1) b.len
 | [],_::_,h=>h.elim
 | _::_,[],h=>h.elim
theorem b2d.get {H:Hp}:∀{xs:List Addr} {es:List (Addr×Option (Str×V))} {i:Nat} {e:Addr×Option (Str×V)},b2d H xs es→es[i]?=some e→∃x,xs[i]?=some x∧b7p H x e.1 e.2
 | _::_,_::_,0,_,⟨a,_⟩,h=>by cases h;exact ⟨_,rfl,a⟩
 | _::_,_::_,i+1,_,⟨_,b⟩,h=>b2d.get (i:=i) b (by simpa using h)
 | [],_::_,_,_,h,_=>h.elim
 | _::_,[],_,_,h,_=>h.elim
end L2
namespace L2
open PySem PySem.Spec PySem.W PySem.Calls PyProof.Rows
def TbO (T:Addr) (fl:Value):HO:=.ext fun h=>∃ob ts,h.get? T=some ob∧ob.data=.fields ts∧ts[3]?=some fl
theorem b5w {P:Program} {w:World} {H:Hp} {h:Heap} {T:Addr} {fl:Value} {ob:Obj} {ts:Array Value} (e:h.get? T=some ob) (d:ob.data=.fields ts) (e1:ts[3]?=some fl):a1O P w H h T (TbO T fl):=
 ⟨⟨ob,ts,e,d,e1⟩,⟨_,e⟩,fun h1 h2 p k=>let ⟨ob,ts,e,r⟩:=p;⟨ob,ts,k _ e,r⟩⟩
theorem b3N {P:Program} {w:World} {H:Hp} {h:Heap} {T:Addr} {fl:Value} (ok:HOk P w H h) (e:H T=some (TbO T fl)):∃ob ts,h.get? T=some ob∧ob.data=.fields ts∧ts[3]?=some fl:=(ok T _ e).1
def Fl (H:Hp) (x C:Addr) (od:Option Addr) (fl:Value) (T:Addr):Prop:=T≠x∧H x=some (b5y x C od T)∧H T=some (TbO T fl)
def Arr (H:Hp) (x C:Addr) (od oT:Option Addr):Prop:=(oT=none∧H x=some (a7b x C od))∨∃T,oT=some T∧Fl H x C od .none T
def But (x:Addr) (oT:Option Addr) (H H':Hp) (T':Addr):Prop:=(∀b o,b≠x→some b≠oT→H b=some o→H' b=some o)∧(H T'=none∨some T'=oT)
section
variable {X:Cx} {pins:List (Addr×Obj)} {σ:St} {H:Hp} {s:Shared}
theorem Inv.frames (I:Inv X pins σ H s) {h':Heap} (hs:Heap.SlotsOnly (frs X.stack) s.heap h'):Inv X pins σ H {s with heap:=h'}:=by
 have k:∀b u o,H b=some o→s.heap.get? b=some u→h'.get? b=some u:=fun b u o e q=>by
  rw [hs.2.1 b fun z=>by rw [I.stkFree b z] at e;cases e];exact q
 refine I.call' (s':={s with heap:=h'}) (ch:=[]) rfl ⟨fun b o e _ n _=>by rw [hs.2.1 b n];exact e,fun b o e _ _ _=>hs.2.2 b o e,fun b o _ n _=>n,fun b o e _=>let ⟨sl,q⟩:=hs.2.2 b o e;⟨_,q⟩,fun _ _ e=>e,fun _ _ _ e=>e,fun _ ps e=>⟨#[],by simpa using e⟩⟩ (fun a o e=>?_) I.bare (fun b z=>absurd z (by simp))
 exact (I.hok a o e).stay (fun b u hb q=>by
  rcases hb with rfl | hb
  ·exact k _ _ _ e q
  ·exact k _ _ _ hb q) (fun _ q=>q) fun _ _ q=>q
theorem b1I {H:Hp} {a:Addr} {o:HO} (e:H a=some o):upd H a o=H:=by
 funext b;unfold upd;split
 ·rename_i q;rw [q,e]
 ·rfl
theorem a8M {Q:Unit→Shared→Prop} {E:Value→Shared→Prop} {x C L:Addr} {od:Option Addr} {outer:List Env} {head:Value} {hadNext:Bool} (I:Inv X pins σ H s) (hst:X.stack=X.env::outer) (hf:X.env.frame=some L) (e:IsX H x C od)
  (q:∀T s',H T=none→Inv X pins σ (upd (upd H T (TbO T (rawInt L))) x (b5y x C od T)) s'→T≠x→Q () s'):
  wpAny (model X.prog X.w) X.A (do let a ←frameOf X.env;let pl ←entryPlaceOf L hadNext;let b ←EntryCells.newEntry head a .none (rawInt L) .none pl;setField (.ref x) 1 b) Q E s:=by
 refine wpAny_bind (wpAny_frameOf_fun (base:=X.base) (by rw [I.ok.frames,hst]) (by rw [←hst];exact I.stack) hf fun h₁ hs₁=>?_)
 have I1:Inv X pins σ H {s with heap:=h₁}:=I.frames (by rw [hst];exact hs₁)
 refine wpAny_bind (wpAny_entryPlaceOf fun pl hpl=>?_)
 unfold EntryCells.newEntry newFields
 refine wpAny_bind (wpAny_newObj_type ?_ (hpl.sizeOk5 _ _ _ _ _))
 have hT:=Heap.get?_push_size h₁ (o:={cls:=.type "traceback",dict:=none,data:=.fields ([head,.ref L,.none,rawInt L,.none]++(if pl.isEmpty then List.replicate 6 Value.none else pl)).toArray}) rfl
 have I2:=I1.laid (t':=s.toks) (a:=h₁.objs.size) (o:=TbO h₁.objs.size (rawInt L)) (h':=h₁.push {cls:=.type "traceback",dict:=none,data:=.fields ([head,.ref L,.none,rawInt L,.none]++(if pl.isEmpty then List.replicate 6 Value.none else pl)).toArray})
  (fun b u e=>Heap.get?_push_of_some _ e) (Nat.le_refl _) (b5w hT rfl (by first | (simp;done) | (rcases hpl with rfl | ⟨_,_,_,_,_,_,_,rfl⟩<;>simp)))
 have hn:H h₁.objs.size=none:=I1.hok.fresh (Nat.le_refl _)
 have hxT:x≠h₁.objs.size:=by
  rintro rfl
  rcases e with e | ⟨T,e⟩
  ·rw [hn] at e;cases e
  ·rw [hn] at e;cases e
 have e2:IsX (upd H h₁.objs.size (TbO h₁.objs.size (rawInt L))) x C od:=by
  unfold IsX;rw [a0w hxT];exact e
 obtain ⟨vs,sl,hx,hsz⟩:∃vs sl,(h₁.push {cls:=.type "traceback",dict:=none,data:=.fields ([head,.ref L,.none,rawInt L,.none]++(if pl.isEmpty then List.replicate 6 Value.none else pl)).toArray}).get? x=some ⟨.ref C,od,.fields vs,sl⟩∧1 < vs.size:=by
  rcases e2 with e2 | ⟨T,e2⟩
  ·obtain ⟨vs,sl,a,b⟩:=a2a I2.hok e2;exact ⟨vs,sl,a,(Array.getElem?_eq_some_iff.mp b).1⟩
  ·obtain ⟨vs,sl,a,b⟩:=a2l I2.hok e2;exact ⟨vs,sl,a,(Array.getElem?_eq_some_iff.mp b).1⟩
 refine wpAny_setField hx rfl hsz ?_
 have hx3:=Heap.get?_update_self (Obj.mapFields (·.setIfInBounds 1 (Value.ref h₁.objs.size))) hx (Obj.isFreed_of_fields (Obj.data_mapFields (o:=⟨.ref C,od,.fields vs,sl⟩) rfl _))
 refine q h₁.objs.size _ hn (I2.write (t':=s.toks) (x:=x) (e:=x) (o:=b5y x C od h₁.objs.size) (h':=(h₁.push {cls:=.type "traceback",dict:=none,data:=.fields ([head,.ref L,.none,rawInt L,.none]++(if pl.isEmpty then List.replicate 6 Value.none else pl)).toArray}).update x (Obj.mapFields (·.setIfInBounds 1 (Value.ref h₁.objs.size)))) ?_ (.inl rfl) (fun b u hb e=>by rw [Heap.get?_update_other _ _ (Ne.symm hb)];exact e) ⟨_,hx3⟩ (b5f hx3 (by simp [hsz]))) hxT.symm
 rcases e2 with e2 | ⟨T,e2⟩<;>(rw [e2];trivial)
end
end L2
namespace L2
open PySem PySem.Spec PySem.W PySem.Calls PyProof.Rows
section
variable {X:Cx} {pins:List (Addr×Obj)} {σ:St} {H:Hp} {s:Shared} {x C L:Addr} {od:Option Addr} {outer:List Env}
theorem Fl.isX {fl:Value} {T:Addr} (h:Fl H x C od fl T):IsX H x C od:=.inr ⟨T,h.2.1⟩
theorem a8D {oT:Option Addr} {Q:Unit→Shared→Prop} {E:Value→Shared→Prop} (I:Inv X pins σ H s) (hst:X.stack=X.env::outer) (hf:X.env.frame=some L) (ha:Arr H x C od oT)
  (q:∀H' s' T',Inv X pins σ H' s'→But x oT H H' T'→Fl H' x C od (rawInt L) T'→Q () s'):wpAny (model X.prog X.w) X.A (noteFrame (.ref x) X.env) Q E s:=by
 have fin:∀T s',H T=none→Inv X pins σ (upd (upd H T (TbO T (rawInt L))) x (b5y x C od T)) s'→T≠x→Q () s':=fun T s' hT J hTx=>
  q _ s' T J ⟨fun b o hb _ e=>by rw [a0w hb,a0w (a0y e hT)];exact e,.inl hT⟩ ⟨hTx,a0v,by rw [a0w hTx,a0v]⟩
 unfold noteFrame
 simp only [hf]
 rcases ha with ⟨_,ha⟩ | ⟨T0,_,hT0x,ha,hT0⟩
 ·obtain ⟨vs,sl,hx,h1⟩:=a2a I.hok ha
  refine wpAny_bind (wpAny_field hx rfl h1 ?_)
  rw [if_neg (by decide)]
  exact a8M I hst hf (.inl ha) fin
 ·obtain ⟨vs,sl,hx,h1⟩:=a2l I.hok ha
  obtain ⟨ob,ts,hT,hd,h3⟩:=b3N I.hok hT0
  refine wpAny_bind (wpAny_field hx rfl h1 ?_)
  rw [if_pos (show (Value.ref T0 != Value.none)=true from by simp)]
  refine wpAny_bind (wpAny_field hT hd h3 ?_)
  rw [if_neg (show ¬((Value.none == rawInt L)=true) from by simp [rawInt])]
  refine wpAny_bind (wpAny_setField hT hd (Array.getElem?_eq_some_iff.mp h3).1 ?_)
  have hT3:=Heap.get?_update_self (Obj.mapFields (·.setIfInBounds 3 Value.none)) hT (Obj.isFreed_of_fields (Obj.data_mapFields hd _))
  have I1:=I.write (t':=s.toks) (x:=T0) (e:=T0) (o:=TbO T0 .none) (h':=s.heap.update T0 (Obj.mapFields (·.setIfInBounds 3 Value.none))) (by rw [hT0];trivial) (.inl rfl) (fun b u hb e=>by rw [Heap.get?_update_other _ _ (Ne.symm hb)];exact e) ⟨_,hT3⟩
   (b5w hT3 (Obj.data_mapFields hd _) (by simp [(Array.getElem?_eq_some_iff.mp h3).1]))
  rw [b1I hT0] at I1
  exact a8M I1 hst hf (.inr ⟨T0,ha⟩) fin
theorem a2c {fl:Value} {T:Addr} {Q:Unit→Shared→Prop} {E:Value→Shared→Prop} {A:Around} (I:Inv X pins σ H s) (ha:Fl H x C od fl T)
  (q:∀H' s',Inv X pins σ H' s'→But x (some T) H H' T→Fl H' x C od .none T→Q () s'):wpAny (model X.prog X.w) A (setFlight (.ref x) none) Q E s:=by
 obtain ⟨hTx,ha,hT0⟩:=ha
 obtain ⟨vs,sl,hx,h1⟩:=a2l I.hok ha
 obtain ⟨ob,ts,hT,hd,h3⟩:=b3N I.hok hT0
 unfold setFlight
 refine wpAny_bind (wpAny_field hx rfl h1 ?_)
 rw [if_pos (show (Value.ref T != Value.none)=true from by simp)]
 refine wpAny_setField hT hd (Array.getElem?_eq_some_iff.mp h3).1 ?_
 have hT3:=Heap.get?_update_self (Obj.mapFields (·.setIfInBounds 3 Value.none)) hT (Obj.isFreed_of_fields (Obj.data_mapFields hd _))
 have I1:=I.write (t':=s.toks) (x:=T) (e:=T) (o:=TbO T .none) (h':=s.heap.update T (Obj.mapFields (·.setIfInBounds 3 Value.none))) (by rw [hT0];trivial) (.inl rfl) (fun b u hb e=>by rw [Heap.get?_update_other _ _ (Ne.symm hb)];exact e) ⟨_,hT3⟩
  (b5w hT3 (Obj.data_mapFields hd _) (by simp [(Array.getElem?_eq_some_iff.mp h3).1]))
 refine q _ _ I1 ⟨fun b o hb hn e=>?_,.inr rfl⟩ ⟨hTx,by rw [a0w hTx.symm];exact ha,a0v⟩
 rw [a0w (fun z=>hn (by rw [z]))];exact e
theorem But.tr {oT:Option Addr} {H1 H2:Hp} {T1 T2:Addr} (a:But x oT H H1 T1) (b:But x (some T1) H1 H2 T2) (h2:T2≠x):But x oT H H2 T2:=by
 refine ⟨fun c o hc hn e=>b.1 c o hc (fun z=>?_) (a.1 c o hc hn e),?_⟩
 ·cases z
  rcases a.2 with q | q
  ·rw [q] at e;cases e
  ·exact hn q
 ·rcases b.2 with q | q
  ·cases e:H T2 with
   | none=>exact .inl rfl
   | some o=>
    by_cases z:some T2=oT
    ·exact .inr z
    ·have:=a.1 T2 o h2 z e
     rw [q] at this;cases this
  ·cases q;exact a.2
theorem b2j {oT:Option Addr} {Q:Unit→Shared→Prop} {E:Value→Shared→Prop} (I:Inv X pins σ H s) (hst:X.stack=X.env::outer) (hf:X.env.frame=some L) (ha:Arr H x C od oT)
  (q:∀H' s' T',Inv X pins σ H' s'→But x oT H H' T'→Fl H' x C od .none T'→Q () s'):wpAny (model X.prog X.w) X.A (leaving X.env (.ref x)) Q E s:=by
 unfold leaving
 exact wpAny_bind (a8D I hst hf ha fun H1 s1 T1 I1 b1 f1=>a2c I1 f1 fun H2 s2 I2 b2 f2=>q H2 s2 T1 I2 (b1.tr b2 f2.1) f2)
theorem Arr.uniq {P:Program} {w:World} {h:Heap} {C1:Addr} {od1 oT oT1:Option Addr} (ok:HOk P w H h) (a:Arr H x C od oT) (b:Arr H x C1 od1 oT1):C=C1∧od=od1∧oT=oT1:=by
 rcases a with ⟨rfl,a⟩ | ⟨T,rfl,_,a,_⟩<;>rcases b with ⟨rfl,b⟩ | ⟨T1,rfl,_,b,_⟩
 ·obtain ⟨vs,sl,e,_⟩:=a2a ok a
  obtain ⟨vs1,sl1,e1,_⟩:=a2a ok b
  rw [e] at e1;cases e1;exact ⟨rfl,rfl,rfl⟩
 ·obtain ⟨vs,sl,e,q⟩:=a2a ok a
  obtain ⟨vs1,sl1,e1,q1⟩:=a2l ok b
  rw [e] at e1;cases e1;rw [q] at q1;cases q1
 ·obtain ⟨vs,sl,e,q⟩:=a2l ok a
  obtain ⟨vs1,sl1,e1,q1⟩:=a2a ok b
  rw [e] at e1;cases e1;rw [q] at q1;cases q1
 ·obtain ⟨vs,sl,e,q⟩:=a2l ok a
  obtain ⟨vs1,sl1,e1,q1⟩:=a2l ok b
  rw [e] at e1;cases e1;rw [q] at q1;cases q1;exact ⟨rfl,rfl,rfl⟩
end
def CXE (P:Program) (w:World) (K:PySem.W.Frag):CXT:=fun outer H s E e s'=>∃x C od H',e=.ref x∧s'.os=s.os∧AllBare s'.gens∧Un (frs outer) [] H H' s.heap s'.heap∧HOk P w H' s'.heap∧(∃T,Fl H' x C od .none T)∧a4M K C∧E (.ref x) (some C) H'
def upE (E:XK):XK:=fun xv oc H=>∃x C od oT,xv=.ref x∧oc=some C∧Arr H x C od oT∧∀H' T',But x oT H H' T'→Fl H' x C od .none T'→E xv oc H'
section
variable {P:Program} {w:World} {K:PySem.W.Frag} {mg:Str→Option Value} {base:Heap} {N:List Str} {qual:Str} {scope:Scope} {f:Addr} {cd:Value} {A:Around} {outer:List Env} {s0:Shared} {H0:Hp} {E:XK}
theorem c0R {pins:List (Addr×Obj)} {σ:St} {H:Hp} {s:Shared} {x C:Addr} {od:Option Addr} (I:Inv (b1O (CXE P w K) P w K mg base N qual scope f cd A outer s0 H0 E) pins σ H s) {oT:Option Addr} (ha:Arr H x C od oT) (xc:a4M K C) (q:upE E (.ref x) (some C) H):
  (b1O (CXE P w K) P w K mg base N qual scope f cd A outer s0 H0 E).xe (.ref x) s:=
 b2j I rfl rfl ha fun H' s' T' J b fl=>by
  obtain ⟨x1,C1,od1,oT1,e1,e2,a1,q⟩:=q
  cases e1;cases e2
  obtain ⟨_,rfl,rfl⟩:=Arr.uniq I.hok ha a1
  exact ⟨x,C,od,H',rfl,J.os,J.bare,J.base,J.hok,⟨T',fl⟩,xc,q H' T' b fl⟩
theorem CXE.inv {X:Cx} {pins:List (Addr×Obj)} {σ:St} {H:Hp} {s s':Shared} {e:Value} {E:XK} (I:Inv X pins σ H s) (h:CXE X.prog X.w X.K X.stack H s E e s'):∃x C od H',e=.ref x∧Inv X pins σ H' s'∧(∃T,Fl H' x C od .none T)∧a4M X.K C∧E (.ref x) (some C) H':=by
 obtain ⟨x,C,od,H',rfl,os,bare,un,hok,fl,xc,q⟩:=h
 exact ⟨x,C,od,H',rfl,I.call' os un hok bare (fun b z=>absurd z (by simp)),fl,xc,q⟩
theorem b0P {X:Cx}:a3j (CXE P w K) X E0:=by
 intro pins σ H s e s' I h
 obtain ⟨x,C,od,H',_,_,_,_,_,_,_,q⟩:=h
 exact q.elim
end
def b7l (K:PySem.W.Frag) (te:TE) (E:XK):TS:=fun _ σ H=>te σ H fun v H1=>∃x C od,v=.ref x∧H1 x=some (a7b x C od)∧a4M K C∧∀H' T',But x none H1 H' T'→Fl H' x C od .none T'→E (.ref x) (some C) H'
def c5D (X:Cx) (E:XK):Prop:=∀(pins:List (Addr×Obj)) (σ:St) (H:Hp) (s:Shared) (x C:Addr) (od oT:Option Addr),Inv X pins σ H s→Arr H x C od oT→a4M X.K C→upE E (.ref x) (some C) H→X.xe (.ref x) s
theorem b1H {P:Program} {w:World} {K:PySem.W.Frag} {mg:Str→Option Value} {base:Heap} {N:List Str} {qual:Str} {scope:Scope} {f:Addr} {cd:Value} {A:Around} {outer:List Env} {s0:Shared} {H0:Hp} {E:XK}:c5D (b1O (CXE P w K) P w K mg base N qual scope f cd A outer s0 H0 E) E:=
 fun _ _ _ _ _ _ _ _ I ha xc q=>c0R I ha xc q
theorem b0a {M:Model} {A:Around} {E:Value→Shared→Prop} {s:Shared} {env:Env} {m:Sem Value} {Q:Flow→Shared→Prop} (hh:A.handled=none)
  (h:wpAny M A m (fun v s₁=>∃e C nm q N bs bm hdct sn sub ab col dd k0 k1 k2 k3 k5 newId od vs sl,v=.ref e∧s₁.heap.get? C=some (excClassObj nm q C N bs bm hdct sn sub ab col dd k0 k1 k2 k3 k5 newId)∧bm.contains (.type "BaseException")=true∧
   s₁.heap.get? e=some ⟨.ref C,od,.fields vs,sl⟩∧vs[1]?=some Value.none∧E (.ref e) s₁) E s):
  wpAny M A (raiseStmt env (some m) none) Q E s:=by
 unfold raiseStmt
 refine wpAny_bind (wpAny_mono h (fun v s₁ h₁=>?_) fun _ _ x=>x)
 obtain ⟨e,C,nm,q,N,bs,bm,hdct,sn,sub,ab,col,dd,k0,k1,k2,k3,k5,newId,od,vs,sl,rfl,hC,hbase,he,h1,hE⟩:=h₁
 have hcB:(Value.ref C::bm).contains (.type "BaseException")=true:=by rw [List.contains_cons,hbase,Bool.or_true]
 obtain ⟨hp,g,d,tk,os⟩:=s₁
 repeat (first | with_reducible refine wpAny_loadPart_at he ?_ | with_reducible refine wpAny_loadPart_at hC ?_ | (with_reducible refine wpAny_isSubtype_exc hC ?_;rw [hcB]) | wp_step)
 rw [h1]
 refine wpAny_pure ?_
 rw [if_neg (by decide)]
 exact wpAny_pure (wpAny_raiseNew_none hh hE)
theorem a4M.obj {K:PySem.W.Frag} {C:Addr} {h:Heap} (prog:Program) (w:World) (Y:a4M K C) (k:K.In h):∃nm q N bs bm hdct sn sub ab col dd k0 k1 k2 k3 k5 newId,h.get? C=some (excClassObj nm q C N bs bm hdct sn sub ab col dd k0 k1 k2 k3 k5 newId)∧bm.contains (.type "BaseException")=true:=by
 obtain ⟨nm,qn,N,bs,bm,hdct,sn,sub,col,dd,k0,k1,k2,k3,k5,hC,T⟩:=(a7t (M:=model prog w) k Y.xc).cls
 exact ⟨nm,qn,N,bs,bm,hdct,sn,sub,false,col,dd,k0,k1,k2,k3,k5,_,hC,T.hasType (by decide+kernel)⟩
theorem a6o {X:Cx} {E:XK} {e:Expr} {te:TE} {pos:Pos} (hX:c5D X E) (hc:X.calm=true) (he:PE X e te):PS X (.Raise (some e) none pos) (b7l X.K te E):=by
 intro pins s σ H D I h
 rw [arm_exec_Raise]
 refine wpAny_bind (wpAny_standAt (b0a (I.ok.hd hc) ?_))
 refine wpAny_bind (thn (he pins s σ H _ I h) fun u s1 ⟨v,H1,I1,r1,x,C,od,ev,ex,xc,q⟩=>wpAny_bind (wpAny_standAt (wpAny_pure ?_)))
 subst ev
 obtain rfl:u=Value.ref x:=r1
 obtain ⟨vs,sl,hx,h1⟩:=a2a I1.hok ex
 obtain ⟨nm,qn,N,bs,bm,hdct,sn,sub,ab,col,dd,k0,k1,k2,k3,k5,newId,hC,hb⟩:=xc.obj X.prog X.w I1.kIn
 exact ⟨x,C,nm,qn,N,bs,bm,hdct,sn,sub,ab,col,dd,k0,k1,k2,k3,k5,newId,od,vs,sl,rfl,hC,hb,hx,h1,hX pins σ H1 s1 x C od none I1 (.inl ⟨rfl,ex⟩) xc ⟨x,C,od,none,rfl,rfl,.inl ⟨rfl,ex⟩,q⟩⟩
end L2
namespace L2
open PySem PySem.Spec PySem.W PySem.Calls PyProof.Rows
section
variable {X:Cx} {pins:List (Addr×Obj)} {σ:St} {H:Hp} {s:Shared}
abbrev Cx.on (X:Cx) (xe:Value→Shared→Prop):Cx:={X with xe:=xe}
theorem Inv.on {xe:Value→Shared→Prop} (I:Inv X pins σ H s):Inv (X.on xe) pins σ H s:=
 ⟨⟨I.ok.mod,I.ok.kind,I.ok.glob,I.ok.blt,I.ok.above,I.ok.inj,I.ok.has,I.ok.cab,I.ok.hd,I.ok.frames,I.ok.stk,I.ok.exf,I.ok.bs,I.ok.bsz,I.ok.noex,I.ok.exfs,I.ok.funs,I.ok.frf⟩,I.os,I.bare,I.base,I.loc,I.cell,I.free,I.freeC,I.pin,I.hok,I.len⟩
theorem Inv.off {xe:Value→Shared→Prop} (I:Inv (X.on xe) pins σ H s):Inv X pins σ H s:=
 ⟨⟨I.ok.mod,I.ok.kind,I.ok.glob,I.ok.blt,I.ok.above,I.ok.inj,I.ok.has,I.ok.cab,I.ok.hd,I.ok.frames,I.ok.stk,I.ok.exf,I.ok.bs,I.ok.bsz,I.ok.noex,I.ok.exfs,I.ok.funs,I.ok.frf⟩,I.os,I.bare,I.base,I.loc,I.cell,I.free,I.freeC,I.pin,I.hok,I.len⟩
abbrev Cx.held (X:Cx) (x:Addr):Cx:={X with A:=X.A.mark (some (.ref x)),calm:=false,xe:=fun _ _=>False}
theorem Inv.held {x:Addr} (I:Inv X pins σ H s):Inv (X.held x) pins σ H s:=
 ⟨⟨I.ok.mod,I.ok.kind,I.ok.glob,I.ok.blt,I.ok.above,I.ok.inj,I.ok.has,I.ok.cab,fun z=>(Bool.false_ne_true z).elim,I.ok.frames,I.ok.stk,I.ok.exf,I.ok.bs,I.ok.bsz,I.ok.noex,I.ok.exfs,I.ok.funs,I.ok.frf⟩,I.os,I.bare,I.base,I.loc,I.cell,I.free,I.freeC,I.pin,I.hok,I.len⟩
theorem Inv.unheld {x:Addr} (J:Inv (X.held x) pins σ H s) (hd:X.calm=true→X.A.handled=none) (fr:X.A.frames=some X.stack):Inv X pins σ H s:=
 ⟨⟨J.ok.mod,J.ok.kind,J.ok.glob,J.ok.blt,J.ok.above,J.ok.inj,J.ok.has,J.ok.cab,hd,fr,J.ok.stk,J.ok.exf,J.ok.bs,J.ok.bsz,J.ok.noex,J.ok.exfs,J.ok.funs,J.ok.frf⟩,J.os,J.bare,J.base,J.loc,J.cell,J.free,J.freeC,J.pin,J.hok,J.len⟩
abbrev XW:=St→Addr→Addr→Hp→Prop
def XP (X:Cx) (pins:List (Addr×Obj)) (W:XW) (e:Value) (s':Shared):Prop:=∃σ H x C od oT,e=.ref x∧Inv X pins σ H s'∧Arr H x C od oT∧a4M X.K C∧W σ x C H
def PXE (X:Cx) (e:Expr) (t:VK→(Addr→Addr→Hp→Prop)→St→Hp→Prop):Prop:=
 ∀(pins:List (Addr×Obj)) (s:Shared) (σ:St) (H:Hp) (Q:VK) (W:Addr→Addr→Hp→Prop),Inv X pins σ H s→t Q W σ H→wpAny (model X.prog X.w) X.A (eval e X.env) (EP X pins σ Q) (XP X pins fun σ' x C H'=>σ'=σ∧W x C H') s
abbrev TX:=a8I→XW→St→Hp→Prop
def PXs (X:Cx) (st:List Stmt) (t:TX):Prop:=
 ∀(pins:List (Addr×Obj)) (s:Shared) (σ:St) (H:Hp) (D:a8I) (W:XW),Inv X pins σ H s→t D W σ H→wpAny (model X.prog X.w) X.A (execs st X.env) (SP X pins D) (XP X pins W) s
def b4I (sp:Sp) (dvs:List V) (t:TA):VK→(Addr→Addr→Hp→Prop)→St→Hp→Prop:=fun Q W σ H=>t σ H fun vs H1=>sp (vs++dvs) H1 Q fun xv oc H2=>∀x C,xv=.ref x→oc=some C→W x C H2
theorem b4P {k:Nat} {f:Addr} {fd:FuncData} {ps:List Str} {sp:Sp} {dvs:List V} {ds:List Value} {Q:VK} {W:Addr→Addr→Hp→Prop} {us:List Value} {vs:List V} (F:a1y X.prog X.w X.K X.mg X.base (CXE X.prog X.w X.K) k f fd ps sp) (hr:a2Z k X.A) (hb:a0K X.K fd ps ds) (hd:a1f dvs ds)
  (I:Inv X pins σ H s) (r:a1f vs us) (h:sp (vs++dvs) H Q fun xv oc H2=>∀x C,xv=.ref x→oc=some C→W x C H2):wpAny (model X.prog X.w) X.A (call (.ref f) us) (EP X pins σ Q) (XP X pins fun σ' x C H'=>σ'=σ∧W x C H') s:=by
 have r2:a1f (vs++dvs) (us++ds):=r.append hd
 have hl:(us++ds).length=ps.length:=by rw [←r2.length];exact F.len _ _ _ _ h
 refine wpAny_call (codeAny_mono (F.run X.A X.stack s H ⟨us,[]⟩ (us++ds) (vs++dvs) Q _ hr I.env0 (hb s us I.kIn hl) r2 h) fun r s' hq=>?_)
 cases r with
 | error e=>
  have hq':CXE X.prog X.w X.K X.stack H s (fun xv oc H2=>∀x C,xv=.ref x→oc=some C→W x C H2) e s':=hq
  obtain ⟨x,C,od,H',rfl,J,⟨T,fl⟩,xc,q⟩:=CXE.inv I hq'
  exact ⟨σ,H',x,C,od,some T,rfl,J,.inr ⟨T,rfl,fl⟩,xc,rfl,q x C rfl rfl⟩
 | ok fl=>
  cases fl with
  | ret u=>exact I.after hq
  | next=>exact False.elim hq
  | brk=>exact False.elim hq
  | cont=>exact False.elim hq
theorem b6Z {xe:Value→Shared→Prop} {Q:List V→Hp→Prop} {us:List Value} {s:Shared} (h:AP (X.on xe) pins σ Q us s):AP X pins σ Q us s:=let ⟨vs,H',I,r⟩:=h;⟨vs,H',I.off,r⟩
theorem a9p {k:Nat} {f:Addr} {fd:FuncData} {ps:List Str} {sp:Sp} {dvs:List V} {ds:List Value} {x:Str} {p pos:Pos} {e:Expr} {es:List Expr} {t:TA} (F:a1y X.prog X.w X.K X.mg X.base (CXE X.prog X.w X.K) k f fd ps sp) (hr:a2Z k X.A) (hg:Gl X x) (hm:X.mg x=some (.ref f)) (hk:PySem.W.keepIn X.K (.ref f)=true) (hb:a0K X.K fd ps ds) (hd:a1f dvs ds)
  (ha:∀xe,PA (X.on xe) (e::es) t) (hdb:(x == ("__debug__":Str))=false:=by decide) (he:starEach (e::es) X.env=(false,eval e X.env)::starEach es X.env:=by rfl) (hpl:(backTo pos (starEach es X.env)).any (·.1)=false:=by rfl):
  PXE X (.Call (.Name x p) (e::es) [] pos) (b4I sp dvs t):=by
 intro pins s σ H Q W I h
 refine wpAny_Call_Name_kw (a3m I hg hm ?_ hdb)
 refine PySem.W.callWith_K (h₀:=X.base) I.ok.mod.kin hk (thn (ha (XP X pins fun σ' x C H'=>σ'=σ∧W x C H') pos pins s σ H _ I.on h) fun us s1 z=>?_) he hpl
 obtain ⟨vs,H1,I1,r,q⟩:=b6Z z
 exact ⟨I1.kIn,b4P F hr hb hd I1 r q⟩
def b5z (t:VK→(Addr→Addr→Hp→Prop)→St→Hp→Prop):TX:=fun D W σ H=>t (fun _ H'=>D.nx σ H') (W σ) σ H
theorem c1V {σ:St} {W:XW} {e:Value} {s:Shared} (h:XP X pins (fun σ' x C H'=>σ'=σ∧W σ x C H') e s):XP X pins W e s:=by
 obtain ⟨_,H,x,C,od,oT,a,b,c,d,rfl,w⟩:=h
 exact ⟨_,H,x,C,od,oT,a,b,c,d,w⟩
theorem b0H {M:Model} {A:Around} {E:Value→Shared→Prop} {s:Shared} {env:Env} {st:Stmt} {Q:Flow→Shared→Prop} (h:wpAny M A (exec st env) Q E s):wpAny M A (execs [st] env) Q E s:=by
 unfold execs
 refine wpAny_bind (thn h fun f s' q=>?_)
 cases f with
 | next=>unfold execs;exact wpAny_pure q
 | _=>exact wpAny_pure q
theorem b1g {e:Expr} {t:VK→(Addr→Addr→Hp→Prop)→St→Hp→Prop} {pos:Pos} (he:PXE X e t) (hs:swapsWith e none pos.line X.env=pure false:=by rfl):PXs X [.Expr e pos] (b5z t):=by
 intro pins s σ H D W I h
 refine b0H (wpAny_Expr_any (wpAny_mono (he pins s σ H _ _ I h) (fun v s1 ⟨x,H1,I1,r1,q1⟩=>⟨σ,H1,I1,q1⟩) fun e s' z=>c1V z) I.quiet hs)
theorem a4n {M:Model} {A:Around} {E:Value→Shared→Prop} {i:Nat} {x:Str} {pos:Pos} {Q:Unit→Shared→Prop} (I:Inv X pins σ H s) (hN:X.N.Nodup) (hi:X.N[i]?=some x) (hk:X.env.scope.names.lookup x=some .local) (h:∀s',Inv X pins (σ.set i none) H s'→Q () s'):
  wpAny M A (do bindName X.env x .none;unbindBehindTheSuite X.env x pos) Q E s:=by
 obtain ⟨m,hn,hl⟩:=id I.loc
 have hcls:(X.env.scope.kind == .class || (X.env.scope.kind == .module && X.env.locals != X.env.globals))=false:=by rw [I.ok.kind];rfl
 have hiσ:i < σ.length:=by rw [I.len];exact (List.getElem?_eq_some_iff.mp hi).1
 have cne:=I.cne
 refine wpAny_nameGoes_keeps hk hn hcls fun h' v hn' hs=>?_
 refine h _ ⟨I.ok,I.os,I.bare,⟨fun b o e n hb hx=>?_,fun b o e n hb hx=>?_,I.base.free,fun b o e hx=>?_,I.base.tups,I.base.frzs,I.base.tbls⟩,⟨_,hn',fun j y v' e1 e2 e3=>?_⟩,fun y c e=>?_,I.free,I.freeC,fun p hp=>?_,fun b ob e=>?_,by simpa using I.len⟩
 ·exact (hs.2 b (Nat.ne_of_lt (Nat.lt_of_lt_of_le (Heap.lt_size e) I.ok.above))).trans (I.base.keep b o e n hb hx)
 ·obtain ⟨sl,e1⟩:=I.base.slot b o e n hb hx
  exact ⟨sl,(hs.2 b (Nat.ne_of_lt (Nat.lt_of_lt_of_le (Heap.lt_size e) I.ok.above))).trans e1⟩
 ·obtain ⟨o',e1⟩:=I.base.there b o e hx
  exact ⟨o',(hs.2 b (Nat.ne_of_lt (Nat.lt_of_lt_of_le (Heap.lt_size e) I.ok.above))).trans e1⟩
 ·by_cases hj:j=i
  ·subst hj
   rw [List.getElem?_set_self hiσ] at e2
   cases e2
  ·rw [List.getElem?_set_ne (Ne.symm hj)] at e2
   obtain ⟨u',r',q⟩:=hl j y v' e1 e2 e3
   refine ⟨u',r',?_⟩
   rcases q with ⟨k,e⟩ | ⟨k,c,e,z⟩
   ·refine .inl ⟨k,?_⟩
    have:y≠x:=fun e=>hj (a6j hN e1 (e ▸ hi))
    simp [this,e]
   ·exact .inr ⟨k,c,e,z.sameBut hs (cne y c e)⟩
 ·obtain ⟨w',z⟩:=I.cell y c e
  exact ⟨w',z.sameBut hs (cne y c e)⟩
 ·obtain ⟨e,n,ne,nf,d⟩:=I.pin p hp
  exact ⟨(hs.2 p.1 ne).trans e,n,ne,nf,d⟩
 ·refine (I.hok b ob e).stay (fun c w' hc q=>(hs.2 c ?_).trans q) (fun _ q=>q) fun _ _ q=>q
  rintro rfl
  rcases hc with rfl | hc
  ·rw [I.free] at e;cases e
  ·rw [I.free] at hc;cases hc
end
end L2
namespace L2
open PySem PySem.Spec PySem.W PySem.Calls PyProof.Rows
theorem a7r {prog:Program} {w:World} {A:Around} {E:Value→Shared→Prop} {h:Heap} {g:Array GenState} {d:Drawn} {t:Nat} {os:OsState} {K:PySem.W.Frag} {x C D:Addr} {oe:Obj} {b:Bool} {Q:Bool→Shared→Prop} (k:K.In h) (Y:a4M K D) (he:h.get? x=some oe) (hc:oe.cls=.ref C) (hm:mroIn K C (.ref D)=some b)
  (hq:Q b ⟨h,g,d,t,os⟩):wpAny (model prog w) A (excMatches (.ref x) (.ref D)) Q E ⟨h,g,d,t,os⟩:=by
 obtain ⟨nm,qn,N,bs,bm,hdct,sn,sub,ab,col,dd,k0,k1,k2,k3,k5,newId,hD,hbase⟩:=Y.obj prog w k
 have hcB:(Value.ref D::bm).contains (.type "BaseException")=true:=by rw [List.contains_cons,hbase,Bool.or_true]
 have f:=tc_notTuple
 have lm:Looks (model prog w) h (isSubtype (.ref C) (.ref D)) b:=looks_mroIn k hm
 unfold excMatches
 repeat (first | (with_reducible refine wpAny_loadPart_at he ?_;rw [hc]) | with_reducible refine wpAny_loadPart_at hD ?_ | (with_reducible refine wpAny_isSubtype_exc hD ?_;rw [hcB]) | (with_reducible refine wpAny_bind (lm.at ?_)) | wp_step)
 cases b
 ·rw [if_neg (by decide)]
  repeat wp_step
  exact hq
 ·rw [if_pos rfl]
  repeat wp_step
  exact hq
def c4q (K:PySem.W.Frag) (D:Addr) (i:Nat) (tb:TX) (ts:TS):TS:=fun E σ H=>tb E (fun σ' x C H'=>mroIn K C (.ref D)=some true∧∃od oT,Arr H' x C od oT∧∀H'' T',But x oT H' H'' T'→Fl H'' x C od .none T'→
 ts {nx:=fun σ2 H3=>E.nx (σ2.set i none) H3,rt:=E.rt,bk:=fun σ2 H3=>E.bk (σ2.set i none) H3,ct:=fun σ2 H3=>E.ct (σ2.set i none) H3} (σ'.set i (some (.ref x))) H'') σ H
section
variable {X:Cx} {L D:Addr} {outer:List Env} {body suite:List Stmt} {b₀:Stmt} {tb:TX} {ts:TS} {cn n:Str} {cp hp pos:Pos} {i:Nat}
theorem b0Z {x:Addr} {pins:List (Addr×Obj)} {E:a8I} {f:Flow} {s:Shared} (hd:X.calm=true→X.A.handled=none) (fr:X.A.frames=some X.stack) (h:SP (X.held x) pins E f s):SP X pins E f s:=by
 cases f with
 | next=>obtain ⟨σ',H',J,q⟩:=h;exact ⟨σ',H',J.unheld hd fr,q⟩
 | brk=>obtain ⟨σ',H',J,q⟩:=h;exact ⟨σ',H',J.unheld hd fr,q⟩
 | cont=>obtain ⟨σ',H',J,q⟩:=h;exact ⟨σ',H',J.unheld hd fr,q⟩
 | ret u=>obtain ⟨v,σ',H',J,r⟩:=h;exact ⟨v,σ',H',J.unheld hd fr,r⟩
theorem b7C (hst:X.stack=X.env::outer) (hf:X.env.frame=some L) (hb:PXs X body tb) (hg:Gl X cn) (hm:X.mg cn=some (.ref D)) (Y:a4M X.K D) (hN:X.N.Nodup) (hi:X.N[i]?=some n) (hk:X.env.scope.names.lookup n=some .local)
  (hsu:∀x,PSs (X.held x) (b₀::suite) ts) (hdb:(cn == ("__debug__":Str))=false:=by decide):PS X (.Try body [.ExceptHandler (some (.Name cn cp)) (some n) (b₀::suite) hp] [] [] pos) (c4q X.K D i tb ts):=by
 intro pins s σ H E I h
 refine wpAny_Try_except (wpAny_mono (hb pins s σ H _ _ I h) (fun f s1 q=>?_) fun e s1 q=>?_)
 ·cases f with
  | next=>show wpAny _ _ (execs [] X.env) _ _ _;unfold execs;exact wpAny_pure q
  | _=>exact q
 obtain ⟨σ1,H1,x,C,od,oT,rfl,I1,ha,xc,hmro,od1,oT1,ha1,q⟩:=q
 obtain ⟨_,rfl,rfl⟩:=Arr.uniq I1.hok ha ha1
 have hd:=I1.ok.hd
 have fr:=I1.ok.frames
 refine a8D I1 hst hf ha fun H2 s2 T2 I2 b2 f2=>a2c I2 f2 fun H3 s3 I3 b3 f3=>?_
 refine wpAny_handleBy_cons (codeAny_handlers_test ?_) (by intro q;cases q)
 refine a3m (X:=X.held x) I3.held hg hm ?_ hdb
 obtain ⟨vs,sl,hx⟩:=a6I I3.hok f3.isX
 obtain ⟨hh,gg,dd,tt,oo⟩:=s3
 refine a7r I3.kIn Y hx rfl hmro ?_
 show codeAny _ _ _ _ _
 refine codeAny_handlers_suite_as ?_
 refine a2c I3 f3 fun H4 s4 I4 b4 f4=>?_
 refine a6f I4 hN hi (.inl hk) (v:=.ref x) rfl (fun s5 I5=>?_) (.inr hk)
 refine wpAny_mono (hsu x pins s5 _ _ _ I5.held (q H4 T2 ((b2.tr b3 f3.1).tr b4 f4.1) f4)) (fun f s6 q6=>?_) fun e s' z=>z.elim
 have q7:=b0Z hd fr q6
 cases f with
 | next=>obtain ⟨σ',H',J,q⟩:=q7;exact a4n J hN hi hk fun s7 J7=>⟨_,H',J7,q⟩
 | brk=>obtain ⟨σ',H',J,q⟩:=q7;exact a4n J hN hi hk fun s7 J7=>⟨_,H',J7,q⟩
 | cont=>obtain ⟨σ',H',J,q⟩:=q7;exact a4n J hN hi hk fun s7 J7=>⟨_,H',J7,q⟩
 | ret u=>obtain ⟨v,σ',H',J,r⟩:=q7;exact a4n J hN hi hk fun s7 J7=>⟨v,_,H',J7,r⟩
def b6y (K:PySem.W.Frag) (D:Addr) (tb:TX) (ts:TS):TS:=fun E σ H=>tb E (fun σ' x C H'=>mroIn K C (.ref D)=some true∧∃od oT,Arr H' x C od oT∧∀H'' T',But x oT H' H'' T'→Fl H'' x C od .none T'→ts E σ' H'') σ H
theorem b5t (hst:X.stack=X.env::outer) (hf:X.env.frame=some L) (hb:PXs X body tb) (hg:Gl X cn) (hm:X.mg cn=some (.ref D)) (Y:a4M X.K D)
  (hsu:∀x,PSs (X.held x) (b₀::suite) ts) (hdb:(cn == ("__debug__":Str))=false:=by decide):PS X (.Try body [.ExceptHandler (some (.Name cn cp)) none (b₀::suite) hp] [] [] pos) (b6y X.K D tb ts):=by
 intro pins s σ H E I h
 refine wpAny_Try_except (wpAny_mono (hb pins s σ H _ _ I h) (fun f s1 q=>?_) fun e s1 q=>?_)
 ·cases f with
  | next=>show wpAny _ _ (execs [] X.env) _ _ _;unfold execs;exact wpAny_pure q
  | _=>exact q
 obtain ⟨σ1,H1,x,C,od,oT,rfl,I1,ha,xc,hmro,od1,oT1,ha1,q⟩:=q
 obtain ⟨_,rfl,rfl⟩:=Arr.uniq I1.hok ha ha1
 have hd:=I1.ok.hd
 have fr:=I1.ok.frames
 refine a8D I1 hst hf ha fun H2 s2 T2 I2 b2 f2=>a2c I2 f2 fun H3 s3 I3 b3 f3=>?_
 refine wpAny_handleBy_cons (codeAny_handlers_test ?_) (by intro q;cases q)
 refine a3m (X:=X.held x) I3.held hg hm ?_ hdb
 obtain ⟨vs,sl,hx⟩:=a6I I3.hok f3.isX
 obtain ⟨hh,gg,dd,tt,oo⟩:=s3
 refine a7r I3.kIn Y hx rfl hmro ?_
 show codeAny _ _ _ _ _
 refine codeAny_handlers_suite ?_
 refine a2c I3 f3 fun H4 s4 I4 b4 f4=>?_
 refine wpAny_mono (hsu x pins s4 _ _ _ I4.held (q H4 T2 ((b2.tr b3 f3.1).tr b4 f4.1) f4)) (fun f s6 q6=>?_) fun e s' z=>z.elim
 exact b0Z hd fr q6
end
end L2
namespace L2
open PySem PySem.Spec PySem.W PySem.Calls PyProof.Rows
section
variable {P:Program} {w:World} {K:PySem.W.Frag} {mg:Str→Option Value} {base:Heap}
theorem Fun.okX {CX:CXT} {x qual:Str} {st:Stmt} {f:Addr} {fd:FuncData} {N ps:List Str} {k:Nat} {sp:Sp} (F:Fun K x qual st f fd) (S:a0t N ps (a0a st)) (len:∀vs H Q E,sp vs H Q E→vs.length=ps.length)
  (hbody:∀(cdv:Value) (A:Around) (outer:List Env) (s:Shared) (H:Hp) (vs:List V) (Q:VK) (E:XK),a2Z k (A.deeper (envOfC qual (a0a st) s.heap.objs.size f cdv))→sp vs H Q E→
   ∃t,PSs (b1O CX P w K mg base N qual (a0a st) f cdv A outer s H E) (a0c st) t∧t {nx:=fun _ H'=>Q .non H',rt:=Q} (a0N N vs) H):a1y P w K mg base CX (k+1) f fd ps sp:=by
 obtain ⟨oc,od,kV,doc,pm,an,cdv,ct,osl,rfl,lk,hcd⟩:=F.ex
 refine b5a lk hcd S len fun A outer s H vs Q E hr hsp=>?_
 exact hbody cdv A outer s H vs Q E hr hsp
end
end L2
namespace L2
open PySem PySem.Spec PySem.W PySem.Calls PyProof.Rows
structure NS (H H':Hp) (x d T C:Addr) (m:Str) (v:V):Prop where
 same:a0A H H'
 nx:H x=none
 nT:H T=none
 fl:Fl H' x C (some d) .none T
 di:H' d=some (.xd [(m,v)])
theorem a5b {H H1:Hp} (s:a0A H H1) {b:Addr} (h:H1 b=none):H b=none:=by
 cases e:H b with
 | none=>rfl
 | some o=>rw [s _ _ e] at h;cases h
theorem NS.mono {H H1 H':Hp} {x d T C:Addr} {m:Str} {v:V} (s:a0A H H1) (n:NS H1 H' x d T C m v):NS H H' x d T C m v:=
 ⟨s.trans n.same,a5b s n.nx,a5b s n.nT,n.fl,n.di⟩
theorem NS.caught {H H' H'':Hp} {x d T C T':Addr} {m:Str} {v:V} (n:NS H H' x d T C m v) (b:But x (some T) H' H'' T') (f:Fl H'' x C (some d) .none T'):a0A H H''∧b3g H'' x C m v:=by
 have keep:∀a o,a≠x→a≠T→H' a=some o→H'' a=some o:=fun a o h1 h2 e=>b.1 a o h1 (fun z=>h2 (Option.some.inj z)) e
 refine ⟨fun a o e=>keep a o (fun z=>by rw [z,n.nx] at e;cases e) (fun z=>by rw [z,n.nT] at e;cases e) (n.same _ _ e),d,.inr ⟨T',f.2.1⟩,keep d _ (fun z=>?_) (fun z=>?_) n.di⟩
 ·have:=n.di;rw [z,n.fl.2.1] at this;cases this
 ·have:=n.di;rw [z,n.fl.2.2] at this;cases this
theorem a3Z {K:PySem.W.Frag} {C:Addr} {m:Str} {E0 E:XK} {t:TA} {σ:St} {H:Hp} {v:V} (O:a4M K C) (ht:∀R:List V→Hp→Prop,R [v] H→t σ H R)
  (h:∀x d T H',NS H H' x d T C m v→E (.ref x) (some C) H'):b3M C (c1S C m) [] E0 t σ H fun v H1=>∃x C od,v=.ref x∧H1 x=some (a7b x C od)∧a4M K C∧∀H' T',But x none H1 H' T'→Fl H' x C od .none T'→E (.ref x) (some C) H':=by
 refine ht _ ⟨show 1≤1000 by decide,fun x hx=>⟨x,v,rfl,a0v,fun d hd=>⟨rfl,x,C,some d,rfl,?_,O,fun H' T' b f=>?_⟩⟩⟩
 ·have hxd:d≠x:=fun z=>by rw [z,a0v] at hd;cases hd
  rw [a0w hxd.symm,a0v]
 have hxd:d≠x:=fun z=>by rw [z,a0v] at hd;cases hd
 rw [a0w hxd] at hd
 have up:∀a o,H a=some o→upd (upd (upd H x (a7b x C none)) x (a7b x C (some d))) d (.xd [(m,v)]) a=some o:=fun a o e=>by
  have hax:a≠x:=fun z=>by rw [z,hx] at e;cases e
  have had:a≠d:=fun z=>by rw [z,hd] at e;cases e
  rw [a0w had,a0w hax,a0w hax];exact e
 refine h x d T' H' ⟨fun a o e=>b.1 a o (fun z=>by rw [z,hx] at e;cases e) (fun z=>nomatch z) (up a o e),hx,?_,f,b.1 d _ hxd (fun z=>nomatch z) a0v⟩
 rcases b.2 with q | q
 ·cases e:H T' with
  | none=>rfl
  | some o=>rw [up _ _ e] at q;cases q
 ·cases q
end L2
namespace L2
open PySem PySem.Spec PySem.W PySem.Calls PyProof.Rows
end L2
namespace L2
open PySem PySem.Spec PySem.W PySem.Calls PyProof.Rows
end L2
namespace L2
open PySem PySem.Spec PySem.W PySem.Calls PyProof.Rows
end L2
namespace Tx
open PySem PySem.Builtin PySem.Builtin.Str PySem.StrLaws PyProof.Rows
def a1I (s sub:Str) (hi limit:Nat) (st:Array Nat×Nat) (i:Nat):Array Nat×Nat:=
 if ((st.fst.size < limit∧st.snd≤i)∧i+sub.length≤hi)∧subAt s sub i=true then (st.fst.push i,i+sub.length) else (st.fst,st.snd)
theorem a5i (s sub:Str) (hi limit:Nat):∀(is:List Nat) (st:Array Nat×Nat),(forIn is st (occBody s sub hi limit)).run=is.foldl (a1I s sub hi limit) st
 | [],st=>rfl
 | i::is,st=>by
  rw [List.forIn_cons,List.foldl_cons,←a5i s sub hi limit is]
  unfold occBody a1I
  split<;>rfl
theorem a7h (s sub:Str) (hi limit:Nat):∀(is:List Nat) (st:Array Nat×Nat),(is.foldl (a1I s sub hi limit) st).1.size≤st.1.size+is.length
 | [],st=>Nat.le_refl _
 | i::is,st=>by
  have h:=a7h s sub hi limit is (a1I s sub hi limit st i)
  have h2:(a1I s sub hi limit st i).1.size≤st.1.size+1:=by
   unfold a1I
   split
   ·simp
   ·exact Nat.le_succ _
  rw [List.foldl_cons,List.length_cons]
  omega
theorem b1r {s sub:Str} {hi limit:Nat}:∀(is:List Nat) (st:Array Nat×Nat),(∀i∈is,subAt s sub i=false)→is.foldl (a1I s sub hi limit) st=st
 | [],st,_=>rfl
 | i::is,st,h=>by
  rw [List.foldl_cons,show a1I s sub hi limit st i=st from if_neg fun z=>by rw [h i List.mem_cons_self] at z;exact Bool.false_ne_true z.2]
  exact b1r is st fun j hj=>h j (List.mem_cons_of_mem _ hj)
theorem a5x {s sub:Str} {hi limit:Nat}:∀(is:List Nat) (st:Array Nat×Nat),limit≤st.1.size→is.foldl (a1I s sub hi limit) st=st
 | [],st,_=>rfl
 | i::is,st,h=>by
  rw [List.foldl_cons,show a1I s sub hi limit st i=st from if_neg fun z=>by have:=z.1.1.1;omega]
  exact a5x is st h
theorem b4S (s sub:Str) (limit:Nat):(occurrences s sub 0 s.length limit).length≤s.length+1:=by
 rw [occ_eq,a5i]
 have:=a7h s sub s.length limit (List.range' 0 (s.length+1 - 0)) (#[],0)
 simpa using this
theorem b1W {s sub:Str} {k:Nat} (h1:∀i,i < k→subAt s sub i=false) (h2:subAt s sub k=true) (h3:k+sub.length≤s.length):occurrences s sub 0 s.length 1=[k]:=by
 rw [occ_eq,a5i,Nat.sub_zero,←List.range_eq_range']
 have e:s.length+1=k+(1+(s.length - k)):=by omega
 rw [e,List.range_add,List.foldl_append,b1r _ _ fun i hi=>h1 i (List.mem_range.mp hi)]
 rw [Nat.add_comm 1,List.range_succ_eq_map,List.map_cons,List.foldl_cons,Nat.add_zero]
 rw [show a1I s sub s.length 1 (#[],0) k=(#[k],k+sub.length) from if_pos ⟨⟨⟨Nat.zero_lt_one,Nat.zero_le _⟩,h3⟩,h2⟩]
 rw [a5x _ _ (by simp)]
theorem a8K {a sep b:List Nat} (h:∀i,i < a.length→subAt (mk (a++sep++b)) (mk sep) i=false):Txt.partition (mk (a++sep++b)) (mk sep)=(mk a,mk sep,mk b):=by
 have h2:subAt (mk (a++sep++b)) (mk sep) a.length=true:=by
  rw [subAt_eq,a0i]
  simp
 unfold Txt.partition
 rw [b1W h h2 (by rw [a0i,a0i];simp)]
 show (strSub (mk (a++sep++b)) 0 a.length,mk sep,strSub (mk (a++sep++b)) (a.length+(mk sep).length) (mk (a++sep++b)).length)=_
 rw [a3i,a3i,a0i,a0i]
 have e1:List.drop (a.length+sep.length) (a++sep++b)=b:=by
  rw [←List.length_append,List.drop_left]
 have e2:List.take ((a++sep++b).length - (a.length+sep.length)) b=b:=List.take_of_length_le (by simp;omega)
 rw [e1,e2]
 simp
theorem a6C (l:List Nat) (i j:Nat):(strSub (mk l) i j).length≤l.length:=by
 rw [a3i,a0i]
 exact Nat.le_trans (List.length_take_le' _ _) (by rw [List.length_drop];omega)
theorem b0l (l:List Nat) (y:Str):(Txt.partition (mk l) y).1.length≤l.length∧(Txt.partition (mk l) y).2.2.length≤l.length:=by
 unfold Txt.partition
 split
 ·exact ⟨a6C _ _ _,a6C _ _ _⟩
 ·exact ⟨Nat.le_of_eq (a0i l),Nat.zero_le _⟩
theorem a9h (l:List Nat) (w:Nat):∀(cuts:List Nat) (a:Nat),(∀p∈partsFrom (mk l) w a cuts,p.length≤l.length)∧(partsFrom (mk l) w a cuts).length=cuts.length+1
 | [],a=>⟨fun p hp=>by rw [List.mem_singleton.mp hp];exact a6C _ _ _,rfl⟩
 | c::r,a=>by
  obtain ⟨h1,h2⟩:=a9h l w r (c+w)
  refine ⟨fun p hp=>?_,by show _+1=_;rw [h2];rfl⟩
  rcases List.mem_cons.mp hp with z | z
  ·rw [z];exact a6C _ _ _
  ·exact h1 p z
theorem b3l (l:List Nat) (y:Str):(∀p∈Txt.split (mk l) y,p.length≤l.length)∧(Txt.split (mk l) y).length≤l.length+2:=by
 have whole:(∀p∈[mk l],p.length≤l.length)∧[mk l].length≤l.length+2:=⟨fun p hp=>by rw [List.mem_singleton.mp hp];exact Nat.le_of_eq (a0i l),by simp⟩
 unfold Txt.split
 split
 ·exact whole
 ·split
  ·exact whole
  ·rw [partsBetween_eq]
   obtain ⟨h1,h2⟩:=a9h l y.length (occurrences (mk l) y 0 (mk l).length ((mk l).length+1)) 0
   have h3:=b4S (mk l) y ((mk l).length+1)
   rw [a0i] at h3
   exact ⟨h1,by rw [h2,a0i];omega⟩
theorem a8F (l:List Nat) (c d i:Nat):subAt (mk l) (mk [c,d]) i=decide (l[i]?=some c∧l[i+1]?=some d):=by
 rw [subAt_eq]
 show ((l.drop i).take 2 == [c,d])=_
 have e1:(l.drop i)[0]?=l[i]?:=by simp
 have e2:(l.drop i)[1]?=l[i+1]?:=by simp
 rw [←e1,←e2]
 generalize l.drop i=m
 match m with
 | []=>rfl
 | [x]=>simp
 | x::y::r=>
  show ([x,y] == [c,d])=decide (some x=some c∧some y=some d)
  rw [Bool.eq_iff_iff];simp
def a9N (l:List Nat) (c d:Nat) (is:List Nat):List Nat:=is.filter fun i=>decide (l[i]?=some c∧l[i+1]?=some d)
theorem a6r {c d:Nat} (hcd:c≠d) (l:List Nat) (limit:Nat):∀(is:List Nat) (st:Array Nat×Nat),is.Pairwise (· < ·)→(∀i∈is,st.2≤i∨¬(l[i]?=some c∧l[i+1]?=some d))→st.1.size≤limit→
  (is.foldl (a1I (mk l) (mk [c,d]) l.length limit) st).1.toList=st.1.toList++(a9N l c d is).take (limit - st.1.size)
 | [],st,_,_,_=>by simp [a9N]
 | i::is,st,hp,hf,hs=>by
  have hp':=List.pairwise_cons.mp hp
  rw [List.foldl_cons]
  by_cases hq:l[i]?=some c∧l[i+1]?=some d
  ·have hi:=(List.getElem?_eq_some_iff.mp hq.2).1
   have hst:st.2≤i:=(hf i List.mem_cons_self).resolve_right fun z=>z hq
   by_cases hl:st.1.size < limit
   ·rw [show a1I (mk l) (mk [c,d]) l.length limit st i=(st.1.push i,i+2) from if_pos ⟨⟨⟨hl,hst⟩,by rw [a0i];simp;omega⟩,by rw [a8F];exact decide_eq_true hq⟩]
    rw [a6r hcd l limit is (st.1.push i,i+2) hp'.2 (fun j hj=>?_) (by simp;omega)]
    ·unfold a9N
     rw [List.filter_cons,if_pos (by simpa using hq)]
     have e:limit - st.1.size=(limit - (st.1.push i).size)+1:=by simp;omega
     rw [e,List.take_succ_cons]
     simp
    ·have:=hp'.1 j hj
     by_cases z:j=i+1
     ·right
      rintro ⟨q1,_⟩
      rw [z,hq.2] at q1
      exact hcd (Option.some.inj q1).symm
     ·left
      show i+2≤j
      omega
   ·rw [show a1I (mk l) (mk [c,d]) l.length limit st i=st from if_neg fun z=>hl z.1.1.1]
    rw [a5x _ _ (by omega),show limit - st.1.size=0 by omega]
    simp
  ·rw [show a1I (mk l) (mk [c,d]) l.length limit st i=st from if_neg fun z=>by rw [a8F] at z;exact hq (of_decide_eq_true z.2)]
   rw [a6r hcd l limit is st hp'.2 (fun j hj=>hf j (List.mem_cons_of_mem _ hj)) hs]
   unfold a9N
   rw [List.filter_cons,if_neg (by simpa using hq)]
theorem b0Q {l:List Nat} {c d:Nat} (h:d∉l) (is:List Nat):a9N l c d is=[]:=by
 unfold a9N
 rw [List.filter_eq_nil_iff]
 intro i _ z
 exact h (List.mem_of_getElem? (of_decide_eq_true z).2)
theorem a9i {a b:List Nat} {c d:Nat} (hcd:c≠d) (h:d∉a):a9N (a++c::d::b) c d (List.range ((a++c::d::b).length+1))=a.length::(a9N b c d (List.range (b.length+1))).map (·+(a.length+2)):=by
 have e:(a++c::d::b).length+1=a.length+(1+(1+(b.length+1))):=by simp;omega
 unfold a9N
 rw [e,List.range_add,List.filter_append,List.filter_eq_nil_iff.mpr,List.nil_append]
 ·have e2:List.range (1+(1+(b.length+1)))=0::1::(List.range (b.length+1)).map (·+2):=by
   rw [Nat.add_comm 1,List.range_succ_eq_map,Nat.add_comm 1,List.range_succ_eq_map,List.map_cons,List.map_map];rfl
  rw [e2,List.map_cons,List.map_cons,List.map_map,List.filter_cons,if_pos (by simp),List.filter_cons,if_neg (by simp [Ne.symm hcd]),List.filter_map]
  congr 1
  have e3:((fun x=>a.length+x)∘(fun x=>x+2))=(fun x=>x+(a.length+2)):=by funext x;simp;omega
  rw [e3]
  congr 1
  refine List.filter_congr fun i _=>?_
  simp only [Function.comp]
  rw [List.getElem?_append_right (by omega),show i+(a.length+2) - a.length=i+2 by omega,List.getElem?_append_right (by omega),show i+(a.length+2)+1 - a.length=i+3 by omega]
  rfl
 ·intro i hi z
  have hi':=List.mem_range.mp hi
  obtain ⟨_,z2⟩:=of_decide_eq_true z
  by_cases hk:i+1 < a.length
  ·rw [List.getElem?_append_left hk] at z2
   exact h (List.mem_of_getElem? z2)
  ·rw [List.getElem?_append_right (by omega),show i+1 - a.length=0 by omega] at z2
   exact hcd (Option.some.inj z2)
def a2L (c d:Nat):List (List Nat)→List Nat
 | []=>[]
 | a::r=>a++r.flatMap fun b=>[c,d]++b
theorem a4V (c d:Nat) (a b:List Nat) (r:List (List Nat)):a2L c d (a::b::r)=a++c::d::a2L c d (b::r):=by
 show a++(b::r).flatMap (fun b=>[c,d]++b)=a++c::d::(b++r.flatMap fun b=>[c,d]++b)
 rw [List.flatMap_cons];simp
theorem a5Q {c d:Nat} (hcd:c≠d):∀(bs:List (List Nat)) (a:List Nat),(∀b∈a::bs,d∉b)→partsFrom (mk (a2L c d (a::bs))) 2 0 (a9N (a2L c d (a::bs)) c d (List.range ((a2L c d (a::bs)).length+1)))=(a::bs).map mk
 | [],a,h=>by
  have e:a2L c d [a]=a:=by simp [a2L]
  rw [e,b0Q (h a List.mem_cons_self)]
  show [strSub (mk a) 0 (mk a).length]=[mk a]
  rw [a3i,a0i];simp
 | b::bs,a,h=>by
  have ih:=a5Q hcd bs b fun x hx=>h x (List.mem_cons_of_mem _ hx)
  rw [a4V,a9i hcd (h a List.mem_cons_self)]
  generalize a2L c d (b::bs)=g at ih ⊢
  show strSub (mk (a++c::d::g)) 0 a.length::partsFrom (mk (a++c::d::g)) 2 (a.length+2) _=mk a::_
  have e:a++c::d::g=(a++[c,d])++g:=by simp
  have hl:(a++[c,d]).length=a.length+2:=by simp
  rw [a3i]
  refine congr (congrArg List.cons (by simp)) ?_
  rw [e,←hl]
  have:=a3p (a++[c,d]) g 2 (a9N g c d (List.range (g.length+1))) 0
  rw [Nat.zero_add] at this
  rw [this]
  exact ih
theorem b3i {c d:Nat} (hc:c < 256) (hd:d < 256) (x:Str):decide (PySem.Builtin.Str.strKind x < PySem.Builtin.Str.strKind (mk [c,d]))=false:=by
 have e:PySem.Builtin.Str.strKind (mk [c,d])=1:=by
  unfold PySem.Builtin.Str.strKind
  rw [if_pos (by simp [hc,hd])]
 rw [e,decide_eq_false_iff_not]
 unfold PySem.Builtin.Str.strKind
 split
 ·omega
 ·split<;>omega
theorem b0R {c d:Nat} (hc:c < 256) (hd:d < 256) (hcd:c≠d) (a:List Nat) (bs:List (List Nat)) (h:∀b∈a::bs,d∉b):Txt.split (mk (a2L c d (a::bs))) (mk [c,d])=(a::bs).map mk:=by
 have ho:occurrences (mk (a2L c d (a::bs))) (mk [c,d]) 0 (a2L c d (a::bs)).length ((a2L c d (a::bs)).length+1)=a9N (a2L c d (a::bs)) c d (List.range ((a2L c d (a::bs)).length+1)):=by
  rw [occ_eq,a5i,Nat.sub_zero,←List.range_eq_range',a6r hcd _ _ _ _ (by rw [List.range_eq_range'];exact a9r _) (fun i _=>.inl (Nat.zero_le _)) (Nat.zero_le _)]
  rw [List.take_of_length_le]
  ·rfl
  ·unfold a9N
   exact Nat.le_trans (List.length_filter_le _ _) (by simp)
 have hp:=a5Q hcd bs a h
 cases bs with
 | nil=>
  have e:a2L c d [a]=a:=by simp [a2L]
  rw [e] at ho ⊢
  unfold Txt.split
  split
  ·rfl
  ·rw [a0i,ho,b0Q (h a List.mem_cons_self)];rfl
 | cons b bs=>
  have hl:¬(mk (a2L c d (a::b::bs))).length < (mk [c,d]).length:=by
   rw [a4V,a0i,a0i];simp;omega
  unfold Txt.split
  rw [b3i hc hd,Bool.or_false,if_neg (by simpa using hl),a0i,ho,partsBetween_eq,a0i]
  rw [if_neg]
  ·exact hp
  rw [a4V,a9i hcd (h a List.mem_cons_self)];simp
end Tx
namespace L2
open PySem
theorem c7Z {a b c:Prop} (h:a):a∨b∨c:=Or.inl h
theorem c8Z {a b c:Prop} (h:b):a∨b∨c:=Or.inr (Or.inl h)
theorem c9j {a b c:Prop} (h:c):a∨b∨c:=Or.inr (Or.inr h)
end L2
namespace K13
open PySem L2 Tx
def top (i:Nat):Stmt:=PySem.Challenge.pw_mostwise_k13_whole_rows.main.body.getD i (.Pass ⟨0,0,0,0⟩)
abbrev a4a:Stmt:=a0o (top 3) 0
abbrev b8J:List Str:=["self","found"]
theorem b7V:a0t b8J ["self","found"] (a0a a4a):=⟨rfl,rfl,rfl,by decide+kernel,rfl,by decide+kernel,by decide+kernel⟩
abbrev a4k:Stmt:=a0o (top 4) 0
abbrev b6Y:List Str:=["self","found"]
theorem b7f:a0t b6Y ["self","found"] (a0a a4k):=⟨rfl,rfl,rfl,by decide+kernel,rfl,by decide+kernel,by decide+kernel⟩
abbrev a3u:Stmt:=top 11
abbrev b4r:List Str:=["thing","signs","most"]
theorem b7s:a0t b4r ["thing","signs","most"] (a0a a3u):=⟨rfl,rfl,rfl,by decide+kernel,rfl,by decide+kernel,by decide+kernel⟩
abbrev a3L:Stmt:=top 12
abbrev b8C:List Str:=["thing"]
theorem b7a:a0t b8C ["thing"] (a0a a3L):=⟨rfl,rfl,rfl,by decide+kernel,rfl,by decide+kernel,by decide+kernel⟩
abbrev a4m:Stmt:=top 13
abbrev b8P:List Str:=["thing"]
theorem b8E:a0t b8P ["thing"] (a0a a4m):=⟨rfl,rfl,rfl,by decide+kernel,rfl,by decide+kernel,by decide+kernel⟩
abbrev a4g:Stmt:=top 14
abbrev b6d:List Str:=["thing"]
theorem b6l:a0t b6d ["thing"] (a0a a4g):=⟨rfl,rfl,rfl,by decide+kernel,rfl,by decide+kernel,by decide+kernel⟩
abbrev a3v:Stmt:=top 15
abbrev b5b:List Str:=["behind","places"]
theorem b3v:a0t b5b ["behind"] (a0a a3v):=⟨rfl,rfl,rfl,by decide+kernel,rfl,by decide+kernel,by decide+kernel⟩
abbrev a4F:Stmt:=top 16
abbrev b6f:List Str:=["statement","side","cut","places"]
theorem a8G:a0t b6f ["statement"] (a0a a4F):=⟨rfl,rfl,rfl,by decide+kernel,rfl,by decide+kernel,by decide+kernel⟩
abbrev a3X:Stmt:=top 17
abbrev b7R:List Str:=["thing"]
theorem b8z:a0t b7R ["thing"] (a0a a3X):=⟨rfl,rfl,rfl,by decide+kernel,rfl,by decide+kernel,by decide+kernel⟩
abbrev a3D:Stmt:=top 18
abbrev b8r:List Str:=["statement","letters","place"]
theorem b2a:a0t b8r ["statement"] (a0a a3D):=⟨rfl,rfl,rfl,by decide+kernel,rfl,by decide+kernel,by decide+kernel⟩
abbrev a4J:Stmt:=top 19
abbrev b7g:List Str:=["thing"]
theorem b8j:a0t b7g ["thing"] (a0a a4J):=⟨rfl,rfl,rfl,by decide+kernel,rfl,by decide+kernel,by decide+kernel⟩
abbrev a3H:Stmt:=a0o (top 21) 0
abbrev b6J:List Str:=["self","label","head","body"]
theorem b6n:a0t b6J ["self","label","head","body"] (a0a a3H):=⟨rfl,rfl,rfl,by decide+kernel,rfl,by decide+kernel,by decide+kernel⟩
abbrev a3y:Stmt:=a0o (top 21) 4
abbrev b5D:List Str:=["self","told","statement"]
theorem b1J:a0t b5D ["self"] (a0a a3y):=⟨rfl,rfl,rfl,by decide+kernel,rfl,by decide+kernel,by decide+kernel⟩
abbrev a3K:Stmt:=a0o (top 21) 7
abbrev b7r:List Str:=["self","words"]
theorem b3r:a0t b7r ["self"] (a0a a3K):=⟨rfl,rfl,rfl,by decide+kernel,rfl,by decide+kernel,by decide+kernel⟩
abbrev a4D:Stmt:=a0o (top 22) 0
abbrev b7H:List Str:=["self","head"]
theorem b7i:a0t b7H ["self","head"] (a0a a4D):=⟨rfl,rfl,rfl,by decide+kernel,rfl,by decide+kernel,by decide+kernel⟩
abbrev a4o:Stmt:=a0o (top 22) 1
abbrev b7S:List Str:=["self"]
theorem b7q:a0t b7S ["self"] (a0a a4o):=⟨rfl,rfl,rfl,by decide+kernel,rfl,by decide+kernel,by decide+kernel⟩
abbrev a3I:Stmt:=a0o (top 22) 4
abbrev b7m:List Str:=["self"]
theorem b8c:a0t b7m ["self"] (a0a a3I):=⟨rfl,rfl,rfl,by decide+kernel,rfl,by decide+kernel,by decide+kernel⟩
abbrev a3E:Stmt:=a0o (top 23) 0
abbrev b7v:List Str:=["self"]
theorem b6F:a0t b7v ["self"] (a0a a3E):=⟨rfl,rfl,rfl,by decide+kernel,rfl,by decide+kernel,by decide+kernel⟩
abbrev a3B:Stmt:=a0o (top 24) 0
abbrev b8e:List Str:=["self"]
theorem b8g:a0t b8e ["self"] (a0a a3B):=⟨rfl,rfl,rfl,by decide+kernel,rfl,by decide+kernel,by decide+kernel⟩
abbrev a4G:Stmt:=a0o (top 25) 0
abbrev b8s:List Str:=["self"]
theorem b6x:a0t b8s ["self"] (a0a a4G):=⟨rfl,rfl,rfl,by decide+kernel,rfl,by decide+kernel,by decide+kernel⟩
abbrev a4H:Stmt:=top 30
abbrev b8a:List Str:=["row"]
theorem b8S:a0t b8a ["row"] (a0a a4H):=⟨rfl,rfl,rfl,by decide+kernel,rfl,by decide+kernel,by decide+kernel⟩
abbrev a4z:Stmt:=top 31
abbrev b7b:List Str:=["row","head"]
theorem b3Y:a0t b7b ["row"] (a0a a4z):=⟨rfl,rfl,rfl,by decide+kernel,rfl,by decide+kernel,by decide+kernel⟩
abbrev a4x:Stmt:=top 32
abbrev b8T:List Str:=["word","label","head","body"]
theorem b5W:a0t b8T ["word","label","head","body"] (a0a a4x):=⟨rfl,rfl,rfl,by decide+kernel,rfl,by decide+kernel,by decide+kernel⟩
abbrev a4I:Stmt:=top 33
abbrev b7Z:List Str:=["ahead"]
theorem b7z:a0t b7Z ["ahead"] (a0a a4I):=⟨rfl,rfl,rfl,by decide+kernel,rfl,by decide+kernel,by decide+kernel⟩
abbrev a3n:Stmt:=top 34
abbrev b4w:List Str:=["row","cut","words","sides","body","rule"]
theorem a5G:a0t b4w ["row"] (a0a a3n):=⟨rfl,rfl,rfl,by decide+kernel,rfl,by decide+kernel,by decide+kernel⟩
abbrev a3W:Stmt:=top 35
abbrev b6t:List Str:=["row","rule"]
theorem b1o:a0t b6t ["row"] (a0a a3W):=⟨rfl,rfl,rfl,by decide+kernel,rfl,by decide+kernel,by decide+kernel⟩
abbrev a4B:Stmt:=top 38
abbrev b8p:List Str:=["_law_cell","_law_k","_law_m"]
theorem b1V:a0t b8p ["_law_cell","_law_k"] (a0a a4B):=⟨rfl,rfl,rfl,by decide+kernel,rfl,by decide+kernel,by decide+kernel⟩
abbrev a3O:Stmt:=top 39
abbrev b7t:List Str:=["_law_cell","_law_signs","_law_most","_law_number","_law_found","_law_k"]
theorem a7j:a0t b7t ["_law_cell","_law_signs","_law_most"] (a0a a3O):=⟨rfl,rfl,rfl,by decide+kernel,rfl,by decide+kernel,by decide+kernel⟩
abbrev a4i:Stmt:=top 40
abbrev b8B:List Str:=["_law_cell"]
theorem b5Z:a0t b8B ["_law_cell"] (a0a a4i):=⟨rfl,rfl,rfl,by decide+kernel,rfl,by decide+kernel,by decide+kernel⟩
abbrev a3U:Stmt:=top 41
abbrev b7j:List Str:=["_law_cell"]
theorem b8m:a0t b7j ["_law_cell"] (a0a a3U):=⟨rfl,rfl,rfl,by decide+kernel,rfl,by decide+kernel,by decide+kernel⟩
abbrev a4C:Stmt:=top 42
abbrev b8I:List Str:=["_law_base","_law_k"]
theorem b5S:a0t b8I ["_law_base","_law_k"] (a0a a4C):=⟨rfl,rfl,rfl,by decide+kernel,rfl,by decide+kernel,by decide+kernel⟩
abbrev a4u:Stmt:=top 43
abbrev b6Q:List Str:=["_law_cell","_law_base","_law_many","_law_number"]
theorem b3F:a0t b6Q ["_law_cell","_law_base","_law_many"] (a0a a4u):=⟨rfl,rfl,rfl,by decide+kernel,rfl,by decide+kernel,by decide+kernel⟩
abbrev a3s:Stmt:=top 44
abbrev b4G:List Str:=["_law_cell","_law_base","_law_many","_law_number","_law_places_here"]
theorem b0v:a0t b4G ["_law_cell","_law_base","_law_many"] (a0a a3s):=⟨rfl,rfl,rfl,by decide+kernel,rfl,by decide+kernel,by decide+kernel⟩
abbrev a4s:Stmt:=top 45
abbrev b7d:List Str:=["_law_parts_here"]
theorem b7h:a0t b7d ["_law_parts_here"] (a0a a4s):=⟨rfl,rfl,rfl,by decide+kernel,rfl,by decide+kernel,by decide+kernel⟩
abbrev a3r:Stmt:=top 46
abbrev b4U:List Str:=["_law_cell","_law_number","_law_base","_law_some","_law_size","_law_ahead"]
theorem a5r:a0t b4U ["_law_cell"] (a0a a3r):=⟨rfl,rfl,rfl,by decide+kernel,rfl,by decide+kernel,by decide+kernel⟩
abbrev a3P:Stmt:=top 47
abbrev b7X:List Str:=["_law_row_here","_law_cell","_law_signs","_law_sign","_law_at","_law_way"]
theorem a7S:a0t b7X ["_law_row_here","_law_cell"] (a0a a3P):=⟨rfl,rfl,rfl,by decide+kernel,rfl,by decide+kernel,by decide+kernel⟩
abbrev a4v:Stmt:=top 48
abbrev b6j:List Str:=["_law_cell","_law_some"]
theorem b0t:a0t b6j ["_law_cell"] (a0a a4v):=⟨rfl,rfl,rfl,by decide+kernel,rfl,by decide+kernel,by decide+kernel⟩
abbrev a3t:Stmt:=top 49
abbrev b5A:List Str:=["_law_text_here","_law_signs"]
theorem b7N:a0t b5A ["_law_text_here","_law_signs"] (a0a a3t):=⟨rfl,rfl,rfl,by decide+kernel,rfl,by decide+kernel,by decide+kernel⟩
abbrev a4f:Stmt:=top 50
abbrev b5U:List Str:=["_law_text_here","_law_small"]
theorem b3U:a0t b5U ["_law_text_here"] (a0a a4f):=⟨rfl,rfl,rfl,by decide+kernel,rfl,by decide+kernel,by decide+kernel⟩
abbrev a4E:Stmt:=top 51
abbrev b7B:List Str:=["_law_text_here","_law_cut"]
theorem b4q:a0t b7B ["_law_text_here"] (a0a a4E):=⟨rfl,rfl,rfl,by decide+kernel,rfl,by decide+kernel,by decide+kernel⟩
abbrev a3A:Stmt:=top 52
abbrev b5v:List Str:=["_law_text_here","_law_small","_law_cut"]
theorem a9s:a0t b5v ["_law_text_here"] (a0a a3A):=⟨rfl,rfl,rfl,by decide+kernel,rfl,by decide+kernel,by decide+kernel⟩
abbrev a3F:Stmt:=top 53
abbrev b6I:List Str:=["_law_texts","_law_found","_law_text_here","_law_place_here"]
theorem a9w:a0t b6I ["_law_texts"] (a0a a3F):=⟨rfl,rfl,rfl,by decide+kernel,rfl,by decide+kernel,by decide+kernel⟩
abbrev a3G:Stmt:=top 54
abbrev b7L:List Str:=["_law_words","_law_found","_law_k","_law_word"]
theorem a7s:a0t b7L ["_law_words"] (a0a a3G):=⟨rfl,rfl,rfl,by decide+kernel,rfl,by decide+kernel,by decide+kernel⟩
abbrev a3S:Stmt:=top 55
abbrev b8H:List Str:=["_law_row_here","_law_words","_law_label_here","_law_body"]
theorem a9y:a0t b8H ["_law_row_here"] (a0a a3S):=⟨rfl,rfl,rfl,by decide+kernel,rfl,by decide+kernel,by decide+kernel⟩
abbrev a4y:Stmt:=top 56
abbrev b7M:List Str:=["_law_row_here","_law_caught","e"]
theorem a8W:a0t b7M ["_law_row_here"] (a0a a4y):=⟨rfl,rfl,rfl,by decide+kernel,rfl,by decide+kernel,by decide+kernel⟩
abbrev a3z:Stmt:=top 57
abbrev b5m:List Str:=["_law_row_here","_law_due","_law_rule","_law_classes"]
theorem b1z:a0t b5m ["_law_row_here","_law_due"] (a0a a3z):=⟨rfl,rfl,rfl,by decide+kernel,rfl,by decide+kernel,by decide+kernel⟩
abbrev a1u:Stmt:=top 58
abbrev b0u:List Str:=["_law_script","_law_cell","_law_row_here","_law_way","_law_due"]
theorem a2q:a0t b0u ["_law_script"] (a0a a1u):=⟨rfl,rfl,rfl,by decide+kernel,rfl,by decide+kernel,by decide+kernel⟩
structure Adr where
 f_z00:Addr
 fd_z00:FuncData
 f_z0e:Addr
 fd_z0e:FuncData
 f_z0f:Addr
 fd_z0f:FuncData
 f_z18:Addr
 fd_z18:FuncData
 f_z0z:Addr
 fd_z0z:FuncData
 f_z0n:Addr
 fd_z0n:FuncData
 f_z0o:Addr
 fd_z0o:FuncData
 f_z10:Addr
 fd_z10:FuncData
 f_z03:Addr
 fd_z03:FuncData
 f_z0g:Addr
 fd_z0g:FuncData
 f_z01:Addr
 fd_z01:FuncData
 f_z0p:Addr
 fd_z0p:FuncData
 f_z05:Addr
 fd_z05:FuncData
 f_z11:Addr
 fd_z11:FuncData
 f_z0r:Addr
 fd_z0r:FuncData
 f_z0s:Addr
 fd_z0s:FuncData
 f_z12:Addr
 fd_z12:FuncData
 f_z0t:Addr
 fd_z0t:FuncData
 f_z0u:Addr
 fd_z0u:FuncData
 f_z0l:Addr
 fd_z0l:FuncData
 f_z13:Addr
 fd_z13:FuncData
 f_z19:Addr
 fd_z19:FuncData
 f_z1n:Addr
 fd_z1n:FuncData
 f_z0c:Addr
 fd_z0c:FuncData
 f_z0d:Addr
 fd_z0d:FuncData
 f_z1a:Addr
 fd_z1a:FuncData
 f_z1k:Addr
 fd_z1k:FuncData
 f_z1g:Addr
 fd_z1g:FuncData
 f_z1h:Addr
 fd_z1h:FuncData
 f_z1b:Addr
 fd_z1b:FuncData
 f_z14:Addr
 fd_z14:FuncData
 f_z1c:Addr
 fd_z1c:FuncData
 f_z1d:Addr
 fd_z1d:FuncData
 f_z1e:Addr
 fd_z1e:FuncData
 f_z1l:Addr
 fd_z1l:FuncData
 f_z15:Addr
 fd_z15:FuncData
 f_z1m:Addr
 fd_z1m:FuncData
 f_z0w:Addr
 fd_z0w:FuncData
 f_z0m:Addr
 fd_z0m:FuncData
 f_z16:Addr
 fd_z16:FuncData
 f_z02:Addr
 fd_z02:FuncData
 f_z0x:Addr
 fd_z0x:FuncData
 f_z17:Addr
 fd_z17:FuncData
 f_z1i:Addr
 fd_z1i:FuncData
 f_z0y:Addr
 fd_z0y:FuncData
 f_z1f:Addr
 fd_z1f:FuncData
 f_d_law:Addr
 fd_d_law:FuncData
 C_MostError:Addr
 C_NoStatement:Addr
 C_NoRow:Addr
 C_Rule:Addr
 C_Fact:Addr
 C_Sure:Addr
 C_Most:Addr
 C_Block:Addr
structure Txt (K:PySem.W.Frag) (mg:Str→Option Value) (t:Adr):Prop where
 F_z00:Fun K "__init__" "NoStatement.__init__" a4a t.f_z00 t.fd_z00
 b_z00:a0K K t.fd_z00 ["self","found"] []
 F_z0e:Fun K "__init__" "NoRow.__init__" a4k t.f_z0e t.fd_z0e
 b_z0e:a0K K t.fd_z0e ["self","found"] []
 F_z0f:Fun K "is_made_of" "is_made_of" a3u t.f_z0f t.fd_z0f
 b_z0f:a0K K t.fd_z0f ["thing","signs","most"] []
 g_z0f:mg "is_made_of"=some (.ref t.f_z0f)
 F_z18:Fun K "is_name" "is_name" a3L t.f_z18 t.fd_z18
 b_z18:a0K K t.fd_z18 ["thing"] []
 g_z18:mg "is_name"=some (.ref t.f_z18)
 F_z0z:Fun K "is_label" "is_label" a4m t.f_z0z t.fd_z0z
 b_z0z:a0K K t.fd_z0z ["thing"] []
 g_z0z:mg "is_label"=some (.ref t.f_z0z)
 F_z0n:Fun K "is_letter" "is_letter" a4g t.f_z0n t.fd_z0n
 b_z0n:a0K K t.fd_z0n ["thing"] []
 g_z0n:mg "is_letter"=some (.ref t.f_z0n)
 F_z0o:Fun K "places_of" "places_of" a3v t.f_z0o t.fd_z0o
 b_z0o:a0K K t.fd_z0o ["behind"] []
 g_z0o:mg "places_of"=some (.ref t.f_z0o)
 F_z10:Fun K "parts_of" "parts_of" a4F t.f_z10 t.fd_z10
 b_z10:a0K K t.fd_z10 ["statement"] []
 g_z10:mg "parts_of"=some (.ref t.f_z10)
 F_z03:Fun K "is_statement" "is_statement" a3X t.f_z03 t.fd_z03
 b_z03:a0K K t.fd_z03 ["thing"] []
 g_z03:mg "is_statement"=some (.ref t.f_z03)
 F_z0g:Fun K "letters_of" "letters_of" a3D t.f_z0g t.fd_z0g
 b_z0g:a0K K t.fd_z0g ["statement"] []
 g_z0g:mg "letters_of"=some (.ref t.f_z0g)
 F_z01:Fun K "is_written_out" "is_written_out" a4J t.f_z01 t.fd_z01
 b_z01:a0K K t.fd_z01 ["thing"] []
 g_z01:mg "is_written_out"=some (.ref t.f_z01)
 F_z0p:Fun K "__init__" "Rule.__init__" a3H t.f_z0p t.fd_z0p
 b_z0p:a0K K t.fd_z0p ["self","label","head","body"] []
 F_z05:Fun K "letters" "Rule.letters" a3y t.f_z05 t.fd_z05
 b_z05:a0K K t.fd_z05 ["self"] []
 F_z11:Fun K "row" "Rule.row" a3K t.f_z11 t.fd_z11
 b_z11:a0K K t.fd_z11 ["self"] []
 F_z0r:Fun K "__init__" "Fact.__init__" a4D t.f_z0r t.fd_z0r
 b_z0r:a0K K t.fd_z0r ["self","head"] []
 F_z0s:Fun K "word" "Fact.word" a4o t.f_z0s t.fd_z0s
 b_z0s:a0K K t.fd_z0s ["self"] []
 F_z12:Fun K "row" "Fact.row" a3I t.f_z12 t.fd_z12
 b_z12:a0K K t.fd_z12 ["self"] []
 F_z0t:Fun K "word" "Sure.word" a3E t.f_z0t t.fd_z0t
 b_z0t:a0K K t.fd_z0t ["self"] []
 F_z0u:Fun K "word" "Most.word" a3B t.f_z0u t.fd_z0u
 b_z0u:a0K K t.fd_z0u ["self"] []
 F_z0l:Fun K "word" "Block.word" a4G t.f_z0l t.fd_z0l
 b_z0l:a0K K t.fd_z0l ["self"] []
 F_z13:Fun K "words_of" "words_of" a4H t.f_z13 t.fd_z13
 b_z13:a0K K t.fd_z13 ["row"] []
 g_z13:mg "words_of"=some (.ref t.f_z13)
 F_z19:Fun K "fact_in" "fact_in" a4z t.f_z19 t.fd_z19
 b_z19:a0K K t.fd_z19 ["row"] []
 g_z19:mg "fact_in"=some (.ref t.f_z19)
 F_z1n:Fun K "made" "made" a4x t.f_z1n t.fd_z1n
 b_z1n:a0K K t.fd_z1n ["word","label","head","body"] []
 g_z1n:mg "made"=some (.ref t.f_z1n)
 F_z0c:Fun K "premises_in" "premises_in" a4I t.f_z0c t.fd_z0c
 b_z0c:a0K K t.fd_z0c ["ahead"] []
 g_z0c:mg "premises_in"=some (.ref t.f_z0c)
 F_z0d:Fun K "labelled_in" "labelled_in" a3n t.f_z0d t.fd_z0d
 b_z0d:a0K K t.fd_z0d ["row"] []
 g_z0d:mg "labelled_in"=some (.ref t.f_z0d)
 F_z1a:Fun K "rule_of" "rule_of" a3W t.f_z1a t.fd_z1a
 b_z1a:a0K K t.fd_z1a ["row"] []
 g_z1a:mg "rule_of"=some (.ref t.f_z1a)
 F_z1k:Fun K "_law_mix" "_law_mix" a4B t.f_z1k t.fd_z1k
 b_z1k:a0K K t.fd_z1k ["_law_cell","_law_k"] []
 g_z1k:mg "_law_mix"=some (.ref t.f_z1k)
 F_z1g:Fun K "_law_text" "_law_text" a3O t.f_z1g t.fd_z1g
 b_z1g:a0K K t.fd_z1g ["_law_cell","_law_signs","_law_most"] []
 g_z1g:mg "_law_text"=some (.ref t.f_z1g)
 F_z1h:Fun K "_law_name" "_law_name" a4i t.f_z1h t.fd_z1h
 b_z1h:a0K K t.fd_z1h ["_law_cell"] []
 g_z1h:mg "_law_name"=some (.ref t.f_z1h)
 F_z1b:Fun K "_law_label" "_law_label" a3U t.f_z1b t.fd_z1b
 b_z1b:a0K K t.fd_z1b ["_law_cell"] []
 g_z1b:mg "_law_label"=some (.ref t.f_z1b)
 F_z14:Fun K "_law_letter" "_law_letter" a4C t.f_z14 t.fd_z14
 b_z14:a0K K t.fd_z14 ["_law_base","_law_k"] []
 g_z14:mg "_law_letter"=some (.ref t.f_z14)
 F_z1c:Fun K "_law_place" "_law_place" a4u t.f_z1c t.fd_z1c
 b_z1c:a0K K t.fd_z1c ["_law_cell","_law_base","_law_many"] []
 g_z1c:mg "_law_place"=some (.ref t.f_z1c)
 F_z1d:Fun K "_law_parts" "_law_parts" a3s t.f_z1d t.fd_z1d
 b_z1d:a0K K t.fd_z1d ["_law_cell","_law_base","_law_many"] []
 g_z1d:mg "_law_parts"=some (.ref t.f_z1d)
 F_z1e:Fun K "_law_shown" "_law_shown" a4s t.f_z1e t.fd_z1e
 b_z1e:a0K K t.fd_z1e ["_law_parts_here"] []
 g_z1e:mg "_law_shown"=some (.ref t.f_z1e)
 F_z1l:Fun K "_law_row" "_law_row" a3r t.f_z1l t.fd_z1l
 b_z1l:a0K K t.fd_z1l ["_law_cell"] []
 g_z1l:mg "_law_row"=some (.ref t.f_z1l)
 F_z15:Fun K "_law_spoilt" "_law_spoilt" a3P t.f_z15 t.fd_z15
 b_z15:a0K K t.fd_z15 ["_law_row_here","_law_cell"] []
 g_z15:mg "_law_spoilt"=some (.ref t.f_z15)
 F_z1m:Fun K "_law_odd" "_law_odd" a4v t.f_z1m t.fd_z1m
 b_z1m:a0K K t.fd_z1m ["_law_cell"] []
 g_z1m:mg "_law_odd"=some (.ref t.f_z1m)
 F_z0w:Fun K "_law_name_is" "_law_name_is" a3t t.f_z0w t.fd_z0w
 b_z0w:a0K K t.fd_z0w ["_law_text_here","_law_signs"] []
 g_z0w:mg "_law_name_is"=some (.ref t.f_z0w)
 F_z0m:Fun K "_law_place_is" "_law_place_is" a4f t.f_z0m t.fd_z0m
 b_z0m:a0K K t.fd_z0m ["_law_text_here"] []
 g_z0m:mg "_law_place_is"=some (.ref t.f_z0m)
 F_z16:Fun K "_law_places" "_law_places" a4E t.f_z16 t.fd_z16
 b_z16:a0K K t.fd_z16 ["_law_text_here"] []
 g_z16:mg "_law_places"=some (.ref t.f_z16)
 F_z02:Fun K "_law_statement_is" "_law_statement_is" a3A t.f_z02 t.fd_z02
 b_z02:a0K K t.fd_z02 ["_law_text_here"] []
 g_z02:mg "_law_statement_is"=some (.ref t.f_z02)
 F_z0x:Fun K "_law_letters" "_law_letters" a3F t.f_z0x t.fd_z0x
 b_z0x:a0K K t.fd_z0x ["_law_texts"] []
 g_z0x:mg "_law_letters"=some (.ref t.f_z0x)
 F_z17:Fun K "_law_middle" "_law_middle" a3G t.f_z17 t.fd_z17
 b_z17:a0K K t.fd_z17 ["_law_words"] []
 g_z17:mg "_law_middle"=some (.ref t.f_z17)
 F_z1i:Fun K "_law_read" "_law_read" a3S t.f_z1i t.fd_z1i
 b_z1i:a0K K t.fd_z1i ["_law_row_here"] []
 g_z1i:mg "_law_read"=some (.ref t.f_z1i)
 F_z0y:Fun K "_law_refused" "_law_refused" a4y t.f_z0y t.fd_z0y
 b_z0y:a0K K t.fd_z0y ["_law_row_here"] []
 g_z0y:mg "_law_refused"=some (.ref t.f_z0y)
 F_z1f:Fun K "_law_right" "_law_right" a3z t.f_z1f t.fd_z1f
 b_z1f:a0K K t.fd_z1f ["_law_row_here","_law_due"] []
 g_z1f:mg "_law_right"=some (.ref t.f_z1f)
 F_d_law:Fun K "law" "law" a1u t.f_d_law t.fd_d_law
 b_d_law:a0K K t.fd_d_law ["_law_script"] []
 g_d_law:mg "law"=some (.ref t.f_d_law)
 k_SMALL:∃u,mg "SMALL"=some (.str "abcdefghijklmnopqrstuvwxyz" u)
 k_SMALL_OR_FIGURE:∃u,mg "SMALL_OR_FIGURE"=some (.str "abcdefghijklmnopqrstuvwxyz0123456789" u)
 k_GREAT:∃u,mg "GREAT"=some (.str "ABCDEFGHIJKLMNOPQRSTUVWXYZ" u)
 k_LONGEST:∃u,mg "LONGEST"=some (.int 8 u)
 k_MOST_PLACES:∃u,mg "MOST_PLACES"=some (.int 2 u)
 k_FACT:∃u,mg "FACT"=some (.str "fact " u)
 k_MOST_PREMISES:∃u,mg "MOST_PREMISES"=some (.int 4 u)
 k_MOST_LETTERS:∃u,mg "MOST_LETTERS"=some (.int 3 u)
 g_MostError:mg "MostError"=some (.ref t.C_MostError)
 g_NoStatement:mg "NoStatement"=some (.ref t.C_NoStatement)
 g_NoRow:mg "NoRow"=some (.ref t.C_NoRow)
 g_Rule:mg "Rule"=some (.ref t.C_Rule)
 g_Fact:mg "Fact"=some (.ref t.C_Fact)
 g_Sure:mg "Sure"=some (.ref t.C_Sure)
 g_Most:mg "Most"=some (.ref t.C_Most)
 g_Block:mg "Block"=some (.ref t.C_Block)
 z_NotImplementedError:mg "NotImplementedError"=none
 z_ValueError:mg "ValueError"=none
 z_all:mg "all"=none
 z_bool:mg "bool"=none
 z_enumerate:mg "enumerate"=none
 z_isinstance:mg "isinstance"=none
 z_len:mg "len"=none
 z_list:mg "list"=none
 z_range:mg "range"=none
 z_str:mg "str"=none
 z_tuple:mg "tuple"=none
 cm_Rule:b7D K t.C_Rule "__init__" t.f_z0p
 cl_Fact:Cls K t.C_Fact
 ty_Fact:TyI K t.C_Fact
 nf_Fact_label:a1a K t.C_Fact "label"
 nf_Fact_head:a1a K t.C_Fact "head"
 nf_Fact_body:a1a K t.C_Fact "body"
 mk_Fact:Mk K t.C_Fact t.f_z0r
 me_Fact_word:a9j K t.C_Fact "word" t.f_z0s
 me_Fact_letters:a9j K t.C_Fact "letters" t.f_z05
 me_Fact_row:a9j K t.C_Fact "row" t.f_z12
 ki_Fact_Rule:PySem.W.kitOne K (.ref t.C_Fact) (.ref t.C_Rule)=some true
 ki_Fact_Fact:PySem.W.kitOne K (.ref t.C_Fact) (.ref t.C_Fact)=some true
 ki_Fact_Sure:PySem.W.kitOne K (.ref t.C_Fact) (.ref t.C_Sure)=some false
 ki_Fact_Most:PySem.W.kitOne K (.ref t.C_Fact) (.ref t.C_Most)=some false
 ki_Fact_Block:PySem.W.kitOne K (.ref t.C_Fact) (.ref t.C_Block)=some false
 cl_Sure:Cls K t.C_Sure
 ty_Sure:TyI K t.C_Sure
 nf_Sure_label:a1a K t.C_Sure "label"
 nf_Sure_head:a1a K t.C_Sure "head"
 nf_Sure_body:a1a K t.C_Sure "body"
 mk_Sure:Mk K t.C_Sure t.f_z0p
 me_Sure_word:a9j K t.C_Sure "word" t.f_z0t
 me_Sure_letters:a9j K t.C_Sure "letters" t.f_z05
 me_Sure_row:a9j K t.C_Sure "row" t.f_z11
 ki_Sure_Rule:PySem.W.kitOne K (.ref t.C_Sure) (.ref t.C_Rule)=some true
 ki_Sure_Fact:PySem.W.kitOne K (.ref t.C_Sure) (.ref t.C_Fact)=some false
 ki_Sure_Sure:PySem.W.kitOne K (.ref t.C_Sure) (.ref t.C_Sure)=some true
 ki_Sure_Most:PySem.W.kitOne K (.ref t.C_Sure) (.ref t.C_Most)=some false
 ki_Sure_Block:PySem.W.kitOne K (.ref t.C_Sure) (.ref t.C_Block)=some false
 cl_Most:Cls K t.C_Most
 ty_Most:TyI K t.C_Most
 nf_Most_label:a1a K t.C_Most "label"
 nf_Most_head:a1a K t.C_Most "head"
 nf_Most_body:a1a K t.C_Most "body"
 mk_Most:Mk K t.C_Most t.f_z0p
 me_Most_word:a9j K t.C_Most "word" t.f_z0u
 me_Most_letters:a9j K t.C_Most "letters" t.f_z05
 me_Most_row:a9j K t.C_Most "row" t.f_z11
 ki_Most_Rule:PySem.W.kitOne K (.ref t.C_Most) (.ref t.C_Rule)=some true
 ki_Most_Fact:PySem.W.kitOne K (.ref t.C_Most) (.ref t.C_Fact)=some false
 ki_Most_Sure:PySem.W.kitOne K (.ref t.C_Most) (.ref t.C_Sure)=some false
 ki_Most_Most:PySem.W.kitOne K (.ref t.C_Most) (.ref t.C_Most)=some true
 ki_Most_Block:PySem.W.kitOne K (.ref t.C_Most) (.ref t.C_Block)=some false
 cl_Block:Cls K t.C_Block
 ty_Block:TyI K t.C_Block
 nf_Block_label:a1a K t.C_Block "label"
 nf_Block_head:a1a K t.C_Block "head"
 nf_Block_body:a1a K t.C_Block "body"
 mk_Block:Mk K t.C_Block t.f_z0p
 me_Block_word:a9j K t.C_Block "word" t.f_z0l
 me_Block_letters:a9j K t.C_Block "letters" t.f_z05
 me_Block_row:a9j K t.C_Block "row" t.f_z11
 ki_Block_Rule:PySem.W.kitOne K (.ref t.C_Block) (.ref t.C_Rule)=some true
 ki_Block_Fact:PySem.W.kitOne K (.ref t.C_Block) (.ref t.C_Fact)=some false
 ki_Block_Sure:PySem.W.kitOne K (.ref t.C_Block) (.ref t.C_Sure)=some false
 ki_Block_Most:PySem.W.kitOne K (.ref t.C_Block) (.ref t.C_Most)=some false
 ki_Block_Block:PySem.W.kitOne K (.ref t.C_Block) (.ref t.C_Block)=some true
 x_NoStatement:XOk K t.C_NoStatement t.f_z00 "found"
 x_NoRow:XOk K t.C_NoRow t.f_z0e "found"
 xc_NoStatement:a4M K t.C_NoStatement
 xc_MostError:a4M K t.C_MostError
 xm_NoStatement_NoStatement:PySem.W.mroIn K t.C_NoStatement (.ref t.C_NoStatement)=some true
 xm_NoRow_MostError:PySem.W.mroIn K t.C_NoRow (.ref t.C_MostError)=some true
 xt_up:b5F K [t.C_NoRow] [.ref t.C_NoRow,.type "ValueError"] (fun _ _=>true)
 xt_no:b5F K [t.C_NoRow] [.ref t.C_NoStatement] (fun _ _=>false)
theorem b8o {K:PySem.W.Frag} {h:Heap} {mg:Str→Option Value} (X:K.In h) (G:h.Ns mainGlobals mg)
 {f_z00:Addr} {od_z00 an_z00:Option Addr} {sl_z00:Array (Option Value)} {oc_z00 kV_z00 dc_z00 pm_z00 cd_z00 ct_z00:Value}
 {f_z0e:Addr} {od_z0e an_z0e:Option Addr} {sl_z0e:Array (Option Value)} {oc_z0e kV_z0e dc_z0e pm_z0e cd_z0e ct_z0e:Value}
 {f_z0f:Addr} {od_z0f an_z0f:Option Addr} {sl_z0f:Array (Option Value)} {oc_z0f kV_z0f dc_z0f pm_z0f cd_z0f ct_z0f:Value}
 {f_z18:Addr} {od_z18 an_z18:Option Addr} {sl_z18:Array (Option Value)} {oc_z18 kV_z18 dc_z18 pm_z18 cd_z18 ct_z18:Value}
 {f_z0z:Addr} {od_z0z an_z0z:Option Addr} {sl_z0z:Array (Option Value)} {oc_z0z kV_z0z dc_z0z pm_z0z cd_z0z ct_z0z:Value}
 {f_z0n:Addr} {od_z0n an_z0n:Option Addr} {sl_z0n:Array (Option Value)} {oc_z0n kV_z0n dc_z0n pm_z0n cd_z0n ct_z0n:Value}
 {f_z0o:Addr} {od_z0o an_z0o:Option Addr} {sl_z0o:Array (Option Value)} {oc_z0o kV_z0o dc_z0o pm_z0o cd_z0o ct_z0o:Value}
 {f_z10:Addr} {od_z10 an_z10:Option Addr} {sl_z10:Array (Option Value)} {oc_z10 kV_z10 dc_z10 pm_z10 cd_z10 ct_z10:Value}
 {f_z03:Addr} {od_z03 an_z03:Option Addr} {sl_z03:Array (Option Value)} {oc_z03 kV_z03 dc_z03 pm_z03 cd_z03 ct_z03:Value}
 {f_z0g:Addr} {od_z0g an_z0g:Option Addr} {sl_z0g:Array (Option Value)} {oc_z0g kV_z0g dc_z0g pm_z0g cd_z0g ct_z0g:Value}
 {f_z01:Addr} {od_z01 an_z01:Option Addr} {sl_z01:Array (Option Value)} {oc_z01 kV_z01 dc_z01 pm_z01 cd_z01 ct_z01:Value}
 {f_z0p:Addr} {od_z0p an_z0p:Option Addr} {sl_z0p:Array (Option Value)} {oc_z0p kV_z0p dc_z0p pm_z0p cd_z0p ct_z0p:Value}
 {f_z05:Addr} {od_z05 an_z05:Option Addr} {sl_z05:Array (Option Value)} {oc_z05 kV_z05 dc_z05 pm_z05 cd_z05 ct_z05:Value}
 {f_z11:Addr} {od_z11 an_z11:Option Addr} {sl_z11:Array (Option Value)} {oc_z11 kV_z11 dc_z11 pm_z11 cd_z11 ct_z11:Value}
 {f_z0r:Addr} {od_z0r an_z0r:Option Addr} {sl_z0r:Array (Option Value)} {oc_z0r kV_z0r dc_z0r pm_z0r cd_z0r ct_z0r:Value}
 {f_z0s:Addr} {od_z0s an_z0s:Option Addr} {sl_z0s:Array (Option Value)} {oc_z0s kV_z0s dc_z0s pm_z0s cd_z0s ct_z0s:Value}
 {f_z12:Addr} {od_z12 an_z12:Option Addr} {sl_z12:Array (Option Value)} {oc_z12 kV_z12 dc_z12 pm_z12 cd_z12 ct_z12:Value}
 {f_z0t:Addr} {od_z0t an_z0t:Option Addr} {sl_z0t:Array (Option Value)} {oc_z0t kV_z0t dc_z0t pm_z0t cd_z0t ct_z0t:Value}
 {f_z0u:Addr} {od_z0u an_z0u:Option Addr} {sl_z0u:Array (Option Value)} {oc_z0u kV_z0u dc_z0u pm_z0u cd_z0u ct_z0u:Value}
 {f_z0l:Addr} {od_z0l an_z0l:Option Addr} {sl_z0l:Array (Option Value)} {oc_z0l kV_z0l dc_z0l pm_z0l cd_z0l ct_z0l:Value}
 {f_z13:Addr} {od_z13 an_z13:Option Addr} {sl_z13:Array (Option Value)} {oc_z13 kV_z13 dc_z13 pm_z13 cd_z13 ct_z13:Value}
 {f_z19:Addr} {od_z19 an_z19:Option Addr} {sl_z19:Array (Option Value)} {oc_z19 kV_z19 dc_z19 pm_z19 cd_z19 ct_z19:Value}
 {f_z1n:Addr} {od_z1n an_z1n:Option Addr} {sl_z1n:Array (Option Value)} {oc_z1n kV_z1n dc_z1n pm_z1n cd_z1n ct_z1n:Value}
 {f_z0c:Addr} {od_z0c an_z0c:Option Addr} {sl_z0c:Array (Option Value)} {oc_z0c kV_z0c dc_z0c pm_z0c cd_z0c ct_z0c:Value}
 {f_z0d:Addr} {od_z0d an_z0d:Option Addr} {sl_z0d:Array (Option Value)} {oc_z0d kV_z0d dc_z0d pm_z0d cd_z0d ct_z0d:Value}
 {f_z1a:Addr} {od_z1a an_z1a:Option Addr} {sl_z1a:Array (Option Value)} {oc_z1a kV_z1a dc_z1a pm_z1a cd_z1a ct_z1a:Value}
 {f_z1k:Addr} {od_z1k an_z1k:Option Addr} {sl_z1k:Array (Option Value)} {oc_z1k kV_z1k dc_z1k pm_z1k cd_z1k ct_z1k:Value}
 {f_z1g:Addr} {od_z1g an_z1g:Option Addr} {sl_z1g:Array (Option Value)} {oc_z1g kV_z1g dc_z1g pm_z1g cd_z1g ct_z1g:Value}
 {f_z1h:Addr} {od_z1h an_z1h:Option Addr} {sl_z1h:Array (Option Value)} {oc_z1h kV_z1h dc_z1h pm_z1h cd_z1h ct_z1h:Value}
 {f_z1b:Addr} {od_z1b an_z1b:Option Addr} {sl_z1b:Array (Option Value)} {oc_z1b kV_z1b dc_z1b pm_z1b cd_z1b ct_z1b:Value}
 {f_z14:Addr} {od_z14 an_z14:Option Addr} {sl_z14:Array (Option Value)} {oc_z14 kV_z14 dc_z14 pm_z14 cd_z14 ct_z14:Value}
 {f_z1c:Addr} {od_z1c an_z1c:Option Addr} {sl_z1c:Array (Option Value)} {oc_z1c kV_z1c dc_z1c pm_z1c cd_z1c ct_z1c:Value}
 {f_z1d:Addr} {od_z1d an_z1d:Option Addr} {sl_z1d:Array (Option Value)} {oc_z1d kV_z1d dc_z1d pm_z1d cd_z1d ct_z1d:Value}
 {f_z1e:Addr} {od_z1e an_z1e:Option Addr} {sl_z1e:Array (Option Value)} {oc_z1e kV_z1e dc_z1e pm_z1e cd_z1e ct_z1e:Value}
 {f_z1l:Addr} {od_z1l an_z1l:Option Addr} {sl_z1l:Array (Option Value)} {oc_z1l kV_z1l dc_z1l pm_z1l cd_z1l ct_z1l:Value}
 {f_z15:Addr} {od_z15 an_z15:Option Addr} {sl_z15:Array (Option Value)} {oc_z15 kV_z15 dc_z15 pm_z15 cd_z15 ct_z15:Value}
 {f_z1m:Addr} {od_z1m an_z1m:Option Addr} {sl_z1m:Array (Option Value)} {oc_z1m kV_z1m dc_z1m pm_z1m cd_z1m ct_z1m:Value}
 {f_z0w:Addr} {od_z0w an_z0w:Option Addr} {sl_z0w:Array (Option Value)} {oc_z0w kV_z0w dc_z0w pm_z0w cd_z0w ct_z0w:Value}
 {f_z0m:Addr} {od_z0m an_z0m:Option Addr} {sl_z0m:Array (Option Value)} {oc_z0m kV_z0m dc_z0m pm_z0m cd_z0m ct_z0m:Value}
 {f_z16:Addr} {od_z16 an_z16:Option Addr} {sl_z16:Array (Option Value)} {oc_z16 kV_z16 dc_z16 pm_z16 cd_z16 ct_z16:Value}
 {f_z02:Addr} {od_z02 an_z02:Option Addr} {sl_z02:Array (Option Value)} {oc_z02 kV_z02 dc_z02 pm_z02 cd_z02 ct_z02:Value}
 {f_z0x:Addr} {od_z0x an_z0x:Option Addr} {sl_z0x:Array (Option Value)} {oc_z0x kV_z0x dc_z0x pm_z0x cd_z0x ct_z0x:Value}
 {f_z17:Addr} {od_z17 an_z17:Option Addr} {sl_z17:Array (Option Value)} {oc_z17 kV_z17 dc_z17 pm_z17 cd_z17 ct_z17:Value}
 {f_z1i:Addr} {od_z1i an_z1i:Option Addr} {sl_z1i:Array (Option Value)} {oc_z1i kV_z1i dc_z1i pm_z1i cd_z1i ct_z1i:Value}
 {f_z0y:Addr} {od_z0y an_z0y:Option Addr} {sl_z0y:Array (Option Value)} {oc_z0y kV_z0y dc_z0y pm_z0y cd_z0y ct_z0y:Value}
 {f_z1f:Addr} {od_z1f an_z1f:Option Addr} {sl_z1f:Array (Option Value)} {oc_z1f kV_z1f dc_z1f pm_z1f cd_z1f ct_z1f:Value}
 {f_d_law:Addr} {od_d_law an_d_law:Option Addr} {sl_d_law:Array (Option Value)} {oc_d_law kV_d_law dc_d_law pm_d_law cd_d_law ct_d_law:Value}
 {C_MostError:Addr}
 {C_NoStatement:Addr}
 {C_NoRow:Addr}
 {C_Rule:Addr}
 {C_Fact:Addr}
 {C_Sure:Addr}
 {C_Most:Addr}
 {C_Block:Addr}
 {u_SMALL:Tok}
 {u_SMALL_OR_FIGURE:Tok}
 {u_GREAT:Tok}
 {u_LONGEST:Tok}
 {u_MOST_PLACES:Tok}
 {u_FACT:Tok}
 {u_MOST_PREMISES:Tok}
 {u_MOST_LETTERS:Tok}
 (a_MostError:PySem.W.nsIn K mainGlobals "MostError"=some (some (.ref C_MostError)))
 (a_NoStatement:PySem.W.nsIn K mainGlobals "NoStatement"=some (some (.ref C_NoStatement)))
 (a_NoRow:PySem.W.nsIn K mainGlobals "NoRow"=some (some (.ref C_NoRow)))
 (a_Rule:PySem.W.nsIn K mainGlobals "Rule"=some (some (.ref C_Rule)))
 (a_Fact:PySem.W.nsIn K mainGlobals "Fact"=some (some (.ref C_Fact)))
 (a_Sure:PySem.W.nsIn K mainGlobals "Sure"=some (some (.ref C_Sure)))
 (a_Most:PySem.W.nsIn K mainGlobals "Most"=some (some (.ref C_Most)))
 (a_Block:PySem.W.nsIn K mainGlobals "Block"=some (some (.ref C_Block)))
 (a_z00:PySem.W.findIn K (.ref C_NoStatement) "__init__"=some (some (.ref f_z00)))
 (l_z00:K.lookup f_z00=some ⟨oc_z00,od_z00,.func (PySem.W.fnOf "__init__" "NoStatement.__init__" (a0d a4a) (a0c a4a) (a0a a4a) .none kV_z00 dc_z00 pm_z00 an_z00 cd_z00 ct_z00),sl_z00⟩)
 (c_z00:PySem.W.codeIn K cd_z00 "NoStatement.__init__"=true) (p_z00:PySem.W.keepIn K (.ref f_z00)=true)
 (a_z0e:PySem.W.findIn K (.ref C_NoRow) "__init__"=some (some (.ref f_z0e)))
 (l_z0e:K.lookup f_z0e=some ⟨oc_z0e,od_z0e,.func (PySem.W.fnOf "__init__" "NoRow.__init__" (a0d a4k) (a0c a4k) (a0a a4k) .none kV_z0e dc_z0e pm_z0e an_z0e cd_z0e ct_z0e),sl_z0e⟩)
 (c_z0e:PySem.W.codeIn K cd_z0e "NoRow.__init__"=true) (p_z0e:PySem.W.keepIn K (.ref f_z0e)=true)
 (a_z0f:PySem.W.nsIn K mainGlobals "is_made_of"=some (some (.ref f_z0f)))
 (l_z0f:K.lookup f_z0f=some ⟨oc_z0f,od_z0f,.func (PySem.W.fnOf "is_made_of" "is_made_of" (a0d a3u) (a0c a3u) (a0a a3u) .none kV_z0f dc_z0f pm_z0f an_z0f cd_z0f ct_z0f),sl_z0f⟩)
 (c_z0f:PySem.W.codeIn K cd_z0f "is_made_of"=true) (p_z0f:PySem.W.keepIn K (.ref f_z0f)=true)
 (a_z18:PySem.W.nsIn K mainGlobals "is_name"=some (some (.ref f_z18)))
 (l_z18:K.lookup f_z18=some ⟨oc_z18,od_z18,.func (PySem.W.fnOf "is_name" "is_name" (a0d a3L) (a0c a3L) (a0a a3L) .none kV_z18 dc_z18 pm_z18 an_z18 cd_z18 ct_z18),sl_z18⟩)
 (c_z18:PySem.W.codeIn K cd_z18 "is_name"=true) (p_z18:PySem.W.keepIn K (.ref f_z18)=true)
 (a_z0z:PySem.W.nsIn K mainGlobals "is_label"=some (some (.ref f_z0z)))
 (l_z0z:K.lookup f_z0z=some ⟨oc_z0z,od_z0z,.func (PySem.W.fnOf "is_label" "is_label" (a0d a4m) (a0c a4m) (a0a a4m) .none kV_z0z dc_z0z pm_z0z an_z0z cd_z0z ct_z0z),sl_z0z⟩)
 (c_z0z:PySem.W.codeIn K cd_z0z "is_label"=true) (p_z0z:PySem.W.keepIn K (.ref f_z0z)=true)
 (a_z0n:PySem.W.nsIn K mainGlobals "is_letter"=some (some (.ref f_z0n)))
 (l_z0n:K.lookup f_z0n=some ⟨oc_z0n,od_z0n,.func (PySem.W.fnOf "is_letter" "is_letter" (a0d a4g) (a0c a4g) (a0a a4g) .none kV_z0n dc_z0n pm_z0n an_z0n cd_z0n ct_z0n),sl_z0n⟩)
 (c_z0n:PySem.W.codeIn K cd_z0n "is_letter"=true) (p_z0n:PySem.W.keepIn K (.ref f_z0n)=true)
 (a_z0o:PySem.W.nsIn K mainGlobals "places_of"=some (some (.ref f_z0o)))
 (l_z0o:K.lookup f_z0o=some ⟨oc_z0o,od_z0o,.func (PySem.W.fnOf "places_of" "places_of" (a0d a3v) (a0c a3v) (a0a a3v) .none kV_z0o dc_z0o pm_z0o an_z0o cd_z0o ct_z0o),sl_z0o⟩)
 (c_z0o:PySem.W.codeIn K cd_z0o "places_of"=true) (p_z0o:PySem.W.keepIn K (.ref f_z0o)=true)
 (a_z10:PySem.W.nsIn K mainGlobals "parts_of"=some (some (.ref f_z10)))
 (l_z10:K.lookup f_z10=some ⟨oc_z10,od_z10,.func (PySem.W.fnOf "parts_of" "parts_of" (a0d a4F) (a0c a4F) (a0a a4F) .none kV_z10 dc_z10 pm_z10 an_z10 cd_z10 ct_z10),sl_z10⟩)
 (c_z10:PySem.W.codeIn K cd_z10 "parts_of"=true) (p_z10:PySem.W.keepIn K (.ref f_z10)=true)
 (a_z03:PySem.W.nsIn K mainGlobals "is_statement"=some (some (.ref f_z03)))
 (l_z03:K.lookup f_z03=some ⟨oc_z03,od_z03,.func (PySem.W.fnOf "is_statement" "is_statement" (a0d a3X) (a0c a3X) (a0a a3X) .none kV_z03 dc_z03 pm_z03 an_z03 cd_z03 ct_z03),sl_z03⟩)
 (c_z03:PySem.W.codeIn K cd_z03 "is_statement"=true) (p_z03:PySem.W.keepIn K (.ref f_z03)=true)
 (a_z0g:PySem.W.nsIn K mainGlobals "letters_of"=some (some (.ref f_z0g)))
 (l_z0g:K.lookup f_z0g=some ⟨oc_z0g,od_z0g,.func (PySem.W.fnOf "letters_of" "letters_of" (a0d a3D) (a0c a3D) (a0a a3D) .none kV_z0g dc_z0g pm_z0g an_z0g cd_z0g ct_z0g),sl_z0g⟩)
 (c_z0g:PySem.W.codeIn K cd_z0g "letters_of"=true) (p_z0g:PySem.W.keepIn K (.ref f_z0g)=true)
 (a_z01:PySem.W.nsIn K mainGlobals "is_written_out"=some (some (.ref f_z01)))
 (l_z01:K.lookup f_z01=some ⟨oc_z01,od_z01,.func (PySem.W.fnOf "is_written_out" "is_written_out" (a0d a4J) (a0c a4J) (a0a a4J) .none kV_z01 dc_z01 pm_z01 an_z01 cd_z01 ct_z01),sl_z01⟩)
 (c_z01:PySem.W.codeIn K cd_z01 "is_written_out"=true) (p_z01:PySem.W.keepIn K (.ref f_z01)=true)
 (a_z0p:PySem.W.findIn K (.ref C_Rule) "__init__"=some (some (.ref f_z0p)))
 (l_z0p:K.lookup f_z0p=some ⟨oc_z0p,od_z0p,.func (PySem.W.fnOf "__init__" "Rule.__init__" (a0d a3H) (a0c a3H) (a0a a3H) .none kV_z0p dc_z0p pm_z0p an_z0p cd_z0p ct_z0p),sl_z0p⟩)
 (c_z0p:PySem.W.codeIn K cd_z0p "Rule.__init__"=true) (p_z0p:PySem.W.keepIn K (.ref f_z0p)=true)
 (a_z05:PySem.W.findIn K (.ref C_Rule) "letters"=some (some (.ref f_z05)))
 (l_z05:K.lookup f_z05=some ⟨oc_z05,od_z05,.func (PySem.W.fnOf "letters" "Rule.letters" (a0d a3y) (a0c a3y) (a0a a3y) .none kV_z05 dc_z05 pm_z05 an_z05 cd_z05 ct_z05),sl_z05⟩)
 (c_z05:PySem.W.codeIn K cd_z05 "Rule.letters"=true) (p_z05:PySem.W.keepIn K (.ref f_z05)=true)
 (a_z11:PySem.W.findIn K (.ref C_Rule) "row"=some (some (.ref f_z11)))
 (l_z11:K.lookup f_z11=some ⟨oc_z11,od_z11,.func (PySem.W.fnOf "row" "Rule.row" (a0d a3K) (a0c a3K) (a0a a3K) .none kV_z11 dc_z11 pm_z11 an_z11 cd_z11 ct_z11),sl_z11⟩)
 (c_z11:PySem.W.codeIn K cd_z11 "Rule.row"=true) (p_z11:PySem.W.keepIn K (.ref f_z11)=true)
 (a_z0r:PySem.W.findIn K (.ref C_Fact) "__init__"=some (some (.ref f_z0r)))
 (l_z0r:K.lookup f_z0r=some ⟨oc_z0r,od_z0r,.func (PySem.W.fnOf "__init__" "Fact.__init__" (a0d a4D) (a0c a4D) (a0a a4D) .none kV_z0r dc_z0r pm_z0r an_z0r cd_z0r ct_z0r),sl_z0r⟩)
 (c_z0r:PySem.W.codeIn K cd_z0r "Fact.__init__"=true) (p_z0r:PySem.W.keepIn K (.ref f_z0r)=true)
 (a_z0s:PySem.W.findIn K (.ref C_Fact) "word"=some (some (.ref f_z0s)))
 (l_z0s:K.lookup f_z0s=some ⟨oc_z0s,od_z0s,.func (PySem.W.fnOf "word" "Fact.word" (a0d a4o) (a0c a4o) (a0a a4o) .none kV_z0s dc_z0s pm_z0s an_z0s cd_z0s ct_z0s),sl_z0s⟩)
 (c_z0s:PySem.W.codeIn K cd_z0s "Fact.word"=true) (p_z0s:PySem.W.keepIn K (.ref f_z0s)=true)
 (a_z12:PySem.W.findIn K (.ref C_Fact) "row"=some (some (.ref f_z12)))
 (l_z12:K.lookup f_z12=some ⟨oc_z12,od_z12,.func (PySem.W.fnOf "row" "Fact.row" (a0d a3I) (a0c a3I) (a0a a3I) .none kV_z12 dc_z12 pm_z12 an_z12 cd_z12 ct_z12),sl_z12⟩)
 (c_z12:PySem.W.codeIn K cd_z12 "Fact.row"=true) (p_z12:PySem.W.keepIn K (.ref f_z12)=true)
 (a_z0t:PySem.W.findIn K (.ref C_Sure) "word"=some (some (.ref f_z0t)))
 (l_z0t:K.lookup f_z0t=some ⟨oc_z0t,od_z0t,.func (PySem.W.fnOf "word" "Sure.word" (a0d a3E) (a0c a3E) (a0a a3E) .none kV_z0t dc_z0t pm_z0t an_z0t cd_z0t ct_z0t),sl_z0t⟩)
 (c_z0t:PySem.W.codeIn K cd_z0t "Sure.word"=true) (p_z0t:PySem.W.keepIn K (.ref f_z0t)=true)
 (a_z0u:PySem.W.findIn K (.ref C_Most) "word"=some (some (.ref f_z0u)))
 (l_z0u:K.lookup f_z0u=some ⟨oc_z0u,od_z0u,.func (PySem.W.fnOf "word" "Most.word" (a0d a3B) (a0c a3B) (a0a a3B) .none kV_z0u dc_z0u pm_z0u an_z0u cd_z0u ct_z0u),sl_z0u⟩)
 (c_z0u:PySem.W.codeIn K cd_z0u "Most.word"=true) (p_z0u:PySem.W.keepIn K (.ref f_z0u)=true)
 (a_z0l:PySem.W.findIn K (.ref C_Block) "word"=some (some (.ref f_z0l)))
 (l_z0l:K.lookup f_z0l=some ⟨oc_z0l,od_z0l,.func (PySem.W.fnOf "word" "Block.word" (a0d a4G) (a0c a4G) (a0a a4G) .none kV_z0l dc_z0l pm_z0l an_z0l cd_z0l ct_z0l),sl_z0l⟩)
 (c_z0l:PySem.W.codeIn K cd_z0l "Block.word"=true) (p_z0l:PySem.W.keepIn K (.ref f_z0l)=true)
 (a_z13:PySem.W.nsIn K mainGlobals "words_of"=some (some (.ref f_z13)))
 (l_z13:K.lookup f_z13=some ⟨oc_z13,od_z13,.func (PySem.W.fnOf "words_of" "words_of" (a0d a4H) (a0c a4H) (a0a a4H) .none kV_z13 dc_z13 pm_z13 an_z13 cd_z13 ct_z13),sl_z13⟩)
 (c_z13:PySem.W.codeIn K cd_z13 "words_of"=true) (p_z13:PySem.W.keepIn K (.ref f_z13)=true)
 (a_z19:PySem.W.nsIn K mainGlobals "fact_in"=some (some (.ref f_z19)))
 (l_z19:K.lookup f_z19=some ⟨oc_z19,od_z19,.func (PySem.W.fnOf "fact_in" "fact_in" (a0d a4z) (a0c a4z) (a0a a4z) .none kV_z19 dc_z19 pm_z19 an_z19 cd_z19 ct_z19),sl_z19⟩)
 (c_z19:PySem.W.codeIn K cd_z19 "fact_in"=true) (p_z19:PySem.W.keepIn K (.ref f_z19)=true)
 (a_z1n:PySem.W.nsIn K mainGlobals "made"=some (some (.ref f_z1n)))
 (l_z1n:K.lookup f_z1n=some ⟨oc_z1n,od_z1n,.func (PySem.W.fnOf "made" "made" (a0d a4x) (a0c a4x) (a0a a4x) .none kV_z1n dc_z1n pm_z1n an_z1n cd_z1n ct_z1n),sl_z1n⟩)
 (c_z1n:PySem.W.codeIn K cd_z1n "made"=true) (p_z1n:PySem.W.keepIn K (.ref f_z1n)=true)
 (a_z0c:PySem.W.nsIn K mainGlobals "premises_in"=some (some (.ref f_z0c)))
 (l_z0c:K.lookup f_z0c=some ⟨oc_z0c,od_z0c,.func (PySem.W.fnOf "premises_in" "premises_in" (a0d a4I) (a0c a4I) (a0a a4I) .none kV_z0c dc_z0c pm_z0c an_z0c cd_z0c ct_z0c),sl_z0c⟩)
 (c_z0c:PySem.W.codeIn K cd_z0c "premises_in"=true) (p_z0c:PySem.W.keepIn K (.ref f_z0c)=true)
 (a_z0d:PySem.W.nsIn K mainGlobals "labelled_in"=some (some (.ref f_z0d)))
 (l_z0d:K.lookup f_z0d=some ⟨oc_z0d,od_z0d,.func (PySem.W.fnOf "labelled_in" "labelled_in" (a0d a3n) (a0c a3n) (a0a a3n) .none kV_z0d dc_z0d pm_z0d an_z0d cd_z0d ct_z0d),sl_z0d⟩)
 (c_z0d:PySem.W.codeIn K cd_z0d "labelled_in"=true) (p_z0d:PySem.W.keepIn K (.ref f_z0d)=true)
 (a_z1a:PySem.W.nsIn K mainGlobals "rule_of"=some (some (.ref f_z1a)))
 (l_z1a:K.lookup f_z1a=some ⟨oc_z1a,od_z1a,.func (PySem.W.fnOf "rule_of" "rule_of" (a0d a3W) (a0c a3W) (a0a a3W) .none kV_z1a dc_z1a pm_z1a an_z1a cd_z1a ct_z1a),sl_z1a⟩)
 (c_z1a:PySem.W.codeIn K cd_z1a "rule_of"=true) (p_z1a:PySem.W.keepIn K (.ref f_z1a)=true)
 (a_z1k:PySem.W.nsIn K mainGlobals "_law_mix"=some (some (.ref f_z1k)))
 (l_z1k:K.lookup f_z1k=some ⟨oc_z1k,od_z1k,.func (PySem.W.fnOf "_law_mix" "_law_mix" (a0d a4B) (a0c a4B) (a0a a4B) .none kV_z1k dc_z1k pm_z1k an_z1k cd_z1k ct_z1k),sl_z1k⟩)
 (c_z1k:PySem.W.codeIn K cd_z1k "_law_mix"=true) (p_z1k:PySem.W.keepIn K (.ref f_z1k)=true)
 (a_z1g:PySem.W.nsIn K mainGlobals "_law_text"=some (some (.ref f_z1g)))
 (l_z1g:K.lookup f_z1g=some ⟨oc_z1g,od_z1g,.func (PySem.W.fnOf "_law_text" "_law_text" (a0d a3O) (a0c a3O) (a0a a3O) .none kV_z1g dc_z1g pm_z1g an_z1g cd_z1g ct_z1g),sl_z1g⟩)
 (c_z1g:PySem.W.codeIn K cd_z1g "_law_text"=true) (p_z1g:PySem.W.keepIn K (.ref f_z1g)=true)
 (a_z1h:PySem.W.nsIn K mainGlobals "_law_name"=some (some (.ref f_z1h)))
 (l_z1h:K.lookup f_z1h=some ⟨oc_z1h,od_z1h,.func (PySem.W.fnOf "_law_name" "_law_name" (a0d a4i) (a0c a4i) (a0a a4i) .none kV_z1h dc_z1h pm_z1h an_z1h cd_z1h ct_z1h),sl_z1h⟩)
 (c_z1h:PySem.W.codeIn K cd_z1h "_law_name"=true) (p_z1h:PySem.W.keepIn K (.ref f_z1h)=true)
 (a_z1b:PySem.W.nsIn K mainGlobals "_law_label"=some (some (.ref f_z1b)))
 (l_z1b:K.lookup f_z1b=some ⟨oc_z1b,od_z1b,.func (PySem.W.fnOf "_law_label" "_law_label" (a0d a3U) (a0c a3U) (a0a a3U) .none kV_z1b dc_z1b pm_z1b an_z1b cd_z1b ct_z1b),sl_z1b⟩)
 (c_z1b:PySem.W.codeIn K cd_z1b "_law_label"=true) (p_z1b:PySem.W.keepIn K (.ref f_z1b)=true)
 (a_z14:PySem.W.nsIn K mainGlobals "_law_letter"=some (some (.ref f_z14)))
 (l_z14:K.lookup f_z14=some ⟨oc_z14,od_z14,.func (PySem.W.fnOf "_law_letter" "_law_letter" (a0d a4C) (a0c a4C) (a0a a4C) .none kV_z14 dc_z14 pm_z14 an_z14 cd_z14 ct_z14),sl_z14⟩)
 (c_z14:PySem.W.codeIn K cd_z14 "_law_letter"=true) (p_z14:PySem.W.keepIn K (.ref f_z14)=true)
 (a_z1c:PySem.W.nsIn K mainGlobals "_law_place"=some (some (.ref f_z1c)))
 (l_z1c:K.lookup f_z1c=some ⟨oc_z1c,od_z1c,.func (PySem.W.fnOf "_law_place" "_law_place" (a0d a4u) (a0c a4u) (a0a a4u) .none kV_z1c dc_z1c pm_z1c an_z1c cd_z1c ct_z1c),sl_z1c⟩)
 (c_z1c:PySem.W.codeIn K cd_z1c "_law_place"=true) (p_z1c:PySem.W.keepIn K (.ref f_z1c)=true)
 (a_z1d:PySem.W.nsIn K mainGlobals "_law_parts"=some (some (.ref f_z1d)))
 (l_z1d:K.lookup f_z1d=some ⟨oc_z1d,od_z1d,.func (PySem.W.fnOf "_law_parts" "_law_parts" (a0d a3s) (a0c a3s) (a0a a3s) .none kV_z1d dc_z1d pm_z1d an_z1d cd_z1d ct_z1d),sl_z1d⟩)
 (c_z1d:PySem.W.codeIn K cd_z1d "_law_parts"=true) (p_z1d:PySem.W.keepIn K (.ref f_z1d)=true)
 (a_z1e:PySem.W.nsIn K mainGlobals "_law_shown"=some (some (.ref f_z1e)))
 (l_z1e:K.lookup f_z1e=some ⟨oc_z1e,od_z1e,.func (PySem.W.fnOf "_law_shown" "_law_shown" (a0d a4s) (a0c a4s) (a0a a4s) .none kV_z1e dc_z1e pm_z1e an_z1e cd_z1e ct_z1e),sl_z1e⟩)
 (c_z1e:PySem.W.codeIn K cd_z1e "_law_shown"=true) (p_z1e:PySem.W.keepIn K (.ref f_z1e)=true)
 (a_z1l:PySem.W.nsIn K mainGlobals "_law_row"=some (some (.ref f_z1l)))
 (l_z1l:K.lookup f_z1l=some ⟨oc_z1l,od_z1l,.func (PySem.W.fnOf "_law_row" "_law_row" (a0d a3r) (a0c a3r) (a0a a3r) .none kV_z1l dc_z1l pm_z1l an_z1l cd_z1l ct_z1l),sl_z1l⟩)
 (c_z1l:PySem.W.codeIn K cd_z1l "_law_row"=true) (p_z1l:PySem.W.keepIn K (.ref f_z1l)=true)
 (a_z15:PySem.W.nsIn K mainGlobals "_law_spoilt"=some (some (.ref f_z15)))
 (l_z15:K.lookup f_z15=some ⟨oc_z15,od_z15,.func (PySem.W.fnOf "_law_spoilt" "_law_spoilt" (a0d a3P) (a0c a3P) (a0a a3P) .none kV_z15 dc_z15 pm_z15 an_z15 cd_z15 ct_z15),sl_z15⟩)
 (c_z15:PySem.W.codeIn K cd_z15 "_law_spoilt"=true) (p_z15:PySem.W.keepIn K (.ref f_z15)=true)
 (a_z1m:PySem.W.nsIn K mainGlobals "_law_odd"=some (some (.ref f_z1m)))
 (l_z1m:K.lookup f_z1m=some ⟨oc_z1m,od_z1m,.func (PySem.W.fnOf "_law_odd" "_law_odd" (a0d a4v) (a0c a4v) (a0a a4v) .none kV_z1m dc_z1m pm_z1m an_z1m cd_z1m ct_z1m),sl_z1m⟩)
 (c_z1m:PySem.W.codeIn K cd_z1m "_law_odd"=true) (p_z1m:PySem.W.keepIn K (.ref f_z1m)=true)
 (a_z0w:PySem.W.nsIn K mainGlobals "_law_name_is"=some (some (.ref f_z0w)))
 (l_z0w:K.lookup f_z0w=some ⟨oc_z0w,od_z0w,.func (PySem.W.fnOf "_law_name_is" "_law_name_is" (a0d a3t) (a0c a3t) (a0a a3t) .none kV_z0w dc_z0w pm_z0w an_z0w cd_z0w ct_z0w),sl_z0w⟩)
 (c_z0w:PySem.W.codeIn K cd_z0w "_law_name_is"=true) (p_z0w:PySem.W.keepIn K (.ref f_z0w)=true)
 (a_z0m:PySem.W.nsIn K mainGlobals "_law_place_is"=some (some (.ref f_z0m)))
 (l_z0m:K.lookup f_z0m=some ⟨oc_z0m,od_z0m,.func (PySem.W.fnOf "_law_place_is" "_law_place_is" (a0d a4f) (a0c a4f) (a0a a4f) .none kV_z0m dc_z0m pm_z0m an_z0m cd_z0m ct_z0m),sl_z0m⟩)
 (c_z0m:PySem.W.codeIn K cd_z0m "_law_place_is"=true) (p_z0m:PySem.W.keepIn K (.ref f_z0m)=true)
 (a_z16:PySem.W.nsIn K mainGlobals "_law_places"=some (some (.ref f_z16)))
 (l_z16:K.lookup f_z16=some ⟨oc_z16,od_z16,.func (PySem.W.fnOf "_law_places" "_law_places" (a0d a4E) (a0c a4E) (a0a a4E) .none kV_z16 dc_z16 pm_z16 an_z16 cd_z16 ct_z16),sl_z16⟩)
 (c_z16:PySem.W.codeIn K cd_z16 "_law_places"=true) (p_z16:PySem.W.keepIn K (.ref f_z16)=true)
 (a_z02:PySem.W.nsIn K mainGlobals "_law_statement_is"=some (some (.ref f_z02)))
 (l_z02:K.lookup f_z02=some ⟨oc_z02,od_z02,.func (PySem.W.fnOf "_law_statement_is" "_law_statement_is" (a0d a3A) (a0c a3A) (a0a a3A) .none kV_z02 dc_z02 pm_z02 an_z02 cd_z02 ct_z02),sl_z02⟩)
 (c_z02:PySem.W.codeIn K cd_z02 "_law_statement_is"=true) (p_z02:PySem.W.keepIn K (.ref f_z02)=true)
 (a_z0x:PySem.W.nsIn K mainGlobals "_law_letters"=some (some (.ref f_z0x)))
 (l_z0x:K.lookup f_z0x=some ⟨oc_z0x,od_z0x,.func (PySem.W.fnOf "_law_letters" "_law_letters" (a0d a3F) (a0c a3F) (a0a a3F) .none kV_z0x dc_z0x pm_z0x an_z0x cd_z0x ct_z0x),sl_z0x⟩)
 (c_z0x:PySem.W.codeIn K cd_z0x "_law_letters"=true) (p_z0x:PySem.W.keepIn K (.ref f_z0x)=true)
 (a_z17:PySem.W.nsIn K mainGlobals "_law_middle"=some (some (.ref f_z17)))
 (l_z17:K.lookup f_z17=some ⟨oc_z17,od_z17,.func (PySem.W.fnOf "_law_middle" "_law_middle" (a0d a3G) (a0c a3G) (a0a a3G) .none kV_z17 dc_z17 pm_z17 an_z17 cd_z17 ct_z17),sl_z17⟩)
 (c_z17:PySem.W.codeIn K cd_z17 "_law_middle"=true) (p_z17:PySem.W.keepIn K (.ref f_z17)=true)
 (a_z1i:PySem.W.nsIn K mainGlobals "_law_read"=some (some (.ref f_z1i)))
 (l_z1i:K.lookup f_z1i=some ⟨oc_z1i,od_z1i,.func (PySem.W.fnOf "_law_read" "_law_read" (a0d a3S) (a0c a3S) (a0a a3S) .none kV_z1i dc_z1i pm_z1i an_z1i cd_z1i ct_z1i),sl_z1i⟩)
 (c_z1i:PySem.W.codeIn K cd_z1i "_law_read"=true) (p_z1i:PySem.W.keepIn K (.ref f_z1i)=true)
 (a_z0y:PySem.W.nsIn K mainGlobals "_law_refused"=some (some (.ref f_z0y)))
 (l_z0y:K.lookup f_z0y=some ⟨oc_z0y,od_z0y,.func (PySem.W.fnOf "_law_refused" "_law_refused" (a0d a4y) (a0c a4y) (a0a a4y) .none kV_z0y dc_z0y pm_z0y an_z0y cd_z0y ct_z0y),sl_z0y⟩)
 (c_z0y:PySem.W.codeIn K cd_z0y "_law_refused"=true) (p_z0y:PySem.W.keepIn K (.ref f_z0y)=true)
 (a_z1f:PySem.W.nsIn K mainGlobals "_law_right"=some (some (.ref f_z1f)))
 (l_z1f:K.lookup f_z1f=some ⟨oc_z1f,od_z1f,.func (PySem.W.fnOf "_law_right" "_law_right" (a0d a3z) (a0c a3z) (a0a a3z) .none kV_z1f dc_z1f pm_z1f an_z1f cd_z1f ct_z1f),sl_z1f⟩)
 (c_z1f:PySem.W.codeIn K cd_z1f "_law_right"=true) (p_z1f:PySem.W.keepIn K (.ref f_z1f)=true)
 (a_d_law:PySem.W.nsIn K mainGlobals "law"=some (some (.ref f_d_law)))
 (l_d_law:K.lookup f_d_law=some ⟨oc_d_law,od_d_law,.func (PySem.W.fnOf "law" "law" (a0d a1u) (a0c a1u) (a0a a1u) .none kV_d_law dc_d_law pm_d_law an_d_law cd_d_law ct_d_law),sl_d_law⟩)
 (c_d_law:PySem.W.codeIn K cd_d_law "law"=true) (p_d_law:PySem.W.keepIn K (.ref f_d_law)=true)
 (k_SMALL:PySem.W.nsIn K mainGlobals "SMALL"=some (some (.str "abcdefghijklmnopqrstuvwxyz" u_SMALL)))
 (k_SMALL_OR_FIGURE:PySem.W.nsIn K mainGlobals "SMALL_OR_FIGURE"=some (some (.str "abcdefghijklmnopqrstuvwxyz0123456789" u_SMALL_OR_FIGURE)))
 (k_GREAT:PySem.W.nsIn K mainGlobals "GREAT"=some (some (.str "ABCDEFGHIJKLMNOPQRSTUVWXYZ" u_GREAT)))
 (k_LONGEST:PySem.W.nsIn K mainGlobals "LONGEST"=some (some (.int 8 u_LONGEST)))
 (k_MOST_PLACES:PySem.W.nsIn K mainGlobals "MOST_PLACES"=some (some (.int 2 u_MOST_PLACES)))
 (k_FACT:PySem.W.nsIn K mainGlobals "FACT"=some (some (.str "fact " u_FACT)))
 (k_MOST_PREMISES:PySem.W.nsIn K mainGlobals "MOST_PREMISES"=some (some (.int 4 u_MOST_PREMISES)))
 (k_MOST_LETTERS:PySem.W.nsIn K mainGlobals "MOST_LETTERS"=some (some (.int 3 u_MOST_LETTERS)))
 (z_NotImplementedError:PySem.W.nsIn K mainGlobals "NotImplementedError"=some none)
 (z_ValueError:PySem.W.nsIn K mainGlobals "ValueError"=some none)
 (z_all:PySem.W.nsIn K mainGlobals "all"=some none)
 (z_bool:PySem.W.nsIn K mainGlobals "bool"=some none)
 (z_enumerate:PySem.W.nsIn K mainGlobals "enumerate"=some none)
 (z_isinstance:PySem.W.nsIn K mainGlobals "isinstance"=some none)
 (z_len:PySem.W.nsIn K mainGlobals "len"=some none)
 (z_list:PySem.W.nsIn K mainGlobals "list"=some none)
 (z_range:PySem.W.nsIn K mainGlobals "range"=some none)
 (z_str:PySem.W.nsIn K mainGlobals "str"=some none)
 (z_tuple:PySem.W.nsIn K mainGlobals "tuple"=some none)
 {cdd_Rule:ClassData} (kc_Rule:PySem.W.clsIn K C_Rule=some cdd_Rule) (kt_Rule:PySem.W.typeIn K (.ref C_Rule)=some (.type "type"))
 (cg_Rule:PySem.W.specialIn K (.ref C_Rule) "__getattribute__"=some (some (.builtin "type.__getattribute__"))) (cr_Rule:PySem.W.readsIn K C_Rule (.type "type")=true) (ca_Rule:PySem.W.findCls K (.ref C_Rule) (.type "type") "__init__"=some (.val (.ref f_z0p)))
 {cdd_Fact:ClassData} (kc_Fact:PySem.W.clsIn K C_Fact=some cdd_Fact) (kt_Fact:PySem.W.typeIn K (.ref C_Fact)=some (.type "type"))
 (pg_Fact:PySem.W.plainGet K C_Fact Str.empty=true) (hd_Fact:PySem.W.hasDictIn K C_Fact=true) (po_Fact:PySem.W.plainOver K C_Fact=true) (sa_Fact:PySem.W.findIn K (.ref C_Fact) "__setattr__"=some (some (.builtin "object.__setattr__")))
 (th_Fact:PySem.W.findIn K (.ref C_Fact) "__class__"=some (some (.builtin "object.__class__"))) (tn_Fact:PySem.W.specialIn K (.builtin "object.__class__") "__get__"=some (some (.builtin "getset_descriptor.__get__"))) (tt_Fact:PySem.W.takesIn K (.builtin "object.__class__")=some true) (tm_Fact:PySem.W.mroIn K C_Fact (.type "object")=some true)
 (nf_Fact_label:PySem.W.findIn K (.ref C_Fact) "label"=some none)
 (nf_Fact_head:PySem.W.findIn K (.ref C_Fact) "head"=some none)
 (nf_Fact_body:PySem.W.findIn K (.ref C_Fact) "body"=some none)
 (mm_Fact:PySem.W.makesIn K C_Fact=true) (mi_Fact:PySem.W.findIn K (.ref C_Fact) "__init__"=some (some (.ref f_z0r))) (mf_Fact:PySem.W.isFn K (.ref f_z0r)=true) (mq_Fact:PySem.W.keepIn K (.ref C_Fact)=true)
 (ma_Fact_word:PySem.W.findIn K (.ref C_Fact) "word"=some (some (.ref f_z0s))) (mb_Fact_word:PySem.W.isFn K (.ref f_z0s)=true)
 (ma_Fact_letters:PySem.W.findIn K (.ref C_Fact) "letters"=some (some (.ref f_z05))) (mb_Fact_letters:PySem.W.isFn K (.ref f_z05)=true)
 (ma_Fact_row:PySem.W.findIn K (.ref C_Fact) "row"=some (some (.ref f_z12))) (mb_Fact_row:PySem.W.isFn K (.ref f_z12)=true)
 (ks_Fact_Rule:PySem.W.subIn K (.ref C_Fact) (.ref C_Rule)=some true)
 (ks_Fact_Fact:PySem.W.subIn K (.ref C_Fact) (.ref C_Fact)=some true)
 (ks_Fact_Sure:PySem.W.subIn K (.ref C_Fact) (.ref C_Sure)=some false)
 (ks_Fact_Most:PySem.W.subIn K (.ref C_Fact) (.ref C_Most)=some false)
 (ks_Fact_Block:PySem.W.subIn K (.ref C_Fact) (.ref C_Block)=some false)
 {cdd_Sure:ClassData} (kc_Sure:PySem.W.clsIn K C_Sure=some cdd_Sure) (kt_Sure:PySem.W.typeIn K (.ref C_Sure)=some (.type "type"))
 (pg_Sure:PySem.W.plainGet K C_Sure Str.empty=true) (hd_Sure:PySem.W.hasDictIn K C_Sure=true) (po_Sure:PySem.W.plainOver K C_Sure=true) (sa_Sure:PySem.W.findIn K (.ref C_Sure) "__setattr__"=some (some (.builtin "object.__setattr__")))
 (th_Sure:PySem.W.findIn K (.ref C_Sure) "__class__"=some (some (.builtin "object.__class__"))) (tn_Sure:PySem.W.specialIn K (.builtin "object.__class__") "__get__"=some (some (.builtin "getset_descriptor.__get__"))) (tt_Sure:PySem.W.takesIn K (.builtin "object.__class__")=some true) (tm_Sure:PySem.W.mroIn K C_Sure (.type "object")=some true)
 (nf_Sure_label:PySem.W.findIn K (.ref C_Sure) "label"=some none)
 (nf_Sure_head:PySem.W.findIn K (.ref C_Sure) "head"=some none)
 (nf_Sure_body:PySem.W.findIn K (.ref C_Sure) "body"=some none)
 (mm_Sure:PySem.W.makesIn K C_Sure=true) (mi_Sure:PySem.W.findIn K (.ref C_Sure) "__init__"=some (some (.ref f_z0p))) (mf_Sure:PySem.W.isFn K (.ref f_z0p)=true) (mq_Sure:PySem.W.keepIn K (.ref C_Sure)=true)
 (ma_Sure_word:PySem.W.findIn K (.ref C_Sure) "word"=some (some (.ref f_z0t))) (mb_Sure_word:PySem.W.isFn K (.ref f_z0t)=true)
 (ma_Sure_letters:PySem.W.findIn K (.ref C_Sure) "letters"=some (some (.ref f_z05))) (mb_Sure_letters:PySem.W.isFn K (.ref f_z05)=true)
 (ma_Sure_row:PySem.W.findIn K (.ref C_Sure) "row"=some (some (.ref f_z11))) (mb_Sure_row:PySem.W.isFn K (.ref f_z11)=true)
 (ks_Sure_Rule:PySem.W.subIn K (.ref C_Sure) (.ref C_Rule)=some true)
 (ks_Sure_Fact:PySem.W.subIn K (.ref C_Sure) (.ref C_Fact)=some false)
 (ks_Sure_Sure:PySem.W.subIn K (.ref C_Sure) (.ref C_Sure)=some true)
 (ks_Sure_Most:PySem.W.subIn K (.ref C_Sure) (.ref C_Most)=some false)
 (ks_Sure_Block:PySem.W.subIn K (.ref C_Sure) (.ref C_Block)=some false)
 {cdd_Most:ClassData} (kc_Most:PySem.W.clsIn K C_Most=some cdd_Most) (kt_Most:PySem.W.typeIn K (.ref C_Most)=some (.type "type"))
 (pg_Most:PySem.W.plainGet K C_Most Str.empty=true) (hd_Most:PySem.W.hasDictIn K C_Most=true) (po_Most:PySem.W.plainOver K C_Most=true) (sa_Most:PySem.W.findIn K (.ref C_Most) "__setattr__"=some (some (.builtin "object.__setattr__")))
 (th_Most:PySem.W.findIn K (.ref C_Most) "__class__"=some (some (.builtin "object.__class__"))) (tn_Most:PySem.W.specialIn K (.builtin "object.__class__") "__get__"=some (some (.builtin "getset_descriptor.__get__"))) (tt_Most:PySem.W.takesIn K (.builtin "object.__class__")=some true) (tm_Most:PySem.W.mroIn K C_Most (.type "object")=some true)
 (nf_Most_label:PySem.W.findIn K (.ref C_Most) "label"=some none)
 (nf_Most_head:PySem.W.findIn K (.ref C_Most) "head"=some none)
 (nf_Most_body:PySem.W.findIn K (.ref C_Most) "body"=some none)
 (mm_Most:PySem.W.makesIn K C_Most=true) (mi_Most:PySem.W.findIn K (.ref C_Most) "__init__"=some (some (.ref f_z0p))) (mf_Most:PySem.W.isFn K (.ref f_z0p)=true) (mq_Most:PySem.W.keepIn K (.ref C_Most)=true)
 (ma_Most_word:PySem.W.findIn K (.ref C_Most) "word"=some (some (.ref f_z0u))) (mb_Most_word:PySem.W.isFn K (.ref f_z0u)=true)
 (ma_Most_letters:PySem.W.findIn K (.ref C_Most) "letters"=some (some (.ref f_z05))) (mb_Most_letters:PySem.W.isFn K (.ref f_z05)=true)
 (ma_Most_row:PySem.W.findIn K (.ref C_Most) "row"=some (some (.ref f_z11))) (mb_Most_row:PySem.W.isFn K (.ref f_z11)=true)
 (ks_Most_Rule:PySem.W.subIn K (.ref C_Most) (.ref C_Rule)=some true)
 (ks_Most_Fact:PySem.W.subIn K (.ref C_Most) (.ref C_Fact)=some false)
 (ks_Most_Sure:PySem.W.subIn K (.ref C_Most) (.ref C_Sure)=some false)
 (ks_Most_Most:PySem.W.subIn K (.ref C_Most) (.ref C_Most)=some true)
 (ks_Most_Block:PySem.W.subIn K (.ref C_Most) (.ref C_Block)=some false)
 {cdd_Block:ClassData} (kc_Block:PySem.W.clsIn K C_Block=some cdd_Block) (kt_Block:PySem.W.typeIn K (.ref C_Block)=some (.type "type"))
 (pg_Block:PySem.W.plainGet K C_Block Str.empty=true) (hd_Block:PySem.W.hasDictIn K C_Block=true) (po_Block:PySem.W.plainOver K C_Block=true) (sa_Block:PySem.W.findIn K (.ref C_Block) "__setattr__"=some (some (.builtin "object.__setattr__")))
 (th_Block:PySem.W.findIn K (.ref C_Block) "__class__"=some (some (.builtin "object.__class__"))) (tn_Block:PySem.W.specialIn K (.builtin "object.__class__") "__get__"=some (some (.builtin "getset_descriptor.__get__"))) (tt_Block:PySem.W.takesIn K (.builtin "object.__class__")=some true) (tm_Block:PySem.W.mroIn K C_Block (.type "object")=some true)
 (nf_Block_label:PySem.W.findIn K (.ref C_Block) "label"=some none)
 (nf_Block_head:PySem.W.findIn K (.ref C_Block) "head"=some none)
 (nf_Block_body:PySem.W.findIn K (.ref C_Block) "body"=some none)
 (mm_Block:PySem.W.makesIn K C_Block=true) (mi_Block:PySem.W.findIn K (.ref C_Block) "__init__"=some (some (.ref f_z0p))) (mf_Block:PySem.W.isFn K (.ref f_z0p)=true) (mq_Block:PySem.W.keepIn K (.ref C_Block)=true)
 (ma_Block_word:PySem.W.findIn K (.ref C_Block) "word"=some (some (.ref f_z0l))) (mb_Block_word:PySem.W.isFn K (.ref f_z0l)=true)
 (ma_Block_letters:PySem.W.findIn K (.ref C_Block) "letters"=some (some (.ref f_z05))) (mb_Block_letters:PySem.W.isFn K (.ref f_z05)=true)
 (ma_Block_row:PySem.W.findIn K (.ref C_Block) "row"=some (some (.ref f_z11))) (mb_Block_row:PySem.W.isFn K (.ref f_z11)=true)
 (ks_Block_Rule:PySem.W.subIn K (.ref C_Block) (.ref C_Rule)=some true)
 (ks_Block_Fact:PySem.W.subIn K (.ref C_Block) (.ref C_Fact)=some false)
 (ks_Block_Sure:PySem.W.subIn K (.ref C_Block) (.ref C_Sure)=some false)
 (ks_Block_Most:PySem.W.subIn K (.ref C_Block) (.ref C_Most)=some false)
 (ks_Block_Block:PySem.W.subIn K (.ref C_Block) (.ref C_Block)=some true)
 (x_NoStatement:b2O K C_NoStatement f_z00 "found"=true)
 (x_NoRow:b2O K C_NoRow f_z0e "found"=true)
 (xc_NoStatement:a5U K C_NoStatement=true)
 (xc_MostError:a5U K C_MostError=true)
 (xm_NoStatement_NoStatement:PySem.W.mroIn K C_NoStatement (.ref C_NoStatement)=some true)
 (xm_NoRow_MostError:PySem.W.mroIn K C_NoRow (.ref C_MostError)=some true)
 (xt_up:a6u K [C_NoRow] [.ref C_NoRow,.type "ValueError"] (fun _ _=>true)=true)
 (xt_no:a6u K [C_NoRow] [.ref C_NoStatement] (fun _ _=>false)=true)
 :∃t:Adr,t.f_d_law=f_d_law∧t.fd_d_law=PySem.W.fnOf "law" "law" (a0d a1u) (a0c a1u) (a0a a1u) .none kV_d_law dc_d_law pm_d_law an_d_law cd_d_law ct_d_law∧Txt K mg t:=by
 refine ⟨⟨f_z00,PySem.W.fnOf "__init__" "NoStatement.__init__" (a0d a4a) (a0c a4a) (a0a a4a) .none kV_z00 dc_z00 pm_z00 an_z00 cd_z00 ct_z00,f_z0e,PySem.W.fnOf "__init__" "NoRow.__init__" (a0d a4k) (a0c a4k) (a0a a4k) .none kV_z0e dc_z0e pm_z0e an_z0e cd_z0e ct_z0e,f_z0f,PySem.W.fnOf "is_made_of" "is_made_of" (a0d a3u) (a0c a3u) (a0a a3u) .none kV_z0f dc_z0f pm_z0f an_z0f cd_z0f ct_z0f,f_z18,PySem.W.fnOf "is_name" "is_name" (a0d a3L) (a0c a3L) (a0a a3L) .none kV_z18 dc_z18 pm_z18 an_z18 cd_z18 ct_z18,f_z0z,PySem.W.fnOf "is_label" "is_label" (a0d a4m) (a0c a4m) (a0a a4m) .none kV_z0z dc_z0z pm_z0z an_z0z cd_z0z ct_z0z,f_z0n,PySem.W.fnOf "is_letter" "is_letter" (a0d a4g) (a0c a4g) (a0a a4g) .none kV_z0n dc_z0n pm_z0n an_z0n cd_z0n ct_z0n,f_z0o,PySem.W.fnOf "places_of" "places_of" (a0d a3v) (a0c a3v) (a0a a3v) .none kV_z0o dc_z0o pm_z0o an_z0o cd_z0o ct_z0o,f_z10,PySem.W.fnOf "parts_of" "parts_of" (a0d a4F) (a0c a4F) (a0a a4F) .none kV_z10 dc_z10 pm_z10 an_z10 cd_z10 ct_z10,f_z03,PySem.W.fnOf "is_statement" "is_statement" (a0d a3X) (a0c a3X) (a0a a3X) .none kV_z03 dc_z03 pm_z03 an_z03 cd_z03 ct_z03,f_z0g,PySem.W.fnOf "letters_of" "letters_of" (a0d a3D) (a0c a3D) (a0a a3D) .none kV_z0g dc_z0g pm_z0g an_z0g cd_z0g ct_z0g,f_z01,PySem.W.fnOf "is_written_out" "is_written_out" (a0d a4J) (a0c a4J) (a0a a4J) .none kV_z01 dc_z01 pm_z01 an_z01 cd_z01 ct_z01,f_z0p,PySem.W.fnOf "__init__" "Rule.__init__" (a0d a3H) (a0c a3H) (a0a a3H) .none kV_z0p dc_z0p pm_z0p an_z0p cd_z0p ct_z0p,f_z05,PySem.W.fnOf "letters" "Rule.letters" (a0d a3y) (a0c a3y) (a0a a3y) .none kV_z05 dc_z05 pm_z05 an_z05 cd_z05 ct_z05,f_z11,PySem.W.fnOf "row" "Rule.row" (a0d a3K) (a0c a3K) (a0a a3K) .none kV_z11 dc_z11 pm_z11 an_z11 cd_z11 ct_z11,f_z0r,PySem.W.fnOf "__init__" "Fact.__init__" (a0d a4D) (a0c a4D) (a0a a4D) .none kV_z0r dc_z0r pm_z0r an_z0r cd_z0r ct_z0r,f_z0s,PySem.W.fnOf "word" "Fact.word" (a0d a4o) (a0c a4o) (a0a a4o) .none kV_z0s dc_z0s pm_z0s an_z0s cd_z0s ct_z0s,f_z12,PySem.W.fnOf "row" "Fact.row" (a0d a3I) (a0c a3I) (a0a a3I) .none kV_z12 dc_z12 pm_z12 an_z12 cd_z12 ct_z12,f_z0t,PySem.W.fnOf "word" "Sure.word" (a0d a3E) (a0c a3E) (a0a a3E) .none kV_z0t dc_z0t pm_z0t an_z0t cd_z0t ct_z0t,f_z0u,PySem.W.fnOf "word" "Most.word" (a0d a3B) (a0c a3B) (a0a a3B) .none kV_z0u dc_z0u pm_z0u an_z0u cd_z0u ct_z0u,f_z0l,PySem.W.fnOf "word" "Block.word" (a0d a4G) (a0c a4G) (a0a a4G) .none kV_z0l dc_z0l pm_z0l an_z0l cd_z0l ct_z0l,f_z13,PySem.W.fnOf "words_of" "words_of" (a0d a4H) (a0c a4H) (a0a a4H) .none kV_z13 dc_z13 pm_z13 an_z13 cd_z13 ct_z13,f_z19,PySem.W.fnOf "fact_in" "fact_in" (a0d a4z) (a0c a4z) (a0a a4z) .none kV_z19 dc_z19 pm_z19 an_z19 cd_z19 ct_z19,f_z1n,PySem.W.fnOf "made" "made" (a0d a4x) (a0c a4x) (a0a a4x) .none kV_z1n dc_z1n pm_z1n an_z1n cd_z1n ct_z1n,f_z0c,PySem.W.fnOf "premises_in" "premises_in" (a0d a4I) (a0c a4I) (a0a a4I) .none kV_z0c dc_z0c pm_z0c an_z0c cd_z0c ct_z0c,f_z0d,PySem.W.fnOf "labelled_in" "labelled_in" (a0d a3n) (a0c a3n) (a0a a3n) .none kV_z0d dc_z0d pm_z0d an_z0d cd_z0d ct_z0d,f_z1a,PySem.W.fnOf "rule_of" "rule_of" (a0d a3W) (a0c a3W) (a0a a3W) .none kV_z1a dc_z1a pm_z1a an_z1a cd_z1a ct_z1a,f_z1k,PySem.W.fnOf "_law_mix" "_law_mix" (a0d a4B) (a0c a4B) (a0a a4B) .none kV_z1k dc_z1k pm_z1k an_z1k cd_z1k ct_z1k,f_z1g,PySem.W.fnOf "_law_text" "_law_text" (a0d a3O) (a0c a3O) (a0a a3O) .none kV_z1g dc_z1g pm_z1g an_z1g cd_z1g ct_z1g,f_z1h,PySem.W.fnOf "_law_name" "_law_name" (a0d a4i) (a0c a4i) (a0a a4i) .none kV_z1h dc_z1h pm_z1h an_z1h cd_z1h ct_z1h,f_z1b,PySem.W.fnOf "_law_label" "_law_label" (a0d a3U) (a0c a3U) (a0a a3U) .none kV_z1b dc_z1b pm_z1b an_z1b cd_z1b ct_z1b,f_z14,PySem.W.fnOf "_law_letter" "_law_letter" (a0d a4C) (a0c a4C) (a0a a4C) .none kV_z14 dc_z14 pm_z14 an_z14 cd_z14 ct_z14,f_z1c,PySem.W.fnOf "_law_place" "_law_place" (a0d a4u) (a0c a4u) (a0a a4u) .none kV_z1c dc_z1c pm_z1c an_z1c cd_z1c ct_z1c,f_z1d,PySem.W.fnOf "_law_parts" "_law_parts" (a0d a3s) (a0c a3s) (a0a a3s) .none kV_z1d dc_z1d pm_z1d an_z1d cd_z1d ct_z1d,f_z1e,PySem.W.fnOf "_law_shown" "_law_shown" (a0d a4s) (a0c a4s) (a0a a4s) .none kV_z1e dc_z1e pm_z1e an_z1e cd_z1e ct_z1e,f_z1l,PySem.W.fnOf "_law_row" "_law_row" (a0d a3r) (a0c a3r) (a0a a3r) .none kV_z1l dc_z1l pm_z1l an_z1l cd_z1l ct_z1l,f_z15,PySem.W.fnOf "_law_spoilt" "_law_spoilt" (a0d a3P) (a0c a3P) (a0a a3P) .none kV_z15 dc_z15 pm_z15 an_z15 cd_z15 ct_z15,f_z1m,PySem.W.fnOf "_law_odd" "_law_odd" (a0d a4v) (a0c a4v) (a0a a4v) .none kV_z1m dc_z1m pm_z1m an_z1m cd_z1m ct_z1m,f_z0w,PySem.W.fnOf "_law_name_is" "_law_name_is" (a0d a3t) (a0c a3t) (a0a a3t) .none kV_z0w dc_z0w pm_z0w an_z0w cd_z0w ct_z0w,f_z0m,PySem.W.fnOf "_law_place_is" "_law_place_is" (a0d a4f) (a0c a4f) (a0a a4f) .none kV_z0m dc_z0m pm_z0m an_z0m cd_z0m ct_z0m,f_z16,PySem.W.fnOf "_law_places" "_law_places" (a0d a4E) (a0c a4E) (a0a a4E) .none kV_z16 dc_z16 pm_z16 an_z16 cd_z16 ct_z16,f_z02,PySem.W.fnOf "_law_statement_is" "_law_statement_is" (a0d a3A) (a0c a3A) (a0a a3A) .none kV_z02 dc_z02 pm_z02 an_z02 cd_z02 ct_z02,f_z0x,PySem.W.fnOf "_law_letters" "_law_letters" (a0d a3F) (a0c a3F) (a0a a3F) .none kV_z0x dc_z0x pm_z0x an_z0x cd_z0x ct_z0x,f_z17,PySem.W.fnOf "_law_middle" "_law_middle" (a0d a3G) (a0c a3G) (a0a a3G) .none kV_z17 dc_z17 pm_z17 an_z17 cd_z17 ct_z17,f_z1i,PySem.W.fnOf "_law_read" "_law_read" (a0d a3S) (a0c a3S) (a0a a3S) .none kV_z1i dc_z1i pm_z1i an_z1i cd_z1i ct_z1i,f_z0y,PySem.W.fnOf "_law_refused" "_law_refused" (a0d a4y) (a0c a4y) (a0a a4y) .none kV_z0y dc_z0y pm_z0y an_z0y cd_z0y ct_z0y,f_z1f,PySem.W.fnOf "_law_right" "_law_right" (a0d a3z) (a0c a3z) (a0a a3z) .none kV_z1f dc_z1f pm_z1f an_z1f cd_z1f ct_z1f,f_d_law,PySem.W.fnOf "law" "law" (a0d a1u) (a0c a1u) (a0a a1u) .none kV_d_law dc_d_law pm_d_law an_d_law cd_d_law ct_d_law,C_MostError,C_NoStatement,C_NoRow,C_Rule,C_Fact,C_Sure,C_Most,C_Block⟩,rfl,rfl,?_⟩
 constructor
 ·exact a0l (st:=a4a) l_z00 c_z00 p_z00
 ·exact (a0l (st:=a4a) l_z00 c_z00 p_z00).binds (ps:=["self","found"]) fun _ _ _ _ _ _ us hl=>match us,hl with | [_,_],_=>rfl
 ·exact a0l (st:=a4k) l_z0e c_z0e p_z0e
 ·exact (a0l (st:=a4k) l_z0e c_z0e p_z0e).binds (ps:=["self","found"]) fun _ _ _ _ _ _ us hl=>match us,hl with | [_,_],_=>rfl
 ·exact a0l (st:=a3u) l_z0f c_z0f p_z0f
 ·exact (a0l (st:=a3u) l_z0f c_z0f p_z0f).binds (ps:=["thing","signs","most"]) fun _ _ _ _ _ _ us hl=>match us,hl with | [_,_,_],_=>rfl
 ·exact PySem.W.mg_of X G a_z0f
 ·exact a0l (st:=a3L) l_z18 c_z18 p_z18
 ·exact (a0l (st:=a3L) l_z18 c_z18 p_z18).binds (ps:=["thing"]) fun _ _ _ _ _ _ us hl=>match us,hl with | [_],_=>rfl
 ·exact PySem.W.mg_of X G a_z18
 ·exact a0l (st:=a4m) l_z0z c_z0z p_z0z
 ·exact (a0l (st:=a4m) l_z0z c_z0z p_z0z).binds (ps:=["thing"]) fun _ _ _ _ _ _ us hl=>match us,hl with | [_],_=>rfl
 ·exact PySem.W.mg_of X G a_z0z
 ·exact a0l (st:=a4g) l_z0n c_z0n p_z0n
 ·exact (a0l (st:=a4g) l_z0n c_z0n p_z0n).binds (ps:=["thing"]) fun _ _ _ _ _ _ us hl=>match us,hl with | [_],_=>rfl
 ·exact PySem.W.mg_of X G a_z0n
 ·exact a0l (st:=a3v) l_z0o c_z0o p_z0o
 ·exact (a0l (st:=a3v) l_z0o c_z0o p_z0o).binds (ps:=["behind"]) fun _ _ _ _ _ _ us hl=>match us,hl with | [_],_=>rfl
 ·exact PySem.W.mg_of X G a_z0o
 ·exact a0l (st:=a4F) l_z10 c_z10 p_z10
 ·exact (a0l (st:=a4F) l_z10 c_z10 p_z10).binds (ps:=["statement"]) fun _ _ _ _ _ _ us hl=>match us,hl with | [_],_=>rfl
 ·exact PySem.W.mg_of X G a_z10
 ·exact a0l (st:=a3X) l_z03 c_z03 p_z03
 ·exact (a0l (st:=a3X) l_z03 c_z03 p_z03).binds (ps:=["thing"]) fun _ _ _ _ _ _ us hl=>match us,hl with | [_],_=>rfl
 ·exact PySem.W.mg_of X G a_z03
 ·exact a0l (st:=a3D) l_z0g c_z0g p_z0g
 ·exact (a0l (st:=a3D) l_z0g c_z0g p_z0g).binds (ps:=["statement"]) fun _ _ _ _ _ _ us hl=>match us,hl with | [_],_=>rfl
 ·exact PySem.W.mg_of X G a_z0g
 ·exact a0l (st:=a4J) l_z01 c_z01 p_z01
 ·exact (a0l (st:=a4J) l_z01 c_z01 p_z01).binds (ps:=["thing"]) fun _ _ _ _ _ _ us hl=>match us,hl with | [_],_=>rfl
 ·exact PySem.W.mg_of X G a_z01
 ·exact a0l (st:=a3H) l_z0p c_z0p p_z0p
 ·exact (a0l (st:=a3H) l_z0p c_z0p p_z0p).binds (ps:=["self","label","head","body"]) fun _ _ _ _ _ _ us hl=>match us,hl with | [_,_,_,_],_=>rfl
 ·exact a0l (st:=a3y) l_z05 c_z05 p_z05
 ·exact (a0l (st:=a3y) l_z05 c_z05 p_z05).binds (ps:=["self"]) fun _ _ _ _ _ _ us hl=>match us,hl with | [_],_=>rfl
 ·exact a0l (st:=a3K) l_z11 c_z11 p_z11
 ·exact (a0l (st:=a3K) l_z11 c_z11 p_z11).binds (ps:=["self"]) fun _ _ _ _ _ _ us hl=>match us,hl with | [_],_=>rfl
 ·exact a0l (st:=a4D) l_z0r c_z0r p_z0r
 ·exact (a0l (st:=a4D) l_z0r c_z0r p_z0r).binds (ps:=["self","head"]) fun _ _ _ _ _ _ us hl=>match us,hl with | [_,_],_=>rfl
 ·exact a0l (st:=a4o) l_z0s c_z0s p_z0s
 ·exact (a0l (st:=a4o) l_z0s c_z0s p_z0s).binds (ps:=["self"]) fun _ _ _ _ _ _ us hl=>match us,hl with | [_],_=>rfl
 ·exact a0l (st:=a3I) l_z12 c_z12 p_z12
 ·exact (a0l (st:=a3I) l_z12 c_z12 p_z12).binds (ps:=["self"]) fun _ _ _ _ _ _ us hl=>match us,hl with | [_],_=>rfl
 ·exact a0l (st:=a3E) l_z0t c_z0t p_z0t
 ·exact (a0l (st:=a3E) l_z0t c_z0t p_z0t).binds (ps:=["self"]) fun _ _ _ _ _ _ us hl=>match us,hl with | [_],_=>rfl
 ·exact a0l (st:=a3B) l_z0u c_z0u p_z0u
 ·exact (a0l (st:=a3B) l_z0u c_z0u p_z0u).binds (ps:=["self"]) fun _ _ _ _ _ _ us hl=>match us,hl with | [_],_=>rfl
 ·exact a0l (st:=a4G) l_z0l c_z0l p_z0l
 ·exact (a0l (st:=a4G) l_z0l c_z0l p_z0l).binds (ps:=["self"]) fun _ _ _ _ _ _ us hl=>match us,hl with | [_],_=>rfl
 ·exact a0l (st:=a4H) l_z13 c_z13 p_z13
 ·exact (a0l (st:=a4H) l_z13 c_z13 p_z13).binds (ps:=["row"]) fun _ _ _ _ _ _ us hl=>match us,hl with | [_],_=>rfl
 ·exact PySem.W.mg_of X G a_z13
 ·exact a0l (st:=a4z) l_z19 c_z19 p_z19
 ·exact (a0l (st:=a4z) l_z19 c_z19 p_z19).binds (ps:=["row"]) fun _ _ _ _ _ _ us hl=>match us,hl with | [_],_=>rfl
 ·exact PySem.W.mg_of X G a_z19
 ·exact a0l (st:=a4x) l_z1n c_z1n p_z1n
 ·exact (a0l (st:=a4x) l_z1n c_z1n p_z1n).binds (ps:=["word","label","head","body"]) fun _ _ _ _ _ _ us hl=>match us,hl with | [_,_,_,_],_=>rfl
 ·exact PySem.W.mg_of X G a_z1n
 ·exact a0l (st:=a4I) l_z0c c_z0c p_z0c
 ·exact (a0l (st:=a4I) l_z0c c_z0c p_z0c).binds (ps:=["ahead"]) fun _ _ _ _ _ _ us hl=>match us,hl with | [_],_=>rfl
 ·exact PySem.W.mg_of X G a_z0c
 ·exact a0l (st:=a3n) l_z0d c_z0d p_z0d
 ·exact (a0l (st:=a3n) l_z0d c_z0d p_z0d).binds (ps:=["row"]) fun _ _ _ _ _ _ us hl=>match us,hl with | [_],_=>rfl
 ·exact PySem.W.mg_of X G a_z0d
 ·exact a0l (st:=a3W) l_z1a c_z1a p_z1a
 ·exact (a0l (st:=a3W) l_z1a c_z1a p_z1a).binds (ps:=["row"]) fun _ _ _ _ _ _ us hl=>match us,hl with | [_],_=>rfl
 ·exact PySem.W.mg_of X G a_z1a
 ·exact a0l (st:=a4B) l_z1k c_z1k p_z1k
 ·exact (a0l (st:=a4B) l_z1k c_z1k p_z1k).binds (ps:=["_law_cell","_law_k"]) fun _ _ _ _ _ _ us hl=>match us,hl with | [_,_],_=>rfl
 ·exact PySem.W.mg_of X G a_z1k
 ·exact a0l (st:=a3O) l_z1g c_z1g p_z1g
 ·exact (a0l (st:=a3O) l_z1g c_z1g p_z1g).binds (ps:=["_law_cell","_law_signs","_law_most"]) fun _ _ _ _ _ _ us hl=>match us,hl with | [_,_,_],_=>rfl
 ·exact PySem.W.mg_of X G a_z1g
 ·exact a0l (st:=a4i) l_z1h c_z1h p_z1h
 ·exact (a0l (st:=a4i) l_z1h c_z1h p_z1h).binds (ps:=["_law_cell"]) fun _ _ _ _ _ _ us hl=>match us,hl with | [_],_=>rfl
 ·exact PySem.W.mg_of X G a_z1h
 ·exact a0l (st:=a3U) l_z1b c_z1b p_z1b
 ·exact (a0l (st:=a3U) l_z1b c_z1b p_z1b).binds (ps:=["_law_cell"]) fun _ _ _ _ _ _ us hl=>match us,hl with | [_],_=>rfl
 ·exact PySem.W.mg_of X G a_z1b
 ·exact a0l (st:=a4C) l_z14 c_z14 p_z14
 ·exact (a0l (st:=a4C) l_z14 c_z14 p_z14).binds (ps:=["_law_base","_law_k"]) fun _ _ _ _ _ _ us hl=>match us,hl with | [_,_],_=>rfl
 ·exact PySem.W.mg_of X G a_z14
 ·exact a0l (st:=a4u) l_z1c c_z1c p_z1c
 ·exact (a0l (st:=a4u) l_z1c c_z1c p_z1c).binds (ps:=["_law_cell","_law_base","_law_many"]) fun _ _ _ _ _ _ us hl=>match us,hl with | [_,_,_],_=>rfl
 ·exact PySem.W.mg_of X G a_z1c
 ·exact a0l (st:=a3s) l_z1d c_z1d p_z1d
 ·exact (a0l (st:=a3s) l_z1d c_z1d p_z1d).binds (ps:=["_law_cell","_law_base","_law_many"]) fun _ _ _ _ _ _ us hl=>match us,hl with | [_,_,_],_=>rfl
 ·exact PySem.W.mg_of X G a_z1d
 ·exact a0l (st:=a4s) l_z1e c_z1e p_z1e
 ·exact (a0l (st:=a4s) l_z1e c_z1e p_z1e).binds (ps:=["_law_parts_here"]) fun _ _ _ _ _ _ us hl=>match us,hl with | [_],_=>rfl
 ·exact PySem.W.mg_of X G a_z1e
 ·exact a0l (st:=a3r) l_z1l c_z1l p_z1l
 ·exact (a0l (st:=a3r) l_z1l c_z1l p_z1l).binds (ps:=["_law_cell"]) fun _ _ _ _ _ _ us hl=>match us,hl with | [_],_=>rfl
 ·exact PySem.W.mg_of X G a_z1l
 ·exact a0l (st:=a3P) l_z15 c_z15 p_z15
 ·exact (a0l (st:=a3P) l_z15 c_z15 p_z15).binds (ps:=["_law_row_here","_law_cell"]) fun _ _ _ _ _ _ us hl=>match us,hl with | [_,_],_=>rfl
 ·exact PySem.W.mg_of X G a_z15
 ·exact a0l (st:=a4v) l_z1m c_z1m p_z1m
 ·exact (a0l (st:=a4v) l_z1m c_z1m p_z1m).binds (ps:=["_law_cell"]) fun _ _ _ _ _ _ us hl=>match us,hl with | [_],_=>rfl
 ·exact PySem.W.mg_of X G a_z1m
 ·exact a0l (st:=a3t) l_z0w c_z0w p_z0w
 ·exact (a0l (st:=a3t) l_z0w c_z0w p_z0w).binds (ps:=["_law_text_here","_law_signs"]) fun _ _ _ _ _ _ us hl=>match us,hl with | [_,_],_=>rfl
 ·exact PySem.W.mg_of X G a_z0w
 ·exact a0l (st:=a4f) l_z0m c_z0m p_z0m
 ·exact (a0l (st:=a4f) l_z0m c_z0m p_z0m).binds (ps:=["_law_text_here"]) fun _ _ _ _ _ _ us hl=>match us,hl with | [_],_=>rfl
 ·exact PySem.W.mg_of X G a_z0m
 ·exact a0l (st:=a4E) l_z16 c_z16 p_z16
 ·exact (a0l (st:=a4E) l_z16 c_z16 p_z16).binds (ps:=["_law_text_here"]) fun _ _ _ _ _ _ us hl=>match us,hl with | [_],_=>rfl
 ·exact PySem.W.mg_of X G a_z16
 ·exact a0l (st:=a3A) l_z02 c_z02 p_z02
 ·exact (a0l (st:=a3A) l_z02 c_z02 p_z02).binds (ps:=["_law_text_here"]) fun _ _ _ _ _ _ us hl=>match us,hl with | [_],_=>rfl
 ·exact PySem.W.mg_of X G a_z02
 ·exact a0l (st:=a3F) l_z0x c_z0x p_z0x
 ·exact (a0l (st:=a3F) l_z0x c_z0x p_z0x).binds (ps:=["_law_texts"]) fun _ _ _ _ _ _ us hl=>match us,hl with | [_],_=>rfl
 ·exact PySem.W.mg_of X G a_z0x
 ·exact a0l (st:=a3G) l_z17 c_z17 p_z17
 ·exact (a0l (st:=a3G) l_z17 c_z17 p_z17).binds (ps:=["_law_words"]) fun _ _ _ _ _ _ us hl=>match us,hl with | [_],_=>rfl
 ·exact PySem.W.mg_of X G a_z17
 ·exact a0l (st:=a3S) l_z1i c_z1i p_z1i
 ·exact (a0l (st:=a3S) l_z1i c_z1i p_z1i).binds (ps:=["_law_row_here"]) fun _ _ _ _ _ _ us hl=>match us,hl with | [_],_=>rfl
 ·exact PySem.W.mg_of X G a_z1i
 ·exact a0l (st:=a4y) l_z0y c_z0y p_z0y
 ·exact (a0l (st:=a4y) l_z0y c_z0y p_z0y).binds (ps:=["_law_row_here"]) fun _ _ _ _ _ _ us hl=>match us,hl with | [_],_=>rfl
 ·exact PySem.W.mg_of X G a_z0y
 ·exact a0l (st:=a3z) l_z1f c_z1f p_z1f
 ·exact (a0l (st:=a3z) l_z1f c_z1f p_z1f).binds (ps:=["_law_row_here","_law_due"]) fun _ _ _ _ _ _ us hl=>match us,hl with | [_,_],_=>rfl
 ·exact PySem.W.mg_of X G a_z1f
 ·exact a0l (st:=a1u) l_d_law c_d_law p_d_law
 ·exact (a0l (st:=a1u) l_d_law c_d_law p_d_law).binds (ps:=["_law_script"]) fun _ _ _ _ _ _ us hl=>match us,hl with | [_],_=>rfl
 ·exact PySem.W.mg_of X G a_d_law
 ·exact ⟨_,PySem.W.mg_of X G k_SMALL⟩
 ·exact ⟨_,PySem.W.mg_of X G k_SMALL_OR_FIGURE⟩
 ·exact ⟨_,PySem.W.mg_of X G k_GREAT⟩
 ·exact ⟨_,PySem.W.mg_of X G k_LONGEST⟩
 ·exact ⟨_,PySem.W.mg_of X G k_MOST_PLACES⟩
 ·exact ⟨_,PySem.W.mg_of X G k_FACT⟩
 ·exact ⟨_,PySem.W.mg_of X G k_MOST_PREMISES⟩
 ·exact ⟨_,PySem.W.mg_of X G k_MOST_LETTERS⟩
 ·exact PySem.W.mg_of X G a_MostError
 ·exact PySem.W.mg_of X G a_NoStatement
 ·exact PySem.W.mg_of X G a_NoRow
 ·exact PySem.W.mg_of X G a_Rule
 ·exact PySem.W.mg_of X G a_Fact
 ·exact PySem.W.mg_of X G a_Sure
 ·exact PySem.W.mg_of X G a_Most
 ·exact PySem.W.mg_of X G a_Block
 ·exact PySem.W.mg_none_of X G z_NotImplementedError
 ·exact PySem.W.mg_none_of X G z_ValueError
 ·exact PySem.W.mg_none_of X G z_all
 ·exact PySem.W.mg_none_of X G z_bool
 ·exact PySem.W.mg_none_of X G z_enumerate
 ·exact PySem.W.mg_none_of X G z_isinstance
 ·exact PySem.W.mg_none_of X G z_len
 ·exact PySem.W.mg_none_of X G z_list
 ·exact PySem.W.mg_none_of X G z_range
 ·exact PySem.W.mg_none_of X G z_str
 ·exact PySem.W.mg_none_of X G z_tuple
 ·exact ⟨cg_Rule,cr_Rule,ca_Rule,p_z0p⟩
 ·exact ⟨pg_Fact,hd_Fact,po_Fact,sa_Fact⟩
 ·exact ⟨th_Fact,tn_Fact,tt_Fact,tm_Fact⟩
 ·exact nf_Fact_label
 ·exact nf_Fact_head
 ·exact nf_Fact_body
 ·exact ⟨mm_Fact,mi_Fact,mf_Fact,mq_Fact⟩
 ·exact ⟨ma_Fact_word,mb_Fact_word,p_z0s⟩
 ·exact ⟨ma_Fact_letters,mb_Fact_letters,p_z05⟩
 ·exact ⟨ma_Fact_row,mb_Fact_row,p_z12⟩
 ·exact a1K kc_Rule kt_Rule ks_Fact_Rule ks_Fact_Fact
 ·exact a1K kc_Fact kt_Fact ks_Fact_Fact ks_Fact_Fact
 ·exact a1K kc_Sure kt_Sure ks_Fact_Sure ks_Fact_Fact
 ·exact a1K kc_Most kt_Most ks_Fact_Most ks_Fact_Fact
 ·exact a1K kc_Block kt_Block ks_Fact_Block ks_Fact_Fact
 ·exact ⟨pg_Sure,hd_Sure,po_Sure,sa_Sure⟩
 ·exact ⟨th_Sure,tn_Sure,tt_Sure,tm_Sure⟩
 ·exact nf_Sure_label
 ·exact nf_Sure_head
 ·exact nf_Sure_body
 ·exact ⟨mm_Sure,mi_Sure,mf_Sure,mq_Sure⟩
 ·exact ⟨ma_Sure_word,mb_Sure_word,p_z0t⟩
 ·exact ⟨ma_Sure_letters,mb_Sure_letters,p_z05⟩
 ·exact ⟨ma_Sure_row,mb_Sure_row,p_z11⟩
 ·exact a1K kc_Rule kt_Rule ks_Sure_Rule ks_Sure_Sure
 ·exact a1K kc_Fact kt_Fact ks_Sure_Fact ks_Sure_Sure
 ·exact a1K kc_Sure kt_Sure ks_Sure_Sure ks_Sure_Sure
 ·exact a1K kc_Most kt_Most ks_Sure_Most ks_Sure_Sure
 ·exact a1K kc_Block kt_Block ks_Sure_Block ks_Sure_Sure
 ·exact ⟨pg_Most,hd_Most,po_Most,sa_Most⟩
 ·exact ⟨th_Most,tn_Most,tt_Most,tm_Most⟩
 ·exact nf_Most_label
 ·exact nf_Most_head
 ·exact nf_Most_body
 ·exact ⟨mm_Most,mi_Most,mf_Most,mq_Most⟩
 ·exact ⟨ma_Most_word,mb_Most_word,p_z0u⟩
 ·exact ⟨ma_Most_letters,mb_Most_letters,p_z05⟩
 ·exact ⟨ma_Most_row,mb_Most_row,p_z11⟩
 ·exact a1K kc_Rule kt_Rule ks_Most_Rule ks_Most_Most
 ·exact a1K kc_Fact kt_Fact ks_Most_Fact ks_Most_Most
 ·exact a1K kc_Sure kt_Sure ks_Most_Sure ks_Most_Most
 ·exact a1K kc_Most kt_Most ks_Most_Most ks_Most_Most
 ·exact a1K kc_Block kt_Block ks_Most_Block ks_Most_Most
 ·exact ⟨pg_Block,hd_Block,po_Block,sa_Block⟩
 ·exact ⟨th_Block,tn_Block,tt_Block,tm_Block⟩
 ·exact nf_Block_label
 ·exact nf_Block_head
 ·exact nf_Block_body
 ·exact ⟨mm_Block,mi_Block,mf_Block,mq_Block⟩
 ·exact ⟨ma_Block_word,mb_Block_word,p_z0l⟩
 ·exact ⟨ma_Block_letters,mb_Block_letters,p_z05⟩
 ·exact ⟨ma_Block_row,mb_Block_row,p_z11⟩
 ·exact a1K kc_Rule kt_Rule ks_Block_Rule ks_Block_Block
 ·exact a1K kc_Fact kt_Fact ks_Block_Fact ks_Block_Block
 ·exact a1K kc_Sure kt_Sure ks_Block_Sure ks_Block_Block
 ·exact a1K kc_Most kt_Most ks_Block_Most ks_Block_Block
 ·exact a1K kc_Block kt_Block ks_Block_Block ks_Block_Block
 ·exact .of_in x_NoStatement
 ·exact .of_in x_NoRow
 ·exact .of_in xc_NoStatement
 ·exact .of_in xc_MostError
 ·exact xm_NoStatement_NoStatement
 ·exact xm_NoRow_MostError
 ·exact a9D xt_up
 ·exact a9D xt_no
/-! ### words -/
def b0o:List Nat:=[97,98,99,100,101,102,103,104,105,106,107,108,109,110,111,112,113,114,115,116,117,118,119,120,121,122]
def b2h:List Nat:=[65,66,67,68,69,70,71,72,73,74,75,76,77,78,79,80,81,82,83,84,85,86,87,88,89,90]
theorem a8S:("abcdefghijklmnopqrstuvwxyz":Str)=mk b0o:=by decide+kernel
theorem b1Y:("ABCDEFGHIJKLMNOPQRSTUVWXYZ":Str)=mk b2h:=by decide+kernel
def IsW (l:List Nat):Prop:=1≤l.length∧l.length≤8∧∀c∈l,c∈b0o
def IsP (l:List Nat):Prop:=IsW l∨∃c,c∈b2h∧l=[c]
def a0S (sd nm:List Nat):List (List Nat)→List Nat
 | []=>sd++nm
 | [p]=>sd++nm++40::(p++[41])
 | p::q::_=>sd++nm++40::(p++44::(q++[41]))
structure IsS (sd nm:List Nat) (ps:List (List Nat)):Prop where
 side:sd=[]∨sd=[45]
 name:IsW nm
 many:ps.length≤2
 places:∀p∈ps,IsP p
theorem a7P {c:Nat} (h:c∈b0o):97≤c∧c≤122:=by revert c;decide
theorem b1U {c:Nat} (h:c∈b2h):65≤c∧c≤90:=by revert c;decide
theorem IsP.len {l:List Nat} (h:IsP l):1≤l.length∧l.length≤8:=by
 rcases h with h | ⟨c,_,rfl⟩
 ·exact ⟨h.1,h.2.1⟩
 ·exact ⟨Nat.le_refl _,by simp⟩
theorem IsP.rng {l:List Nat} (h:IsP l):∀c∈l,65≤c∧c≤122:=by
 rcases h with h | ⟨d,hd,rfl⟩
 ·intro c hc;have:=a7P (h.2.2 c hc);omega
 ·intro c hc
  have e:c=d:=by simpa using hc
  have:=b1U hd;omega
theorem IsP.no {l:List Nat} (h:IsP l) {c:Nat} (hc:c < 65):c∉l:=fun z=>by have:=h.rng c z;omega
theorem IsW.no {l:List Nat} (h:IsW l) {c:Nat} (hc:c < 65):c∉l:=IsP.no (.inl h) hc
/-! ### the mirror -/
def sgn (z:Str) (i:Nat):Str:=⟨#[(z.cps[i]?).getD 0]⟩
def b2p (z s:Str):Bool:=(List.range z.cps.size).all fun i=>inS (sgn z i) s
def a1Q (z sg:Str) (m:Int):Bool:=(decide (1≤(z.length:Int)) && decide ((z.length:Int)≤m)) && b2p z sg
theorem a6R (c:Nat) (l:List Nat):inS (mk [c]) (mk l)=decide (c∈l):=by
 unfold inS;rw [b6b]
theorem a6D (l s:List Nat):b2p (mk l) (mk s)=l.all fun c=>decide (c∈s):=by
 unfold b2p
 rw [Bool.eq_iff_iff,List.all_eq_true,List.all_eq_true]
 constructor
 ·intro h c hc
  obtain ⟨i,hi,e⟩:=List.getElem_of_mem hc
  have:=h i (List.mem_range.mpr (by simpa using hi))
  have e2:sgn (mk l) i=mk [c]:=by
   unfold sgn;simp [e,hi]
  rw [e2,a6R] at this
  exact this
 ·intro h i hi
  have hi':i < l.length:=by simpa using List.mem_range.mp hi
  have e2:sgn (mk l) i=mk [l[i]]:=by unfold sgn;simp [hi']
  rw [e2,a6R]
  exact h _ (List.getElem_mem hi')
theorem b2i (l:List Nat):a1Q (mk l) "abcdefghijklmnopqrstuvwxyz" 8=true↔IsW l:=by
 unfold a1Q IsW
 rw [a8S,a6D,a0i,Bool.and_eq_true,Bool.and_eq_true,decide_eq_true_eq,decide_eq_true_eq,List.all_eq_true]
 simp only [decide_eq_true_eq]
 constructor
 ·rintro ⟨⟨a,b⟩,c⟩;exact ⟨by omega,by omega,c⟩
 ·rintro ⟨a,b,c⟩;exact ⟨⟨by omega,by omega⟩,c⟩
theorem a3d (l:List Nat):a1Q (mk l) "ABCDEFGHIJKLMNOPQRSTUVWXYZ" 1=true↔∃c,c∈b2h∧l=[c]:=by
 unfold a1Q
 rw [b1Y,a6D,a0i,Bool.and_eq_true,Bool.and_eq_true,decide_eq_true_eq,decide_eq_true_eq,List.all_eq_true]
 simp only [decide_eq_true_eq]
 constructor
 ·rintro ⟨⟨a,b⟩,c⟩
  match l,a,b,c with
  | [d],_,_,c=>exact ⟨d,c d (by simp),rfl⟩
  | d::e::r,_,b,_=>simp at b;omega
 ·rintro ⟨c,hc,rfl⟩
  exact ⟨⟨by simp,by simp⟩,fun d hd=>by have:d=c:=(by simpa using hd);rw [this];exact hc⟩
theorem a0k {n:Nat} (h:n≤100000):n≤sizeLine:=Nat.le_trans h (by decide)
abbrev sv (l:List Nat):V:=.str (mk l)
abbrev pv' (ps:List (List Nat)):List V:=ps.map fun l=>V.str (mk l)
theorem b8L:∀{ys:List V},(∀(i:Nat) v,ys[i]?=some v→∃l,IsP l∧v=.str (mk l))→∃ps:List (List Nat),ys=pv' ps∧∀p∈ps,IsP p
 | [],_=>⟨[],rfl,by simp⟩
 | y::ys,h=>by
  obtain ⟨l,hl,rfl⟩:=h 0 y rfl
  obtain ⟨ps,rfl,hp⟩:=b8L (ys:=ys) fun i v e=>h (i+1) v (by simpa using e)
  exact ⟨l::ps,rfl,by
   intro p hp'
   rcases List.mem_cons.mp hp' with e | e
   ·rw [e];exact hl
   ·exact hp p e⟩
def At3 (H:Hp) (p:Addr) (sd nm:List Nat) (ps:List (List Nat)):Prop:=∃t,H p=some (.tup [sv sd,sv nm,.ref t])∧H t=some (.tup (pv' ps))
theorem At3.same {H H':Hp} {p:Addr} {sd nm:List Nat} {ps:List (List Nat)} (s:a0A H H') (h:At3 H p sd nm ps):At3 H' p sd nm ps:=let ⟨t,a,b⟩:=h;⟨t,s _ _ a,s _ _ b⟩
theorem a3T {l:List Nat} (h:∀c∈l,c < 1114112):PyData.strOk (mk l)=true:=by
 unfold PyData.strOk;simpa using h
theorem c1h {sd nm:List Nat} {ps:List (List Nat)} (h:IsS sd nm ps):SeqAt.shaped (.tuple [.str (mk sd),.str (mk nm),.tuple (ps.map fun l=>PyData.str (mk l))])=true:=by
 have h1:PyData.strOk (mk sd)=true:=by
  rcases h.side with e | e<;>rw [e]<;>exact a3T (by simp)
 have h2:PyData.strOk (mk nm)=true:=a3T fun c hc=>by have:=a7P (h.name.2.2 c hc);omega
 have h3:∀qs:List (List Nat),(∀p∈qs,IsP p)→PyData.canLayAll0 (qs.map fun l=>PyData.str (mk l))=true∧PyData.depthAll (qs.map fun l=>PyData.str (mk l))=0:=by
  intro qs
  induction qs with
  | nil=>intro _;exact ⟨rfl,rfl⟩
  | cons q qs ih=>
   intro hq
   obtain ⟨a,b⟩:=ih fun p hp=>hq p (List.mem_cons_of_mem _ hp)
   have hs:PyData.strOk (mk q)=true:=a3T fun c hc=>by have:=(hq q List.mem_cons_self).rng c hc;omega
   refine ⟨?_,?_⟩
   ·show (PyData.canLay0 (.str (mk q)) && _)=true
    rw [a,Bool.and_true];exact hs
   ·show max (PyData.depth (.str (mk q))) _=0
    rw [b];rfl
 obtain ⟨a,b⟩:=h3 ps h.places
 unfold SeqAt.shaped
 simp only [PyData.canLay0,PyData.canLayAll0,PyData.depth,PyData.depthAll,h1,h2,a,b]
 decide
theorem c9w {K:PySem.W.Frag} {H:Hp} {p:Addr} {sd nm:List Nat} {ps:List (List Nat)} (h:At3 H p sd nm ps):Den K H (.ref p) (.tuple [.str (mk sd),.str (mk nm),.tuple (ps.map fun l=>PyData.str (mk l))]):=by
 obtain ⟨t,a,b⟩:=h
 refine .tup (SqT.of a) (.cons (.str _) (.cons (.str _) (.cons (.tup (SqT.of b) ?_) .nil)))
 have:=a6k (K:=K) (H:=H) (ps.map mk)
 rw [List.map_map,List.map_map] at this
 exact this
def b2g (p:List Nat):Bool:=a1Q (mk p) "ABCDEFGHIJKLMNOPQRSTUVWXYZ" 1
def a1T (acc:List (List Nat)) (p:List Nat):List (List Nat):=if b2g p=true∧inV (sv p) (pv' acc)=false then acc++[p] else acc
def a2C (ps:List (List Nat)):List (List Nat):=ps.foldl a1T []
theorem b6M {p:List Nat} (h:IsW p):b2g p=false:=by
 rw [←Bool.not_eq_true]
 intro z
 obtain ⟨c,hc,rfl⟩:=(a3d p).mp z
 have h1:=a7P (h.2.2 c (by simp));have h2:=b1U hc;omega
theorem b1P {qs:List (List Nat)} (h:∀p∈qs,IsP p):SeqAt.shaped (.list (qs.map fun l=>PyData.str (mk l)))=true:=by
 have h3:∀qs:List (List Nat),(∀p∈qs,IsP p)→PyData.canLayAll0 (qs.map fun l=>PyData.str (mk l))=true∧PyData.depthAll (qs.map fun l=>PyData.str (mk l))=0:=by
  intro qs
  induction qs with
  | nil=>intro _;exact ⟨rfl,rfl⟩
  | cons q qs ih=>
   intro hq
   obtain ⟨a,b⟩:=ih fun p hp=>hq p (List.mem_cons_of_mem _ hp)
   have hs:PyData.strOk (mk q)=true:=a3T fun c hc=>by have:=(hq q List.mem_cons_self).rng c hc;omega
   refine ⟨?_,?_⟩
   ·show (PyData.canLay0 (.str (mk q)) && _)=true
    rw [a,Bool.and_true];exact hs
   ·show max (PyData.depth (.str (mk q))) _=0
    rw [b];rfl
 obtain ⟨a,b⟩:=h3 qs h
 unfold SeqAt.shaped
 simp only [PyData.canLay0,PyData.depth,a,b]
 decide
theorem c5x {K:PySem.W.Frag} {H:Hp} {D:Addr} {qs:List (List Nat)} (h:SqL K H D (pv' qs)):Den K H (.ref D) (.list (qs.map fun l=>PyData.str (mk l))):=by
 refine .lst h ?_
 have:=a6k (K:=K) (H:=H) (qs.map mk)
 rw [List.map_map,List.map_map] at this
 exact this
theorem a8x (qs:List (List Nat)):(pv' qs).all a6B=true:=by
 rw [List.all_eq_true];intro v hv
 obtain ⟨l,_,rfl⟩:=List.mem_map.mp hv;rfl
theorem b8F {ps:List (List Nat)} (h:∀p∈ps,IsP p):∀p∈a2C ps,IsP p:=by
 have:∀(qs acc:List (List Nat)),(∀p∈qs,IsP p)→(∀p∈acc,IsP p)→∀p∈qs.foldl a1T acc,IsP p:=by
  intro qs
  induction qs with
  | nil=>intro acc _ ha;exact ha
  | cons q qs ih=>
   intro acc hq ha
   refine ih _ (fun p hp=>hq p (List.mem_cons_of_mem _ hp)) ?_
   unfold a1T
   split
   ·intro p hp
    rcases List.mem_append.mp hp with z | z
    ·exact ha p z
    ·have:p=q:=by simpa using z
     rw [this];exact hq q List.mem_cons_self
   ·exact ha
 exact this ps [] h (by simp)
theorem a8E (ps:List (List Nat)):(a2C ps).length≤ps.length:=by
 have:∀(qs acc:List (List Nat)),(qs.foldl a1T acc).length≤acc.length+qs.length:=by
  intro qs
  induction qs with
  | nil=>intro acc;simp
  | cons q qs ih=>
   intro acc
   refine Nat.le_trans (ih _) ?_
   unfold a1T
   split<;>simp<;>omega
 have h:=this ps []
 rw [List.length_nil,Nat.zero_add] at h
 exact h
def AtL (H:Hp) (p:Addr) (sd nm:List Nat) (ps:List (List Nat)):Prop:=∃D,H p=some (.tup [sv sd,sv nm,.ref D])∧H D=some (.lst (pv' ps))
theorem AtL.same {H H':Hp} {p:Addr} {sd nm:List Nat} {ps:List (List Nat)} (s:a0A H H') (h:AtL H p sd nm ps):AtL H' p sd nm ps:=let ⟨t,a,b⟩:=h;⟨t,s _ _ a,s _ _ b⟩
def b2W:List Nat:=b0o++[48,49,50,51,52,53,54,55,56,57]
theorem a8N:("abcdefghijklmnopqrstuvwxyz0123456789":Str)=mk b2W:=by decide+kernel
theorem c4F {c:Nat} (h:c∈b2W):c≤122:=by revert c;decide
def b1b (lb hd:V) (t:Addr):List (Str×V):=a4t "body" (.ref t) (a4t "head" hd (a4t "label" lb []))
theorem a5R (lb hd:V) (t:Addr):(b1b lb hd t).lookup ("label":Str)=some lb:=by
 unfold b1b;rw [a0X,if_neg (by decide+kernel),a0X,if_neg (by decide+kernel),a0X,if_pos rfl]
theorem a4c (lb hd:V) (t:Addr):(b1b lb hd t).lookup ("head":Str)=some hd:=by
 unfold b1b;rw [a0X,if_neg (by decide+kernel),a0X,if_pos rfl]
theorem a2Y (lb hd:V) (t:Addr):(b1b lb hd t).lookup ("body":Str)=some (.ref t):=by
 unfold b1b;rw [a0X,if_pos rfl]
theorem b0N (lb hd:V) (t:Addr) {m:Str} (h1:¬m="body") (h2:¬m="head") (h3:¬m="label"):(b1b lb hd t).lookup m=none:=by
 unfold b1b;rw [a0X,if_neg h1,a0X,if_neg h2,a0X,if_neg h3];rfl
def a0U (H:Hp) (r C:Addr) (lb hd:V) (bs:List V):Prop:=∃dx t,H r=some (.ins C dx (b1b lb hd t))∧H t=some (.tup bs)
theorem a0U.same {H H':Hp} {r C:Addr} {lb hd:V} {bs:List V} (s:a0A H H') (h:a0U H r C lb hd bs):a0U H' r C lb hd bs:=let ⟨d,t,a,b⟩:=h;⟨d,t,s _ _ a,s _ _ b⟩
theorem a6X (p:List Nat) (acc:List (List Nat)):inV (sv p) (pv' acc)=decide (p∈acc):=by
 unfold inV
 rw [Bool.eq_iff_iff,List.any_eq_true,decide_eq_true_eq]
 constructor
 ·rintro ⟨v,hv,e⟩
  obtain ⟨l,hl,rfl⟩:=List.mem_map.mp hv
  have:mk l=mk p:=by
   have e':(mk l == mk p)=true:=e
   exact eq_of_beq e'
  rw [←a1t this];exact hl
 ·intro h
  refine ⟨sv p,List.mem_map.mpr ⟨p,h,rfl⟩,?_⟩
  show (mk p == mk p)=true
  exact beq_self_eq_true _
theorem a8o (acc:List (List Nat)) (p:List Nat):a1T acc p=if b2g p=true∧p∉acc then acc++[p] else acc:=by
 unfold a1T
 simp only [a6X,decide_eq_false_iff_not]
abbrev TP3:=List Nat×List Nat×List (List Nat)
def stat (s:TP3):List Nat:=a0S s.1 s.2.1 s.2.2
def IsT (s:TP3):Prop:=IsS s.1 s.2.1 s.2.2
abbrev tv (ss:List TP3):List V:=ss.map fun s=>sv (stat s)
def a5D (ss:List TP3):List (List Nat):=ss.foldl (fun acc s=>s.2.2.foldl a1T acc) []
def a5C (acc:List (List Nat)) (ps:List (List Nat)):List (List Nat):=acc++(a2C ps).filter fun l=>decide (l∉acc)
theorem a7Q (acc:List (List Nat)):∀(n:Nat) (ps:List (List Nat)),ps.length=n→ps.foldl a1T acc=a5C acc ps:=by
 intro n
 induction n with
 | zero=>
  intro ps h
  have:ps=[]:=List.length_eq_zero_iff.mp h
  subst this
  unfold a5C a2C;simp
 | succ n ih=>
  intro ps h
  obtain ⟨qs,p,rfl⟩:∃qs p,ps=qs++[p]:=⟨ps.dropLast,ps.getLast (by intro z;rw [z] at h;simp at h),(List.dropLast_concat_getLast _).symm⟩
  have hq:qs.length=n:=by simpa using h
  have ih1:=ih qs hq
  have e2:a2C (qs++[p])=a1T (a2C qs) p:=by unfold a2C;rw [List.foldl_append];rfl
  rw [List.foldl_append,ih1]
  show a1T (a5C acc qs) p=a5C acc (qs++[p])
  unfold a5C
  rw [e2,a8o,a8o]
  have hm:p∉(acc++(a2C qs).filter fun l=>decide (l∉acc))↔(p∉acc∧p∉a2C qs):=by
   rw [List.mem_append,List.mem_filter,decide_eq_true_eq]
   constructor
   ·intro z;exact ⟨fun y=>z (.inl y),fun y=>z (.inr ⟨y,fun w=>z (.inl w)⟩)⟩
   ·rintro ⟨a,b⟩ (y | y)
    ·exact a y
    ·exact b y.1
  simp only [hm]
  by_cases h1:b2g p=true
  ·by_cases h2:p∈a2C qs
   ·rw [if_neg (fun z=>z.2.2 h2),if_neg (fun z=>z.2 h2)]
   ·rw [if_pos (show b2g p=true∧p∉a2C qs from ⟨h1,h2⟩),List.filter_append]
    by_cases h3:p∈acc
    ·rw [if_neg (fun z=>z.2.1 h3),List.filter_cons,if_neg (by simp [h3])];simp
    ·rw [if_pos ⟨h1,h3,h2⟩,List.filter_cons,if_pos (by simp [h3])];simp
  ·rw [if_neg (fun z=>h1 z.1),if_neg (fun z=>h1 z.1)]
theorem a6W (ss:List TP3) (s:TP3):a5D (ss++[s])=a5C (a5D ss) s.2.2:=by
 unfold a5D
 rw [List.foldl_append]
 exact a7Q _ _ _ rfl
theorem b2C (acc ps:List (List Nat)):(a5C acc ps).length≤acc.length+ps.length:=by
 unfold a5C
 rw [List.length_append]
 exact Nat.add_le_add_left (Nat.le_trans (List.length_filter_le _ _) (a8E ps)) _
theorem b1X:∀(n:Nat) (ss:List TP3),ss.length=n→(∀s∈ss,IsT s)→(a5D ss).length≤2 * n∧∀p∈a5D ss,IsP p:=by
 intro n
 induction n with
 | zero=>
  intro ss h _
  have:ss=[]:=List.length_eq_zero_iff.mp h
  subst this
  exact ⟨Nat.le_refl _,by intro p hp;cases hp⟩
 | succ n ih=>
  intro ss h hs
  obtain ⟨qs,p,rfl⟩:∃qs p,ss=qs++[p]:=⟨ss.dropLast,ss.getLast (by intro z;rw [z] at h;simp at h),(List.dropLast_concat_getLast _).symm⟩
  have hq:qs.length=n:=by simpa using h
  obtain ⟨a,b⟩:=ih qs hq fun s hs'=>hs s (List.mem_append_left _ hs')
  have ht:=hs p (by simp)
  rw [a6W]
  refine ⟨Nat.le_trans (b2C _ _) (by have:=ht.many;omega),fun x hx=>?_⟩
  unfold a5C at hx
  rcases List.mem_append.mp hx with z | z
  ·exact b x z
  ·exact b8F ht.places x (List.mem_filter.mp z).1
theorem b3b {p:List Nat} (h:IsP p):decide ((mk p).cps.toList < (mk [97]).cps.toList)=b2g p:=by
 show decide (p < [97])=b2g p
 rcases h with h | ⟨c,hc,rfl⟩
 ·rw [b6M h,decide_eq_false_iff_not]
  cases p with
  | nil=>exact absurd h.1 (by simp)
  | cons c r=>
   have hc:=a7P (h.2.2 c (by simp))
   intro z
   rcases List.cons_lt_cons_iff.mp z with y | ⟨_,y⟩
   ·omega
   ·exact absurd y (List.not_lt_nil _)
 ·have h2:=b1U hc
  rw [show b2g [c]=true from (a3d [c]).mpr ⟨c,hc,rfl⟩,decide_eq_true_eq]
  exact List.cons_lt_cons_iff.mpr (.inl (by omega))
def a2j (H:Hp):List V→List TP3→Prop
 | [],[]=>True
 | v::vs,s::ss=>(∃p,v=.ref p∧AtL H p s.1 s.2.1 s.2.2)∧a2j H vs ss
 | _,_=>False
theorem a2j.same {H H':Hp} (e:a0A H H'):∀{vs:List V} {ss:List TP3},a2j H vs ss→a2j H' vs ss
 | [],[],_=>trivial
 | _::_,_::_,⟨⟨p,e1,e2⟩,h⟩=>⟨⟨p,e1,e2.same e⟩,a2j.same e h⟩
theorem a2j.len {H:Hp}:∀{vs:List V} {ss:List TP3},a2j H vs ss→vs.length=ss.length
 | [],[],_=>rfl
 | _::_,_::_,⟨_,h⟩=>by simp [a2j.len h]
theorem a2j.get {H:Hp} {vs:List V} {ss:List TP3} (h:a2j H vs ss) (i:Nat) (s:TP3) (e:ss[i]?=some s):∃p,vs[i]?=some (.ref p)∧AtL H p s.1 s.2.1 s.2.2:=by
 induction vs generalizing ss i with
 | nil=>
  cases ss with
  | nil=>simp at e
  | cons _ _=>exact h.elim
 | cons v vs ih=>
  cases ss with
  | nil=>exact h.elim
  | cons s' ss=>
   obtain ⟨⟨p,e1,e2⟩,h⟩:=h
   cases i with
   | zero=>cases e;exact ⟨p,by rw [e1];rfl,e2⟩
   | succ i=>exact ih h i (by simpa using e)
def a4Y:List (List Nat)→List Nat
 | []=>[]
 | [p]=>p
 | p::q::_=>p++44::q
def c2D (K:PySem.W.Frag) (x:V) (sg:Str) (m:Int) (H:Hp) (Q:VK):Prop:=(∃z:Str,x=.str z∧z.length≤100000∧∀H',a0A H H'→Q (.bl (a1Q z sg m)) H')
def b8u (K:PySem.W.Frag):Sp:=fun vs H Q _=>∃(x:V) (sg:Str) (m:Int),vs=[x,.str sg,.int m]∧c2D K x sg m H Q
def b9C (K:PySem.W.Frag) (sg:Str) (m:Int):Sp:=fun vs H Q _=>∃(z:Str),vs=[.str z]∧z.length≤100000∧∀H',a0A H H'→Q (.bl (a1Q z sg m)) H'
def c0e:Sp:=fun vs H Q _=>∃ps:List (List Nat),vs=[sv (a4Y ps++[41])]∧(1≤ps.length∧ps.length≤2∧∀p∈ps,IsP p)∧∀t H',a0A H H'→H' t=some (.tup (pv' ps))→Q (.ref t) H'
def c3p:Sp:=fun vs H Q _=>∃sd nm ps,vs=[sv (a0S sd nm ps)]∧IsS sd nm ps∧∀p H',a0A H H'→At3 H' p sd nm ps→Q (.ref p) H'
def c0i:Sp:=fun vs H Q _=>∃sd nm ps t,vs=[sv sd,sv nm,.ref t]∧IsS sd nm ps∧H t=some (.tup (pv' ps))∧Q (sv (a0S sd nm ps)) H
theorem a9x {sd nm:List Nat} {ps:List (List Nat)} (h:IsS sd nm ps):(a0S sd nm ps).length≤40:=by
 have h1:sd.length≤1:=by rcases h.side with e | e<;>rw [e]<;>simp
 have h2:=h.name.2.1
 match ps,h.many,h.places with
 | [],_,_=>simp [a0S];omega
 | [p],_,hp=>have:=(hp p (by simp)).len;simp [a0S];omega
 | [p,q],_,hp=>have:=(hp p (by simp)).len;have:=(hp q (by simp)).len;simp [a0S];omega
theorem a7x (sd nm:List Nat) (ps:List (List Nat)):a0S sd nm ps=sd++a0S [] nm ps:=by
 match ps with
 | []=>simp [a0S]
 | [p]=>simp [a0S]
 | p::q::r=>simp [a0S]
theorem a7X (nm:List Nat) (ps:List (List Nat)) (h:ps.length≤2):a0S [] nm ps=nm++(if ps=[] then [] else 40::(a4Y ps++[41])):=by
 match ps,h with
 | [],_=>simp [a0S]
 | [p],_=>simp [a0S,a4Y]
 | [p,q],_=>simp [a0S,a4Y]
theorem a7B {nm:List Nat} {ps:List (List Nat)} (h:IsS [] nm ps):(a0S [] nm ps)[0]?≠some 45:=by
 rw [a7X nm ps h.many,List.getElem?_append_left (by have:=h.name.1;omega)]
 intro z
 exact h.name.no (by decide) (List.mem_of_getElem? z)
theorem IsS.bare {sd nm:List Nat} {ps:List (List Nat)} (h:IsS sd nm ps):IsS [] nm ps:=⟨.inl rfl,h.name,h.many,h.places⟩
theorem b5s {sd nm:List Nat} {ps:List (List Nat)} (h:IsS sd nm ps):Txt.startswith (mk (a0S sd nm ps)) "-"=decide (sd=[45]):=by
 rw [show ("-":Str)=mk [45] by decide+kernel,a5T,a7x]
 rcases h.side with e | e
 ·subst e
  rw [List.nil_append,decide_eq_false (a7B h),decide_eq_false (by simp)]
 ·subst e;rfl
theorem a8s {K:PySem.W.Frag} {sg:Str} {m:Int} {z:Str} {H:Hp} {Q:VK} {E:XK}:b9C K sg m [.str z] H Q E↔(z.length≤100000∧∀H',a0A H H'→Q (.bl (a1Q z sg m)) H'):=⟨by rintro ⟨_,e,q⟩;cases e;exact q,fun q=>⟨_,rfl,q⟩⟩
def a1n (c:List Nat):List (List Nat)→List Nat
 | []=>[]
 | a::r=>a++r.flatMap fun b=>c++b
theorem a9R (c:List Nat):∀(r:List (List Nat)) (a:Array Nat),(r.map mk).foldl (fun acc p=>acc++(mk c).cps++p.cps) a=a++(r.flatMap fun b=>c++b).toArray:=by
 intro r
 induction r with
 | nil=>intro a;simp
 | cons b r ih=>
  intro a
  rw [List.map_cons,List.foldl_cons,ih]
  show a++c.toArray++b.toArray++_=_
  simp
theorem a6d (c:List Nat) (xs:List (List Nat)):Txt.join (mk c) (xs.map mk)=mk (a1n c xs):=by
 cases xs with
 | nil=>rfl
 | cons a r=>
  show (⟨(r.map mk).foldl (fun acc p=>acc++(mk c).cps++p.cps) a.toArray⟩:Str)=_
  rw [a9R]
  simp [a1n,mk]
def b2P (l:List Nat):Prop:=∃c,c∈b2h∧l=[c]
theorem b6E {p:List Nat} (h:b2P p):b2g p=true:=(a3d p).mpr h
def gm (gs:List (List Nat×List Nat)):List (Key×V):=gs.map fun kl=>(Sum.inr (mk kl.1),sv kl.2)
def b0k (gs:List (List Nat×List Nat)):Prop:=∀kl∈gs,b2P kl.1∧IsW kl.2
def look (gs:List (List Nat×List Nat)) (p:List Nat):Option (List Nat):=(gs.find? fun kl=>decide (kl.1=p)).map (·.2)
def a6H (gs:List (List Nat×List Nat)) (p:List Nat):List Nat:=if b2g p=true then (look gs p).getD p else p
theorem b3J:∀(gs:List (List Nat×List Nat)) (p:List Nat),b2f (gm gs) (Sum.inr (mk p))=(look gs p).map sv
 | [],_=>rfl
 | (k,l)::gs,p=>by
  have ih:=b3J gs p
  unfold b2f gm look at *
  rw [List.map_cons,List.find?_cons,List.find?_cons]
  by_cases e:k=p
  ·rw [decide_eq_true (by rw [e]),decide_eq_true (show (k,l).1=p from e)];rfl
  ·rw [decide_eq_false (fun z=>e (a1t (Sum.inr.inj z))),decide_eq_false (show ¬(k,l).1=p from e)];exact ih
theorem b4l {gs:List (List Nat×List Nat)} (hg:b0k gs) {p q:List Nat} (h:look gs p=some q):IsW q∧b2P p:=by
 unfold look at h
 cases e:gs.find? fun kl=>decide (kl.1=p) with
 | none=>rw [e] at h;cases h
 | some kl=>
  rw [e] at h
  have e1:=List.mem_of_find?_eq_some e
  have e2:=List.find?_some e
  have e3:kl.1=p:=by simpa using e2
  cases h
  exact ⟨(hg kl e1).2,e3 ▸ (hg kl e1).1⟩
theorem b6U {gs:List (List Nat×List Nat)} (hg:b0k gs) {p:List Nat} (h:IsP p):IsP (a6H gs p):=by
 unfold a6H
 split
 ·cases e:look gs p with
  | none=>exact h
  | some q=>exact .inl (b4l hg e).1
 ·exact h
theorem b9O {gs:List (List Nat×List Nat)} (hg:b0k gs) {p:List Nat}:a6H gs p=(look gs p).getD p:=by
 unfold a6H
 split
 ·rfl
 ·rename_i h
  cases e:look gs p with
  | none=>rfl
  | some q=>exact absurd (b6E (b4l hg e).2) h
theorem b8U (p:List Nat):a6H [] p=p:=by unfold a6H;split<;>rfl
theorem IsS.filled {sd nm:List Nat} {ps:List (List Nat)} (h:IsS sd nm ps) {gs:List (List Nat×List Nat)} (hg:b0k gs):IsS sd nm (ps.map (a6H gs)):=
 ⟨h.side,h.name,by rw [List.length_map];exact h.many,fun p hp=>by obtain ⟨q,hq,rfl⟩:=List.mem_map.mp hp;exact b6U hg (h.places q hq)⟩
def b5K (gs:List (List Nat×List Nat)) (k l:List Nat):List (List Nat×List Nat):=if (look gs k).isSome then gs.map fun kl=>if kl.1=k then (kl.1,l) else kl else gs++[(k,l)]
theorem c5b (gs:List (List Nat×List Nat)) (k l:List Nat):c6F (gm gs) (Sum.inr (mk k)) (sv l)=gm (b5K gs k l):=by
 unfold c6F b5K
 rw [a9C,b3J,Option.isSome_map]
 by_cases h:(look gs k).isSome=true
 ·rw [if_pos h,if_pos h]
  unfold gm
  rw [List.map_map,List.map_map]
  refine List.map_congr_left fun kl _=>?_
  simp only [Function.comp]
  by_cases e:kl.1=k
  ·rw [if_pos (by rw [e]),if_pos e]
  ·rw [if_neg (fun z=>e (a1t (Sum.inr.inj z))),if_neg e]
 ·rw [if_neg h,if_neg h]
  unfold gm;rw [List.map_append];rfl
theorem b8X {gs:List (List Nat×List Nat)} (hg:b0k gs) {k l:List Nat} (hk:b2P k) (hl:IsW l):b0k (b5K gs k l):=by
 unfold b5K
 split
 ·intro kl h
  obtain ⟨x,hx,rfl⟩:=List.mem_map.mp h
  by_cases e:x.1=k
  ·rw [if_pos e];exact ⟨(hg x hx).1,hl⟩
  ·rw [if_neg e];exact hg x hx
 ·intro kl h
  rcases List.mem_append.mp h with z | z
  ·exact hg kl z
  ·rw [List.mem_singleton.mp z];exact ⟨hk,hl⟩
theorem c3n (gs:List (List Nat×List Nat)) (k l:List Nat):(b5K gs k l).length≤gs.length+1:=by
 unfold b5K
 split<;>simp
def a8v (gs:List (List Nat×List Nat)) (s:TP3):TP3:=(s.1,s.2.1,s.2.2.map (a6H gs))
theorem c5H {gs:List (List Nat×List Nat)} (hg:b0k gs) {s:TP3} (h:IsT s):IsT (a8v gs s):=IsS.filled h hg
theorem b9F (gs:List (List Nat×List Nat)):∀p∈gm gs,∃l,p.2=.str l:=fun p hp=>by
 obtain ⟨x,_,rfl⟩:=List.mem_map.mp hp
 exact ⟨_,rfl⟩
def b6H:Sp:=fun vs H Q _=>∃(c k:Int),vs=[.int c,.int k]∧∀r:Int,0≤r→Q (.int r) H
def c2w:Sp:=fun vs H Q _=>∃(c:Int) (sg:List Nat),vs=[.int c,sv sg,.int 8]∧(0 < sg.length∧sg.length≤100)∧∀l:List Nat,(1≤l.length∧l.length≤8)→(∀x∈l,x∈sg)→Q (sv l) H
def b3A:Sp:=fun vs H Q _=>∃(c:Int),vs=[.int c]∧∀l,IsW l→Q (sv l) H
def b4K:Sp:=fun vs H Q _=>∃(c:Int),vs=[.int c]∧∀l:List Nat,(1≤l.length∧l.length≤8)→(∀x∈l,x∈b2W)→Q (sv l) H
def a9u:Sp:=fun vs H Q _=>∃(b k:Int),vs=[.int b,.int k]∧∀c,c∈b2h→Q (sv [c]) H
def b1N:Sp:=fun vs H Q _=>∃(c b m:Int),vs=[.int c,.int b,.int m]∧∀l,IsP l→Q (sv l) H
def b2K:Sp:=fun vs H Q _=>∃(c b m:Int),vs=[.int c,.int b,.int m]∧∀sd nm ps p L H',IsS sd nm ps→a0A H H'→(H p=none∧H L=none∧p≠L)→(H' p=some (.tup [sv sd,sv nm,.ref L])∧H' L=some (.lst (pv' ps)))→Q (.ref p) H'
def b5h:Sp:=fun vs H Q _=>∃p sd nm ps,vs=[.ref p]∧IsS sd nm ps∧AtL H p sd nm ps∧∀H',a0A H H'→Q (sv (a0S sd nm ps)) H'
theorem a2n {c k:Int} {H:Hp} {Q:VK} {E:XK}:b6H [.int c,.int k] H Q E↔∀r:Int,0≤r→Q (.int r) H:=⟨by rintro ⟨_,_,e,q⟩;cases e;exact q,fun q=>⟨_,_,rfl,q⟩⟩
theorem a7i {c:Int} {H:Hp} {Q:VK} {E:XK}:b3A [.int c] H Q E↔∀l,IsW l→Q (sv l) H:=⟨by rintro ⟨_,e,q⟩;cases e;exact q,fun q=>⟨_,rfl,q⟩⟩
theorem a8z {c k:Int} {H:Hp} {Q:VK} {E:XK}:a9u [.int c,.int k] H Q E↔∀c,c∈b2h→Q (sv [c]) H:=⟨by rintro ⟨_,_,e,q⟩;cases e;exact q,fun q=>⟨_,_,rfl,q⟩⟩
theorem b0j {c b m:Int} {H:Hp} {Q:VK} {E:XK}:b1N [.int c,.int b,.int m] H Q E↔∀l,IsP l→Q (sv l) H:=⟨by rintro ⟨_,_,_,e,q⟩;cases e;exact q,fun q=>⟨_,_,_,rfl,q⟩⟩
def b6D (K:PySem.W.Frag):Sp:=fun vs H Q _=>∃x C dx lb hd b bs,vs=[.ref x,lb,hd,.ref b]∧H x=some (.ins C dx [])∧(Cls K C∧a1a K C "label"∧a1a K C "head"∧a1a K C "body")∧(SqL K H b bs∨SqT K H b bs∧H b=some (.tup bs))∧
 ∀H',(∀c o,H c=some o→c≠x→H' c=some o)→a0U H' x C lb hd bs→Q .non H'
def b5c (K:PySem.W.Frag) (C:Addr):Sp:=fun vs H Q _=>∃x dx hd,vs=[.ref x,hd]∧H x=some (.ins C dx [])∧
 ∀H',(∀c o,H c=some o→c≠x→H' c=some o)→a0U H' x C (.str "") hd []→Q .non H'
def a2J (t:Adr):Nat→Addr
 | 0=>t.C_Fact
 | 1=>t.C_Sure
 | 2=>t.C_Most
 | _=>t.C_Block
def c3E (K:PySem.W.Frag) (t:Adr):Sp:=fun vs H Q _=>∃(kind:Nat) (lb hd:V) (b:Addr) (bs:List V),vs=[.int kind,lb,hd,.ref b]∧kind < 4∧(SqL K H b bs∨SqT K H b bs∧H b=some (.tup bs))∧
 ∀r H',a0A H H'→a0U H' r (a2J t kind) (if kind=0 then .str "" else lb) hd (if kind=0 then [] else bs)→Q (.ref r) H'
def a2s (w:Str):Sp:=fun vs H Q _=>∃x,vs=[x]∧Q (.str w) H
def a2d (b:Bool):Sp:=fun vs H Q _=>∃x,vs=[x]∧Q (.bl b) H
def b4W:Sp:=fun vs H Q _=>∃(a b:Bool),vs=[.bl a,.bl b]∧Q (.bl (a == b)) H
theorem b5M {a b:Bool} {H:Hp} {Q:VK} {E:XK}:b4W [.bl a,.bl b] H Q E↔Q (.bl (a == b)) H:=⟨by rintro ⟨_,_,e,q⟩;cases e;exact q,fun q=>⟨_,_,rfl,q⟩⟩
theorem a9K {w:Str} {x:V} {H:Hp} {Q:VK} {E:XK}:a2s w [x] H Q E↔Q (.str w) H:=⟨by rintro ⟨_,e,q⟩;cases e;exact q,fun q=>⟨_,rfl,q⟩⟩
theorem b5L {b:Bool} {x:V} {H:Hp} {Q:VK} {E:XK}:a2d b [x] H Q E↔Q (.bl b) H:=⟨by rintro ⟨_,e,q⟩;cases e;exact q,fun q=>⟨_,rfl,q⟩⟩
def a7K:Sp:=fun vs H Q _=>∃sd nm ps,vs=[sv (a0S sd nm ps)]∧IsS sd nm ps∧∀D H',a0A H H'→H D=none→H' D=some (.lst (pv' (a2C ps)))→Q (.ref D) H'
def b0h (K:PySem.W.Frag):Sp:=fun vs H Q _=>∃(r C:Addr) (lb:V) (s0:TP3) (ss:List TP3),vs=[.ref r]∧a0U H r C lb (sv (stat s0)) (tv ss)∧(Cls K C∧a1a K C "head"∧a1a K C "body")∧IsT s0∧(∀s∈ss,IsT s)∧ss.length≤100∧
 ∀D H',a0A H H'→H D=none→H' D=some (.lst (pv' (a5D (s0::ss))))→Q (.ref D) H'
def b5O (K:PySem.W.Frag):Sp:=fun vs H Q _=>∃(a:Addr) (xs:List V) (ss:List TP3),vs=[.ref a]∧H a=some (.lst xs)∧a2j H xs ss∧(∀s∈ss,IsT s)∧ss.length≤100∧
 ∀D H',a0A H H'→H D=none→H' D=some (.lst (pv' (a5D ss)))→Q (.ref D) H'
def a6a (kind:Nat):List Bool:=(List.range 4).map fun (k:Nat)=>decide ((kind:Int)=(0:Int)+(k:Int))
def b7u (t:Adr):Sp:=fun vs H Q _=>∃(r:Addr) (kind:Nat) (lb hd:V) (bs:List V),vs=[.ref r]∧kind < 4∧a0U H r (a2J t kind) lb hd bs∧∀D H',a0A H H'→H' D=some (.lst ((a6a kind).map V.bl))→Q (.ref D) H'
def a7Y:Nat→Str
 | 0=>"fact"
 | 1=>"sure"
 | 2=>"most"
 | _=>"block"
structure c7U (K:PySem.W.Frag) (t:Adr) (C:Addr):Prop where
 cl:Cls K C
 ty:TyI K C
 nl:a1a K C "label"
 nh:a1a K C "head"
 nb:a1a K C "body"
 kr:PySem.W.kitOne K (.ref C) (.ref t.C_Rule)=some true
theorem c0V {K:PySem.W.Frag} {mg:Str→Option Value} {t:Adr} (T:Txt K mg t) {kind:Nat} (h:kind < 4):c7U K t (a2J t kind):=by
 match kind,h with
 | 0,_=>exact ⟨T.cl_Fact,T.ty_Fact,T.nf_Fact_label,T.nf_Fact_head,T.nf_Fact_body,T.ki_Fact_Rule⟩
 | 1,_=>exact ⟨T.cl_Sure,T.ty_Sure,T.nf_Sure_label,T.nf_Sure_head,T.nf_Sure_body,T.ki_Sure_Rule⟩
 | 2,_=>exact ⟨T.cl_Most,T.ty_Most,T.nf_Most_label,T.nf_Most_head,T.nf_Most_body,T.ki_Most_Rule⟩
 | 3,_=>exact ⟨T.cl_Block,T.ty_Block,T.nf_Block_label,T.nf_Block_head,T.nf_Block_body,T.ki_Block_Rule⟩
def a7n (kind:Nat) (a b c d:Sp):Sp:=match kind with
 | 0=>a
 | 1=>b
 | 2=>c
 | _=>d
theorem b1D {kind:Nat} (h:kind < 4):a7n kind (a2s "fact") (a2s "sure") (a2s "most") (a2s "block")=a2s (a7Y kind):=by
 match kind,h with
 | 0,_=>rfl
 | 1,_=>rfl
 | 2,_=>rfl
 | 3,_=>rfl
theorem b5q {kind:Nat} (h:kind < 4):a7n kind (a2d true) (a2d true) (a2d true) (a2d false)=a2d (decide ((kind:Int) < 3)):=by
 match kind,h with
 | 0,_=>rfl
 | 1,_=>rfl
 | 2,_=>rfl
 | 3,_=>rfl
theorem b7K {kind:Nat} (h:kind < 4):a7n kind (a2d true) (a2d true) (a2d false) (a2d false)=a2d (decide ((kind:Int) < 2)):=by
 match kind,h with
 | 0,_=>rfl
 | 1,_=>rfl
 | 2,_=>rfl
 | 3,_=>rfl
theorem b1B {kind:Nat} (h:kind < 4) (s:Sp):a7n kind s s s s=s:=by
 match kind,h with
 | 0,_=>rfl
 | 1,_=>rfl
 | 2,_=>rfl
 | 3,_=>rfl
theorem c3q {kind:Nat} (h:kind < 4):atI [V.str "fact",V.str "sure",V.str "most",V.str "block"] (kind:Int)=some (.str (a7Y kind)):=by
 match kind,h with
 | 0,_=>rfl
 | 1,_=>rfl
 | 2,_=>rfl
 | 3,_=>rfl
theorem b9r {t:Adr} {m:Str} {s0 s1 s2 s3:Sp} {ta:TE} {σ:St} {H:Hp} {Q:VK} {r:Addr} {kind:Nat} {lb hd:V} {bs:List V} (hk:kind < 4) (hta:∀R:VK,R (.ref r) H→ta σ H R) (hR:a0U H r (a2J t kind) lb hd bs)
  (hm:¬m="body"∧¬m="head"∧¬m="label") (q:a7n kind s0 s1 s2 s3 [.ref r] H Q E0):
  b4Z (a6y t.C_Fact m s0 [] E0 ta a0W) (b4Z (a6y t.C_Sure m s1 [] E0 ta a0W) (b4Z (a6y t.C_Most m s2 [] E0 ta a0W) (a6y t.C_Block m s3 [] E0 ta a0W))) σ H Q:=by
 obtain ⟨dx,t0,h1,_⟩:=hR
 have hn:=b0N lb hd t0 hm.1 hm.2.1 hm.2.2
 match kind,hk with
 | 0,_=>exact .inl (hta _ ⟨r,dx,_,rfl,h1,hn,q⟩)
 | 1,_=>exact .inr (.inl (hta _ ⟨r,dx,_,rfl,h1,hn,q⟩))
 | 2,_=>exact .inr (.inr (.inl (hta _ ⟨r,dx,_,rfl,h1,hn,q⟩)))
 | 3,_=>exact .inr (.inr (.inr (hta _ ⟨r,dx,_,rfl,h1,hn,q⟩)))
theorem a6z {i:Nat} {σ:St} {H:Hp} {v:V} (h:σ[i]?=some (some v)):∀R:VK,R v H→a0L i σ H R:=fun R q=>⟨v,h,q⟩
theorem b5j (bs:List Bool):SeqAt.shaped (.list (bs.map PyData.bool))=true:=by
 have h3:PyData.canLayAll0 (bs.map PyData.bool)=true∧PyData.depthAll (bs.map PyData.bool)=0:=by
  induction bs with
  | nil=>exact ⟨rfl,rfl⟩
  | cons q qs ih=>
   obtain ⟨a,b⟩:=ih
   refine ⟨?_,?_⟩
   ·show (PyData.canLay0 (.bool q) && _)=true
    rw [a];rfl
   ·show max (PyData.depth (.bool q)) _=0
    rw [b];rfl
 obtain ⟨a,b⟩:=h3
 unfold SeqAt.shaped
 simp only [PyData.canLay0,PyData.depth,a,b]
 decide
def b5r (K:PySem.W.Frag) (t:Adr):Sp:=fun vs H Q _=>∃(r:Addr) (kind:Nat) (lb:Str) (a:Addr) (xs:List V) (s0:TP3) (ss:List TP3),vs=[.ref r,.int kind,.str lb,.ref a]∧kind < 4∧a0U H r (a2J t kind) (.str lb) (sv (stat s0)) (tv ss)∧
 H a=some (.lst xs)∧a2j H xs (s0::ss)∧(∀s∈s0::ss,IsT s)∧ss.length≤10∧∀H',a0A H H'→Q (.bl true) H'
theorem b4H {ss:List TP3} (h:∀s∈ss,IsT s):SeqAt.shaped (.list (ss.map fun s=>PyData.str (mk (stat s))))=true:=by
 have hst:∀s,IsT s→PyData.strOk (mk (stat s))=true:=fun s hs=>a3T fun c hc=>by
  have:∀(sd nm:List Nat) (ps:List (List Nat)),IsS sd nm ps→∀c∈a0S sd nm ps,c≤122:=by
   intro sd nm ps hS c hc
   have h1:∀c∈sd,c≤122:=by rcases hS.side with e | e<;>rw [e]<;>simp
   have h2:∀c∈nm,c≤122:=fun c hc=>(a7P (hS.name.2.2 c hc)).2
   have h3:∀p∈ps,∀c∈p,c≤122:=fun p hp c hc=>((hS.places p hp).rng c hc).2
   match ps,hS.many,h3 with
   | [],_,_=>
    simp only [a0S,List.mem_append] at hc
    rcases hc with z | z
    ·exact h1 c z
    ·exact h2 c z
   | [p],_,h3=>
    simp only [a0S,List.mem_append,List.mem_cons,List.not_mem_nil,or_false] at hc
    rcases hc with (z | z) | z | z | z
    ·exact h1 c z
    ·exact h2 c z
    ·omega
    ·exact h3 p (by simp) c z
    ·omega
   | [p,q],_,h3=>
    simp only [a0S,List.mem_append,List.mem_cons,List.not_mem_nil,or_false] at hc
    rcases hc with (z | z) | z | z | z | z | z
    ·exact h1 c z
    ·exact h2 c z
    ·omega
    ·exact h3 p (by simp) c z
    ·omega
    ·exact h3 q (by simp) c z
    ·omega
  have:=this _ _ _ hs c hc;omega
 have h3:∀qs:List TP3,(∀s∈qs,IsT s)→PyData.canLayAll0 (qs.map fun s=>PyData.str (mk (stat s)))=true∧PyData.depthAll (qs.map fun s=>PyData.str (mk (stat s)))=0:=by
  intro qs
  induction qs with
  | nil=>intro _;exact ⟨rfl,rfl⟩
  | cons q qs ih=>
   intro hq
   obtain ⟨a,b⟩:=ih fun p hp=>hq p (List.mem_cons_of_mem _ hp)
   refine ⟨?_,?_⟩
   ·show (PyData.canLay0 (.str (mk (stat q))) && _)=true
    rw [a,Bool.and_true];exact hst q (hq q List.mem_cons_self)
   ·show max (PyData.depth (.str (mk (stat q)))) _=0
    rw [b];rfl
 obtain ⟨a,b⟩:=h3 ss h
 unfold SeqAt.shaped
 simp only [PyData.canLay0,PyData.depth,a,b]
 decide
theorem c4Y {K:PySem.W.Frag} {H:Hp} {D:Addr} {ss:List TP3} (h:SqL K H D (tv ss)):Den K H (.ref D) (.list (ss.map fun s=>PyData.str (mk (stat s)))):=by
 refine .lst h ?_
 have:=a6k (K:=K) (H:=H) (ss.map fun s=>mk (stat s))
 rw [List.map_map,List.map_map] at this
 exact this
def a4K (t:Adr) (H:Hp) (r:Addr) (kind:Nat) (lb:Str) (a:Addr):Prop:=∃(xs:List V) (s0:TP3) (ss:List TP3),kind < 4∧a0U H r (a2J t kind) (.str lb) (sv (stat s0)) (tv ss)∧
 H a=some (.lst xs)∧a2j H xs (s0::ss)∧(∀s∈s0::ss,IsT s)∧ss.length≤10
theorem a4K.same {t:Adr} {H H':Hp} {r:Addr} {kind:Nat} {lb:Str} {a:Addr} (s:a0A H H') (h:a4K t H r kind lb a):a4K t H' r kind lb a:=by
 obtain ⟨xs,s0,ss,a1,a2,a3,a4,a5,a6⟩:=h
 exact ⟨xs,s0,ss,a1,a2.same s,s _ _ a3,a4.same s,a5,a6⟩
theorem a4K.go {K:PySem.W.Frag} {t:Adr} {H:Hp} {Q:VK} {E:XK} {r:Addr} {kind:Nat} {lb:Str} {a:Addr} (h:a4K t H r kind lb a) (q:∀H',a0A H H'→Q (.bl true) H'):b5r K t [.ref r,.int kind,.str lb,.ref a] H Q E:=by
 obtain ⟨xs,s0,ss,a1,a2,a3,a4,a5,a6⟩:=h
 exact ⟨r,kind,lb,a,xs,s0,ss,rfl,a1,a2,a3,a4,a5,a6,q⟩
def b7w (D:Addr) (v:V) (H:Hp):Prop:=∃(p L:Addr) (s:TP3),v=.ref p∧p≠D∧L≠D∧IsT s∧H p=some (.tup [sv s.1,sv s.2.1,.ref L])∧H L=some (.lst (pv' s.2.2))
theorem b1h {D:Addr} {H:Hp}:∀{ys:List V},(∀(i:Nat) v,ys[i]?=some v→b7w D v H)→∃ss:List TP3,ss.length=ys.length∧a2j H ys ss∧∀s∈ss,IsT s
 | [],_=>⟨[],rfl,trivial,by intro s h;cases h⟩
 | y::ys,h=>by
  obtain ⟨p,L,s,e,_,_,hT,h1,h2⟩:=h 0 y rfl
  obtain ⟨ss,hl,hA,hs⟩:=b1h (ys:=ys) fun i v e=>h (i+1) v (by simpa using e)
  refine ⟨s::ss,by simp [hl],⟨⟨p,e,L,h1,h2⟩,hA⟩,fun x hx=>?_⟩
  rcases List.mem_cons.mp hx with z | z
  ·rw [z];exact hT
  ·exact hs x z
def a0G:Nat→List Nat
 | 0=>[102,97,99,116]
 | 1=>[115,117,114,101]
 | 2=>[109,111,115,116]
 | _=>[98,108,111,99,107]
theorem b2c {kind:Nat} (h:kind < 4):a7Y kind=mk (a0G kind):=by
 match kind,h with
 | 0,_=>decide+kernel
 | 1,_=>decide+kernel
 | 2,_=>decide+kernel
 | 3,_=>decide+kernel
theorem b2x (kind:Nat):(a0G kind).length≤5:=by
 unfold a0G;split<;>decide
def a9z (kind:Nat) (lb h:List Nat) (bs:List (List Nat)):List Nat:=
 if kind=0 then [102,97,99,116,32]++h else a0G kind++[32]++lb++[58,32]++(if bs=[] then [] else a1n [44,32] bs++[32])++[45,62,32]++h
theorem a9d {kind:Nat} (hk:kind≠0) (lb h:List Nat):a1n [32] [a0G kind,lb++[58],[45,62],h]=a9z kind lb h []:=by
 unfold a9z;rw [if_neg hk];simp [a1n]
theorem a8V {kind:Nat} (hk:kind≠0) (lb h:List Nat) {bs:List (List Nat)} (hb:bs≠[]):a1n [32] [a0G kind,lb++[58],a1n [44,32] bs,[45,62],h]=a9z kind lb h bs:=by
 unfold a9z;rw [if_neg hk,if_neg hb]
 generalize a1n [44,32] bs=J
 simp [a1n]
theorem a3V {s:TP3} (h:IsT s):(stat s).length≤40:=a9x h
theorem a8Z (c:List Nat) {m:Nat}:∀xs:List (List Nat),(∀x∈xs,x.length≤m)→(a1n c xs).length≤xs.length * (c.length+m):=by
 have h:∀xs:List (List Nat),(∀x∈xs,x.length≤m)→(xs.flatMap fun b=>c++b).length≤xs.length * (c.length+m):=by
  intro xs
  induction xs with
  | nil=>intro _;simp
  | cons x xs ih=>
   intro hx
   have h1:=ih fun y hy=>hx y (List.mem_cons_of_mem _ hy)
   have h2:=hx x List.mem_cons_self
   rw [List.flatMap_cons,List.length_append,List.length_append,List.length_cons,Nat.succ_mul]
   omega
 intro xs hx
 cases xs with
 | nil=>simp [a1n]
 | cons x xs=>
  have h1:=h xs fun y hy=>hx y (List.mem_cons_of_mem _ hy)
  have h2:=hx x List.mem_cons_self
  show (x++_).length≤_
  rw [List.length_append,List.length_cons,Nat.succ_mul]
  omega
theorem b4j {m:Nat}:∀xs:List Str,(∀x∈xs,x.length≤m)→(xs.map (·.length)).sum≤xs.length * m
 | [],_=>by simp
 | x::xs,h=>by
  have h1:=b4j xs fun y hy=>h y (List.mem_cons_of_mem _ hy)
  have h2:=h x List.mem_cons_self
  rw [List.map_cons,List.sum_cons,List.length_cons,Nat.succ_mul]
  omega
theorem b7c (ss:List TP3):tv ss=((ss.map stat).map mk).map V.str:=by rw [List.map_map,List.map_map];rfl
theorem b4O {ss:List TP3} (h:∀s∈ss,IsT s) (hl:ss.length≤10) (c:List Nat) (hc:c.length≤2):((((ss.map stat).map mk).map (·.length)).sum+((ss.map stat).map mk).length * (mk c).length≤16777216)∧(a1n c (ss.map stat)).length≤420:=by
 have h1:=b4j (m:=40) ((ss.map stat).map mk) (fun x hx=>by
  obtain ⟨y,hy,rfl⟩:=List.mem_map.mp hx
  obtain ⟨s,hs,rfl⟩:=List.mem_map.mp hy
  rw [a0i];exact a3V (h s hs))
 have h2:=a8Z c (m:=40) (ss.map stat) (fun x hx=>by
  obtain ⟨s,hs,rfl⟩:=List.mem_map.mp hx
  exact a3V (h s hs))
 simp only [List.length_map,a0i] at h1 h2 ⊢
 have h3:ss.length * c.length≤10 * 2:=Nat.mul_le_mul hl hc
 have h4:ss.length * 40≤10 * 40:=Nat.mul_le_mul_right _ hl
 have h5:ss.length * (c.length+40)≤10 * 42:=Nat.mul_le_mul hl (by omega)
 omega
def c8c:Sp:=fun vs H Q _=>∃p g gs,vs=[sv p,.ref g]∧IsP p∧b0k gs∧H g=some (.dK (gm gs))∧∀H',a0A H H'→Q (sv (a6H gs p)) H'
def b9u:Sp:=fun vs H Q _=>∃(s:TP3) (g:Addr) (gs:List (List Nat×List Nat)),vs=[sv (stat s),.ref g]∧IsT s∧b0k gs∧H g=some (.dK (gm gs))∧∀H',a0A H H'→Q (sv (stat (a8v gs s))) H'
def b2X (t:Adr):Sp:=fun vs H Q _=>∃(x hd b:V),vs=[x,hd,b]∧∀r' H',a0A H H'→a0U H' r' t.C_Fact (.str "") hd []→Q (.ref r') H'
def a6p (K:PySem.W.Frag) (C:Addr):Sp:=fun vs H Q _=>∃(r:Addr) (lb h0:V) (bs0:List V) (hd:V) (b:Addr) (bs:List V),vs=[.ref r,hd,.ref b]∧a0U H r C lb h0 bs0∧(SqL K H b bs∨SqT K H b bs∧H b=some (.tup bs))∧
 ∀r' H',a0A H H'→a0U H' r' C lb hd bs→Q (.ref r') H'
theorem b5J {K:PySem.W.Frag} {t:Adr} {kind:Nat} (hk:kind < 4) {H:Hp} {Q:VK} {E:XK} {r:Addr} {lb h0:V} {bs0:List V} {hd:V} {b:Addr} {bs:List V} (hR:a0U H r (a2J t kind) lb h0 bs0) (hb:SqL K H b bs∨SqT K H b bs∧H b=some (.tup bs))
  (q:∀r' H',a0A H H'→a0U H' r' (a2J t kind) (if kind=0 then .str "" else lb) hd (if kind=0 then [] else bs)→Q (.ref r') H'):
  a7n kind (b2X t) (a6p K t.C_Sure) (a6p K t.C_Most) (a6p K t.C_Block) [.ref r,hd,.ref b] H Q E:=by
 match kind,hk with
 | 0,_=>exact ⟨_,_,_,rfl,q⟩
 | 1,_=>exact ⟨_,_,_,_,_,_,_,rfl,hR,hb,q⟩
 | 2,_=>exact ⟨_,_,_,_,_,_,_,rfl,hR,hb,q⟩
 | 3,_=>exact ⟨_,_,_,_,_,_,_,rfl,hR,hb,q⟩
def b8D (K:PySem.W.Frag) (t:Adr):Sp:=fun vs H Q _=>∃(r:Addr) (kind:Nat) (lb:V) (s0:TP3) (ss:List TP3) (g:Addr) (gs:List (List Nat×List Nat)),vs=[.ref r,.ref g]∧kind < 4∧a0U H r (a2J t kind) lb (sv (stat s0)) (tv ss)∧(∀s∈s0::ss,IsT s)∧ss.length≤10∧b0k gs∧H g=some (.dK (gm gs))∧
 ∀r' H',a0A H H'→a0U H' r' (a2J t kind) (if kind=0 then .str "" else lb) (sv (stat (a8v gs s0))) (if kind=0 then [] else tv (ss.map (a8v gs)))→Q (.ref r') H'
def b3y (K:PySem.W.Frag):Sp:=fun vs H Q _=>∃(r C:Addr) (lb:V) (h:List Nat) (bs:List V),vs=[.ref r]∧a0U H r C lb (sv h) bs∧(Cls K C∧a1a K C "head")∧h.length≤1000∧Q (sv ([102,97,99,116,32]++h)) H
def a9B (t:Adr):Sp:=fun vs H Q _=>∃(r:Addr) (kind:Nat) (lb:List Nat) (s0:TP3) (ss:List TP3),vs=[.ref r]∧kind < 4∧kind≠0∧a0U H r (a2J t kind) (sv lb) (sv (stat s0)) (tv ss)∧lb.length≤8∧(∀s∈s0::ss,IsT s)∧ss.length≤10∧
 ∀H',a0A H H'→Q (sv (a9z kind lb (stat s0) (ss.map stat))) H'
theorem a8R {K:PySem.W.Frag} {mg:Str→Option Value} {t:Adr} (T:Txt K mg t) {kind:Nat} (hk:kind < 4) {H:Hp} {Q:VK} {E:XK} {r:Addr} {lb:List Nat} {s0:TP3} {ss:List TP3} (hR:a0U H r (a2J t kind) (sv lb) (sv (stat s0)) (tv ss)) (hl:lb.length≤8) (hT:∀s∈s0::ss,IsT s) (hs:ss.length≤10)
  (q:∀H',a0A H H'→Q (sv (a9z kind lb (stat s0) (ss.map stat))) H'):a7n kind (b3y K) (a9B t) (a9B t) (a9B t) [.ref r] H Q E:=by
 have hf:=a3V (hT s0 List.mem_cons_self)
 match kind,hk with
 | 0,_=>exact ⟨r,_,_,_,_,rfl,hR,⟨T.cl_Fact,T.nf_Fact_head⟩,by omega,q _ (a0A.refl _)⟩
 | 1,_=>exact ⟨r,1,lb,s0,ss,rfl,by decide,by decide,hR,hl,hT,hs,q⟩
 | 2,_=>exact ⟨r,2,lb,s0,ss,rfl,by decide,by decide,hR,hl,hT,hs,q⟩
 | 3,_=>exact ⟨r,3,lb,s0,ss,rfl,by decide,by decide,hR,hl,hT,hs,q⟩
theorem c9o {t:Adr} {m:Str} {s0 s1 s2 s3:Sp} {ta:TE} {t2:TA} {σ:St} {H:Hp} {Q:VK} {r:Addr} {kind:Nat} {lb hd:V} {bs:List V} (hk:kind < 4) (hta:∀R:VK,R (.ref r) H→ta σ H R) (hR:a0U H r (a2J t kind) lb hd bs)
  (hm:¬m="body"∧¬m="head"∧¬m="label") (q:t2 σ H fun vs H2=>a7n kind s0 s1 s2 s3 (.ref r::(vs++[])) H2 Q E0):
  b4Z (a6y t.C_Fact m s0 [] E0 ta t2) (b4Z (a6y t.C_Sure m s1 [] E0 ta t2) (b4Z (a6y t.C_Most m s2 [] E0 ta t2) (a6y t.C_Block m s3 [] E0 ta t2))) σ H Q:=by
 obtain ⟨dx,t0,h1,_⟩:=hR
 have hn:=b0N lb hd t0 hm.1 hm.2.1 hm.2.2
 match kind,hk with
 | 0,_=>exact .inl (hta _ ⟨r,dx,_,rfl,h1,hn,q⟩)
 | 1,_=>exact .inr (.inl (hta _ ⟨r,dx,_,rfl,h1,hn,q⟩))
 | 2,_=>exact .inr (.inr (.inl (hta _ ⟨r,dx,_,rfl,h1,hn,q⟩)))
 | 3,_=>exact .inr (.inr (.inr (hta _ ⟨r,dx,_,rfl,h1,hn,q⟩)))
def c7f (K:PySem.W.Frag):Sp:=fun vs H Q _=>∃(kind:Nat) (lb:List Nat) (D:Addr) (s0:TP3) (ss:List TP3),vs=[.int kind,sv lb,.ref D]∧kind < 4∧lb.length≤8∧H D=some (.lst (tv (s0::ss)))∧(∀s∈s0::ss,IsT s)∧ss.length≤10∧∀H',a0A H H'→Q (sv (a9z kind lb (stat s0) (ss.map stat))) H'
def b8q:Sp:=fun vs H Q _=>∃(p g:Addr) (s:TP3) (gs:List (List Nat×List Nat)),vs=[.ref p,.ref g]∧AtL H p s.1 s.2.1 s.2.2∧IsT s∧b0k gs∧H g=some (.dK (gm gs))∧
 ∀p' H',a0A H H'→AtL H' p' (a8v gs s).1 (a8v gs s).2.1 (a8v gs s).2.2→Q (.ref p') H'
def c2u:Sp:=fun vs H Q _=>∃(c b:Int),vs=[.int c,.int b]∧∀D gs H',a0A H H'→H D=none→H' D=some (.dK (gm gs))→b0k gs→Q (.ref D) H'
def c7X (t:Adr):Sp:=fun vs H Q _=>∃(r:Addr) (kind:Nat) (lb:List Nat) (D:Addr) (s0:TP3) (ss:List TP3),vs=[.ref r,.int kind,sv lb,.ref D]∧kind < 4∧lb.length≤8∧a0U H r (a2J t kind) (sv lb) (sv (stat s0)) (tv ss)∧H D=some (.lst (tv (s0::ss)))∧(∀s∈s0::ss,IsT s)∧ss.length≤10∧
 ∀H',a0A H H'→Q (.bl true) H'
def c7B:Sp:=fun vs H Q _=>∃(c b:Int) (kind:Nat) (n:Int),vs=[.int c,.int b,.int kind,.int n]∧(0≤n∧n≤4)∧∀D xs ss H',a0A H H'→H D=none→H' D=some (.lst xs)→a2j H' xs ss→ss.length=n.toNat+1→(∀s∈ss,IsT s)→Q (.ref D) H'
theorem a2j.set {H:Hp} {p:Addr} {s:TP3} (hp:AtL H p s.1 s.2.1 s.2.2):∀{xs:List V} {ss:List TP3} (j:Nat),a2j H xs ss→a2j H (xs.set j (.ref p)) (ss.set j s)
 | [],[],_,h=>h
 | _::_,_::_,0,h=>⟨⟨p,rfl,hp⟩,h.2⟩
 | _::_,_::_,j+1,h=>⟨h.1,a2j.set hp j h.2⟩
 | [],_::_,_,h=>h.elim
 | _::_,[],_,h=>h.elim
theorem b6s {H:Hp} {S:Addr} {o:HO}:∀{xs:List V} {ss:List TP3},a2j H xs ss→(∀v∈xs,b7w S v H)→a2j (upd H S o) xs ss
 | [],[],h,_=>h
 | [],_::_,h,_=>h.elim
 | _::_,[],h,_=>h.elim
 | x::xs,s::ss,⟨⟨p,e,D,h1,h2⟩,hr⟩,hv=>by
  refine ⟨⟨p,e,D,?_,?_⟩,b6s hr fun v h=>hv v (List.mem_cons_of_mem _ h)⟩
  all_goals
   obtain ⟨p',L,s',e',n1,n2,_,g1,g2⟩:=hv x List.mem_cons_self
   rw [e] at e';cases e'
   rw [h1] at g1
   have eL:D=L:=V.ref.inj (List.cons.inj (List.cons.inj (List.cons.inj (HO.tup.inj (Option.some.inj g1))).2).2).1
  ·rw [a0w n1];exact h1
  ·rw [a0w (by rw [eL];exact n2)];exact h2
theorem b9W {H:Hp} {r C:Addr} {kind:Nat} {lb:List Nat} {h:V} {ss:List TP3} (hlb:kind=0→lb=[]) (hss:kind=0→ss=[]) (hr:a0U H r C (if kind=0 then .str "" else sv lb) h (if kind=0 then [] else tv ss)):a0U H r C (sv lb) h (tv ss):=by
 by_cases hz:kind=0
 ·rw [if_pos hz,if_pos hz] at hr
  rw [hlb hz,hss hz];exact hr
 ·rw [if_neg hz,if_neg hz] at hr;exact hr
theorem c0T {s0:TP3} {ss:List TP3}:a8h (tv (s0::ss)) (some 1) none=tv ss:=by
 unfold a8h HT.sIx
 simp
 exact List.take_of_length_le (by simp)
theorem b6i {H:Hp} {xs:List V} {ss:List TP3} (hA:a2j H xs ss) (hT:∀s∈ss,IsT s) {i:Nat} (hi:i < xs.length):∃(hi':i < ss.length) (p:Addr),(xs[i]?).getD .non=.ref p∧AtL H p ss[i].1 ss[i].2.1 ss[i].2.2∧IsT ss[i]:=by
 have hi':i < ss.length:=by rw [←hA.len];exact hi
 obtain ⟨p,ep,hp⟩:=hA.get i ss[i] (List.getElem?_eq_getElem hi')
 exact ⟨hi',p,by rw [ep];rfl,hp,hT _ (List.getElem_mem hi')⟩
theorem c9u {ys:List V} {ss:List TP3} (hl:ys.length=ss.length) (hv:∀i v,ys[i]?=some v→∃hi:i < ss.length,v=sv (stat ss[i])):ys=tv ss:=by
 refine List.ext_getElem? fun i=>?_
 rw [List.getElem?_map]
 by_cases hi:i < ys.length
 ·obtain ⟨hi',e⟩:=hv i _ (List.getElem?_eq_getElem hi)
  rw [List.getElem?_eq_getElem hi,e,List.getElem?_eq_getElem hi'];rfl
 ·rw [List.getElem?_eq_none (by omega),List.getElem?_eq_none (by omega)];rfl
theorem b7P {H:Hp} {r C:Addr} {kind:Nat} {lb:List Nat} {h:V} {os od:List TP3} (hlb:kind=0→lb=[]) (h1:kind=0→od=[]) (h2:¬kind=0→od=os) (hr:a0U H r C (if kind=0 then .str "" else sv lb) h (if kind=0 then [] else tv os)):a0U H r C (sv lb) h (tv od):=by
 by_cases hz:kind=0
 ·rw [if_pos hz,if_pos hz] at hr
  rw [hlb hz,h1 hz];exact hr
 ·rw [if_neg hz,if_neg hz] at hr
  rw [h2 hz];exact hr
theorem c2i {s0:TP3} {ss:List TP3}:atI (tv (s0::ss)) 0=some (sv (stat s0)):=by
 unfold atI ixN;rw [if_pos (by decide),if_pos (by simp only [List.length_map,List.length_cons];omega)];rfl
theorem c4G {H:Hp} {S:Addr} {d:List (Key×V)} (h:H S=some (.dK d)):IsD H S:=.inl ⟨_,.inl h⟩
/-! ### reading a text -/
theorem b1E {c:Nat} {l:List Nat} (h:c∉l):Txt.find (mk l) (mk [c])=-1:=by
 unfold Txt.find
 rw [a4e,a7L h];rfl
theorem b0Y {c:Nat} {a b:List Nat} (h:c∉a):Txt.find (mk (a++c::b)) (mk [c])=a.length:=by
 unfold Txt.find
 rw [a4e,a6S h];rfl
def b0g (l:List Nat):Bool:=(decide (1≤l.length) && decide (l.length≤8)) && l.all fun c=>decide (c∈b0o)
def b4c (l:List Nat):Bool:=decide (l.length=1) && l.all fun c=>decide (c∈b2h)
def okP (l:List Nat):Bool:=b0g l || b4c l
theorem a4p (l:List Nat):b0g l=true↔IsW l:=by
 simp [b0g,IsW,and_assoc]
theorem a6E (l:List Nat):b4c l=true↔∃c,c∈b2h∧l=[c]:=by
 unfold b4c
 rw [Bool.and_eq_true,decide_eq_true_eq,List.all_eq_true]
 constructor
 ·rintro ⟨h1,h2⟩
  match l,h1 with
  | [c],_=>exact ⟨c,by simpa using h2 c (by simp),rfl⟩
 ·rintro ⟨c,h,rfl⟩
  exact ⟨rfl,fun d hd=>by simp at hd;subst hd;simpa using h⟩
theorem b1m (l:List Nat):a1Q (mk l) "abcdefghijklmnopqrstuvwxyz" 8=b0g l:=Bool.eq_iff_iff.mpr ((b2i l).trans (a4p l).symm)
theorem b1C (l:List Nat):a1Q (mk l) "ABCDEFGHIJKLMNOPQRSTUVWXYZ" 1=b4c l:=Bool.eq_iff_iff.mpr ((a3d l).trans (a6E l).symm)
theorem b5u {l:List Nat} (h:okP l=true):IsP l:=by
 unfold okP at h
 rcases Bool.or_eq_true_iff.mp h with z | z
 ·exact .inl ((a4p l).mp z)
 ·exact .inr ((a6E l).mp z)
def sdL (l:List Nat):List Nat:=if l[0]?=some 45 then [45] else []
def rsL (l:List Nat):List Nat:=if l[0]?=some 45 then l.drop 1 else l
def a3q (b:List Nat):Option (List (List Nat)):=if b.getLast?=some 41 then (if (a0F 44 b.dropLast).length≤2 then (if (a0F 44 b.dropLast).all okP=true then some (a0F 44 b.dropLast) else none) else none) else none
def a5E (r:List Nat):List Nat:=r.takeWhile fun c=>decide (c≠40)
def a8i (r:List Nat):Option (List (List Nat)):=if 40∈r then a3q (r.drop ((a5E r).length+1)) else some []
def a6A (r:List Nat):Option (List Nat×List (List Nat)):=if b0g (a5E r)=true then (a8i r).map fun ps=>(a5E r,ps) else none
def a1B (l:List Nat):Option (List Nat×List Nat×List (List Nat)):=(a6A (rsL l)).map fun p=>(sdL l,p.1,p.2)
theorem a5s {r:List Nat} (h:40∉r):a5E r=r:=by
 unfold a5E
 induction r with
 | nil=>rfl
 | cons d r ih=>
  have h1:d≠40:=fun e=>h (by simp [e])
  rw [List.takeWhile_cons,if_pos (by simpa using h1),ih fun z=>h (List.mem_cons_of_mem _ z)]
theorem a3l {a b:List Nat} (h:40∉a):a5E (a++40::b)=a:=by
 unfold a5E
 induction a with
 | nil=>rw [List.nil_append,List.takeWhile_cons,if_neg (by decide)]
 | cons d r ih=>
  have h1:d≠40:=fun e=>h (by simp [e])
  rw [List.cons_append,List.takeWhile_cons,if_pos (by simpa using h1),ih fun z=>h (List.mem_cons_of_mem _ z)]
theorem a5w {r:List Nat} (h:40∉r):a8i r=some []:=if_neg h
theorem a5k {a b:List Nat} (h:40∉a):a8i (a++40::b)=a3q b:=by
 unfold a8i
 rw [if_pos (by simp),a3l h]
 congr 1
 rw [List.drop_append,List.drop_eq_nil_of_le (by omega),show a.length+1 - a.length=1 by omega]
 rfl
theorem b1Z {b:List Nat} {ps:List (List Nat)} (h:a3q b=some ps):ps.length≤2∧∀p∈ps,IsP p:=by
 unfold a3q at h
 split at h
 ·split at h
  ·split at h
   ·rename_i h1 h2 h3
    cases h
    exact ⟨h2,fun p hp=>b5u (List.all_eq_true.mp h3 p hp)⟩
   ·cases h
  ·cases h
 ·cases h
theorem a2v {l sd nm:List Nat} {ps:List (List Nat)} (h:a1B l=some (sd,nm,ps)):IsS sd nm ps:=by
 unfold a1B a6A at h
 split at h
 ·rename_i hw
  cases e:a8i (rsL l) with
  | none=>rw [e] at h;cases h
  | some qs=>
   rw [e] at h
   cases h
   have hq:qs.length≤2∧∀p∈qs,IsP p:=by
    unfold a8i at e
    split at e
    ·exact b1Z e
    ·cases e;exact ⟨by decide,fun p hp=>by cases hp⟩
   refine ⟨?_,(a4p _).mp hw,hq.1,hq.2⟩
   unfold sdL
   split
   ·exact .inr rfl
   ·exact .inl rfl
 ·cases h
theorem b6K (l:List Nat):(sdL l).length≤l.length∧(sdL l).length≤1:=by
 unfold sdL
 split
 ·rename_i h
  have:=(List.getElem?_eq_some_iff.mp h).1
  simp;omega
 ·simp
theorem b1S (l:List Nat):l.drop (sdL l).length=rsL l:=by
 unfold sdL rsL
 split<;>rfl
theorem b3G (l:List Nat):(rsL l).length≤l.length:=by
 rw [←b1S];simp
theorem a2b (c:Nat):∀l:List Nat,(a0F c l).length≤l.length+1∧∀p∈a0F c l,p.length≤l.length
 | []=>by simp [a0F]
 | d::r=>by
  obtain ⟨h1,h2⟩:=a2b c r
  unfold a0F
  split
  ·refine ⟨by simp;omega,fun p hp=>?_⟩
   rcases List.mem_cons.mp hp with z | z
   ·subst z;simp
   ·have:=h2 p z;simp;omega
  ·split
   ·exact ⟨by simp,fun p hp=>by simp at hp;subst hp;simp⟩
   ·rename_i p ps e
    rw [e] at h1 h2
    refine ⟨by simp at h1 ⊢;omega,fun q hq=>?_⟩
    rcases List.mem_cons.mp hq with z | z
    ·subst z
     have:=h2 p List.mem_cons_self
     simp;omega
    ·have:=h2 q (List.mem_cons_of_mem _ z);simp;omega
theorem b1n (l:List Nat):Txt.slice (mk l) none (some 1)=mk (l.take 1):=by
 by_cases h:(1:Int)≤l.length
 ·rw [a8U l (by decide) h];rfl
 ·have:l=[]:=List.eq_nil_of_length_eq_zero (by omega)
  subst this
  decide+kernel
theorem a8Q (l:List Nat):(mk (l.take 1)=("-":Str))↔l[0]?=some 45:=by
 rw [show ("-":Str)=mk [45] by decide+kernel]
 constructor
 ·intro h
  have:=a1t h
  match l,this with
  | c::r,e=>simpa using e
 ·intro h
  match l,h with
  | c::r,e=>
   have:c=45:=by simpa using e
   subst this;rfl
theorem a7E (x:Str) (lo:Option Int) (h:1≤x.length):Txt.slice x lo (some (-1))=Txt.slice x lo (some ((x.length:Int) - 1)):=by
 have e:PySem.Builtin.Str.strSliceIndices lo (some (-1)) 1 x.length=PySem.Builtin.Str.strSliceIndices lo (some ((x.length:Int) - 1)) 1 x.length:=by
  unfold PySem.Builtin.Str.strSliceIndices
  dsimp only
  rw [if_pos (show (-1:Int) < 0 by decide),if_neg (show ¬((x.length:Int) - 1 < 0) by omega)]
  rw [show (-1:Int)+(x.length:Int)=(x.length:Int) - 1 by omega]
 unfold Txt.slice
 rw [e]
theorem b8V (c:Nat) (b:List Nat):Txt.slice (mk (c::b)) (some 1) (some (-1))=mk b.dropLast:=by
 by_cases hb:b=[]
 ·subst hb
  unfold Txt.slice
  rfl
 ·have hl:0 < b.length:=List.length_pos_iff.mpr hb
  rw [a7E _ _ (by rw [a0i];simp),a0i]
  have e:=eq_of_beq (PyProof.Rows.slice_closesL (x:=mk (c::b)) (i:=1) (j:=((c::b).length:Int) - 1) (by decide) (by simp;omega) (by rw [a0i];omega))
  rw [e,List.dropLast_eq_take]
  simp
/-! ### a statement's text and its parts -/
theorem a4R (c:Nat):∀l:List Nat,a1n [c] (a0F c l)=l
 | []=>rfl
 | d::r=>by
  have ih:=a4R c r
  unfold a0F
  split
  ·rename_i e
   subst e
   cases h:a0F d r with
   | nil=>exact absurd h (a4L d r)
   | cons p ps=>
    rw [h] at ih
    show []++((p::ps).flatMap fun b=>[d]++b)=_
    rw [List.flatMap_cons,List.nil_append]
    show d::(p++ps.flatMap fun b=>[d]++b)=_
    exact congrArg (d::·) ih
  ·cases h:a0F c r with
   | nil=>exact absurd h (a4L c r)
   | cons p ps=>
    rw [h] at ih
    show d::(p++ps.flatMap fun b=>[c]++b)=_
    exact congrArg (d::·) ih
theorem a5J (c:Nat):∀(bs:List (List Nat)) (a:List Nat),(∀b∈a::bs,c∉b)→a0F c (a1n [c] (a::bs))=a::bs
 | [],a,h=>by
  show a0F c (a++[])=_
  rw [List.append_nil,a1D (h a List.mem_cons_self)]
 | b::bs,a,h=>by
  have e:a1n [c] (a::b::bs)=a++c::a1n [c] (b::bs):=by
   show a++((b::bs).flatMap fun b=>[c]++b)=a++c::(b++bs.flatMap fun b=>[c]++b)
   rw [List.flatMap_cons];rfl
  rw [e,a2i (h a List.mem_cons_self),a5J c bs b fun x hx=>h x (List.mem_cons_of_mem _ hx)]
theorem a8P (c:List Nat):∀(xs:List (List Nat)) (y:List Nat) (ys:List (List Nat)),xs≠[]→a1n c (xs++y::ys)=a1n c xs++c++a1n c (y::ys)
 | [],_,_,h=>absurd rfl h
 | x::xs,y,ys,_=>by
  show x++((xs++y::ys).flatMap fun b=>c++b)=(x++xs.flatMap fun b=>c++b)++c++(y++ys.flatMap fun b=>c++b)
  rw [List.flatMap_append,List.flatMap_cons];simp
theorem c3c (l:List Nat):sdL l++rsL l=l:=by
 unfold sdL rsL
 split
 ·rename_i h
  match l,h with
  | c::r,h=>
   have:c=45:=by simpa using h
   subst this;rfl
 ·rfl
theorem a2y {l sd nm:List Nat} {ps:List (List Nat)} (h:a1B l=some (sd,nm,ps)):l=a0S sd nm ps:=by
 have hsr:=c3c l
 unfold a1B a6A at h
 split at h
 ·cases e:a8i (rsL l) with
  | none=>rw [e] at h;cases h
  | some qs=>
   rw [e] at h
   cases h
   refine hsr.symm.trans ?_
   dsimp only
   generalize rsL l=rs at e ⊢
   generalize sdL l=sd at e ⊢
   by_cases h40:40∈rs
   ·obtain ⟨a,b,rfl,ha⟩:=a5a h40
    rw [a5k ha] at e
    rw [a3l ha]
    unfold a3q at e
    split at e
    ·rename_i hg
     split at e
     ·rename_i h2
      split at e
      ·cases e
       obtain ⟨b',rfl⟩:∃b',b=b'++[41]:=⟨b.dropLast,by
        have hb:b≠[]:=fun z=>by rw [z] at hg;cases hg
        have:=List.dropLast_concat_getLast hb
        rw [List.getLast?_eq_some_getLast hb] at hg
        rw [←Option.some.inj hg];exact this.symm⟩
       rw [List.dropLast_concat] at h2 ⊢
       have hj:=a4R 44 b'
       match hs:a0F 44 b',h2 with
       | [],_=>exact absurd hs (a4L 44 b')
       | [p],_=>
        rw [hs] at hj
        have:p=b':=by simpa [a1n] using hj
        subst this
        simp [a0S]
       | [p,q],_=>
        rw [hs] at hj
        have:p++44::q=b':=by simpa [a1n] using hj
        rw [←this]
        simp [a0S]
       | _::_::_::_,h2=>simp at h2
      ·cases e
     ·cases e
    ·cases e
   ·rw [a5w h40] at e
    cases e
    rw [a5s h40];rfl
 ·cases h
theorem a2W {sd nm:List Nat} {ps:List (List Nat)} (h:IsS sd nm ps):a1B (a0S sd nm ps)=some (sd,nm,ps):=by
 have hb:sdL (a0S sd nm ps)=sd∧rsL (a0S sd nm ps)=a0S [] nm ps:=by
  have e:=a7x sd nm ps
  rcases h.side with z | z
  ·subst z
   have:=a7B h
   unfold sdL rsL
   rw [if_neg this,if_neg this]
   exact ⟨rfl,rfl⟩
  ·subst z
   rw [e]
   unfold sdL rsL
   rw [if_pos (show ([45]++a0S [] nm ps)[0]?=some 45 from rfl),if_pos (show ([45]++a0S [] nm ps)[0]?=some 45 from rfl)]
   exact ⟨rfl,rfl⟩
 have hw:=(a4p nm).mpr h.name
 have h40:40∉nm:=h.name.no (by decide)
 unfold a1B
 rw [hb.1,hb.2,a7X nm ps h.many]
 unfold a6A
 by_cases e:ps=[]
 ·subst e
  rw [if_pos rfl,List.append_nil,a5s h40,a5w h40,if_pos hw];rfl
 ·rw [if_neg e,a3l h40,a5k h40,if_pos hw]
  have hr:a3q (a4Y ps++[41])=some ps:=by
   unfold a3q
   rw [List.getLast?_concat,if_pos rfl,List.dropLast_concat]
   have hsp:a0F 44 (a4Y ps)=ps:=by
    match ps,e,h.many,h.places with
    | [a],_,_,hp=>exact a1D ((hp a (by simp)).no (by decide))
    | [a,b],_,_,hp=>
     show a0F 44 (a++44::b)=_
     rw [a2i ((hp a (by simp)).no (by decide)),a1D ((hp b (by simp)).no (by decide))]
   rw [hsp,if_pos h.many,if_pos]
   rw [List.all_eq_true]
   intro p hp
   unfold okP
   rcases h.places p hp with z | z
   ·rw [(a4p p).mpr z];rfl
   ·rw [(a6E p).mpr z,Bool.or_true]
  rw [hr];rfl
theorem a9X {s:TP3} (h:IsT s):∀c∈stat s,c=45∨c=40∨c=41∨c=44∨65≤c:=by
 obtain ⟨sd,nm,ps⟩:=s
 have hs:∀c∈sd,c=45:=by rcases (h:IsS sd nm ps).side with z | z<;>(subst z;simp)
 have hn:∀c∈nm,65≤c:=fun c hc=>((IsP.rng (.inl (h:IsS sd nm ps).name)) c hc).1
 have hp:∀p∈ps,∀c∈p,65≤c:=fun p hp c hc=>((h:IsS sd nm ps).places p hp).rng c hc |>.1
 intro c hc
 match ps,hp,hc with
 | [],_,hc=>
  rcases List.mem_append.mp hc with z | z
  ·exact .inl (hs c z)
  ·exact .inr (.inr (.inr (.inr (hn c z))))
 | [p],hp,hc=>
  simp only [stat,a0S,List.mem_append,List.mem_cons,List.not_mem_nil,or_false] at hc
  rcases hc with (z | z) | z | z | z
  ·exact .inl (hs c z)
  ·exact .inr (.inr (.inr (.inr (hn c z))))
  ·exact .inr (.inl z)
  ·exact .inr (.inr (.inr (.inr (hp p (by simp) c z))))
  ·exact .inr (.inr (.inl z))
 | p::q::r,hp,hc=>
  simp only [stat,a0S,List.mem_append,List.mem_cons,List.not_mem_nil,or_false] at hc
  rcases hc with (z | z) | z | z | z | z | z
  ·exact .inl (hs c z)
  ·exact .inr (.inr (.inr (.inr (hn c z))))
  ·exact .inr (.inl z)
  ·exact .inr (.inr (.inr (.inr (hp p (by simp) c z))))
  ·exact .inr (.inr (.inr (.inl z)))
  ·exact .inr (.inr (.inr (.inr (hp q (by simp) c z))))
  ·exact .inr (.inr (.inl z))
theorem a6e {s:TP3} (h:IsT s):32∉stat s∧58∉stat s∧62∉stat s:=by
 refine ⟨fun z=>?_,fun z=>?_,fun z=>?_⟩<;>(have:=a9X h _ z;omega)
theorem a2B {s s':TP3} (h:IsT s) (h':IsT s') (e:stat s=stat s'):s=s':=by
 have h1:=a2W h
 have h2:=a2W h'
 have e':a0S s.1 s.2.1 s.2.2=a0S s'.1 s'.2.1 s'.2.2:=e
 rw [e'] at h1
 exact Option.some.inj (h1.symm.trans h2)
/-! ### a row's words -/
def a4q:List (List Nat)→List (List Nat)
 | []=>[]
 | [b]=>[b]
 | b::c::r=>(b++[44])::a4q (c::r)
theorem a4W:∀bs:List (List Nat),(a4q bs).length=bs.length
 | []=>rfl
 | [_]=>rfl
 | _::c::r=>congrArg (·+1) (a4W (c::r))
theorem a4O:∀(bs:List (List Nat)) (i:Nat),(a4q bs)[i]?=(bs[i]?).map fun b=>if i+1 < bs.length then b++[44] else b
 | [],i=>by simp [a4q]
 | [b],i=>by
  cases i with
  | zero=>simp [a4q]
  | succ i=>simp [a4q]
 | b::c::r,i=>by
  cases i with
  | zero=>simp [a4q]
  | succ i=>
   show (a4q (c::r))[i]?=_
   rw [a4O (c::r) i]
   simp
theorem a9e:∀(bs:List (List Nat)),bs≠[]→a1n [32] (a4q bs)=a1n [44,32] bs
 | [],h=>absurd rfl h
 | [b],_=>rfl
 | b::c::r,_=>by
  have ih:=a9e (c::r) (by simp)
  show a1n [32] ((b++[44])::a4q (c::r))=_
  have hne:a4q (c::r)≠[]:=fun z=>by have:=a4W (c::r);rw [z] at this;cases this
  cases hm:a4q (c::r) with
  | nil=>exact absurd hm hne
  | cons m ms=>
   rw [hm] at ih
   show (b++[44])++((m::ms).flatMap fun b=>[32]++b)=b++((c::r).flatMap fun b=>[44,32]++b)
   rw [List.flatMap_cons,List.flatMap_cons]
   have ih':m++(ms.flatMap fun b=>[32]++b)=c++r.flatMap fun b=>[44,32]++b:=ih
   simp only [List.append_assoc]
   rw [ih'];simp
theorem b5d {bs:List (List Nat)} {m:List Nat} (h:m∈a4q bs):∃b∈bs,m=b∨m=b++[44]:=by
 obtain ⟨i,e⟩:=List.getElem?_of_mem h
 rw [a4O] at e
 obtain ⟨b,hb,e⟩:=Option.map_eq_some_iff.mp e
 refine ⟨b,List.mem_of_getElem? hb,?_⟩
 split at e
 ·exact .inr e.symm
 ·exact .inl e.symm
theorem a7w {k:Nat} (hk:k≠0) (lb h:List Nat) (bs:List (List Nat)):a9z k lb h bs=a1n [32] (a0G k::(lb++[58])::(a4q bs++[[45,62],h])):=by
 by_cases hb:bs=[]
 ·subst hb
  rw [←a9d hk];rfl
 ·rw [←a8V hk lb h hb,←a9e bs hb]
  have e1:=a8P [32] (a0G k::(lb++[58])::a4q bs) [45,62] [h] (by simp)
  rw [show a0G k::(lb++[58])::(a4q bs++[[45,62],h])=(a0G k::(lb++[58])::a4q bs)++[45,62]::[h] from rfl,e1]
  cases hm:a4q bs with
  | nil=>exact absurd (by have:=a4W bs;rw [hm] at this;exact List.length_eq_zero_iff.mp this.symm) hb
  | cons m ms=>
   have e2:=a8P [32] [a0G k,lb++[58]] m ms (by simp)
   rw [show a0G k::(lb++[58])::m::ms=[a0G k,lb++[58]]++m::ms from rfl,e2]
   generalize a1n [32] (m::ms)=J
   simp [a1n]
abbrev PP:=Nat×List Nat×TP3×List TP3
def a9l (l:List Nat):Bool:=(decide (1≤l.length) && decide (l.length≤8)) && l.all fun c=>decide (c∈b2W)
def c3k (p:PP):Prop:=IsT p.2.2.1∧(∀s∈p.2.2.2,IsT s)∧((p.1=0∧p.2.1=[]∧p.2.2.2=[]∧a2C p.2.2.1.2.2=[])∨((1≤p.1∧p.1≤3)∧a9l p.2.1=true∧p.2.2.2.length≤4∧(a5D (p.2.2.1::p.2.2.2)).length≤3))
def b5P (p:PP):List Nat:=a9z p.1 p.2.1 (stat p.2.2.1) (p.2.2.2.map stat)
def a1J (l:List Nat) (p:PP):Prop:=c3k p∧l=b5P p
def a4Z (p:PP):List (List Nat):=if p.1=0 then [a0G 0,stat p.2.2.1] else a0G p.1::(p.2.1++[58])::(a4q (p.2.2.2.map stat)++[[45,62],stat p.2.2.1])
theorem b4n {l:List Nat} (h:a9l l=true):32∉l∧58∉l:=by
 unfold a9l at h
 rw [Bool.and_eq_true,List.all_eq_true] at h
 have hf:∀c∈b2W,c≠32∧c≠58:=by decide
 exact ⟨fun z=>(hf 32 (by simpa using h.2 32 z)).1 rfl,fun z=>(hf 58 (by simpa using h.2 58 z)).2 rfl⟩
theorem a6T (k:Nat):32∉a0G k∧58∉a0G k∧a0G k≠[]:=by
 unfold a0G
 split<;>decide
theorem a1J.words {l:List Nat} {p:PP} (h:a1J l p):a0F 32 l=a4Z p:=by
 obtain ⟨⟨hT,hTs,hv⟩,rfl⟩:=h
 obtain ⟨k,lb,s0,ss⟩:=p
 unfold b5P a4Z
 have h0:=a6e hT
 rcases hv with ⟨hk,_,_,_⟩ | ⟨hk,hlb,_,_⟩
 ·have hk0:k=0:=hk
  subst hk0
  rw [if_pos rfl]
  show a0F 32 (a0G 0++32::stat s0)=_
  rw [a2i (a6T 0).1,a1D h0.1]
 ·have hk0:k≠0:=fun z=>by have:=hk.1;rw [show (k,lb,s0,ss).1=k from rfl,z] at this;exact absurd this (by decide)
  rw [if_neg hk0]
  show a0F 32 (a9z k lb (stat s0) (ss.map stat))=_
  rw [a7w hk0]
  refine a5J 32 _ _ fun b hb=>?_
  rcases List.mem_cons.mp hb with z | hb
  ·rw [z];exact (a6T k).1
  rcases List.mem_cons.mp hb with z | hb
  ·rw [z]
   have:=(b4n hlb).1
   intro y
   rcases List.mem_append.mp y with y | y
   ·exact this y
   ·simp at y
  rcases List.mem_append.mp hb with hb | hb
  ·obtain ⟨x,hx,e⟩:=b5d hb
   obtain ⟨s,hs,rfl⟩:=List.mem_map.mp hx
   have:=(a6e (hTs s hs)).1
   rcases e with e | e
   ·rw [e];exact this
   ·rw [e];intro y
    rcases List.mem_append.mp y with y | y
    ·exact this y
    ·simp at y
  ·simp only [List.mem_cons,List.not_mem_nil,or_false] at hb
   rcases hb with z | z
   ·rw [z];decide
   ·rw [z];exact h0.1
theorem a8w {bs cs:List (List Nat)} (h:a4q bs=a4q cs):bs=cs:=by
 have hl:bs.length=cs.length:=by rw [←a4W bs,←a4W cs,h]
 refine List.ext_getElem? fun i=>?_
 have h1:=a4O bs i
 have h2:=a4O cs i
 rw [h,h2,hl] at h1
 cases hb:bs[i]? with
 | none=>rw [hb] at h1;cases hc:cs[i]? with
  | none=>rfl
  | some c=>rw [hc] at h1;cases h1
 | some b=>
  rw [hb] at h1
  cases hc:cs[i]? with
  | none=>rw [hc] at h1;cases h1
  | some c=>
   rw [hc] at h1
   have e:=Option.some.inj h1
   split at e
   ·rw [List.append_cancel_right e]
   ·exact congrArg some e.symm
theorem a1W:∀{ss ss':List TP3},(∀s∈ss,IsT s)→(∀s∈ss',IsT s)→ss.map stat=ss'.map stat→ss=ss'
 | [],[],_,_,_=>rfl
 | [],_::_,_,_,e=>by cases e
 | _::_,[],_,_,e=>by cases e
 | s::ss,s'::ss',h,h',e=>by
  have e1:stat s=stat s':=(List.cons.inj e).1
  rw [a2B (h s List.mem_cons_self) (h' s' List.mem_cons_self) e1,a1W (fun x hx=>h x (List.mem_cons_of_mem _ hx)) (fun x hx=>h' x (List.mem_cons_of_mem _ hx)) (List.cons.inj e).2]
theorem a9v {k k':Nat} (h:k≤3) (h':k'≤3) (e:a0G k=a0G k'):k=k':=by
 revert e
 match k,h,k',h' with
 | 0,_,0,_=>intro;rfl
 | 0,_,1,_=>decide
 | 0,_,2,_=>decide
 | 0,_,3,_=>decide
 | 1,_,0,_=>decide
 | 1,_,1,_=>intro;rfl
 | 1,_,2,_=>decide
 | 1,_,3,_=>decide
 | 2,_,0,_=>decide
 | 2,_,1,_=>decide
 | 2,_,2,_=>intro;rfl
 | 2,_,3,_=>decide
 | 3,_,0,_=>decide
 | 3,_,1,_=>decide
 | 3,_,2,_=>decide
 | 3,_,3,_=>intro;rfl
theorem a1J.inj {l:List Nat} {p p':PP} (h:a1J l p) (h':a1J l p'):p=p':=by
 have e:=h.words.symm.trans h'.words
 obtain ⟨⟨hT,hTs,hv⟩,_⟩:=h
 obtain ⟨⟨hT',hTs',hv'⟩,_⟩:=h'
 obtain ⟨k,lb,s0,ss⟩:=p
 obtain ⟨k',lb',s0',ss'⟩:=p'
 have hk3:k≤3:=by
  rcases hv with ⟨hk,_⟩ | ⟨hk,_⟩
  ·exact Nat.le_trans (Nat.le_of_eq hk) (by decide)
  ·exact hk.2
 have hk3':k'≤3:=by
  rcases hv' with ⟨hk,_⟩ | ⟨hk,_⟩
  ·exact Nat.le_trans (Nat.le_of_eq hk) (by decide)
  ·exact hk.2
 have hh:∀q:PP,(a4Z q).head?=some (a0G q.1):=fun q=>by
  unfold a4Z
  split
  ·rename_i z;rw [z];rfl
  ·rfl
 have hkk:k=k':=a9v hk3 hk3' (Option.some.inj ((hh (k,lb,s0,ss)).symm.trans ((congrArg List.head? e).trans (hh (k',lb',s0',ss')))))
 subst hkk
 unfold a4Z at e
 dsimp only at e hT hT' hTs hTs' hv hv'
 by_cases hk0:k=0
 ·rw [if_pos hk0,if_pos hk0] at e
  have e1:stat s0=stat s0':=by simpa using e
  rcases hv with ⟨_,h1,h2,_⟩ | ⟨hk,_⟩
  ·rcases hv' with ⟨_,h1',h2',_⟩ | ⟨hk,_⟩
   ·rw [h1,h2,h1',h2',a2B hT hT' e1]
   ·omega
  ·omega
 ·rw [if_neg hk0,if_neg hk0] at e
  have e1:=(List.cons.inj e).2
  have e2:=(List.cons.inj e1).1
  have e3:=(List.cons.inj e1).2
  have hl:(a4q (ss.map stat)).length=(a4q (ss'.map stat)).length:=by
   have:=congrArg List.length e3
   simpa using this
  obtain ⟨e4,e5⟩:=List.append_inj e3 hl
  have e6:stat s0=stat s0':=by simpa using e5
  rw [List.append_cancel_right e2,a2B hT hT' e6,a1W hTs hTs' (a8w e4)]
/-! ### the program's way of parting a row -/
theorem mkE {l:List Nat}:mk l=("":Str)↔l=[]:=⟨fun h=>a1t (h.trans (by decide+kernel:("":Str)=mk [])),fun h=>by rw [h];decide+kernel⟩
def b2s (ss:List TP3):List Nat:=if ss=[] then [] else a1n [44,32] (ss.map stat)++[32]
def a2Q (z:Str):List Str:=if z="" then [] else Txt.split (Txt.slice z none (some (-1))) ", "
theorem a7A {k:Nat} (hk:k≠0) (lb:List Nat) (s0:TP3) (ss:List TP3):b5P (k,lb,s0,ss)=(a0G k++32::lb)++[58,32]++(b2s ss++[45,62,32]++stat s0):=by
 unfold b5P a9z b2s
 dsimp only
 rw [if_neg hk]
 by_cases h:ss=[]
 ·subst h;simp
 ·rw [if_neg h,if_neg (by simpa using h)];simp
theorem b0i {a b:List Nat} (h:58∉a):Txt.partition (mk (a++[58,32]++b)) ": "=(mk a,mk [58,32],mk b):=by
 rw [show (": ":Str)=mk [58,32] by decide+kernel]
 refine a8K fun i hi=>?_
 rw [a8F,decide_eq_false]
 rintro ⟨z,_⟩
 rw [List.append_assoc,List.getElem?_append_left hi] at z
 exact h (List.mem_of_getElem? z)
theorem a9U {a b:List Nat} (h:62∉a):Txt.partition (mk (a++[45,62,32]++b)) "-> "=(mk a,mk [45,62,32],mk b):=by
 rw [show ("-> ":Str)=mk [45,62,32] by decide+kernel]
 refine a8K fun i hi=>?_
 rw [PySem.StrLaws.subAt_eq]
 show ((List.drop i (a++[45,62,32]++b)).take 3 == [45,62,32])=false
 rw [beq_eq_false_iff_ne]
 intro z
 have z1:((List.drop i (a++[45,62,32]++b)).take 3)[1]?=some 62:=by rw [z];rfl
 rw [List.getElem?_take,if_pos (by decide),List.getElem?_drop,List.append_assoc] at z1
 by_cases hk:i+1 < a.length
 ·rw [List.getElem?_append_left hk] at z1
  exact h (List.mem_of_getElem? z1)
 ·rw [List.getElem?_append_right (by omega),show i+1 - a.length=0 by omega] at z1
  cases z1
theorem b2Z {c:List Nat} {x:Nat}:∀{xs:List (List Nat)},x∈a1n c xs→x∈c∨∃y∈xs,x∈y
 | [],h=>by cases h
 | a::r,h=>by
  rcases List.mem_append.mp h with z | z
  ·exact .inr ⟨a,List.mem_cons_self,z⟩
  ·obtain ⟨b,hb,z⟩:=List.mem_flatMap.mp z
   rcases List.mem_append.mp z with z | z
   ·exact .inl z
   ·exact .inr ⟨b,List.mem_cons_of_mem _ hb,z⟩
theorem b5Y {ss:List TP3} (h:∀s∈ss,IsT s):62∉b2s ss:=by
 unfold b2s
 split
 ·simp
 ·intro z
  rcases List.mem_append.mp z with z | z
  ·rcases b2Z z with z | ⟨y,hy,z⟩
   ·simp at z
   ·obtain ⟨s,hs,rfl⟩:=List.mem_map.mp hy
    exact (a6e (h s hs)).2.2 z
  ·simp at z
theorem b2q {ss:List TP3} (h:∀s∈ss,IsT s):a2Q (mk (b2s ss))=(ss.map stat).map mk:=by
 unfold a2Q b2s
 cases ss with
 | nil=>rw [if_pos rfl,if_pos (mkE.mpr rfl)];rfl
 | cons s ss=>
  have e:(if s::ss=[] then [] else a1n [44,32] ((s::ss).map stat)++[32])=a1n [44,32] ((s::ss).map stat)++[32]:=if_neg (by simp)
  rw [e,if_neg (fun z=>by have:=mkE.mp z;simp at this),a4U _ (by simp),List.dropLast_concat,show (", ":Str)=mk [44,32] by decide+kernel]
  refine b0R (by decide) (by decide) (by decide) (stat s) (ss.map stat) fun b hb=>?_
  rw [←List.map_cons] at hb
  obtain ⟨x,hx,rfl⟩:=List.mem_map.mp hb
  exact (a6e (h x hx)).1
theorem a1J.exact {l:List Nat} {k:Nat} {lb:List Nat} {s0:TP3} {ss:List TP3} (h:a1J l (k,lb,s0,ss)) (hk:k≠0):∃b:List Nat,Txt.partition (mk l) ": "=(mk (a0G k++32::lb),mk [58,32],mk b)∧a0F 32 (a0G k++32::lb)=[a0G k,lb]∧
  Txt.partition (mk b) "-> "=(mk (b2s ss),mk [45,62,32],mk (stat s0))∧a2Q (mk (b2s ss))=(ss.map stat).map mk:=by
 obtain ⟨⟨hT,hTs,hv⟩,rfl⟩:=h
 have hlb:a9l lb=true:=by
  rcases hv with ⟨z,_⟩ | ⟨_,z,_⟩
  ·exact absurd z hk
  ·exact z
 have hf:=b4n hlb
 have hw:=a6T k
 refine ⟨_,by rw [a7A hk,b0i];· exact fun z=>(List.mem_append.mp z).elim hw.2.1 fun z=>(List.mem_cons.mp z).elim (by decide) hf.2,by rw [a2i hw.1,a1D hf.1],a9U (b5Y hTs),b2q hTs⟩
theorem b2v (l w:List Nat):Txt.startswith (mk l) (mk w)=decide (l.take w.length=w):=by
 unfold Txt.startswith
 rw [PySem.StrLaws.subAt_eq,a0i,a0i]
 show (decide (0+w.length≤l.length) && ((l.drop 0).take w.length == w))=_
 rw [List.drop_zero,Bool.eq_iff_iff,Bool.and_eq_true,decide_eq_true_eq,decide_eq_true_eq,beq_iff_eq]
 refine ⟨fun h=>h.2,fun h=>⟨?_,h⟩⟩
 have:=congrArg List.length h
 rw [List.length_take] at this
 omega
abbrev P3:=Option (List Nat×List Nat×List (List Nat))
def b0x:Sp:=fun vs H Q _=>∃b:List Nat,vs=[sv b]∧b.length≤1000∧(a3q b=none→∀H',a0A H H'→Q .non H')∧∀ps t H',a3q b=some ps→a0A H H'→H' t=some (.tup (pv' ps))→Q (.ref t) H'
def b3j (K:PySem.W.Frag) (t:Adr):Sp:=fun vs H Q E=>∃(v:V) (r:P3),vs=[v]∧((∃l,v=sv l∧l.length≤1000∧r=a1B l)∨(r=none∧a3Q K H v))∧
 (∀sd nm ps,r=some (sd,nm,ps)→∀p H',a0A H H'→At3 H' p sd nm ps→Q (.ref p) H')∧(r=none→∀x d T H',NS H H' x d T t.C_NoStatement "found" v→E (.ref x) (some t.C_NoStatement) H')
theorem a1H (a b:Str):(a++b).length=a.length+b.length:=by
 show (a.cps++b.cps).size=_
 rw [Array.size_append];rfl
theorem b9i (rs:List Nat):rs.take (a5E rs).length=a5E rs∧((rs.drop (a5E rs).length=[]∧a8i rs=some [])∨∃b,rs.drop (a5E rs).length=40::b∧b.length < rs.length∧a8i rs=a3q b):=by
 by_cases h:40∈rs
 ·obtain ⟨a,b,rfl,ha⟩:=a5a h
  rw [a3l ha,a5k ha]
  refine ⟨by simp,.inr ⟨b,by simp,by simp;omega,rfl⟩⟩
 ·rw [a5s h,a5w h]
  exact ⟨by simp,.inl ⟨by simp,rfl⟩⟩
def b3I:Sp:=fun vs H Q _=>∃l:List Nat,vs=[sv l]∧l.length≤1000∧∀H',a0A H H'→Q (.bl (a1B l).isSome) H'
def wrB (l:List Nat):Bool:=match a1B l with | some s=>decide (a2C s.2.2=[]) | none=>false
def c8p:Sp:=fun vs H Q _=>∃l:List Nat,vs=[sv l]∧l.length≤1000∧∀H',a0A H H'→Q (.bl (wrB l)) H'
def b5H (K:PySem.W.Frag):Sp:=fun vs H Q _=>∃l:List Nat,vs=[sv l]∧l.length≤1000∧∀p H',a0A H H'→H' p=some (.lst (pv' (a0F 32 l)))→Q (.ref p) H'
def b2Q (t:Adr):Sp:=fun vs H Q _=>∃l:List Nat,vs=[sv l]∧5≤l.length∧l.length≤1000∧(wrB (l.drop 5)=false→∀H',a0A H H'→Q .non H')∧
 ∀r s0 H',IsT s0→l.drop 5=stat s0→a2C s0.2.2=[]→a0A H H'→a0U H' r t.C_Fact (sv []) (sv (stat s0)) []→Q (.ref r) H'
def a1Y (w:List Nat):Nat:=if w=a0G 1 then 1 else if w=a0G 2 then 2 else if w=a0G 3 then 3 else 0
def b2U (K:PySem.W.Frag) (t:Adr):Sp:=fun vs H Q _=>∃(w:List Nat) (lb hd:V) (b:Addr) (bs:List V),vs=[sv w,lb,hd,.ref b]∧SqL K H b bs∧(a1Y w=0→Q .non H)∧
 ∀r H',a1Y w≠0→a0A H H'→a0U H' r (a2J t (a1Y w)) lb hd bs→Q (.ref r) H'
def b6B:Sp:=fun vs H Q _=>∃z:Str,vs=[.str z]∧z.length≤1000∧∀D H',a0A H H'→H' D=some (.lst ((a2Q z).map V.str))→Q (.ref D) H'
def a5n (t:Adr) (H:Hp) (r:Addr) (p:PP):Prop:=a0U H r (a2J t p.1) (sv p.2.1) (sv (stat p.2.2.1)) (tv p.2.2.2)
theorem a5n.same {t:Adr} {H H':Hp} {r:Addr} {p:PP} (s:a0A H H') (h:a5n t H r p):a5n t H' r p:=a0U.same s h
def c0I (t:Adr):Sp:=fun vs H Q _=>∃l:List Nat,vs=[sv l]∧l.length≤1000∧((∀p,a1J l p→p.1=0)→∀H',a0A H H'→Q .non H')∧
 ∀r p H',p.1≠0→c3k p→(∀p',a1J l p'→p'.1≠0→p'=p)→a0A H H'→a5n t H' r p→Q (.ref r) H'
def b2A (K:PySem.W.Frag) (t:Adr):Sp:=fun vs H Q E=>∃v:V,vs=[v]∧((∃l,v=sv l∧l.length≤1000)∨a3Q K H v)∧(∀l p r H',v=sv l→a1J l p→a0A H H'→a5n t H' r p→Q (.ref r) H')∧
 ((∀l p,v=sv l→¬a1J l p)→∀x d T H',NS H H' x d T t.C_NoRow "found" v→E (.ref x) (some t.C_NoRow) H')
theorem a5K {k:Nat} (h1:1≤k) (h3:k≤3):a1Y (a0G k)=k:=by
 match k,h1,h3 with
 | 1,_,_=>rfl
 | 2,_,_=>rfl
 | 3,_,_=>rfl
theorem a6G (w:List Nat):a1Y w≤3:=by
 unfold a1Y
 repeat' split
 all_goals decide
theorem a9a {w:List Nat} (h:a1Y w≠0):w=a0G (a1Y w):=by
 unfold a1Y at h ⊢
 split
 ·assumption
 ·split
  ·assumption
  ·split
   ·assumption
   ·rename_i a b c
    rw [if_neg a,if_neg b,if_neg c] at h
    exact absurd rfl h
theorem b4B {z:Str} (h:z.length≤1000):(∀p∈a2Q z,p.length≤1000)∧(a2Q z).length≤1002:=by
 unfold a2Q
 split
 ·exact ⟨fun p hp=>(by cases hp),by simp⟩
 ·have hs:=Txt.slice_le z none (some (-1))
  generalize Txt.slice z none (some (-1))=y at hs
  have:=b3l y.cps.toList ", "
  rw [a5S,Array.length_toList] at this
  have hy:y.cps.size≤1000:=Nat.le_trans hs h
  exact ⟨fun p hp=>Nat.le_trans (this.1 p hp) hy,Nat.le_trans this.2 (by omega)⟩
theorem a8O:∀{zs:List (List Nat)},zs.all (fun l=>(a1B l).isSome)=true→∃ss:List TP3,zs=ss.map stat∧∀s∈ss,IsT s
 | [],_=>⟨[],rfl,fun s hs=>by cases hs⟩
 | z::zs,h=>by
  rw [List.all_cons,Bool.and_eq_true] at h
  obtain ⟨s,hs⟩:=Option.isSome_iff_exists.mp h.1
  obtain ⟨ss,rfl,hT⟩:=a8O h.2
  refine ⟨s::ss,by rw [List.map_cons];exact congrArg (·::_) (a2y (sd:=s.1) (nm:=s.2.1) (ps:=s.2.2) hs),fun x hx=>?_⟩
  rcases List.mem_cons.mp hx with e | e
  ·rw [e];exact a2v (sd:=s.1) (nm:=s.2.1) (ps:=s.2.2) hs
  ·exact hT x e
theorem a2M {s:TP3} (h:IsT s):(a1B (stat s)).isSome=true:=by
 have:=a2W (sd:=s.1) (nm:=s.2.1) (ps:=s.2.2) h
 rw [show a1B (stat s)=some s from this];rfl
theorem b0C:∀zs:List Str,∃ls:List (List Nat),zs=ls.map mk
 | []=>⟨[],rfl⟩
 | z::zs=>let ⟨ls,e⟩:=b0C zs;⟨z.cps.toList::ls,by rw [List.map_cons,a5S,←e]⟩
def b5p (K:PySem.W.Frag):Sp:=fun vs H Q _=>∃(a:Addr) (ns:List Int),vs=[.ref a]∧SqL K H a (ns.map V.int)∧ns.length≤63∧∀H',Q (.bl true) H'
theorem b2T {K:PySem.W.Frag} {H:Hp} {a:Addr} {ns:List Int} (hl:ns.length≤63) (_:b7k H) (hS:SqL K H a (ns.map V.int)):b5p K [.ref a] H (fun v _=>v=.bl true) fun _ _ _=>False:=⟨a,ns,rfl,hS,hl,fun _=>rfl⟩
theorem a9I (x:Str) {i j:Int} (h0:0≤j) (hij:j < i) (hi:i≤x.length):Txt.slice x (some i) (some j)=mk []:=by
 have e:PySem.Builtin.Str.strSliceIndices (some i) (some j) 1 x.length=[]:=by
  unfold PySem.Builtin.Str.strSliceIndices
  dsimp only
  rw [if_neg (show ¬i < 0 by omega),if_neg (show ¬j < 0 by omega),if_pos (by decide),if_pos (by decide)]
  unfold sliceRange
  rw [show max 0 (min i (x.length:Int))=i by omega,show max 0 (min j (x.length:Int))=j by omega]
  simp
  omega
 unfold Txt.slice
 rw [e,if_neg]
 ·rfl
 ·simp
  omega
theorem a9H (a b:List Nat):Txt.slice (mk (a++40::b)) (some ((a.length:Int)+1)) (some (-1))=mk b.dropLast:=by
 have hl:(mk (a++40::b)).length=a.length+1+b.length:=by rw [a0i];simp;omega
 rw [a7E _ _ (by omega),hl]
 by_cases hb:b=[]
 ·subst hb
  exact a9I _ (by simp) (by simp;omega) (by rw [hl];simp)
 ·have hbl:0 < b.length:=List.length_pos_iff.mpr hb
  have e:=eq_of_beq (PyProof.Rows.slice_closesL (x:=mk (a++40::b)) (i:=(a.length:Int)+1) (j:=((a.length+1+b.length:Nat):Int) - 1) (by omega) (by omega) (by rw [hl];omega))
  rw [e]
  have e1:((a.length:Int)+1).toNat=a.length+1:=by omega
  have e2:(((a.length+1+b.length:Nat):Int) - 1 - ((a.length:Int)+1)).toNat=b.length - 1:=by omega
  rw [e1,e2]
  show mk ((List.drop (a.length+1) (a++40::b)).take (b.length - 1))=_
  rw [List.drop_append,List.drop_eq_nil_of_le (by omega),show a.length+1 - a.length=1 by omega,List.dropLast_eq_take]
  rfl
theorem a3b (l:List Nat):Txt.slice (mk l) (some (-1)) none=mk (l.drop (l.length - 1)):=by
 by_cases h:l=[]
 ·subst h;decide+kernel
 ·have hl:0 < l.length:=List.length_pos_iff.mpr h
  have e:=eq_of_beq (PyProof.Rows.slice_closes_from_neg (x:=mk l) (i:=-1) (a:=(l.length:Int) - 1) (b:=l.length) (by decide) (by rw [a0i];omega) (by rw [a0i];omega) (by rw [a0i]))
  rw [e,show ((l.length:Int) - 1).toNat=l.length - 1 by omega]
  show mk ((List.drop (l.length - 1) l).take _)=_
  rw [List.take_of_length_le (by simp;omega)]
theorem a4X (l:List Nat) (c:Nat):mk (l.drop (l.length - 1))=mk [c]↔l.getLast?=some c:=by
 constructor
 ·intro h
  have:=a1t h
  rw [List.getLast?_eq_getElem?,←List.head?_drop,this];rfl
 ·intro h
  have hl:l≠[]:=fun z=>by rw [z] at h;cases h
  obtain ⟨r,rfl⟩:∃r,l=r++[c]:=⟨l.dropLast,by
   have:=List.dropLast_concat_getLast hl
   rw [List.getLast?_eq_some_getLast hl] at h
   rw [←Option.some.inj h];exact this.symm⟩
  rw [show (r++[c]).length - 1=r.length by simp,List.drop_left]
theorem a5V (l:List Nat):Txt.slice (mk l) none (some (-1))=mk l.dropLast:=by
 by_cases h:l=[]
 ·subst h;decide+kernel
 ·exact a4U l h
def wB (sg l:List Nat):Bool:=(decide (1≤l.length) && decide (l.length≤8)) && l.all fun c=>decide (c∈sg)
theorem a9b {α:Type} (p:α→Bool):∀l:List α,((l.filter p).length=l.length↔l.all p=true)
 | []=>by simp
 | a::r=>by
  have ih:=a9b p r
  have hl:=List.length_filter_le p r
  cases h:p a
  ·simp [h];omega
  ·simp [h,←ih]
theorem a6b {α:Type} [Inhabited α] (p:α→Bool) (l:List α):((List.range l.length).filter fun i=>p ((l[i]?).getD default)).length=(l.filter p).length:=by
 have e:l=(List.range l.length).map fun i=>(l[i]?).getD default:=by
  refine List.ext_getElem? fun i=>?_
  rw [List.getElem?_map]
  by_cases h:i < l.length
  ·rw [List.getElem?_range h,List.getElem?_eq_getElem h];simp [h]
  ·rw [List.getElem?_eq_none (by omega),List.getElem?_eq_none (by simp;omega)];rfl
 conv=>rhs;rw [e,List.filter_map,List.length_map]
 rfl
def b2r:Sp:=fun vs H Q _=>∃l sg:List Nat,vs=[sv l,sv sg]∧l.length≤1000∧∀H',a0A H H'→Q (.bl (wB sg l)) H'
def b0O:Sp:=fun vs H Q _=>∃l:List Nat,vs=[sv l]∧l.length≤1000∧∀H',a0A H H'→Q (.bl (okP l)) H'
def plF (l:List Nat):List (List Nat):=if 40∈l then a0F 44 (l.drop ((a5E l).length+1)).dropLast else []
theorem b3O {l:List Nat} (h:40∉l):plF l=[]:=if_neg h
theorem a7k {a b:List Nat} (h:40∉a):plF (a++40::b)=a0F 44 b.dropLast:=by
 unfold plF
 rw [if_pos (by simp),a3l h,List.drop_append,List.drop_eq_nil_of_le (by omega),show a.length+1 - a.length=1 by omega]
 rfl
theorem c4h (l:List Nat) (h:l.length≤1000):(plF l).length≤1001∧∀p∈plF l,p.length≤1000:=by
 unfold plF
 split
 ·have h1:=a2b 44 (l.drop ((a5E l).length+1)).dropLast
  have h2:(l.drop ((a5E l).length+1)).dropLast.length≤1000:=by rw [List.length_dropLast,List.length_drop];omega
  exact ⟨by omega,fun p hp=>Nat.le_trans (h1.2 p hp) h2⟩
 ·exact ⟨by simp,fun p hp=>(by cases hp)⟩
theorem b2H {s:TP3} (h:IsT s):plF (stat s)=s.2.2:=by
 obtain ⟨sd,nm,ps⟩:=s
 have hS:IsS sd nm ps:=h
 have hn:40∉sd++nm:=fun z=>by
  rcases List.mem_append.mp z with z | z
  ·rcases hS.side with e | e
   ·rw [e] at z;cases z
   ·rw [e] at z;simp at z
  ·exact hS.name.no (by decide) z
 match ps,hS with
 | [],_=>exact b3O hn
 | [p],hS=>
  show plF (sd++nm++40::(p++[41]))=[p]
  rw [a7k hn,List.dropLast_concat,a1D ((hS.places p (by simp)).no (by decide))]
 | [p,q],hS=>
  show plF (sd++nm++40::(p++44::(q++[41])))=[p,q]
  rw [a7k hn,show p++44::(q++[41])=(p++44::q)++[41] by simp,List.dropLast_concat,a2i ((hS.places p (by simp)).no (by decide)),a1D ((hS.places q (by simp)).no (by decide))]
 | _::_::_::_,hS=>exact absurd hS.many (by simp)
def c0y:Sp:=fun vs H Q _=>∃l:List Nat,vs=[sv l]∧l.length≤1000∧∀D H',a0A H H'→H D=none→H' D=some (.lst (pv' (plF l)))→Q (.ref D) H'
def b8d:Sp:=fun vs H Q _=>∃(a:Addr) (ss:List TP3),vs=[.ref a]∧H a=some (.lst (tv ss))∧(∀s∈ss,IsT s)∧ss.length≤100∧∀D H',a0A H H'→H D=none→H' D=some (.lst (pv' (a5D ss)))→Q (.ref D) H'
def b2m:Sp:=fun vs H Q _=>∃(a:Addr) (ms:List (List Nat)),vs=[.ref a]∧H a=some (.lst (pv' ms))∧ms.length≤1000∧(∀m∈ms,m.length≤1000)∧((∀ss:List TP3,(∀s∈ss,IsT s)→ms≠a4q (ss.map stat))→∀H',a0A H H'→Q .non H')∧
 ∀D ss H',(∀s∈ss,IsT s)→ms=a4q (ss.map stat)→a0A H H'→H D=none→H' D=some (.lst (tv ss))→Q (.ref D) H'
def At4 (H:Hp) (dv:V) (p:PP):Prop:=∃a D,dv=.ref a∧H a=some (.tup [sv (a0G p.1),sv p.2.1,sv (stat p.2.2.1),.ref D])∧H D=some (.lst (tv p.2.2.2))
theorem At4.same {H H':Hp} {dv:V} {p:PP} (s:a0A H H') (h:At4 H dv p):At4 H' dv p:=let ⟨a,D,e,h1,h2⟩:=h;⟨a,D,e,s _ _ h1,s _ _ h2⟩
def b2M (K:PySem.W.Frag):Sp:=fun vs H Q _=>∃v,vs=[v]∧((∃l,v=sv l∧l.length≤1000)∨a3Q K H v)∧∀dv H',a0A H H'→((dv=.non∧∀l p,v=sv l→¬a1J l p)∨∃l p,v=sv l∧a1J l p∧At4 H' dv p)→Q dv H'
theorem b1L (l:List Nat):(a1B l).isSome=(b0g (a5E (rsL l)) && (a8i (rsL l)).isSome):=by
 unfold a1B a6A
 split
 ·rename_i h
  rw [h]
  cases a8i (rsL l)<;>rfl
 ·rename_i h
  rw [Bool.eq_false_iff.mpr h];rfl
theorem b0e (b:List Nat):(a3q b).isSome=(decide (b.getLast?=some 41) && (decide ((a0F 44 b.dropLast).length≤2) && (a0F 44 b.dropLast).all okP)):=by
 unfold a3q
 split
 ·rename_i h1
  rw [decide_eq_true h1,Bool.true_and]
  split
  ·rename_i h2
   rw [decide_eq_true h2,Bool.true_and]
   split
   ·rename_i h3;rw [h3];rfl
   ·rename_i h3;rw [Bool.eq_false_iff.mpr h3];rfl
  ·rename_i h2
   rw [decide_eq_false h2];rfl
 ·rename_i h1
  rw [decide_eq_false h1];rfl
theorem a9f (a b:List Nat):(a++40::b).getLast?=some 41↔b.getLast?=some 41:=by
 by_cases hb:b=[]
 ·subst hb;simp
 ·obtain ⟨r,x,rfl⟩:∃r x,b=r++[x]:=⟨b.dropLast,b.getLast hb,(List.dropLast_concat_getLast hb).symm⟩
  rw [show a++40::(r++[x])=(a++40::r)++[x] by simp,List.getLast?_concat,List.getLast?_concat]
theorem b2N (w:List Nat):inV (sv w) [V.str "sure",V.str "most",V.str "block"]=decide (a1Y w≠0):=by
 have e:=a6X w [a0G 1,a0G 2,a0G 3]
 rw [show pv' [a0G 1,a0G 2,a0G 3]=[V.str "sure",V.str "most",V.str "block"] by
  show [V.str (mk (a0G 1)),V.str (mk (a0G 2)),V.str (mk (a0G 3))]=_
  rw [show ("sure":Str)=mk (a0G 1) by decide+kernel,show ("most":Str)=mk (a0G 2) by decide+kernel,show ("block":Str)=mk (a0G 3) by decide+kernel]] at e
 rw [e]
 refine decide_eq_decide.mpr ?_
 unfold a1Y
 simp only [List.mem_cons,List.not_mem_nil,or_false]
 by_cases h1:w=a0G 1
 ·simp [h1]
 ·by_cases h2:w=a0G 2
  ·rw [if_neg h1,if_pos h2];simp [h2]
  ·by_cases h3:w=a0G 3
   ·rw [if_neg h1,if_neg h2,if_pos h3];simp [h3]
   ·rw [if_neg h1,if_neg h2,if_neg h3];simp [h1,h2,h3]
theorem b5e (a b x y:V) (ms:List V):a8h (a::b::(ms++[x,y])) (some 2) (some (-2))=ms:=by
 have hl:(a::b::(ms++[x,y])).length=ms.length+4:=by simp
 unfold a8h HT.sIx
 rw [hl]
 dsimp only
 rw [if_pos (show (-2:Int) < 0 by decide),if_neg (show ¬(2:Int) < 0 by decide)]
 have e1:min (2:Int).toNat (ms.length+4)=2:=by
  show min 2 (ms.length+4)=2
  omega
 rw [e1]
 show (ms++[x,y]).take _=ms
 have e2:∀n,n=ms.length→(ms++[x,y]).take n=ms:=fun n h=>by rw [h,List.take_left]
 refine e2 _ ?_
 omega
theorem b5l {α:Type} (l:List α) (x y:α):atI (l++[x,y]) (-2)=some x:=by
 have hl:(l++[x,y]).length=l.length+2:=by simp
 unfold atI ixN
 rw [hl,if_neg (by decide),if_pos (by omega)]
 show (l++[x,y])[((-2:Int)+((l.length+2:Nat):Int)).toNat]?=some x
 rw [show ((-2:Int)+((l.length+2:Nat):Int)).toNat=l.length by omega,List.getElem?_append_right (Nat.le_refl _),Nat.sub_self]
 rfl
theorem a7y {K:PySem.W.Frag} {H:Hp} {l:List Nat} (h:a3Q K H (sv l)):False:=by
 obtain ⟨ty,h1,h2⟩:=h
 cases h1
 rw [a2z] at h2;cases h2
theorem b8G {ws:List (List Nat)} (h:4≤ws.length):∃w0 w1 ms x y,ws=w0::w1::(ms++[x,y]):=by
 match ws,h with
 | w0::w1::r,h=>
  have hr:2≤r.length:=by simp at h;omega
  have h1:r≠[]:=fun z=>by rw [z] at hr;simp at hr
  have h2:r.dropLast≠[]:=fun z=>by have:=congrArg List.length z;simp at this;omega
  refine ⟨w0,w1,r.dropLast.dropLast,r.dropLast.getLast h2,r.getLast h1,?_⟩
  have e1:=List.dropLast_concat_getLast h1
  have e2:=List.dropLast_concat_getLast h2
  rw [show r.dropLast.dropLast++[r.dropLast.getLast h2,r.getLast h1]=(r.dropLast.dropLast++[r.dropLast.getLast h2])++[r.getLast h1] by simp,e2,e1]
theorem b3E {sd nm:List Nat} {ps:List (List Nat)} (h:IsS sd nm ps):(a0S sd nm ps).length≤28:=by
 have h1:sd.length≤1:=by rcases h.side with e | e<;>rw [e]<;>simp
 have h2:=h.name.2.1
 match ps,h.many,h.places with
 | [],_,_=>simp [a0S];omega
 | [a],_,hp=>
  have:=(hp a (by simp)).len
  simp [a0S];omega
 | [a,b],_,hp=>
  have:=(hp a (by simp)).len
  have:=(hp b (by simp)).len
  simp [a0S];omega
theorem b3z {m:Nat}:∀{ys:List V},(∀(i:Nat) v,ys[i]?=some v→∃l:List Nat,l.length≤m∧v=.str (mk l))→∃qs:List (List Nat),ys=pv' qs∧∀p∈qs,p.length≤m
 | [],_=>⟨[],rfl,fun p hp=>(by cases hp)⟩
 | y::ys,h=>by
  obtain ⟨l,hl,rfl⟩:=h 0 y rfl
  obtain ⟨qs,rfl,hq⟩:=b3z (ys:=ys) fun i v e=>h (i+1) v (by simpa using e)
  refine ⟨l::qs,rfl,fun p hp=>?_⟩
  rcases List.mem_cons.mp hp with z | z
  ·rw [z];exact hl
  ·exact hq p z
theorem c4J (m:Nat):∀qs:List (List Nat),(∀p∈qs,p.length≤m)→((qs.map mk).map (·.length)).sum≤qs.length * m
 | [],_=>by simp
 | q::qs,h=>by
  have h1:=c4J m qs fun p hp=>h p (List.mem_cons_of_mem _ hp)
  have h2:=h q List.mem_cons_self
  rw [List.map_cons,List.map_cons,List.sum_cons,List.length_cons,Nat.succ_mul,a0i]
  omega
theorem b6N (xs:List V) {n:Int} (h0:0≤n):∃k,k≤n.toNat∧a8h xs (some 1) (some (1+n))=(xs.drop 1).take k:=by
 unfold a8h HT.sIx
 dsimp only
 rw [if_neg (show ¬(1:Int) < 0 by decide),if_neg (show ¬(1+n < 0) by omega)]
 cases xs with
 | nil=>exact ⟨0,Nat.zero_le _,by simp⟩
 | cons a r=>
  refine ⟨min (1+n).toNat (r.length+1) - 1,by omega,?_⟩
  show ((a::r).drop (min 1 (r.length+1))).take (min (1+n).toNat (r.length+1) - min 1 (r.length+1))=_
  rw [Nat.min_eq_left (show 1≤r.length+1 by omega)]
def b8W:Sp:=fun vs H Q _=>∃(c:Int),vs=[.int c]∧∀(z:Str) H',z.length≤240→a0A H H'→Q (.str z) H'
def a9Y:Sp:=fun vs H Q _=>∃(z:Str) (c:Int),vs=[.str z,.int c]∧z.length≤500∧∀z':Str,z'.length≤2 * z.length+1→Q (.str z') H
def EqS (K:PySem.W.Frag) (H:Hp) (v:V):Prop:=∀H',a0A H H'→∀Q:VK,Q (.bl true) H'→b5I K v v H' Q
def c2N (K:PySem.W.Frag) (H:Hp) (v:V) (b:Bool):Prop:=∀H',a0A H H'→∀Q:VK,Q (.bl b) H'→b3t K [v,.ty "bool"] H' Q
def a6w (K:PySem.W.Frag) (H:Hp) (v:V):Prop:=((∃l:List Nat,v=sv l∧l.length≤1000)∨a3Q K H v)∧EqS K H v∧∃b,c2N K H v b
theorem a6w.same {K:PySem.W.Frag} {H H':Hp} {v:V} (s:a0A H H') (h:a6w K H v):a6w K H' v:=
 ⟨h.1.imp id fun h=>h.same s,fun H2 s2=>h.2.1 H2 (s.trans s2),let ⟨b,hb⟩:=h.2.2;⟨b,fun H2 s2=>hb H2 (s.trans s2)⟩⟩
theorem a7V {K:PySem.W.Frag}:PySem.W.kitOne K (.type "str") (.type "bool")=some false:=by kernel_rfl
theorem a8d {K:PySem.W.Frag}:PySem.W.kitOne K (.type "int") (.type "bool")=some false:=by kernel_rfl
theorem a6P {K:PySem.W.Frag}:PySem.W.kitOne K (.type "NoneType") (.type "bool")=some false:=by kernel_rfl
theorem a6O {K:PySem.W.Frag}:PySem.W.kitOne K (.type "list") (.type "bool")=some false:=by kernel_rfl
theorem a6w.txt {K:PySem.W.Frag} {H:Hp} (z:Str) (h:z.length≤1000):a6w K H (.str z):=
 ⟨.inl ⟨z.cps.toList,by show V.str z=V.str (mk _);rw [a5S],by rw [Array.length_toList];exact h⟩,fun H' _ Q q=>a2m.mpr (by rw [decide_eq_true rfl];exact q),false,fun H' _ Q q=>⟨_,_,_,_,_,rfl,rfl,.str z,a7V,q⟩⟩
def c2b (K:PySem.W.Frag):Sp:=fun vs H Q _=>∃(c:Int),vs=[.int c]∧∀v H',a0A H H'→a6w K H' v→Q v H'
def a8A (K:PySem.W.Frag):Sp:=fun vs H Q _=>∃v,vs=[v]∧a6w K H v∧(∀l p,v=sv l→¬a1J l p)∧∀H',a0A H H'→Q (.bl true) H'
def b1R:Sp:=fun vs H Q _=>∃(l:List Nat) (dv:V) (p:PP),vs=[sv l,dv]∧l.length≤1000∧a1J l p∧At4 H dv p∧∀H',a0A H H'→Q (.bl true) H'
theorem b4L {k:Nat} (h:k < 4) (i:Nat) (hi:i < 4):decide (mk (a0G k)=a7Y i)=decide ((k:Int)=(0:Int)+(i:Int)):=by
 rw [b2c hi]
 refine decide_eq_decide.mpr ⟨fun z=>?_,fun z=>?_⟩
 ·have:=a9v (Nat.le_of_lt_succ h) (Nat.le_of_lt_succ hi) (a1t z)
  omega
 ·have:k=i:=by omega
  rw [this]
theorem b9s {K:PySem.W.Frag} {mg:Str→Option Value} {t:Adr} (T:Txt K mg t) {H:Hp} {r:Addr} {k:Nat} {lb hd:V} {bs:List V} (hk:k < 4) (hR:a0U H r (a2J t k) lb hd bs) (i:Nat) (hi:i < 4) {Q:VK} (q:Q (.bl (decide ((k:Int)=(0:Int)+(i:Int)))) H):b4y K [.ref r,.ref (a2J t i)] H Q:=by
 obtain ⟨dx,t0,hr1,_⟩:=hR
 match k,hk,i,hi with
 | 0,_,0,_=>exact .inl (a1e hr1 T.cl_Fact T.ty_Fact T.ki_Fact_Fact q)
 | 0,_,1,_=>exact .inl (a1e hr1 T.cl_Fact T.ty_Fact T.ki_Fact_Sure q)
 | 0,_,2,_=>exact .inl (a1e hr1 T.cl_Fact T.ty_Fact T.ki_Fact_Most q)
 | 0,_,3,_=>exact .inl (a1e hr1 T.cl_Fact T.ty_Fact T.ki_Fact_Block q)
 | 1,_,0,_=>exact .inl (a1e hr1 T.cl_Sure T.ty_Sure T.ki_Sure_Fact q)
 | 1,_,1,_=>exact .inl (a1e hr1 T.cl_Sure T.ty_Sure T.ki_Sure_Sure q)
 | 1,_,2,_=>exact .inl (a1e hr1 T.cl_Sure T.ty_Sure T.ki_Sure_Most q)
 | 1,_,3,_=>exact .inl (a1e hr1 T.cl_Sure T.ty_Sure T.ki_Sure_Block q)
 | 2,_,0,_=>exact .inl (a1e hr1 T.cl_Most T.ty_Most T.ki_Most_Fact q)
 | 2,_,1,_=>exact .inl (a1e hr1 T.cl_Most T.ty_Most T.ki_Most_Sure q)
 | 2,_,2,_=>exact .inl (a1e hr1 T.cl_Most T.ty_Most T.ki_Most_Most q)
 | 2,_,3,_=>exact .inl (a1e hr1 T.cl_Most T.ty_Most T.ki_Most_Block q)
 | 3,_,0,_=>exact .inl (a1e hr1 T.cl_Block T.ty_Block T.ki_Block_Fact q)
 | 3,_,1,_=>exact .inl (a1e hr1 T.cl_Block T.ty_Block T.ki_Block_Sure q)
 | 3,_,2,_=>exact .inl (a1e hr1 T.cl_Block T.ty_Block T.ki_Block_Most q)
 | 3,_,3,_=>exact .inl (a1e hr1 T.cl_Block T.ty_Block T.ki_Block_Block q)
end K13
namespace K13
open PySem L2 Tx
local macro_rules | `(‹$n:num›)=>`(@pv _ $n _ _ (by rfl) (by first | exact c7Z rfl | exact c8Z rfl | exact c9j rfl) (by decide) (by decide))
local macro_rules | `(tactic| trivial)=>`(tactic| first | exact Or.inl rfl | exact Or.inr rfl | assumption)

section
variable {P:Program} {w:World} {K:PySem.W.Frag} {mg:Str→Option Value} {base:Heap} {t:Adr}
theorem a3h (T:Txt K mg t):a1y P w K mg base CX0 1 t.f_z1k t.fd_z1k ["_law_cell","_law_k"] b6H:=by
 refine T.F_z1k.ok b1V (fun vs H Q E h=>?_) (fun cdv A outer s H vs Q E hr h=>?_)
 ·obtain ⟨c,k,rfl,q⟩:=h;rfl
 ·obtain ⟨c,k,rfl,q⟩:=h
  refine ⟨_,(@a0h _ _ _ _ _ (@a0D _ _ (2) _ _ _ _ b1V.nd rfl (by trivial) (@a0B _ _ _ _ _ _ _ _ a1A (@a0B _ _ _ _ _ _ _ _ a3Y (@a0B _ _ _ _ _ _ _ _ a0E (@a0B _ _ _ _ _ _ _ _ a0E (@a0B _ _ _ _ _ _ _ _ a1A ‹0› (@a0g _ _ _ _)) (@a0B _ _ _ _ _ _ _ _ a3Y (@a0g _ _ _ _) ‹1›)) (@a0g _ _ _ _)) (@a0g _ _ _ _)) (@a0g _ _ _ _)) (by rfl) (by trivial)) (@a0h _ _ _ _ _ (@a0D _ _ (2) _ _ _ _ b1V.nd rfl (by trivial) (@a0B _ _ _ _ _ _ _ _ a1A (@a0B _ _ _ _ _ _ _ _ a3Y ‹2› ‹2›) (@a0g _ _ _ _)) (by rfl) (by trivial)) (@a0f _ _ _ (@a0p _ _ _ _ (@a0B _ _ _ _ _ _ _ _ a1A (@a0B _ _ _ _ _ _ _ _ a3Y ‹2› ‹2›) (@a0g _ _ _ _)))))),?_⟩
  rw [show a0N b8p [V.int c,V.int k]=[some (V.int c),some (V.int k),none] from rfl]
  try simp only [a2D,a2u,tOp,a0L,List.getElem?_cons_zero,tC,List.getElem?_cons_succ,a0T,List.set_cons_succ,List.set_cons_zero,a1q,a0j,a2H,b4h,a1r]
  have h1:=a2g (i:=(c % 2147483647+7919 * k+17) * 48271) (j:=2147483647) (by decide)
  generalize (c % 2147483647+7919 * k+17) * 48271 % 2147483647=n at h1 ⊢
  have h2:=a2g (i:=n * n) (j:=2147483629) (by decide)
  generalize n * n % 2147483629=m at h2 ⊢
  exact ⟨by decide,.inl (by decide),.inr (by decide),by decide,.inl (by omega),by decide,.inl (by omega),by decide,q _ (Int.emod_nonneg _ (by decide))⟩
theorem b7x (T:Txt K mg t):a1y P w K mg base CX0 1 t.f_z1m t.fd_z1m ["_law_cell"] (c2b K):=by
 refine T.F_z1m.ok b0t (fun vs H Q E h=>?_) (fun cdv A outer s H vs Q E hr h=>?_)
 ·obtain ⟨c,rfl,q⟩:=h;rfl
 ·obtain ⟨c,rfl,q⟩:=h
  refine ⟨_,(@a0h _ _ _ _ _ (@a0D _ _ (1) _ _ _ _ b0t.nd rfl (by trivial) (@a1z _ _ _ _ (@a0b _ _ _ _ _ (@a0n _ _ _ _) (@a0b _ _ _ _ _ (@a0n _ _ _ _) (@a0b _ _ _ _ _ (@a0n _ _ _ _) (@a0b _ _ _ _ _ (@a0n _ _ _ _) (@a0b _ _ _ _ _ (@a0n _ _ _ _) (@a0b _ _ _ _ _ (@a0n _ _ _ _) (@a0b _ _ _ _ _ (@a0n _ _ _ _) (@a0b _ _ _ _ _ (@a0n _ _ _ _) (@a0e _) (by rfl)) (by rfl)) (by rfl)) (by rfl)) (by rfl)) (by rfl)) (by rfl)) (by rfl))) (by rfl) (by trivial)) (@a0h _ _ _ _ _ (@a0D _ _ (1) _ _ _ _ b0t.nd rfl (by trivial) (@a0B _ _ _ _ _ _ _ _ a0E ‹1› (@a1z _ _ _ _ (@a0b _ _ _ _ _ (@a0n _ _ _ _) (@a0b _ _ _ _ _ (@a0n _ _ _ _) (@a0b _ _ _ _ _ (@a0n _ _ _ _) (@a0b _ _ _ _ _ (@a0n _ _ _ _) (@a0b _ _ _ _ _ (@a1p _ _ _) (@a0b _ _ _ _ _ (@a0g _ _ _ _) (@a0b _ _ _ _ _ (@a5f _ _ _ _) (@a0b _ _ _ _ _ (@a1z _ _ _ _ (@a0b _ _ _ _ _ (@a0n _ _ _ _) (@a0e _) (by rfl))) (@a0e _) (by rfl)) (by rfl)) (by rfl)) (by rfl)) (by rfl)) (by rfl)) (by rfl)) (by rfl)))) (by rfl) (by trivial)) (@a0f _ _ _ (@a0p _ _ _ _ (@a1i _ _ _ _ _ _ _ a0J ‹1› (@a0B _ _ _ _ _ _ _ _ a1A ‹0› (@a0g _ _ _ _)) (fun _ _=>rfl)))))),?_⟩
  rw [show a0N b6j [V.int c]=[some (V.int c),none] from rfl]
  try simp only [a2D,a2u,a6Y,a0x,tC,a0W,a0T,tOp,a0L,List.set_cons_succ,List.set_cons_zero,List.getElem?_cons_succ,List.getElem?_cons_zero,a1q,a0j,a2H]
  refine ⟨a0k (show 8≤100000 by decide),fun p hp=>?_⟩
  obtain ⟨H1,e1,s1,h1⟩:=a2t hp (.lst [V.str "",V.str "fact",V.str "fact ",V.str "sure a: -> ",V.str "most : -> a",V.str "block a:-> b",V.str "sure a:  -> b",V.str "most a: b->c"]);rw [e1]
  refine ⟨a0k (show 1≤100000 by decide),fun p2 hp2=>?_⟩
  obtain ⟨H2,e2,s2,h2⟩:=a2t hp2 (.lst [V.str "fact a"]);rw [e2]
  refine ⟨a0k (show 8≤100000 by decide),fun p3 hp3=>?_⟩
  obtain ⟨H3,e3,s3,h3⟩:=a2t hp3 (.lst [V.str "sure a: b, -> c",V.str "Fact a",V.str "rule a: -> b",V.str "most a: -> b ",V.non,V.int 7,V.bl true,V.ref p2]);rw [e3]
  refine .inr (.inr (.inl ⟨p,p3,_,_,rfl,rfl,s3 _ _ (s2 _ _ h1),h3,a0k (show 16≤100000 by decide),fun p4 hp4=>?_⟩))
  have h23:=s3 _ _ h2
  have hall:∀v∈[V.str "",V.str "fact",V.str "fact ",V.str "sure a: -> ",V.str "most : -> a",V.str "block a:-> b",V.str "sure a:  -> b",V.str "most a: b->c"]++[V.str "sure a: b, -> c",V.str "Fact a",V.str "rule a: -> b",V.str "most a: -> b ",V.non,V.int 7,V.bl true,V.ref p2],a6w K H3 v:=by
   intro v hv
   simp only [List.cons_append,List.nil_append,List.mem_cons,List.not_mem_nil,or_false] at hv
   rcases hv with rfl | rfl | rfl | rfl | rfl | rfl | rfl | rfl | rfl | rfl | rfl | rfl | rfl | rfl | rfl | rfl
   ·exact .txt _ (by decide+kernel)
   ·exact .txt _ (by decide+kernel)
   ·exact .txt _ (by decide+kernel)
   ·exact .txt _ (by decide+kernel)
   ·exact .txt _ (by decide+kernel)
   ·exact .txt _ (by decide+kernel)
   ·exact .txt _ (by decide+kernel)
   ·exact .txt _ (by decide+kernel)
   ·exact .txt _ (by decide+kernel)
   ·exact .txt _ (by decide+kernel)
   ·exact .txt _ (by decide+kernel)
   ·exact .txt _ (by decide+kernel)
   ·exact ⟨.inr ⟨_,.non,a7p⟩,fun H' _ Q q=>a2T .non .non (by decide+kernel) q,false,fun H' _ Q q=>⟨_,_,_,_,_,rfl,rfl,.non,a6P,q⟩⟩
   ·exact ⟨.inr ⟨_,.int _,a8k⟩,fun H' _ Q q=>a2T (.int 7) (.int 7) (by decide+kernel) q,false,fun H' _ Q q=>⟨_,_,_,_,_,rfl,rfl,.int _,a8d,q⟩⟩
   ·exact ⟨.inr ⟨_,.bl _,a8f⟩,fun H' _ Q q=>a2T (.bl true) (.bl true) (by decide+kernel) q,true,fun H' _ Q q=>a7T.mpr q⟩
   ·exact ⟨.inr ⟨_,.lst h23,a8b⟩,fun H' s Q q=>a2T (d:=.list [.str "fact a"]) (.lst (SqL.of (s _ _ h23)) (.cons (.str _) .nil)) (.lst (SqL.of (s _ _ h23)) (.cons (.str _) .nil)) (by decide+kernel) q,false,fun H' s Q q=>⟨_,_,_,_,_,rfl,rfl,.lst (s _ _ h23),a6O,q⟩⟩
  have hlen:([V.str "",V.str "fact",V.str "fact ",V.str "sure a: -> ",V.str "most : -> a",V.str "block a:-> b",V.str "sure a:  -> b",V.str "most a: b->c"]++[V.str "sure a: b, -> c",V.str "Fact a",V.str "rule a: -> b",V.str "most a: -> b ",V.non,V.int 7,V.bl true,V.ref p2]).length=16:=rfl
  generalize [V.str "",V.str "fact",V.str "fact ",V.str "sure a: -> ",V.str "most : -> a",V.str "block a:-> b",V.str "sure a:  -> b",V.str "most a: b->c"]++[V.str "sure a: b, -> c",V.str "Fact a",V.str "rule a: -> b",V.str "most a: -> b ",V.non,V.int 7,V.bl true,V.ref p2]=ws at hall hlen ⊢
  obtain ⟨H4,e4,s4,h4⟩:=a2t hp4 (.lst ws);rw [e4]
  have hm6:=a2g (i:=c) (j:=16) (by decide)
  obtain ⟨v,ev,hv,_⟩:=a5P (xs:=ws) (i:=c % 16) hm6.1 (by rw [hlen];exact hm6.2)
  exact ⟨by decide,a1m (SqL.of h4) ev (q v H4 (((s1.trans s2).trans s3).trans s4) ((hall v hv).same s4))⟩
theorem b1i (T:Txt K mg t):a1y P w K mg base CX0 1 t.f_z16 t.fd_z16 ["_law_text_here"] c0y:=by
 refine T.F_z16.ok b4q (fun vs H Q E h=>?_) (fun cdv A outer s H vs Q E hr h=>?_)
 ·obtain ⟨l,rfl,hl,q⟩:=h;rfl
 ·obtain ⟨l,rfl,hl,q⟩:=h
  refine ⟨_,(@a0h _ _ _ _ _ (@a0D _ _ (1) _ _ _ _ b4q.nd rfl (by trivial) (@a2k _ _ _ _ _ _ _ _ _ _ _ _ PySem.F.plainAttrs_str PySem.F.slot_str_find PySem.F.type_str_find a9m ‹0› (@a0b _ _ _ _ _ (@a0n _ _ _ _) (@a0e _) (by rfl)) (by rfl) (by rfl) (by rfl) (by rfl) (by rfl)) (by rfl) (by trivial)) (@a0h _ _ _ _ _ (@a0V _ _ _ _ _ _ _ _ (@a0s _ _ _ _ _ _ _ _ a5H ‹1› (@a0g _ _ _ _) (a0C _)) (@a0f _ _ _ (@a0p _ _ _ _ (@a1z _ _ _ _ (@a0e _)))) (@a0u _)) (@a0f _ _ _ (@a0p _ _ _ _ (@a2k _ _ _ _ _ _ _ _ _ _ _ _ PySem.F.plainAttrs_str PySem.F.slot_str_split PySem.F.type_str_split a4d (@a0M _ _ _ _ _ _ _ _ _ _ a1v ‹0› (@a0P _ _ _ (@a0B _ _ _ _ _ _ _ _ a0E ‹1› (@a0g _ _ _ _))) (@a0P _ _ _ (@a4P _ _ _ _ _ _ a2x (@a0g _ _ _ _)))) (@a0b _ _ _ _ _ (@a0n _ _ _ _) (@a0e _) (by rfl)) (by rfl) (by rfl) (by rfl) (by rfl) (by rfl)))))),?_⟩
  rw [show a0N b7B [sv l]=[some (sv l),none] from rfl]
  try simp only [a2D,a2u,tBM,a0L,List.getElem?_cons_zero,a0x,tC,a0W,a0T,a2e,a1c,tOp,List.set_cons_succ,List.set_cons_zero,List.getElem?_cons_succ,a1q,a6Y,a0Y,tSl,a3g,tUn,a2F,a3x,a0j,a1E,a2V,a1G,a9o,a1r,a4w,a1b,decide_eq_true_eq]
  rw [show ("(":Str)=mk [40] by decide+kernel]
  by_cases h40:40∈l
  ·obtain ⟨a,b,rfl,ha⟩:=a5a h40
   rw [b0Y ha]
   refine a1L (fun c=>absurd c (by omega)) (fun _=>?_)
   rw [a9H,show (",":Str)=mk [44] by decide+kernel,a3c (by decide),List.map_map]
   refine ⟨a0k (by rw [a0i];omega),rfl,?_,fun D hD=>?_⟩
   ·rw [a0i,List.length_dropLast]
    have:b.length≤1000:=by simp at hl;omega
    exact Nat.le_trans (show _≤2000 by omega) (by decide)
   ·exact q D _ (a0A.upd hD) hD (by rw [a0v,a7k ha];rfl)
  ·rw [b1E h40]
   refine a1L (fun _=>?_) (fun c=>absurd (by decide) c)
   exact ⟨by decide,fun D hD=>q D _ (a0A.upd hD) hD (by rw [a0v,b3O h40];rfl)⟩
theorem b3C (T:Txt K mg t):a1y P w K mg base CX0 2 t.f_z0x t.fd_z0x ["_law_texts"] b8d:=by
 refine T.F_z0x.ok a9w (fun vs H Q E h=>?_) (fun cdv A outer s H vs Q E hr h=>?_)
 ·obtain ⟨a,ss,rfl,ha,hss,hl,q⟩:=h;rfl
 ·obtain ⟨a,ss,rfl,ha,hss,hl,q⟩:=h
  refine ⟨_,(@a0h _ _ _ _ _ (@a0D _ _ (1) _ _ _ _ a9w.nd rfl (by trivial) (@a1z _ _ _ _ (@a0e _)) (by rfl) (by trivial)) (@a0h _ _ _ _ _ (@a5o _ _ _ _ _ _ _ _ PassesOwn.never rfl (@a2U _ _ _ _ ‹0›) (@a1w _ _ (2) _ a9w.nd rfl (by trivial) (by trivial)) (@a0f _ _ _ (@a5o _ _ _ _ _ _ _ _ PassesOwn.never rfl (@a2U _ _ _ _ (@a0m _ _ _ _ _ _ _ _ _ _ _ _ _ _ _ _ (b1i T) (hr.mono (by decide)) rfl T.g_z16 T.F_z16.kp T.b_z16 .nil a0z (@a0b _ _ _ _ _ ‹2› (@a0e _) (by rfl)) (by decide) (by rfl) (by rfl))) (@a1w _ _ (3) _ a9w.nd rfl (by trivial) (by trivial)) (@a0f _ _ _ (@a0V _ _ _ _ _ _ _ _ (@PW.pt _ _ _ (@a5O _ _ _ _ _ _ _ (@a0s _ _ _ _ _ _ _ _ a5H ‹3› (@a0n _ _ _ _) (a0C _)) (@a4T _ _ _ _ (@a0s _ _ _ _ _ _ _ _ a4l ‹3› ‹1› (by with_unfolding_all rfl))))) (@a0f _ _ _ (@a4Q _ _ _ _ (@a2k _ _ _ _ _ _ _ _ _ _ _ _ PySem.F.plainAttrs_list PySem.F.slot_list_append PySem.F.type_list_append a2N ‹1› (@a0b _ _ _ _ _ ‹3› (@a0e _) (by rfl)) (by rfl) (by rfl) (by rfl) (by rfl) (by rfl)) (by rfl))) (@a0u _))) (by intro _;rfl))) (by intro _;rfl)) (@a0f _ _ _ (@a0p _ _ _ _ ‹1›)))),?_⟩
  rw [show a0N b6I [V.ref a]=[some (V.ref a),none,none,none] from rfl]
  try simp only [a2D,a2u,a6Y,a0W,a0T,List.set_cons_succ,List.set_cons_zero,a3o,a5F,a0L,List.getElem?_cons_zero,a0j,a8B]
  refine ⟨by decide,fun D hD=>?_⟩
  obtain ⟨H1,e1,s1,h1⟩:=a2t hD (.lst []);rw [e1]
  refine ⟨⟨_,SqL.of (s1 _ _ ha)⟩,?_⟩
  have hxl:(tv ss).length=ss.length:=by simp
  refine a6Q (K:=K) (a:=a) (xs:=tv ss) (fun i σ H'=>∃(x y:Option V),σ=[some (V.ref a),some (V.ref D),x,y]∧a0A H H'∧H' D=some (.lst (pv' (a5D (ss.take i)))))
   ⟨_,_,rfl,s1,h1⟩ (fun i σ H' _ ⟨_,_,_,s,_⟩=>SqL.of (s _ _ ha)) ?_ ?_
  ·rintro i v σ H2 hi ⟨x,y,rfl,s2,hD2⟩
   have hil:i < ss.length:=by rw [←hxl];exact (List.getElem?_eq_some_iff.mp hi).1
   have hT:=hss _ (List.getElem_mem hil)
   have ev:v=sv (stat ss[i]):=by
    rw [List.getElem?_map,List.getElem?_eq_getElem hil] at hi
    exact (Option.some.inj hi).symm
   subst ev
   have etake:a5D (ss.take (i+1))=ss[i].2.2.foldl a1T (a5D (ss.take i)):=by
    rw [List.take_succ_eq_append_getElem hil,a6W,a7Q _ _ _ rfl]
   have hal:=b1X _ (ss.take i) rfl fun s hs=>hss _ (List.mem_of_mem_take hs)
   have hal1:(a5D (ss.take i)).length≤1000:=by
    have:(ss.take i).length≤ss.length:=List.length_take_le' _ _
    omega
   rw [etake]
   generalize a5D (ss.take i)=acc at hD2 hal hal1
   generalize ss[i]=s at hT ⊢
   have hsl:=a3V hT
   try simp only [a0T,List.set_cons_succ,List.set_cons_zero,a3o,a5F,a0R,a0x,a0L,List.getElem?_cons_succ,List.getElem?_cons_zero,a0W,List.append_nil,a0j]
   refine ⟨stat s,rfl,by omega,fun L H3' s3' hLn hL=>?_⟩
   rw [b2H hT] at hL
   have hD3':=s3' _ _ hD2
   have s2':=s2.trans s3'
   have hLD:L≠D:=fun z=>by rw [z,hD2] at hLn;cases hLn
   refine ⟨L,rfl,⟨_,SqL.of hL⟩,?_⟩
   have hmany:=hT.many
   refine a6Q (K:=K) (a:=L) (xs:=pv' s.2.2) (fun j σ H'=>∃(y:Option V),σ=[some (V.ref a),some (V.ref D),some (sv (stat s)),y]∧a0A H H'∧H' L=some (.lst (pv' s.2.2))∧H' D=some (.lst (pv' ((s.2.2.take j).foldl a1T acc)))∧((s.2.2.take j).foldl a1T acc).length≤acc.length+j)
    ⟨_,rfl,s2',hL,hD3',Nat.le_refl _⟩ (fun j σ H' _ ⟨_,_,_,h,_⟩=>SqL.of h) ?_ ?_
   ·rintro j v σ H3 hj ⟨y,rfl,s3,hL3,hD3,hln⟩
    have hjl:j < s.2.2.length:=by simpa using (List.getElem?_eq_some_iff.mp hj).1
    have ev:v=sv s.2.2[j]:=by
     rw [List.getElem?_map,List.getElem?_eq_getElem hjl] at hj
     exact (Option.some.inj hj).symm
    subst ev
    have hp:=hT.places s.2.2[j] (List.getElem_mem hjl)
    have et:(s.2.2.take (j+1)).foldl a1T acc=a1T ((s.2.2.take j).foldl a1T acc) s.2.2[j]:=by
     rw [List.take_succ_eq_append_getElem hjl,List.foldl_append];rfl
    rw [et]
    generalize (s.2.2.take j).foldl a1T acc=bcc at hD3 hln
    try simp only [a0T,a2e,b4s,a1c,tOp,a0L,List.set_cons_succ,List.set_cons_zero,List.getElem?_cons_succ,List.getElem?_cons_zero,tC,a7U,tBM,a0x,a0W,a0j,a0Y,a1U,b2u,a1b,decide_eq_true_eq]
    rw [show ("a":Str)=mk [97] by decide+kernel]
    have hcl:=b3b hp
    rw [a8o]
    refine a1L (fun c2=>?_) (fun c2=>?_)
    ·refine .inr ⟨D,_,rfl,.inl (SqL.of hD3),rfl,a8x _,?_⟩
     try rw [if_pos rfl]
     rw [a6X]
     try simp only [a1b,Bool.not_eq_true',decide_eq_false_iff_not]
     refine a1L (fun c1=>?_) (fun c1=>?_)
     ·have c1':s.2.2[j]∉bcc:=by simpa using c1
      rw [if_pos ⟨hcl.symm.trans (decide_eq_true c2),c1'⟩]
      refine ⟨.inl ⟨rfl,_,SqL.of hD3⟩,D,_,_,rfl,rfl,hD3,Nat.lt_of_le_of_lt (show _≤1100 by rw [List.length_map];omega) (by decide),_,rfl,?_,?_,?_,?_⟩
      ·intro b o e
       rw [a0w (a0y e hD)];exact s3 b o e
      ·rw [a0w hLD];exact hL3
      ·rw [a0v];simp
      ·rw [List.length_append];simp;omega
     ·have c1':¬s.2.2[j]∉bcc:=by simpa using c1
      rw [if_neg (fun z=>c1' z.2)]
      exact ⟨_,rfl,s3,hL3,hD3,by omega⟩
    ·rw [if_neg (fun z=>c2 (of_decide_eq_true (hcl.trans z.1)))]
     exact ⟨_,rfl,s3,hL3,hD3,by omega⟩
   ·rintro σ H3 ⟨y,rfl,s3,hL3,hD3,_⟩
    rw [show (pv' s.2.2).length=s.2.2.length by simp,List.take_length] at hD3
    exact ⟨_,_,rfl,s3,hD3⟩
  ·rintro σ H2 ⟨x,y,rfl,s2,hD2⟩
   try simp only [a1q,a0L,List.getElem?_cons_succ,List.getElem?_cons_zero,a0j]
   rw [hxl,List.take_length] at hD2
   exact q D H2 s2 hD hD2
theorem a8X (T:Txt K mg t):a1y P w K mg base CX0 1 t.f_z0w t.fd_z0w ["_law_text_here","_law_signs"] b2r:=by
 refine T.F_z0w.ok b7N (fun vs H Q E h=>?_) (fun cdv A outer s H vs Q E hr h=>?_)
 ·obtain ⟨l,sg,rfl,hl,q⟩:=h;rfl
 ·obtain ⟨l,sg,rfl,hl,q⟩:=h
  refine ⟨_,(@a0O _ _ _ _ _ (@a0V _ _ _ _ _ _ _ _ (@PW.pt _ _ _ (@a2I _ _ _ _ _ _ _ (@a0s _ _ _ _ _ _ _ _ a5H (@a0r _ _ _ _ _ _ _ _ _ a0H rfl T.z_len a0I (@a0b _ _ _ _ _ ‹0› (@a0e _) (by rfl)) (by decide) (by decide) (by rfl) (by rfl)) (@a0g _ _ _ _) (a0C _)) (@a2G _ _ _ _ (@a0s _ _ _ _ _ _ _ _ a5d (@a0r _ _ _ _ _ _ _ _ _ a0H rfl T.z_len a0I (@a0b _ _ _ _ _ ‹0› (@a0e _) (by rfl)) (by decide) (by decide) (by rfl) (by rfl)) (@a0g _ _ _ _) (a0C _))))) (@a0f _ _ _ (@a0p _ _ _ _ (@a5f _ _ _ _))) (@a0u _)) (@a0f _ _ _ (@a0p _ _ _ _ (@a2X _ _ _ _ _ _ _ _ (a1C hr.units) (@a0r _ _ _ _ _ _ _ _ _ a0H rfl T.z_len a0I (@a0b _ _ _ _ _ (@a3w _ _ _ _ _ _ _ _ _ _ _ _ _ (@a1M _ (a0a a3t) (b5A) (["_law_sign","_law_signs"]) ([none,some 1]) _ rfl rfl (by decide+kernel)) rfl (@b3H _ _ _ _ ‹0›) (fun _ _ _ _ _=>(@a1w _ _ (0) _ (show List.Nodup (["_law_sign","_law_signs"]:List Str) by decide+kernel) rfl (by trivial) (by trivial))) (fun _ _ _ _ _=>@a8y _ _ _ (@a0s _ _ _ _ _ _ _ _ (b3u (K:=K) rfl) ‹0› ‹1› (by with_unfolding_all rfl))) (fun _ _ _ _ _=>‹0›) (by intro _;rfl)) (@a0e _) (by rfl)) (by decide) (by decide) (by rfl) (by rfl)) (@a0r _ _ _ _ _ _ _ _ _ a0H rfl T.z_len a0I (@a0b _ _ _ _ _ ‹0› (@a0e _) (by rfl)) (by decide) (by decide) (by rfl) (by rfl)) (a0C _))))),?_⟩
  rw [show a0N b5A [sv l,sv sg]=[some (sv l),some (sv sg)] from rfl]
  try simp only []
  refine ⟨fun σ' H'=>σ'=[some (sv l),some (sv sg)]∧H=H'∧1≤l.length∧l.length≤8,?_,?_⟩
  ·try simp only [a2e,tOr,a1c,tOp,tCB,a0x,a0L,List.getElem?_cons_zero,a0W,tC,a1q,a0Y,if_true,a0j,a1V,a1F,a1b,decide_eq_true_eq,a4w]
   refine ⟨a0k (by rw [a0i];omega),a1L (fun c=>?_) (fun c=>⟨a0k (by rw [a0i];omega),a1L (fun c2=>?_) (fun c2=>?_)⟩)⟩
   ·rw [a0i] at c
    have:=q H (a0A.refl _)
    rw [show wB sg l=false by unfold wB;rw [decide_eq_false (show ¬1≤l.length by omega)];rfl] at this
    exact this
   ·rw [a0i] at c2
    have:=q H (a0A.refl _)
    rw [show wB sg l=false by unfold wB;rw [decide_eq_false (show ¬l.length≤8 by omega),Bool.and_false];rfl] at this
    exact this
   ·rw [a0i] at c c2
    exact ⟨(by trivial),(by trivial),by omega,by omega⟩
  rintro σ' H' ⟨rfl,rfl,h1,h2⟩
  try simp only [a1q,tOp,tCB,a0x,a0W,a0L,List.getElem?_cons_zero,a0j,a1V,a1Z,c2c,b5X]
  have hs:(mk l).cps.size=l.length:=by simp
  have hsg:∀i,i < l.length→b1l (mk l) i=V.str (mk [(l[i]?).getD 0]):=fun i hi=>by show V.str (mk [(l.toArray[i]?).getD 0])=_;rw [List.getElem?_toArray]
  refine b1e (b6e (n:=(mk l).cps.size) (f:=b1l (mk l))) (a0k (by rw [hs];omega)) [some (sv sg)] rfl (fun i=>decide (((l[i]?).getD default)∈sg)) (fun i=>V.str (mk [(l[i]?).getD 0])) (fun _ _=>trivial) (fun i H' R hi s hR=>?_) (fun i H' R hi s hR=>?_) (fun D H1 hD s1 g1=>?_)
  ·rw [hs] at hi
   rw [hsg i hi]
   try simp only [a1c,tOp,a0L,List.getElem?_cons_zero,List.getElem?_cons_succ,a0j,a6v,a1b]
   rw [a6R]
   exact hR _ (a0A.refl _)
  ·rw [hs] at hi
   rw [hsg i hi]
   try simp only [a0L,List.getElem?_cons_zero,a0j]
   exact hR _ (a0A.refl _)
  rw [hs] at g1
  refine a1o (SqL.of g1) ?_
  try simp only [a2p]
  refine ⟨a0k (by rw [a0i];omega),?_⟩
  rw [List.length_map,a6b (fun x=>decide (x∈sg)) l,a0i]
  have:=q H1 s1
  rw [show wB sg l=decide (((l.filter fun x=>decide (x∈sg)).length:Int)=(l.length:Int)) by
   unfold wB
   rw [decide_eq_true h1,decide_eq_true h2,Bool.true_and,Bool.true_and]
   rw [Bool.eq_iff_iff,decide_eq_true_eq,←a9b]
   omega] at this
  exact this
theorem b8f (T:Txt K mg t):a1y P w K mg base CX0 2 t.f_z0m t.fd_z0m ["_law_text_here"] b0O:=by
 refine T.F_z0m.ok b3U (fun vs H Q E h=>?_) (fun cdv A outer s H vs Q E hr h=>?_)
 ·obtain ⟨l,rfl,hl,q⟩:=h;rfl
 ·obtain ⟨l,rfl,hl,q⟩:=h
  refine ⟨_,(@a0h _ _ _ _ _ (@a0D _ _ (1) _ _ _ _ b3U.nd rfl (by trivial) (@a0n _ _ _ _) (by rfl) (by trivial)) (@a0O _ _ _ _ _ (@a0V _ _ _ _ _ _ _ _ (@PW.pt _ _ _ (@a5O _ _ _ _ _ _ _ (@a0s _ _ _ _ _ _ _ _ (a1C hr.units) (@a0r _ _ _ _ _ _ _ _ _ a0H rfl T.z_len a0I (@a0b _ _ _ _ _ ‹0› (@a0e _) (by rfl)) (by decide) (by decide) (by rfl) (by rfl)) (@a0g _ _ _ _) (a0C _)) (@a4T _ _ _ _ (@a0s _ _ _ _ _ _ _ _ b4a ‹0› (@a0n _ _ _ _) (by with_unfolding_all rfl))))) (@a0f _ _ _ (@a0p _ _ _ _ (@a5f _ _ _ _))) (@a0u _)) (@a0f _ _ _ (@a0p _ _ _ _ (@a0m _ _ _ _ _ _ _ _ _ _ _ _ _ _ _ _ (a8X T) (hr.mono (by decide)) rfl T.g_z0w T.F_z0w.kp T.b_z0w .nil a0z (@a0b _ _ _ _ _ ‹0› (@a0b _ _ _ _ _ ‹1› (@a0e _) (by rfl)) (by rfl)) (by decide) (by rfl) (by rfl)))))),?_⟩
  rw [show a0N b5U [sv l]=[some (sv l),none] from rfl]
  try simp only [a2D,a2u,tC,a0T,List.set_cons_succ,List.set_cons_zero]
  refine ⟨fun σ' H'=>σ'=[some (sv l),some (V.str "abcdefghijklmnopqrstuvwxyz")]∧H=H'∧b4c l=false,?_,?_⟩
  ·try simp only [a2e,b4s,a1c,tOp,tCB,a0x,a0L,List.getElem?_cons_zero,a0W,tC,a1q,a0Y,a0j,a6v,a1b,a1U,a1V,a2p,decide_eq_true_eq]
   refine ⟨a0k (by rw [a0i];omega),a1L (fun c=>?_) (fun c=>?_)⟩
   ·rw [a0i] at c
    match l,c,q with
    | [x],_,q=>
     rw [b1Y,a6R]
     refine a1L (fun c2=>?_) (fun c2=>?_)
     ·have:=q H (a0A.refl _)
      rw [show okP [x]=true by unfold okP b4c;simp at c2;simp [c2]] at this
      exact this
     ·exact ⟨(by trivial),(by trivial),by unfold b4c;simpa using c2⟩
   ·rw [a0i] at c
    exact ⟨(by trivial),(by trivial),by unfold b4c;rw [decide_eq_false (by omega)];rfl⟩
  rintro σ' H' ⟨rfl,rfl,h1⟩
  try simp only [a1q,a0R,a0x,a0L,List.getElem?_cons_zero,List.getElem?_cons_succ,a0W,List.append_nil,a0j]
  rw [a8S]
  refine ⟨l,b0o,rfl,hl,fun H1 s1=>?_⟩
  have:=q H1 s1
  rw [show okP l=wB b0o l by unfold okP;rw [h1,Bool.or_false];rfl] at this
  exact this
theorem b1f (T:Txt K mg t):a1y P w K mg base CX0 3 t.f_z02 t.fd_z02 ["_law_text_here"] b3I:=by
 refine T.F_z02.ok a9s (fun vs H Q E h=>?_) (fun cdv A outer s H vs Q E hr h=>?_)
 ·obtain ⟨l,rfl,hl,q⟩:=h;rfl
 ·obtain ⟨l,rfl,hl,q⟩:=h
  refine ⟨_,(@a0h _ _ _ _ _ (@a0D _ _ (1) _ _ _ _ a9s.nd rfl (by trivial) (@a0n _ _ _ _) (by rfl) (by trivial)) (@a0O _ _ _ _ _ (@a0V _ _ _ _ _ _ _ _ (@a0s _ _ _ _ _ _ _ _ (a1C hr.units) (@a0M _ _ _ _ _ _ _ _ _ _ a1v ‹0› (@a1k _) (@a0P _ _ _ (@a0g _ _ _ _))) (@a0n _ _ _ _) (a0C _)) (@a0f _ _ _ (@a0D _ _ (0) _ _ _ _ a9s.nd rfl (by trivial) (@a0M _ _ _ _ _ _ _ _ _ _ a1v ‹0› (@a0P _ _ _ (@a0g _ _ _ _)) (@a1k _)) (by rfl) (by trivial))) (@a0u _)) (@a0h _ _ _ _ _ (@a0D _ _ (2) _ _ _ _ a9s.nd rfl (by trivial) (@a2k _ _ _ _ _ _ _ _ _ _ _ _ PySem.F.plainAttrs_str PySem.F.slot_str_find PySem.F.type_str_find a9m ‹0› (@a0b _ _ _ _ _ (@a0n _ _ _ _) (@a0e _) (by rfl)) (by rfl) (by rfl) (by rfl) (by rfl) (by rfl)) (by rfl) (by trivial)) (@a0h _ _ _ _ _ (@a0V _ _ _ _ _ _ _ _ (@a0s _ _ _ _ _ _ _ _ a5H ‹2› (@a0g _ _ _ _) (a0C _)) (@a0f _ _ _ (@a0p _ _ _ _ (@a0m _ _ _ _ _ _ _ _ _ _ _ _ _ _ _ _ (a8X T) (hr.mono (by decide)) rfl T.g_z0w T.F_z0w.kp T.b_z0w .nil a0z (@a0b _ _ _ _ _ ‹0› (@a0b _ _ _ _ _ ‹1› (@a0e _) (by rfl)) (by rfl)) (by decide) (by rfl) (by rfl)))) (@a0u _)) (@a0O _ _ _ _ _ (@a0V _ _ _ _ _ _ _ _ (@PW.pt _ _ _ (@a2I _ _ _ _ _ _ _ (@a1X _ _ _ _ (@a1j _ _ _ (@a0m _ _ _ _ _ _ _ _ _ _ _ _ _ _ _ _ (a8X T) (hr.mono (by decide)) rfl T.g_z0w T.F_z0w.kp T.b_z0w .nil a0z (@a0b _ _ _ _ _ (@a0M _ _ _ _ _ _ _ _ _ _ a1v ‹0› (@a1k _) (@a0P _ _ _ ‹2›)) (@a0b _ _ _ _ _ ‹1› (@a0e _) (by rfl)) (by rfl)) (by decide) (by rfl) (by rfl)) (by intro _;rfl))) (@a2I _ _ _ _ _ _ _ (@a0s _ _ _ _ _ _ _ _ (a4A hr.units) (@a0M _ _ _ _ _ _ _ _ _ _ a1v ‹0› (@a0P _ _ _ (@a4P _ _ _ _ _ _ a2x (@a0g _ _ _ _))) (@a1k _)) (@a0n _ _ _ _) (a0C _)) (@a2G _ _ _ _ (@a0s _ _ _ _ _ _ _ _ a5d (@a0r _ _ _ _ _ _ _ _ _ a0H rfl T.z_len a0I (@a0b _ _ _ _ _ (@a0m _ _ _ _ _ _ _ _ _ _ _ _ _ _ _ _ (b1i T) (hr.mono (by decide)) rfl T.g_z16 T.F_z16.kp T.b_z16 .nil a0z (@a0b _ _ _ _ _ ‹0› (@a0e _) (by rfl)) (by decide) (by rfl) (by rfl)) (@a0e _) (by rfl)) (by decide) (by decide) (by rfl) (by rfl)) (@a0g _ _ _ _) (a0C _)))))) (@a0f _ _ _ (@a0p _ _ _ _ (@a5f _ _ _ _))) (@a0u _)) (@a0f _ _ _ (@a0p _ _ _ _ (@a2X _ _ _ _ _ _ _ _ (a1C hr.units) (@a0r _ _ _ _ _ _ _ _ _ a0H rfl T.z_len a0I (@a0b _ _ _ _ _ (@a3w _ _ _ _ _ _ _ _ _ _ _ _ _ (@a1M _ (a0a a3A) (b5v) (["_law_place_here"]) ([none]) _ rfl rfl (by decide+kernel)) rfl (@a2U _ _ _ _ (@a0m _ _ _ _ _ _ _ _ _ _ _ _ _ _ _ _ (b1i T) (hr.mono (by decide)) rfl T.g_z16 T.F_z16.kp T.b_z16 .nil a0z (@a0b _ _ _ _ _ ‹0› (@a0e _) (by rfl)) (by decide) (by rfl) (by rfl))) (fun _ _ _ _ _=>(@a1w _ _ (0) _ (show List.Nodup (["_law_place_here"]:List Str) by decide+kernel) rfl (by trivial) (by trivial))) (fun _ _ _ _ _=>@a8y _ _ _ (@a1X _ _ _ _ (@a1j _ _ _ (@a0m _ _ _ _ _ _ _ _ _ _ _ _ _ _ _ _ (b8f T) (hr.mono (by decide)) rfl T.g_z0m T.F_z0m.kp T.b_z0m .nil a0z (@a0b _ _ _ _ _ ‹0› (@a0e _) (by rfl)) (by decide) (by rfl) (by rfl)) (by intro _;rfl)))) (fun _ _ _ _ _=>‹0›) (by intro _;rfl)) (@a0e _) (by rfl)) (by decide) (by decide) (by rfl) (by rfl)) (@a0g _ _ _ _) (a0C _))))))))),?_⟩
  rw [show a0N b5v [sv l]=[some (sv l),none,none] from rfl]
  have hrs:=b3G l
  have hrd:=b1L l
  try simp only [a2D,a2u,tC,a0T,List.set_cons_succ,List.set_cons_zero]
  refine ⟨fun σ' H'=>σ'=[some (sv (rsL l)),some (V.str "abcdefghijklmnopqrstuvwxyz"),none]∧H=H',?_,?_⟩
  ·try simp only [a2e,a1c,tOp,tSl,a0L,List.getElem?_cons_zero,a1N,a3g,tC,a2u,a0T,List.set_cons_zero,a3x,a0j,a1E,a0Y,a2m,a1b,decide_eq_true_eq]
   rw [b1n]
   refine ⟨a0k (by rw [a0i];omega),a1L (fun c=>?_) (fun c=>?_)⟩
   ·have c':=(a8Q l).mp c
    have:=(List.getElem?_eq_some_iff.mp c').1
    rw [a4N l (by decide) (by omega)]
    refine ⟨a0k (by rw [a0i];omega),?_⟩
    exact ⟨by rw [show rsL l=l.drop 1 from if_pos c'];rfl,(by trivial)⟩
   ·have c':¬l[0]?=some 45:=fun z=>c ((a8Q l).mpr z)
    exact ⟨by rw [show rsL l=l from if_neg c'],(by trivial)⟩
  rintro σ' H' ⟨rfl,rfl⟩
  generalize rsL l=rs at hrs hrd ⊢
  try simp only [a2D,a2u,tBM,a0L,List.getElem?_cons_zero,a0x,tC,a0W,a0T,a2e,a1c,tOp,List.set_cons_succ,List.set_cons_zero,List.getElem?_cons_succ,a1q,a0R,List.append_nil,a0j,a0Y,a9o,a4w,a1b,decide_eq_true_eq,a1G]
  rw [show ("(":Str)=mk [40] by decide+kernel,a8S]
  by_cases h40:40∈rs
  ·obtain ⟨a,b,rfl,ha⟩:=a5a h40
   have hal:a.length≤1000∧b.length≤1000:=by simp at hrs;omega
   rw [a3l ha,a5k ha,b0e] at hrd
   rw [b0Y ha]
   refine a1L (fun c=>absurd c (by omega)) (fun _=>?_)
   refine ⟨fun σ' H'=>σ'=[some (sv (a++40::b)),some (sv b0o),some (V.int a.length)]∧a0A H H'∧b0g a=true∧b.getLast?=some 41∧(a0F 44 b.dropLast).length≤2,?_,?_⟩
   ·try simp only [a2e,tOr,a6l,tB,a0R,a0x,tSl,a0L,List.getElem?_cons_zero,a1N,a3g,List.getElem?_cons_succ,a0W,List.append_nil,Bool.not_eq_true',a1q,tC,a0Y,if_true,a1c,tOp,tUn,tCB,a0j,a2F,a3x,a1E,a2o,a1b,decide_eq_false_iff_not]
    rw [a8U _ (by omega) (by simp;omega),Int.toNat_natCast,List.take_left]
    refine ⟨a0k (by rw [a0i];omega),a,b0o,rfl,hal.1,fun H1 s1=>?_⟩
    try simp only [a1b]
    refine a1L (fun c=>?_) (fun c=>?_)
    ·have c':b0g a=false:=c
     have:=q H1 s1
     rw [hrd,c'] at this
     exact this
    have hwa:b0g a=true:=by
     have:¬b0g a=false:=c
     simpa using this
    rw [a3b,show (")":Str)=mk [41] by decide+kernel]
    refine ⟨a0k (by rw [a0i];omega),a1L (fun c1=>?_) (fun c1=>?_)⟩
    ·have hg:¬b.getLast?=some 41:=fun z=>c1 ((a4X _ _).mpr ((a9f a b).mpr z))
     have:=q H1 s1
     rw [hrd,hwa,decide_eq_false hg] at this
     exact this
    have hg:b.getLast?=some 41:=(a9f a b).mp ((a4X _ _).mp (Classical.not_not.mp c1))
    refine ⟨_,rfl,by omega,fun D H2 s2 hD h2=>?_⟩
    rw [a7k ha] at h2
    refine a1o (SqL.of h2) ?_
    try simp only [a1F,a1b,decide_eq_true_eq]
    refine a1L (fun c2=>?_) (fun c2=>?_)
    ·have:=q H2 (s1.trans s2)
     rw [hrd,hwa,decide_eq_true hg,decide_eq_false (by simp at c2;omega)] at this
     exact this
    ·exact ⟨(by trivial),s1.trans s2,hwa,hg,by simp at c2;omega⟩
   rintro σ' H1 ⟨rfl,s1,hwa,hg,h2l⟩
   rw [hwa,decide_eq_true hg,decide_eq_true h2l,Bool.true_and,Bool.true_and,Bool.true_and] at hrd
   try simp only [a1q,tOp,tCB,a0x,a0W,tC,a1Z,a5F,a0R,a0L,List.getElem?_cons_zero,List.append_nil,a0j]
   refine ⟨_,rfl,by omega,fun D H2 s2 hD h2=>?_⟩
   rw [a7k ha] at h2
   have hsl:=a2b 44 b.dropLast
   have hbd:b.dropLast.length≤1000:=by rw [List.length_dropLast];omega
   generalize a0F 44 b.dropLast=ps at h2l hrd h2 hsl
   refine ⟨D,rfl,⟨_,SqL.of h2⟩,?_⟩
   refine b1e (a3M (xs:=pv' ps)) (a0k (by simp;omega)) [] rfl (fun i=>!okP ((ps[i]?).getD default)) (fun i=>sv ((ps[i]?).getD default)) (fun H' s=>s.seq (SqL.of h2)) (fun i H' R hi s hR=>?_) (fun i H' R hi s hR=>?_) (fun D3 H3 hD3 s3 g3=>?_)
   ·have hi':i < ps.length:=by simpa using hi
    have e2:((pv' ps)[i]?).getD .non=sv ps[i]:=by rw [List.getElem?_map,List.getElem?_eq_getElem hi'];rfl
    have e3:(ps[i]?).getD default=ps[i]:=by rw [List.getElem?_eq_getElem hi'];rfl
    rw [e3] at hR
    rw [e2]
    try simp only [a6l,tB,a0R,a0x,a0L,List.getElem?_cons_zero,a0W,List.append_nil,a0j]
    exact ⟨_,rfl,Nat.le_trans (hsl.2 _ (List.getElem_mem hi')) hbd,fun H4 s4=>⟨_,rfl,hR _ s4⟩⟩
   ·have hi':i < ps.length:=by simpa using hi
    have e2:((pv' ps)[i]?).getD .non=sv ps[i]:=by rw [List.getElem?_map,List.getElem?_eq_getElem hi'];rfl
    have e3:(ps[i]?).getD default=ps[i]:=by rw [List.getElem?_eq_getElem hi'];rfl
    rw [e3] at hR
    rw [e2]
    try simp only [a0L,List.getElem?_cons_zero,a0j]
    exact hR _ (a0A.refl _)
   refine a1o (SqL.of g3) ?_
   try simp only [a2p]
   have hr:=a6b (fun p=>!okP p) ps
   rw [List.length_map,show (pv' ps).length=ps.length by simp,hr]
   have:=q H3 ((s1.trans s2).trans s3)
   rw [hrd,show ps.all okP=decide (((ps.filter fun p=>!okP p).length:Int)=0) by
    rw [Bool.eq_iff_iff,decide_eq_true_eq,List.all_eq_true]
    constructor
    ·intro h
     rw [List.filter_eq_nil_iff.mpr fun p hp=>by simp [h p hp]];rfl
    ·intro h p hp
     have h0:(ps.filter fun p=>!okP p)=[]:=List.length_eq_zero_iff.mp (by omega)
     have:=List.filter_eq_nil_iff.mp h0 p hp
     simpa using this] at this
   exact this
  ·rw [a5s h40,a5w h40] at hrd
   rw [b1E h40]
   refine a1L (fun _=>?_) (fun c=>absurd (by decide) c)
   refine ⟨rs,b0o,rfl,by omega,fun H1 s1=>?_⟩
   have:=q H1 s1
   rw [hrd,show (b0g rs && (some ([]:List (List Nat))).isSome)=b0g rs by simp] at this
   exact this
theorem b6c (T:Txt K mg t):a1y P w K mg base CX0 4 t.f_z17 t.fd_z17 ["_law_words"] b2m:=by
 refine T.F_z17.ok a7s (fun vs H Q E h=>?_) (fun cdv A outer s H vs Q E hr h=>?_)
 ·obtain ⟨a,ms,rfl,ha,hl,hml,qn,qs⟩:=h;rfl
 ·obtain ⟨a,ms,rfl,ha,hl,hml,qn,qs⟩:=h
  refine ⟨_,(@a0h _ _ _ _ _ (@a0D _ _ (1) _ _ _ _ a7s.nd rfl (by trivial) (@a1z _ _ _ _ (@a0e _)) (by rfl) (by trivial)) (@a0h _ _ _ _ _ (@a5o _ _ _ _ _ _ _ _ PassesOwn.never rfl (@b4T _ _ _ _ _ _ _ _ rfl T.z_enumerate (@a0b _ _ _ _ _ ‹0› (@a0e _) (by rfl)) (by rfl)) (@b8v _ _ _ _ _ _ rfl (@a9t _ _ _ _ _ (@a1w _ _ (2) _ a7s.nd rfl (by trivial) (by trivial)) (@a9t _ _ _ _ _ (@a1w _ _ (3) _ a7s.nd rfl (by trivial) (by trivial)) (@b4N _) (by rfl)) (by rfl)) (by rfl) (by rfl)) (@a0O _ _ _ _ _ (@a0V _ _ _ _ _ _ _ _ (@a0s _ _ _ _ _ _ _ _ a5H ‹2› (@a0B _ _ _ _ _ _ _ _ b4g (@a0r _ _ _ _ _ _ _ _ _ a0H rfl T.z_len a0I (@a0b _ _ _ _ _ ‹0› (@a0e _) (by rfl)) (by decide) (by decide) (by rfl) (by rfl)) (@a0g _ _ _ _)) (a0C _)) (@a0h _ _ _ _ _ (@a0V _ _ _ _ _ _ _ _ (@a0s _ _ _ _ _ _ _ _ (a4A hr.units) (@a0M _ _ _ _ _ _ _ _ _ _ a1v ‹3› (@a0P _ _ _ (@a4P _ _ _ _ _ _ a2x (@a0g _ _ _ _))) (@a1k _)) (@a0n _ _ _ _) (a0C _)) (@a0f _ _ _ (@a0p _ _ _ _ (@a1p _ _ _))) (@a0u _)) (@a0f _ _ _ (@a0D _ _ (3) _ _ _ _ a7s.nd rfl (by trivial) (@a0M _ _ _ _ _ _ _ _ _ _ a1v ‹3› (@a1k _) (@a0P _ _ _ (@a4P _ _ _ _ _ _ a2x (@a0g _ _ _ _)))) (by rfl) (by trivial)))) (@a0u _)) (@a0h _ _ _ _ _ (@a0V _ _ _ _ _ _ _ _ (@a1X _ _ _ _ (@a1j _ _ _ (@a0m _ _ _ _ _ _ _ _ _ _ _ _ _ _ _ _ (b1f T) (hr.mono (by decide)) rfl T.g_z02 T.F_z02.kp T.b_z02 .nil a0z (@a0b _ _ _ _ _ ‹3› (@a0e _) (by rfl)) (by decide) (by rfl) (by rfl)) (by intro _;rfl))) (@a0f _ _ _ (@a0p _ _ _ _ (@a1p _ _ _))) (@a0u _)) (@a0f _ _ _ (@a4Q _ _ _ _ (@a2k _ _ _ _ _ _ _ _ _ _ _ _ PySem.F.plainAttrs_list PySem.F.slot_list_append PySem.F.type_list_append a2N ‹1› (@a0b _ _ _ _ _ ‹3› (@a0e _) (by rfl)) (by rfl) (by rfl) (by rfl) (by rfl) (by rfl)) (by rfl))))) (by intro _;rfl)) (@a0f _ _ _ (@a0p _ _ _ _ ‹1›)))),?_⟩
  rw [show a0N b7L [V.ref a]=[some (V.ref a),none,none,none] from rfl]
  try simp only [a2D,a2u,a6Y,a0W,a0T,List.set_cons_succ,List.set_cons_zero,a3o,b6q,a0x,a0L,List.getElem?_cons_zero,a0j]
  refine ⟨by decide,fun D hD=>?_⟩
  obtain ⟨H1,e1,s1,h1⟩:=a2t hD (.lst []);rw [e1]
  refine ⟨a,rfl,⟨_,SqL.of (s1 _ _ ha)⟩,?_⟩
  have hxl:(pv' ms).length=ms.length:=by simp
  have no:∀(i:Nat) (m:List Nat),ms[i]?=some m→(∀s,IsT s→m≠if i+1 < ms.length then stat s++[44] else stat s)→∀ss:List TP3,(∀s∈ss,IsT s)→ms≠a4q (ss.map stat):=by
   intro i m hm hno ss hT e
   have hln:ms.length=ss.length:=by rw [e,a4W];simp
   rw [e,a4O,List.getElem?_map] at hm
   cases hs:ss[i]? with
   | none=>rw [hs] at hm;cases hm
   | some s=>
    rw [hs] at hm
    refine hno s (hT s (List.mem_of_getElem? hs)) ?_
    have:=(Option.some.inj hm).symm
    rw [List.length_map,←hln] at this
    exact this
  refine b2w (K:=K) (a:=a) (xs:=pv' ms) (fun i σ H'=>∃(x y:Option V) (ss:List TP3),σ=[some (V.ref a),some (V.ref D),x,y]∧a0A H H'∧H' D=some (.lst (tv ss))∧ss.length=i∧(∀s∈ss,IsT s)∧∀j s,ss[j]?=some s→ms[j]?=some (if j+1 < ms.length then stat s++[44] else stat s))
   ⟨_,_,[],rfl,s1,h1,rfl,fun s hs=>(by cases hs),fun j s e=>by simp at e⟩ (fun i σ H' _ ⟨_,_,_,_,s,_⟩=>SqL.of (s _ _ ha)) ?_ ?_
  ·rintro i v σ H2 p hi ⟨x,y,ss,rfl,s2,hD2,hsl,hT,hms⟩ hp
   have hil:i < ms.length:=by rw [←hxl];exact (List.getElem?_eq_some_iff.mp hi).1
   have ev:v=sv ms[i]:=by
    rw [List.getElem?_map,List.getElem?_eq_getElem hil] at hi
    exact (Option.some.inj hi).symm
   subst ev
   have hmi:ms[i]?=some ms[i]:=List.getElem?_eq_getElem hil
   have hmil:=hml _ (List.getElem_mem hil)
   obtain ⟨H3,e3,s3,h3⟩:=a2t hp (.tup [V.int i,sv ms[i]]);rw [e3]
   have s23:=s2.trans s3
   refine ⟨p,_,rfl,SqT.of h3,rfl,_,_,rfl,_,_,rfl,rfl,?_⟩
   generalize ms[i]=m at hmi hmil
   refine ⟨fun σ' H'=>∃w',σ'=[some (V.ref a),some (V.ref D),some (V.int i),some (sv w')]∧H3=H'∧w'.length≤1000∧m=if i+1 < ms.length then w'++[44] else w',?_,?_⟩
   ·try simp only [a2e,a1c,tOp,a0L,List.set_cons_succ,List.set_cons_zero,List.getElem?_cons_succ,List.getElem?_cons_zero,tCB,a0x,a0W,tC,a2D,tSl,a3g,tUn,a1N,a1q,a0Y,a2u,a0T,a2F,a3x,a0j,a1E,a2o,a1b,Bool.not_eq_true',decide_eq_false_iff_not]
    refine a1o (SqL.of (s23 _ _ ha)) ?_
    try simp only [a1F,a4w,a1b,decide_eq_true_eq]
    refine a1L (fun c=>?_) (fun c=>?_)
    ·have hlt:i+1 < ms.length:=by rw [hxl] at c;omega
     rw [a3b,a5V,show (",":Str)=mk [44] by decide+kernel]
     refine ⟨a0k (by rw [a0i];omega),a1L (fun c1=>?_) (fun c1=>?_)⟩
     ·refine qn (no i m hmi fun s _ e=>c1 ((a4X _ _).mpr ?_)) _ s23
      rw [e,if_pos hlt,List.getLast?_concat]
     ·refine ⟨a0k (by rw [a0i];omega),m.dropLast,(by trivial),(by trivial),by rw [List.length_dropLast];omega,?_⟩
      rw [if_pos hlt]
      have hg:=(a4X _ _).mp (Classical.not_not.mp c1)
      have hne:m≠[]:=fun z=>by rw [z] at hg;cases hg
      have:=List.dropLast_concat_getLast hne
      rw [List.getLast?_eq_some_getLast hne] at hg
      rw [←Option.some.inj hg];exact this.symm
    ·have hlt:¬i+1 < ms.length:=by rw [hxl] at c;omega
     exact ⟨m,(by trivial),(by trivial),hmil,by rw [if_neg hlt]⟩
   rintro σ' H' ⟨w',rfl,rfl,hwl,hmw⟩
   try simp only [a2D,a2e,a6l,tB,a0R,a0x,a0L,List.getElem?_cons_succ,List.getElem?_cons_zero,a0W,List.append_nil,Bool.not_eq_true',a1q,tC,a0Y,a7U,tBM,a0j]
   refine ⟨w',rfl,hwl,fun H4 s4=>?_⟩
   try simp only [a1b]
   refine a1L (fun c=>?_) (fun c=>?_)
   ·refine qn (no i m hmi fun s hs e=>?_) _ (s23.trans s4)
    have e2:w'=stat s:=by
     rw [hmw] at e
     split at e
     ·exact List.append_cancel_right e
     ·exact e
    have:(a1B w').isSome=true:=by rw [e2];exact a2M hs
    rw [this] at c;cases c
   ·obtain ⟨s,hs⟩:∃s,a1B w'=some s:=Option.isSome_iff_exists.mp (by revert c;cases (a1B w').isSome<;>simp)
    obtain ⟨sd,nm,ps⟩:=s
    have hws:w'=stat (sd,nm,ps):=a2y hs
    have hTs:IsT (sd,nm,ps):=a2v hs
    have hD4:=s4 _ _ (s3 _ _ hD2)
    refine ⟨.inl ⟨rfl,_,SqL.of hD4⟩,D,_,_,rfl,rfl,hD4,Nat.lt_of_le_of_lt (show _≤1000 by simp;omega) (by decide),_,_,ss++[(sd,nm,ps)],rfl,?_,?_,by simp [hsl],fun s hs=>?_,fun j s e=>?_⟩
    ·intro b o e
     rw [a0w (a0y e hD)];exact s4 _ _ (s23 b o e)
    ·rw [a0v,hws];simp
    ·rcases List.mem_append.mp hs with z | z
     ·exact hT s z
     ·rw [List.mem_singleton.mp z];exact hTs
    ·by_cases hj:j < ss.length
     ·rw [List.getElem?_append_left hj] at e
      exact hms j s e
     ·have hj2:=(List.getElem?_eq_some_iff.mp e).1
      have ej:j=ss.length:=by simp at hj2;omega
      subst ej
      rw [List.getElem?_append_right (Nat.le_refl _),Nat.sub_self] at e
      cases e
      rw [hsl,hmi,hmw,hws]
  ·rintro σ H2 ⟨x,y,ss,rfl,s2,hD2,hsl,hT,hms⟩
   rw [hxl] at hsl
   try simp only [a1q,a0L,List.getElem?_cons_succ,List.getElem?_cons_zero,a0j]
   refine qs D ss H2 hT ?_ s2 hD hD2
   refine List.ext_getElem? fun j=>?_
   rw [a4O,List.getElem?_map,List.length_map,hsl]
   cases e:ss[j]? with
   | none=>
    have:=List.getElem?_eq_none_iff.mp e
    rw [List.getElem?_eq_none (by omega)];rfl
   | some s=>rw [hms j s e];rfl
theorem b6h (T:Txt K mg t):a1y P w K mg base CX0 5 t.f_z1i t.fd_z1i ["_law_row_here"] (b2M K):=by
 refine T.F_z1i.ok a9y (fun vs H Q E h=>?_) (fun cdv A outer s H vs Q E hr h=>?_)
 ·obtain ⟨v,rfl,hv,q⟩:=h;rfl
 ·obtain ⟨v,rfl,hv,q⟩:=h
  refine ⟨_,(@a0h _ _ _ _ _ (@a0V _ _ _ _ _ _ _ _ (@a1X _ _ _ _ (@a1j _ _ _ (@a0r _ _ _ _ _ _ _ _ _ a0Z rfl T.z_isinstance a0q (@a0b _ _ _ _ _ ‹0› (@a0b _ _ _ _ _ (@a2f _ _ (.ty "str") _ _ rfl T.z_str a2S rfl (by decide) (by decide)) (@a0e _) (by rfl)) (by rfl)) (by decide) (by decide) (by rfl) (by rfl)) (by intro _;rfl))) (@a0f _ _ _ (@a0p _ _ _ _ (@a1p _ _ _))) (@a0u _)) (@a0h _ _ _ _ _ (@a0D _ _ (1) _ _ _ _ a9y.nd rfl (by trivial) (@a2k _ _ _ _ _ _ _ _ _ _ _ _ PySem.F.plainAttrs_str PySem.F.slot_str_split PySem.F.type_str_split a4d ‹0› (@a0b _ _ _ _ _ (@a0n _ _ _ _) (@a0e _) (by rfl)) (by rfl) (by rfl) (by rfl) (by rfl) (by rfl)) (by rfl) (by trivial)) (@a0O _ _ _ _ _ (@a0V _ _ _ _ _ _ _ _ (@PW.pt _ _ _ (@a5O _ _ _ _ _ _ _ (@a0s _ _ _ _ _ _ _ _ (a1C hr.units) (@a1i _ _ _ _ _ _ _ a0J ‹1› (@a0g _ _ _ _) (fun _ _=>rfl)) (@a0n _ _ _ _) (a0C _)) (@a4T _ _ _ _ (@a0s _ _ _ _ _ _ _ _ (a1C hr.units) (@a0r _ _ _ _ _ _ _ _ _ a0H rfl T.z_len a0I (@a0b _ _ _ _ _ ‹1› (@a0e _) (by rfl)) (by decide) (by decide) (by rfl) (by rfl)) (@a0g _ _ _ _) (a0C _))))) (@a0O _ _ _ _ _ (@a0V _ _ _ _ _ _ _ _ (@PW.pt _ _ _ (@a5O _ _ _ _ _ _ _ (@a1j _ _ _ (@a0m _ _ _ _ _ _ _ _ _ _ _ _ _ _ _ _ (b1f T) (hr.mono (by decide)) rfl T.g_z02 T.F_z02.kp T.b_z02 .nil a0z (@a0b _ _ _ _ _ (@a1i _ _ _ _ _ _ _ a0J ‹1› (@a0g _ _ _ _) (fun _ _=>rfl)) (@a0e _) (by rfl)) (by decide) (by rfl) (by rfl)) (by intro _;rfl)) (@a4T _ _ _ _ (@a0s _ _ _ _ _ _ _ _ (b3K hr.units) (@a0m _ _ _ _ _ _ _ _ _ _ _ _ _ _ _ _ (b3C T) (hr.mono (by decide)) rfl T.g_z0x T.F_z0x.kp T.b_z0x .nil a0z (@a0b _ _ _ _ _ (@a0M _ _ _ _ _ _ _ _ _ _ a1v ‹1› (@a0P _ _ _ (@a0g _ _ _ _)) (@a1k _)) (@a0e _) (by rfl)) (by decide) (by rfl) (by rfl)) (@a1z _ _ _ _ (@a0e _)) (a0C _))))) (@a0f _ _ _ (@a0p _ _ _ _ (@a5c _ _ _ _ _ (@a0b _ _ _ _ _ (@a0n _ _ _ _) (@a0b _ _ _ _ _ (@a0n _ _ _ _) (@a0b _ _ _ _ _ (@a1i _ _ _ _ _ _ _ a0J ‹1› (@a0g _ _ _ _) (fun _ _=>rfl)) (@a0b _ _ _ _ _ (@a1z _ _ _ _ (@a0e _)) (@a0e _) (by rfl)) (by rfl)) (by rfl)) (by rfl))))) (@a0u _)) (@a0f _ _ _ (@a0p _ _ _ _ (@a1p _ _ _)))) (@a0u _)) (@a0O _ _ _ _ _ (@a0V _ _ _ _ _ _ _ _ (@PW.pt _ _ _ (@a2I _ _ _ _ _ _ _ (@a0s _ _ _ _ _ _ _ _ a4l (@a1i _ _ _ _ _ _ _ a0J ‹1› (@a0g _ _ _ _) (fun _ _=>rfl)) (@a5c _ _ _ _ _ (@a0b _ _ _ _ _ (@a0n _ _ _ _) (@a0b _ _ _ _ _ (@a0n _ _ _ _) (@a0b _ _ _ _ _ (@a0n _ _ _ _) (@a0e _) (by rfl)) (by rfl)) (by rfl))) (by with_unfolding_all rfl)) (@a2I _ _ _ _ _ _ _ (@a0s _ _ _ _ _ _ _ _ a5H (@a0r _ _ _ _ _ _ _ _ _ a0H rfl T.z_len a0I (@a0b _ _ _ _ _ ‹1› (@a0e _) (by rfl)) (by decide) (by decide) (by rfl) (by rfl)) (@a0g _ _ _ _) (a0C _)) (@a2G _ _ _ _ (@a0s _ _ _ _ _ _ _ _ (a4A hr.units) (@a1i _ _ _ _ _ _ _ a0J ‹1› (@a4P _ _ _ _ _ _ a2x (@a0g _ _ _ _)) (fun _ _=>rfl)) (@a0n _ _ _ _) (a0C _)))))) (@a0f _ _ _ (@a0p _ _ _ _ (@a1p _ _ _))) (@a0u _)) (@a0h _ _ _ _ _ (@a0D _ _ (2) _ _ _ _ a9y.nd rfl (by trivial) (@a0M _ _ _ _ _ _ _ _ _ _ a1v (@a1i _ _ _ _ _ _ _ a0J ‹1› (@a0g _ _ _ _) (fun _ _=>rfl)) (@a1k _) (@a0P _ _ _ (@a4P _ _ _ _ _ _ a2x (@a0g _ _ _ _)))) (by rfl) (by trivial)) (@a0h _ _ _ _ _ (@a0D _ _ (3) _ _ _ _ a9y.nd rfl (by trivial) (@a0m _ _ _ _ _ _ _ _ _ _ _ _ _ _ _ _ (b6c T) (hr.mono (by decide)) rfl T.g_z17 T.F_z17.kp T.b_z17 .nil a0z (@a0b _ _ _ _ _ (@a0M _ _ _ _ _ _ _ _ _ _ a1v ‹1› (@a0P _ _ _ (@a0g _ _ _ _)) (@a0P _ _ _ (@a4P _ _ _ _ _ _ a2x (@a0g _ _ _ _)))) (@a0e _) (by rfl)) (by decide) (by rfl) (by rfl)) (by rfl) (by trivial)) (@a0O _ _ _ _ _ (@a0V _ _ _ _ _ _ _ _ (@PW.pt _ _ _ (@a2I _ _ _ _ _ _ _ (@a0s _ _ _ _ _ _ _ _ (a4A hr.units) (@a0M _ _ _ _ _ _ _ _ _ _ a1v (@a1i _ _ _ _ _ _ _ a0J ‹1› (@a0g _ _ _ _) (fun _ _=>rfl)) (@a0P _ _ _ (@a4P _ _ _ _ _ _ a2x (@a0g _ _ _ _))) (@a1k _)) (@a0n _ _ _ _) (a0C _)) (@a2G _ _ _ _ (@a1X _ _ _ _ (@a1j _ _ _ (@a0m _ _ _ _ _ _ _ _ _ _ _ _ _ _ _ _ (a8X T) (hr.mono (by decide)) rfl T.g_z0w T.F_z0w.kp T.b_z0w .nil a0z (@a0b _ _ _ _ _ ‹2› (@a0b _ _ _ _ _ (@a0n _ _ _ _) (@a0e _) (by rfl)) (by rfl)) (by decide) (by rfl) (by rfl)) (by intro _;rfl)))))) (@a0f _ _ _ (@a0p _ _ _ _ (@a1p _ _ _))) (@a0u _)) (@a0O _ _ _ _ _ (@a0V _ _ _ _ _ _ _ _ (@PW.pt _ _ _ (@a2I _ _ _ _ _ _ _ (@a0s _ _ _ _ _ _ _ _ a8a ‹3› (@a1p _ _ _) (a0C _)) (@a2I _ _ _ _ _ _ _ (@a0s _ _ _ _ _ _ _ _ a5d (@a0r _ _ _ _ _ _ _ _ _ a0H rfl T.z_len a0I (@a0b _ _ _ _ _ ‹3› (@a0e _) (by rfl)) (by decide) (by decide) (by rfl) (by rfl)) (@a0g _ _ _ _) (a0C _)) (@a2G _ _ _ _ (@a1X _ _ _ _ (@a1j _ _ _ (@a0m _ _ _ _ _ _ _ _ _ _ _ _ _ _ _ _ (b1f T) (hr.mono (by decide)) rfl T.g_z02 T.F_z02.kp T.b_z02 .nil a0z (@a0b _ _ _ _ _ (@a1i _ _ _ _ _ _ _ a0J ‹1› (@a4P _ _ _ _ _ _ a2x (@a0g _ _ _ _)) (fun _ _=>rfl)) (@a0e _) (by rfl)) (by decide) (by rfl) (by rfl)) (by intro _;rfl))))))) (@a0f _ _ _ (@a0p _ _ _ _ (@a1p _ _ _))) (@a0u _)) (@a0h _ _ _ _ _ (@a0V _ _ _ _ _ _ _ _ (@a0s _ _ _ _ _ _ _ _ a5d (@a0r _ _ _ _ _ _ _ _ _ a0H rfl T.z_len a0I (@a0b _ _ _ _ _ (@a0m _ _ _ _ _ _ _ _ _ _ _ _ _ _ _ _ (b3C T) (hr.mono (by decide)) rfl T.g_z0x T.F_z0x.kp T.b_z0x .nil a0z (@a0b _ _ _ _ _ (@a0B _ _ _ _ _ _ _ _ a0E (@a1z _ _ _ _ (@a0b _ _ _ _ _ (@a1i _ _ _ _ _ _ _ a0J ‹1› (@a4P _ _ _ _ _ _ a2x (@a0g _ _ _ _)) (fun _ _=>rfl)) (@a0e _) (by rfl))) ‹3›) (@a0e _) (by rfl)) (by decide) (by rfl) (by rfl)) (@a0e _) (by rfl)) (by decide) (by decide) (by rfl) (by rfl)) (@a0g _ _ _ _) (a0C _)) (@a0f _ _ _ (@a0p _ _ _ _ (@a1p _ _ _))) (@a0u _)) (@a0f _ _ _ (@a0p _ _ _ _ (@a5c _ _ _ _ _ (@a0b _ _ _ _ _ (@a1i _ _ _ _ _ _ _ a0J ‹1› (@a0g _ _ _ _) (fun _ _=>rfl)) (@a0b _ _ _ _ _ ‹2› (@a0b _ _ _ _ _ (@a1i _ _ _ _ _ _ _ a0J ‹1› (@a4P _ _ _ _ _ _ a2x (@a0g _ _ _ _)) (fun _ _=>rfl)) (@a0b _ _ _ _ _ ‹3› (@a0e _) (by rfl)) (by rfl)) (by rfl)) (by rfl)))))))))))))),?_⟩
  rw [show a0N b8H [v]=[some (v),none,none,none] from rfl]
  rcases hv with ⟨l,rfl,hl⟩ | hN
  rotate_left
  ·try simp only [a2D,a2e,a6l,tB,tCB,a0x,a0L,List.getElem?_cons_zero,tC,a0W,Bool.not_eq_true',a1q,a0Y,a2u,tBM,a0T,List.set_cons_succ,List.set_cons_zero,a0j]
   refine a6M hN ?_
   try simp only [a1b,if_true]
   exact q _ _ (a0A.refl _) (.inl ⟨rfl,fun l p e _=>a7y (l:=l) (by rw [←e];exact hN)⟩)
  try simp only [a2D,a2e,a6l,tB,tCB,a0x,a0L,List.getElem?_cons_zero,tC,a0W,Bool.not_eq_true',a1q,a0Y,a2u,tBM,a0T,List.set_cons_succ,List.set_cons_zero,a0j,a2V,a1G,a1S,a1b,a4b]
  rw [show (" ":Str)=mk [32] by decide+kernel,a3c (by decide),List.map_map]
  refine ⟨rfl,?_,fun p hp=>?_⟩
  ·rw [a0i];exact Nat.le_trans (show _≤2000 by omega) (by decide)
  have qn:(∀p,¬a1J l p)→∀H',a0A H H'→Q .non H':=fun h H' s=>q _ _ s (.inl ⟨rfl,fun l' p e hG=>by
   have el:l=l':=a1t (V.str.inj e)
   subst el;exact h p hG⟩)
  have qy:∀p dv H',a1J l p→At4 H' dv p→a0A H H'→Q dv H':=fun p dv H' hG h4 s=>q _ _ s (.inr ⟨l,p,rfl,hG,h4⟩)
  have hws:∀p,a1J l p→a0F 32 l=a4Z p:=fun p h=>h.words
  have hne:=a4L 32 l
  have hsl:=a2b 32 l
  have hjn:=a4R 32 l
  rw [show List.map (V.str∘mk) (a0F 32 l)=pv' (a0F 32 l) from rfl]
  generalize a0F 32 l=ws at hws hne hsl hjn ⊢
  have hwl:∀w'∈ws,w'.length≤1000:=fun w' hw=>Nat.le_trans (hsl.2 w' hw) hl
  obtain ⟨H1,e1,s1,h1⟩:=a2t hp (.lst (pv' ws));rw [e1]
  refine ⟨fun σ' H'=>σ'=[some (sv l),some (V.ref p),none,none]∧H1=H'∧¬(ws.head?=some (a0G 0)∧ws.length=2),?_,?_⟩
  ·try simp only [a2e,b4s,a1c,tOp,a0L,List.getElem?_cons_succ,List.getElem?_cons_zero,tC,tCB,a0x,a0W,a0Y,a0j,a1U]
   match ws,hne,h1,hws,hjn,hwl with
   | w0::r,_,h1,hws,hjn,hwl=>
    refine a1m (SqL.of h1) (v:=sv w0) (a2A (j:=0) rfl) ?_
    try simp only [a2m,a1b,decide_eq_true_eq]
    rw [show ("fact":Str)=mk (a0G 0) by decide+kernel]
    refine a1L (fun c=>?_) (fun c=>⟨(by trivial),(by trivial),fun z=>c (by rw [Option.some.inj z.1])⟩)
    have c':w0=a0G 0:=a1t c
    subst c'
    refine a1o (SqL.of h1) ?_
    try simp only [a2p,a1b,decide_eq_true_eq]
    refine a1L (fun c=>?_) (fun c=>⟨(by trivial),(by trivial),fun z=>c (by rw [List.length_map];exact congrArg Nat.cast z.2)⟩)
    match r,h1,hws,hjn,hwl,c with
    | [w1],h1,hws,hjn,hwl,_=>
     have hk0:∀p,a1J l p→p.1=0∧w1=stat p.2.2.1:=fun p hG=>by
      have e:=hws p hG
      unfold a4Z at e
      split at e
      ·rename_i z;exact ⟨z,by simpa using e⟩
      ·have:=congrArg List.length e
       simp at this
     refine ⟨fun σ' H'=>σ'=[some (sv l),some (V.ref p),none,none]∧a0A H1 H'∧∀p,¬a1J l p,?_,?_⟩
     ·try simp only [a2e,b4s,tB,a0R,a0x,tOp,a0L,List.getElem?_cons_succ,List.getElem?_cons_zero,tC,a0W,List.append_nil,a1c,tSl,a3g,a1N,a6Y,a1q,b2n,a0j,a0Y,a3x,a1U]
      refine a1m (SqL.of h1) (v:=sv w1) (a2A (j:=1) rfl) ?_
      refine ⟨w1,rfl,hwl w1 (by simp),fun H2 s2=>?_⟩
      cases hr:a1B w1 with
      | none=>
       try simp only [a1b]
       refine ⟨(by trivial),s2,fun p hG=>?_⟩
       have:=a2M hG.1.1
       rw [←(hk0 p hG).2,hr] at this
       cases this
      | some s=>
       obtain ⟨sd,nm,ps⟩:=s
       have e1:w1=stat (sd,nm,ps):=a2y hr
       have hT:IsT (sd,nm,ps):=a2v hr
       subst e1
       try simp only [a1b]
       refine .inr (.inl ⟨p,_,rfl,SqL.of (s2 _ _ h1),fun p3 hp3=>?_⟩)
       rw [show a8h (pv' [a0G 0,stat (sd,nm,ps)]) (some 1) none=tv [(sd,nm,ps)] from rfl]
       obtain ⟨H3,e3,s3,h3⟩:=a2t hp3 (.lst (tv [(sd,nm,ps)]));rw [e3]
       refine ⟨p3,[(sd,nm,ps)],rfl,h3,fun s hs=>(by rw [List.mem_singleton.mp hs];exact hT),by simp,fun D H4 s4 hD h4=>?_⟩
       refine ⟨by decide,fun D2 hD2=>?_⟩
       obtain ⟨H5,e5,s5,h5⟩:=a2t hD2 (.lst []);rw [e5]
       refine ⟨D,D2,_,rfl,rfl,SqL.of (s5 _ _ h4),SqL.of h5,?_⟩
       have s25:a0A H1 H5:=((s2.trans s3).trans s4).trans s5
       try simp only [a1b,decide_eq_true_eq]
       refine a1L (fun c2=>?_) (fun c2=>?_)
       ·have hlet:a2C ps=[]:=List.map_eq_nil_iff.mp c2
        refine a1m (SqL.of (s25 _ _ h1)) (v:=sv (stat (sd,nm,ps))) (a2A (j:=1) rfl) ?_
        refine ⟨by decide,fun p6 hp6=>?_⟩
        obtain ⟨H6,e6,s6,h6⟩:=a2t hp6 (.lst []);rw [e6]
        refine ⟨a0k (show 4≤100000 by decide),fun p7 hp7=>?_⟩
        obtain ⟨H7,e7,s7,h7⟩:=a2t hp7 (.tup [sv (a0G 0),V.str "",sv (stat (sd,nm,ps)),V.ref p6]);rw [e7]
        refine qy (0,[],(sd,nm,ps),[]) _ H7 ⟨⟨hT,fun s hs=>(by cases hs),.inl ⟨rfl,rfl,rfl,hlet⟩⟩,?_⟩ ⟨p7,p6,rfl,?_,s7 _ _ h6⟩ (((s1.trans s25).trans s6).trans s7)
        ·rw [←hjn];simp [a1n,b5P,a9z,a0G]
        ·rw [h7,show ("":Str)=mk [] by decide+kernel]
       ·refine ⟨(by trivial),s25,fun p hG=>c2 ?_⟩
        obtain ⟨hp0,hw⟩:=hk0 p hG
        obtain ⟨⟨hT',_,hv⟩,_⟩:=hG
        rcases hv with ⟨_,_,_,z⟩ | ⟨z,_⟩
        ·rw [←a2B hT hT' hw] at z
         show pv' (a2C ps)=[]
         have z':a2C ps=[]:=z
         rw [z'];rfl
        ·rw [hp0] at z;exact absurd z.1 (by decide)
     rintro σ' H2 ⟨rfl,s2,hno⟩
     try simp only [a1q,tC]
     exact qn hno _ (s1.trans s2)
    | [],_,_,_,_,c=>exact absurd c (by simp)
    | _::_::_,_,_,_,_,c=>exact absurd c (by simp;omega)
  rintro σ' H' ⟨rfl,rfl,hnf⟩
  have shape:∀k lb s0 ss,a1J l (k,lb,s0,ss)→((1≤k∧k≤3)∧a9l lb=true∧ss.length≤4∧(a5D (s0::ss)).length≤3)∧IsT s0∧(∀s∈ss,IsT s)∧ws=a0G k::(lb++[58])::(a4q (ss.map stat)++[[45,62],stat s0]):=by
   intro k lb s0 ss hG
   have e:=hws _ hG
   obtain ⟨⟨hT,hTs,hv⟩,_⟩:=hG
   rcases hv with ⟨z,_⟩ | hv
   ·have z':k=0:=z
    subst z'
    exact absurd (by rw [e];exact ⟨rfl,rfl⟩) hnf
   ·have hk:k≠0:=Nat.ne_of_gt hv.1.1
    refine ⟨hv,hT,hTs,e.trans ?_⟩
    unfold a4Z
    rw [if_neg hk]
  refine ⟨fun σ' H'=>σ'=[some (sv l),some (V.ref p),none,none]∧a0A H1 H'∧∃w0 w1 ms h,a1Y w0≠0∧ws=w0::w1::(ms++[[45,62],h]),?_,?_⟩
  ·try simp only [a2e,tOr,a1c,tOp,a0L,List.getElem?_cons_succ,List.getElem?_cons_zero,tC,b2n,a0x,a0W,a1q,a0Y,if_true,tCB,tUn,a2F,a0j]
   match ws,hne,h1,shape with
   | w0::r,_,h1,shape=>
    refine a1m (SqL.of h1) (v:=sv w0) (a2A (j:=0) rfl) ?_
    refine ⟨a0k (show 3≤100000 by decide),fun p2 hp2=>?_⟩
    obtain ⟨H2,e2,s2,h2⟩:=a2t hp2 (.tup [V.str "sure",V.str "most",V.str "block"]);rw [e2]
    refine .inr ⟨p2,_,rfl,.inr (SqT.of h2),rfl,rfl,?_⟩
    rw [b2N]
    try simp only [if_true,a1b,Bool.not_eq_true',decide_eq_false_iff_not]
    refine a1L (fun c=>?_) (fun c=>?_)
    ·refine qn (fun ⟨k,lb,s0,ss⟩ hG=>?_) _ (s1.trans s2)
     obtain ⟨hv,_,_,e⟩:=shape k lb s0 ss hG
     have:w0=a0G k:=(List.cons.inj e).1
     rw [this,a5K hv.1.1 hv.1.2] at c
     have:=hv.1.1
     simp at c;omega
    have hk:a1Y w0≠0:=by simpa using c
    refine a1o (SqL.of (s2 _ _ h1)) ?_
    try simp only [a4w,a1b,decide_eq_true_eq]
    refine a1L (fun c1=>?_) (fun c1=>?_)
    ·refine qn (fun ⟨k,lb,s0,ss⟩ hG=>?_) _ (s1.trans s2)
     obtain ⟨_,_,_,e⟩:=shape k lb s0 ss hG
     rw [e] at c1
     simp at c1;omega
    have h4:4≤(w0::r).length:=by simp at c1 ⊢;omega
    obtain ⟨a0,w1,ms,x,y,e4⟩:=b8G h4
    rw [e4] at h1 shape ⊢
    have ha0:w0=a0:=(List.cons.inj e4).1
    rw [ha0] at hk
    have hat:atI (pv' (a0::w1::(ms++[x,y]))) (-2)=some (sv x):=by
     rw [show pv' (a0::w1::(ms++[x,y]))=(sv a0::sv w1::pv' ms)++[sv x,sv y] by simp]
     exact b5l _ _ _
    refine a1m (SqL.of (s2 _ _ h1)) hat ?_
    try simp only [a2o,a1b,Bool.not_eq_true',decide_eq_false_iff_not]
    rw [show ("->":Str)=mk [45,62] by decide+kernel]
    refine a1L (fun c2=>?_) (fun c2=>?_)
    ·refine qn (fun ⟨k,lb,s0,ss⟩ hG=>c2 ?_) _ (s1.trans s2)
     obtain ⟨_,_,_,e⟩:=shape k lb s0 ss hG
     have e5:=(List.cons.inj (List.cons.inj e).2).2
     have e6:=congrArg (fun z=>z.reverse[1]?) e5
     simp at e6
     rw [e6]
    ·exact ⟨(by trivial),s2,a0,w1,ms,y,hk,by rw [a1t (Classical.not_not.mp c2)]⟩
  rintro σ' H2 ⟨rfl,s2,w0,w1,ms,hd,hk,rfl⟩
  have h12:=s2 _ _ h1
  have hl1:=hwl w1 (by simp)
  have hlh:=hwl hd (by simp)
  try simp only [a2D,a2u,tSl,tOp,a0L,List.getElem?_cons_succ,List.getElem?_cons_zero,tC,a1N,a3g,tUn,a0T,a0R,a0x,List.set_cons_succ,List.set_cons_zero,a0W,List.append_nil,a2F,a3x,a0j]
  refine a1m (SqL.of h12) (v:=sv w1) (a2A (j:=1) rfl) ?_
  try simp only [a1E]
  rw [a5V]
  refine ⟨a0k (by rw [a0i];omega),?_⟩
  refine .inr (.inl ⟨p,_,rfl,SqL.of h12,fun p5 hp5=>?_⟩)
  rw [show a8h (pv' (w0::w1::(ms++[[45,62],hd]))) (some 2) (some (-2))=pv' ms by
   rw [show pv' (w0::w1::(ms++[[45,62],hd]))=sv w0::sv w1::(pv' ms++[sv [45,62],sv hd]) by simp]
   exact b5e _ _ _ _ _]
  obtain ⟨H5,e5,s5,h5⟩:=a2t hp5 (.lst (pv' ms));rw [e5]
  have s05:a0A H H5:=(s1.trans s2).trans s5
  have hat1:atI (pv' (w0::w1::(ms++[[45,62],hd]))) (-1)=some (sv hd):=by
   rw [show pv' (w0::w1::(ms++[[45,62],hd]))=(sv w0::sv w1::(pv' ms++[sv [45,62]]))++[sv hd] by simp]
   exact b5C _ _
  have shape2:∀k lb s0 ss,a1J l (k,lb,s0,ss)→w0=a0G k∧w1=lb++[58]∧ms=a4q (ss.map stat)∧hd=stat s0:=by
   intro k lb s0 ss hG
   obtain ⟨_,_,_,e⟩:=shape k lb s0 ss hG
   have e1:=(List.cons.inj e).1
   have e2:=(List.cons.inj (List.cons.inj e).2).1
   have e3:=(List.cons.inj (List.cons.inj e).2).2
   have hln:ms.length=(a4q (ss.map stat)).length:=by
    have:=congrArg List.length e3
    simpa using this
   obtain ⟨e4,e5⟩:=List.append_inj e3 hln
   exact ⟨e1,e2,e4,by simpa using e5⟩
  refine ⟨p5,ms,rfl,h5,by have:=hsl.1;simp at this;omega,fun m hm=>hwl m (by simp [hm]),fun hno H6 s6=>?_,fun D ss H6 hT ems s6 hDn h6=>?_⟩
  ·have hno':∀p,¬a1J l p:=fun ⟨k,lb,s0,ss⟩ hG=>by
    obtain ⟨_,hT,hTs,_⟩:=shape k lb s0 ss hG
    exact hno ss hTs (shape2 k lb s0 ss hG).2.2.1
   have s06:=s05.trans s6
   have h16:=s6 _ _ (s5 _ _ h12)
   refine ⟨fun σ' H'=>σ'=[some (sv l),some (V.ref p),some (sv w1.dropLast),some V.non]∧a0A H6 H',?_,?_⟩
   ·try simp only [a2e,tOr,a1c,tOp,tSl,a0L,List.getElem?_cons_succ,List.getElem?_cons_zero,tC,a3g,tUn,a1N,a1q,a0Y,if_true,a6l,tB,a0R,a0x,a0W,List.append_nil,Bool.not_eq_true',a0j,a2F,a3x]
    refine a1m (SqL.of h16) (v:=sv w1) (a2A (j:=1) rfl) ?_
    try simp only [a1E,a2o,a1b,Bool.not_eq_true',decide_eq_false_iff_not]
    rw [a3b,show (":":Str)=mk [58] by decide+kernel]
    refine ⟨a0k (by rw [a0i];omega),a1L (fun c=>qn hno' _ s06) (fun c=>?_)⟩
    rw [a8N]
    refine ⟨w1.dropLast,b2W,rfl,by rw [List.length_dropLast];omega,fun H7 s7=>?_⟩
    try simp only [a1b]
    exact a1L (fun _=>qn hno' _ (s06.trans s7)) (fun _=>⟨(by trivial),s7⟩)
   rintro σ' H7 ⟨rfl,s7⟩
   refine ⟨fun _ _=>False,?_,fun _ _ z=>z.elim⟩
   try simp only [a2e,tOr,a1c,tOp,a0L,List.getElem?_cons_succ,List.getElem?_cons_zero,tC,a1q,a0Y,if_true,tCB,a0x,a0W,a6l,tB,a0R,tUn,List.append_nil,Bool.not_eq_true',a2F,a0j,a3R,a1b]
   exact qn hno' _ (s06.trans s7)
  have s06:=s05.trans s6
  have h16:=s6 _ _ (s5 _ _ h12)
  refine ⟨fun σ' H'=>σ'=[some (sv l),some (V.ref p),some (sv w1.dropLast),some (V.ref D)]∧a0A H6 H'∧w1=w1.dropLast++[58]∧a9l w1.dropLast=true,?_,?_⟩
  ·try simp only [a2e,tOr,a1c,tOp,tSl,a0L,List.getElem?_cons_succ,List.getElem?_cons_zero,tC,a3g,tUn,a1N,a1q,a0Y,if_true,a6l,tB,a0R,a0x,a0W,List.append_nil,Bool.not_eq_true',a0j,a2F,a3x]
   refine a1m (SqL.of h16) (v:=sv w1) (a2A (j:=1) rfl) ?_
   try simp only [a1E,a2o,a1b,Bool.not_eq_true',decide_eq_false_iff_not]
   rw [a3b,show (":":Str)=mk [58] by decide+kernel]
   refine ⟨a0k (by rw [a0i];omega),a1L (fun c=>?_) (fun c=>?_)⟩
   ·refine qn (fun ⟨k,lb,s0,ss⟩ hG=>c ((a4X _ _).mpr ?_)) _ s06
    rw [(shape2 k lb s0 ss hG).2.1,List.getLast?_concat]
   have hw1:w1=w1.dropLast++[58]:=by
    have hg:=(a4X _ _).mp (Classical.not_not.mp c)
    have hne1:w1≠[]:=fun z=>by rw [z] at hg;cases hg
    have:=List.dropLast_concat_getLast hne1
    rw [List.getLast?_eq_some_getLast hne1] at hg
    rw [Option.some.inj hg] at this;exact this.symm
   rw [a8N]
   refine ⟨w1.dropLast,b2W,rfl,by rw [List.length_dropLast];omega,fun H7 s7=>?_⟩
   try simp only [a1b]
   refine a1L (fun c2=>?_) (fun c2=>?_)
   ·refine qn (fun ⟨k,lb,s0,ss⟩ hG=>?_) _ (s06.trans s7)
    have e:=(shape2 k lb s0 ss hG).2.1
    have hf:=(shape k lb s0 ss hG).1.2.1
    rw [e,List.dropLast_concat] at c2
    have c3:a9l lb=false:=c2
    rw [hf] at c3;cases c3
   ·exact ⟨(by trivial),s7,hw1,by have c3:¬a9l w1.dropLast=false:=c2;simpa using c3⟩
  rintro σ' H7 ⟨rfl,s7,hw1,hfig⟩
  have h17:=s7 _ _ h16
  have h67:=s7 _ _ h6
  refine ⟨fun σ' H'=>σ'=[some (sv l),some (V.ref p),some (sv w1.dropLast),some (V.ref D)]∧a0A H7 H'∧ss.length≤4∧(a1B hd).isSome=true,?_,?_⟩
  ·try simp only [a2e,tOr,a1c,tOp,a0L,List.getElem?_cons_succ,List.getElem?_cons_zero,tC,a1q,a0Y,if_true,tCB,a0x,a0W,a6l,tB,a0R,tUn,List.append_nil,Bool.not_eq_true',a2F,a0j,a3C,a1b,a1U]
   refine a1o (SqL.of h67) ?_
   try simp only [a1F,a1b,decide_eq_true_eq]
   refine a1L (fun c=>?_) (fun c=>?_)
   ·refine qn (fun ⟨k,lb,s0,ss'⟩ hG=>?_) _ (s06.trans s7)
    obtain ⟨hv,_,hTs',_⟩:=shape k lb s0 ss' hG
    have e:=(shape2 k lb s0 ss' hG).2.2.1
    have:ss=ss':=a1W hT hTs' (a8w (ems.symm.trans e))
    rw [←this] at hv
    have:=hv.2.2.1
    simp at c;omega
   have h4:ss.length≤4:=by simp at c;omega
   refine a1m (SqL.of h17) hat1 ?_
   refine ⟨hd,rfl,hlh,fun H8 s8=>?_⟩
   try simp only [a1b]
   refine a1L (fun c2=>?_) (fun c2=>?_)
   ·refine qn (fun ⟨k,lb,s0,ss'⟩ hG=>?_) _ ((s06.trans s7).trans s8)
    have:=a2M (shape k lb s0 ss' hG).2.1
    rw [←(shape2 k lb s0 ss' hG).2.2.2] at this
    rw [this] at c2;cases c2
   ·exact ⟨(by trivial),s8,h4,by revert c2;cases (a1B hd).isSome<;>simp⟩
  rintro σ' H8 ⟨rfl,s8,h4,hrs⟩
  obtain ⟨⟨sd,nm,ps⟩,hr⟩:=Option.isSome_iff_exists.mp hrs
  have ehd:hd=stat (sd,nm,ps):=a2y hr
  have hT0:IsT (sd,nm,ps):=a2v hr
  subst ehd
  have h18:=s8 _ _ h17
  have h68:=s8 _ _ h67
  have s08:=(s06.trans s7).trans s8
  try simp only [a2D,a2e,a1c,tOp,tCB,a0x,a0R,a6Y,a0L,List.getElem?_cons_succ,List.getElem?_cons_zero,tUn,tC,a0W,List.append_nil,a1q,a0Y,b2n,a0j,a2F]
  refine a1m (SqL.of h18) hat1 ?_
  refine ⟨a0k (show 1≤100000 by decide),fun p9 hp9=>?_⟩
  obtain ⟨H9,e9,s9,h9⟩:=a2t hp9 (.lst [sv (stat (sd,nm,ps))]);rw [e9]
  refine .inr (.inr (.inl ⟨p9,D,_,_,rfl,rfl,h9,s9 _ _ h68,a0k (by simp;omega),fun p10 hp10=>?_⟩))
  obtain ⟨H10,e10,s10,h10⟩:=a2t hp10 (.lst (tv ((sd,nm,ps)::ss)));rw [show [sv (stat (sd,nm,ps))]++tv ss=tv ((sd,nm,ps)::ss) from rfl,e10]
  refine ⟨p10,(sd,nm,ps)::ss,rfl,h10,fun s hs=>?_,by simp;omega,fun D11 H11 s11 _ h11=>?_⟩
  ·rcases List.mem_cons.mp hs with z | z
   ·rw [z];exact hT0
   ·exact hT s z
  refine a1o (SqL.of h11) ?_
  have s811:a0A H8 H11:=(s9.trans s10).trans s11
  try simp only [a1F,a1b,decide_eq_true_eq]
  refine a1L (fun c=>?_) (fun c=>?_)
  ·refine qn (fun ⟨k,lb,s0,ss'⟩ hG=>?_) _ (s08.trans s811)
   obtain ⟨hv,hT0',hTs',_⟩:=shape k lb s0 ss' hG
   obtain ⟨_,_,e3,e4⟩:=shape2 k lb s0 ss' hG
   have u1:ss=ss':=a1W hT hTs' (a8w (ems.symm.trans e3))
   have u2:(sd,nm,ps)=s0:=a2B hT0 hT0' e4
   rw [←u1,←u2] at hv
   have:=hv.2.2.2
   simp at c;omega
  have hlet:(a5D ((sd,nm,ps)::ss)).length≤3:=by simp at c;omega
  have h1e:=s811 _ _ h18
  refine a1m (SqL.of h1e) (v:=sv w0) (a2A (j:=0) rfl) ?_
  refine a1m (SqL.of h1e) hat1 ?_
  refine ⟨a0k (show 4≤100000 by decide),fun p12 hp12=>?_⟩
  obtain ⟨H12,e12,s12,h12'⟩:=a2t hp12 (.tup [sv w0,sv w1.dropLast,sv (stat (sd,nm,ps)),V.ref D]);rw [e12]
  refine qy (a1Y w0,w1.dropLast,(sd,nm,ps),ss) _ H12 ⟨⟨hT0,hT,.inr ⟨⟨Nat.one_le_iff_ne_zero.mpr hk,a6G w0⟩,hfig,h4,hlet⟩⟩,?_⟩ ⟨p12,D,rfl,?_,s12 _ _ (s811 _ _ h68)⟩ ((s08.trans s811).trans s12)
  ·rw [←hjn,ems]
   show _=a9z (a1Y w0) w1.dropLast (stat (sd,nm,ps)) (ss.map stat)
   rw [a7w hk,←hw1,←a9a hk]
  ·rw [h12',←a9a hk]
theorem b3V (T:Txt K mg t):a1y P w K mg base CX0 1 t.f_z12 t.fd_z12 ["self"] (b3y K):=by
 refine T.F_z12.ok b8c (fun vs H Q E h=>?_) (fun cdv A outer s H vs Q E hr h=>?_)
 ·obtain ⟨r,C,lb,h,bs,rfl,hR,hC,hh,q⟩:=h;rfl
 ·obtain ⟨r,C,lb,h,bs,rfl,hR,hC,hh,q⟩:=h
  refine ⟨_,(@a0f _ _ _ (@a0p _ _ _ _ (@a0B _ _ _ _ _ _ _ _ a0E (@a0n _ _ _ _) (@a2R _ _ _ _ _ ‹0› rfl)))),?_⟩
  rw [show a0N b7m [V.ref r]=[some (V.ref r)] from rfl]
  obtain ⟨dr,t0,hr1,hr2⟩:=hR
  try simp only [a1q,tOp,tC,b3W,a0L,List.getElem?_cons_zero,a0j]
  refine ⟨r,_,dr,_,_,rfl,hr1,hC.1,hC.2,a4c _ _ _,?_⟩
  try simp only [a1h]
  rw [show ("fact ":Str)=mk [102,97,99,116,32] by decide+kernel,a4j]
  exact ⟨by rw [a0i,a0i];exact Nat.le_trans (show _≤2000 by simp;omega) (by decide),q⟩
theorem b6T (T:Txt K mg t):a1y P w K mg base CX0 1 t.f_z0e t.fd_z0e ["self","found"] (c1S t.C_NoRow "found"):=by
 refine T.F_z0e.ok b7f (fun vs H Q E h=>?_) (fun cdv A outer s H vs Q E hr h=>?_)
 ·obtain ⟨x,v,rfl,hx,q⟩:=h;rfl
 ·obtain ⟨x,v,rfl,hx,q⟩:=h
  refine ⟨_,(@a0f _ _ _ (@b0F _ _ _ _ _ _ _ _ ‹0› ‹1› rfl)),?_⟩
  rw [show a0N b6Y [V.ref x,v]=[some (V.ref x),some (v)] from rfl]
  try simp only [b4C,a0L,List.getElem?_cons_succ,List.getElem?_cons_zero,a0j]
  exact ⟨x,_,rfl,hx,T.x_NoRow.c,T.x_NoRow.no,fun d hd=>q d hd⟩
theorem b8w (T:Txt K mg t):a1y P w K mg base CX0 1 t.f_z0l t.fd_z0l ["self"] (a2s "block"):=by
 refine T.F_z0l.ok b6x (fun vs H Q E h=>?_) (fun cdv A outer s H vs Q E hr h=>?_)
 ·obtain ⟨x,rfl,q⟩:=h;rfl
 ·obtain ⟨x,rfl,q⟩:=h
  refine ⟨_,(@a0f _ _ _ (@a0p _ _ _ _ (@a0n _ _ _ _))),?_⟩
  rw [show a0N b8s [x]=[some (x)] from rfl]
  try simp only [a1q,tC]
  exact q
theorem b8K (T:Txt K mg t):a1y P w K mg base CX0 1 t.f_z0s t.fd_z0s ["self"] (a2s "fact"):=by
 refine T.F_z0s.ok b7q (fun vs H Q E h=>?_) (fun cdv A outer s H vs Q E hr h=>?_)
 ·obtain ⟨x,rfl,q⟩:=h;rfl
 ·obtain ⟨x,rfl,q⟩:=h
  refine ⟨_,(@a0f _ _ _ (@a0p _ _ _ _ (@a0n _ _ _ _))),?_⟩
  rw [show a0N b7S [x]=[some (x)] from rfl]
  try simp only [a1q,tC]
  exact q
theorem b7Y (T:Txt K mg t):a1y P w K mg base CX0 1 t.f_z0u t.fd_z0u ["self"] (a2s "most"):=by
 refine T.F_z0u.ok b8g (fun vs H Q E h=>?_) (fun cdv A outer s H vs Q E hr h=>?_)
 ·obtain ⟨x,rfl,q⟩:=h;rfl
 ·obtain ⟨x,rfl,q⟩:=h
  refine ⟨_,(@a0f _ _ _ (@a0p _ _ _ _ (@a0n _ _ _ _))),?_⟩
  rw [show a0N b8e [x]=[some (x)] from rfl]
  try simp only [a1q,tC]
  exact q
theorem b6w (T:Txt K mg t):a1y P w K mg base CX0 1 t.f_z0t t.fd_z0t ["self"] (a2s "sure"):=by
 refine T.F_z0t.ok b6F (fun vs H Q E h=>?_) (fun cdv A outer s H vs Q E hr h=>?_)
 ·obtain ⟨x,rfl,q⟩:=h;rfl
 ·obtain ⟨x,rfl,q⟩:=h
  refine ⟨_,(@a0f _ _ _ (@a0p _ _ _ _ (@a0n _ _ _ _))),?_⟩
  rw [show a0N b7v [x]=[some (x)] from rfl]
  try simp only [a1q,tC]
  exact q
theorem a5W (T:Txt K mg t):a1y P w K mg base CX0 2 t.f_z11 t.fd_z11 ["self"] (a9B t):=by
 refine T.F_z11.ok b3r (fun vs H Q E h=>?_) (fun cdv A outer s H vs Q E hr h=>?_)
 ·obtain ⟨r,kind,lb,s0,ss,rfl,hk,hk0,hR,hlb,hT,hl,q⟩:=h;rfl
 ·obtain ⟨r,kind,lb,s0,ss,rfl,hk,hk0,hR,hlb,hT,hl,q⟩:=h
  refine ⟨_,(@a0h _ _ _ _ _ (@a0D _ _ (1) _ _ _ _ b3r.nd rfl (by trivial) (@a1z _ _ _ _ (@a0b _ _ _ _ _ (@a2E _ _ _ _ (@a1d _ _ _ _ _ _ _ _ _ _ _ _ _ _ _ _ _ ‹0› T.cl_Fact T.me_Fact_word (b8K T) (hr.mono (by decide)) T.b_z0s .nil a0z (by rfl)) (@a2E _ _ _ _ (@a1d _ _ _ _ _ _ _ _ _ _ _ _ _ _ _ _ _ ‹0› T.cl_Sure T.me_Sure_word (b6w T) (hr.mono (by decide)) T.b_z0t .nil a0z (by rfl)) (@a2E _ _ _ _ (@a1d _ _ _ _ _ _ _ _ _ _ _ _ _ _ _ _ _ ‹0› T.cl_Most T.me_Most_word (b7Y T) (hr.mono (by decide)) T.b_z0u .nil a0z (by rfl)) (@a1d _ _ _ _ _ _ _ _ _ _ _ _ _ _ _ _ _ ‹0› T.cl_Block T.me_Block_word (b8w T) (hr.mono (by decide)) T.b_z0l .nil a0z (by rfl))))) (@a0b _ _ _ _ _ (@a0B _ _ _ _ _ _ _ _ a0E (@a2R _ _ _ _ _ ‹0› rfl) (@a0n _ _ _ _)) (@a0e _) (by rfl)) (by rfl))) (by rfl) (by trivial)) (@a0O _ _ _ _ _ (@a0V _ _ _ _ _ _ _ _ (@a0s _ _ _ _ _ _ _ _ a5d (@a0r _ _ _ _ _ _ _ _ _ a0H rfl T.z_len a0I (@a0b _ _ _ _ _ (@a2R _ _ _ _ _ ‹0› rfl) (@a0e _) (by rfl)) (by decide) (by decide) (by rfl) (by rfl)) (@a0g _ _ _ _) (a0C _)) (@a0f _ _ _ (@a4Q _ _ _ _ (@a2k _ _ _ _ _ _ _ _ _ _ _ _ PySem.F.plainAttrs_list PySem.F.slot_list_append PySem.F.type_list_append a2N ‹1› (@a0b _ _ _ _ _ (@a2k _ _ _ _ _ _ _ _ _ _ _ _ PySem.F.plainAttrs_str PySem.F.slot_str_join PySem.F.type_str_join a6x (@a0n _ _ _ _) (@a0b _ _ _ _ _ (@a2R _ _ _ _ _ ‹0› rfl) (@a0e _) (by rfl)) (by rfl) (by rfl) (by rfl) (by rfl) (by rfl)) (@a0e _) (by rfl)) (by rfl) (by rfl) (by rfl) (by rfl) (by rfl)) (by rfl))) (@a0u _)) (@a0f _ _ _ (@a0p _ _ _ _ (@a2k _ _ _ _ _ _ _ _ _ _ _ _ PySem.F.plainAttrs_str PySem.F.slot_str_join PySem.F.type_str_join a6x (@a0n _ _ _ _) (@a0b _ _ _ _ _ (@a0B _ _ _ _ _ _ _ _ a0E ‹1› (@a1z _ _ _ _ (@a0b _ _ _ _ _ (@a0n _ _ _ _) (@a0b _ _ _ _ _ (@a2R _ _ _ _ _ ‹0› rfl) (@a0e _) (by rfl)) (by rfl)))) (@a0e _) (by rfl)) (by rfl) (by rfl) (by rfl) (by rfl) (by rfl)))))),?_⟩
  rw [show a0N b7r [V.ref r]=[some (V.ref r),none] from rfl]
  have CF:=c0V T hk
  obtain ⟨dr,t0,hr1,hr2⟩:=id hR
  have hw:=b2x kind
  have hT':∀s∈ss,IsT s:=fun s hs=>hT s (List.mem_cons_of_mem _ hs)
  have hs0:=a3V (hT s0 List.mem_cons_self)
  obtain ⟨hj1,hj2⟩:=b4O hT' hl [44,32] (by decide)
  try simp only [a2D,a2u,a6Y,a0x,tOp,b3W,a0L,List.getElem?_cons_zero,tC,a0W,a0T,List.set_cons_succ,List.set_cons_zero,a0j]
  refine b9r hk (a6z rfl) hR ⟨by decide+kernel,by decide+kernel,by decide+kernel⟩ ?_
  rw [b1D hk]
  try simp only [a9K]
  refine ⟨r,_,dr,_,_,rfl,hr1,CF.cl,CF.nl,a5R _ _ _,?_⟩
  try simp only [a1h]
  rw [b2c hk,show (":":Str)=mk [58] by decide+kernel,a4j]
  refine ⟨by rw [a0i,a0i];exact Nat.le_trans (show _≤2000 by simp;omega) (by decide),by simp only [List.length_cons,List.length_nil];decide,fun W hW=>?_⟩
  obtain ⟨H1,e1,s1,h1⟩:=a2t hW (.lst [sv (a0G kind),sv (lb++[58])]);rw [e1]
  refine ⟨fun σ' H'=>σ'=[some (V.ref r),some (V.ref W)]∧a0A H H'∧H' W=some (.lst (([a0G kind,lb++[58]]++(if ss=[] then [] else [a1n [44,32] (ss.map stat)])).map fun l=>sv l)),?_,?_⟩
  ·try simp only [a2e,a1c,tOp,tCB,a0x,b3W,a0L,List.getElem?_cons_zero,a0W,tC,a7U,tBM,List.getElem?_cons_succ,List.cons_append,List.nil_append,a0j,a1G,a0Y]
   refine ⟨r,_,dr,_,_,rfl,s1 _ _ hr1,CF.cl,CF.nb,a2Y _ _ _,?_⟩
   refine b0m (SqT.of (s1 _ _ hr2)) ?_
   try simp only [a1F,a1b,decide_eq_true_eq]
   refine a1L (fun c1=>?_) (fun c1=>?_)
   ·have hne:ss≠[]:=fun z=>by rw [z] at c1;simp at c1
    refine ⟨.inl ⟨rfl,_,SqL.of h1⟩,?_⟩
    refine ⟨r,_,dr,_,_,rfl,s1 _ _ hr1,CF.cl,CF.nb,a2Y _ _ _,?_⟩
    rw [show (", ":Str)=mk [44,32] by decide+kernel]
    refine a4h (ys:=(ss.map stat).map mk) (.inr (SqT.of (by rw [←b7c];exact s1 _ _ hr2))) hj1 ?_
    rw [a6d]
    refine ⟨W,_,_,rfl,rfl,h1,by simp only [List.length_cons,List.length_nil];decide,(by trivial),?_,?_⟩
    ·intro c o e;rw [a0w (a0y e hW)];exact s1 _ _ e
    ·rw [a0v,if_neg hne];rfl
   ·have he:ss=[]:=by
     cases ss with
     | nil=>rfl
     | cons a b=>simp at c1
    refine ⟨(by trivial),s1,?_⟩
    rw [if_pos he];exact h1
  rintro σ' H2 ⟨rfl,s2,h2⟩
  try simp only [a1q,tBM,tC,a0x,tOp,a0L,List.getElem?_cons_succ,List.getElem?_cons_zero,a6Y,b3W,a0W,a0j,a1G]
  refine ⟨r,_,dr,_,_,rfl,s2 _ _ hr1,CF.cl,CF.nh,a4c _ _ _,?_⟩
  try skip
  refine ⟨by simp only [List.length_cons,List.length_nil];decide,fun p3 hp3=>?_⟩
  obtain ⟨H3,e3,s3,h3⟩:=a2t hp3 (.lst [V.str "->",sv (stat s0)]);rw [e3]
  refine .inr (.inr (.inl ⟨W,p3,_,_,rfl,rfl,s3 _ _ h2,h3,?_,fun p4 hp4=>?_⟩))
  ·refine Nat.le_trans (show _≤1000 from ?_) (by decide)
   rw [List.length_map,List.length_append]
   simp only [List.length_cons,List.length_nil]
   split<;>simp
  obtain ⟨H4,e4,s4,h4⟩:=a2t hp4 (.lst (List.map (fun l=>sv l) ([a0G kind,lb++[58]]++(if ss=[] then [] else [a1n [44,32] (ss.map stat)]))++[V.str "->",sv (stat s0)]));rw [e4]
  have s04:a0A H H4:=(s2.trans s3).trans s4
  rw [show ("->":Str)=mk [45,62] by decide+kernel] at h4
  rw [show (" ":Str)=mk [32] by decide+kernel]
  by_cases he:ss=[]
  ·rw [if_pos he] at h4
   refine a4h (ys:=[a0G kind,lb++[58],[45,62],stat s0].map mk) (.inl (SqL.of h4)) ?_ ?_
   ·simp [a0i];omega
   ·rw [a6d,a9d hk0]
    have:=q H4 s04
    rw [he] at this;exact this
  ·rw [if_neg he] at h4
   refine a4h (ys:=[a0G kind,lb++[58],a1n [44,32] (ss.map stat),[45,62],stat s0].map mk) (.inl (SqL.of h4)) ?_ ?_
   ·simp [a0i];omega
   ·rw [a6d,a8V hk0 _ _ (by intro z;exact he (List.map_eq_nil_iff.mp z))]
    exact q H4 s04
theorem a8Y (T:Txt K mg t):a1y P w K mg base CX0 1 t.f_z0p t.fd_z0p ["self","label","head","body"] (b6D K):=by
 refine T.F_z0p.ok b6n (fun vs H Q E h=>?_) (fun cdv A outer s H vs Q E hr h=>?_)
 ·obtain ⟨x,C,dx,lb,hd,b,bs,rfl,hx,hC,hb,q⟩:=h;rfl
 ·obtain ⟨x,C,dx,lb,hd,b,bs,rfl,hx,hC,hb,q⟩:=h
  refine ⟨_,(@a0h _ _ _ _ _ (@b1G _ _ _ _ _ _ _ _ ‹0› ‹1› rfl) (@a0h _ _ _ _ _ (@b1G _ _ _ _ _ _ _ _ ‹0› ‹2› rfl) (@a0f _ _ _ (@b1G _ _ _ _ _ _ _ _ ‹0› (@a5A _ _ _ _ _ _ _ _ _ a5I rfl T.z_tuple a3k (@a0b _ _ _ _ _ ‹3› (@a0e _) (by rfl)) (by decide) (by decide) (by rfl) (by rfl)) rfl)))),?_⟩
  rw [show a0N b6J [V.ref x,lb,hd,V.ref b]=[some (V.ref x),some (lb),some (hd),some (V.ref b)] from rfl]
  obtain ⟨cl,n1,n2,n3⟩:=hC
  try simp only [a2D,c5B,a0L,List.getElem?_cons_succ,List.getElem?_cons_zero,tCB,a0x,a0W,a0j]
  have cut:∀(H0:Hp),(∀c o,H c=some o→c≠x→H0 c=some o)→H0 x=some (.ins C dx (a4t "head" hd (a4t "label" lb [])))→∀t,H0 t=some (.tup bs)→t≠x→(∀c o,H c=some o→c≠x→upd H0 x (.ins C dx (b1b lb hd t)) c=some o)∧a0U (upd H0 x (.ins C dx (b1b lb hd t))) x C lb hd bs:=fun H0 k0 h0 t ht htx=>
   ⟨fun c o e hc=>by rw [a0w hc];exact k0 c o e hc,dx,t,a0v,by rw [a0w htx];exact ht⟩
  refine ⟨x,C,dx,_,rfl,hx,cl,n1,by show 0 < 1000;decide,x,C,dx,_,rfl,a0v,cl,n2,by show 1 < 1000;decide,?_⟩
  rw [b5i]
  obtain ⟨H1,e1,k1,h1⟩:∃H',upd H x (.ins C dx (a4t "head" hd (a4t "label" lb [])))=H'∧(∀c o,H c=some o→c≠x→H' c=some o)∧H' x=some (.ins C dx (a4t "head" hd (a4t "label" lb []))):=⟨_,rfl,fun c o e hc=>by rw [a0w hc];exact e,a0v⟩
  rw [e1]
  have hlen:(a4t "head" hd (a4t "label" lb [])).length < 1000:=by
   rw [show a4t "head" hd (a4t "label" lb [])=([("label",lb),("head",hd)]:List (Str×V)) from by
    show (if ("label":Str)="head" then _ else _)=_
    rw [if_neg (by decide+kernel)];rfl]
   show 2 < 1000;decide
  rcases hb with hb | ⟨hb,hb'⟩
  ·have hb1:SqL K H1 b bs:=by
    rcases hb with (hb | ⟨o,hb⟩) | hb
    ·exact .inl (.inl (k1 _ _ hb (b0D hb hx (by intro z;cases z))))
    ·exact .inl (.inr ⟨o,k1 _ _ hb (b0D hb hx (by intro z;cases z))⟩)
    ·exact .inr hb
   refine ⟨b,bs,rfl,.inl ⟨hb1,fun t ht=>?_⟩⟩
   have htx:t≠x:=fun z=>by rw [z,h1] at ht;cases ht
   obtain ⟨H2,e2,s2,h2⟩:=a2t ht (.tup bs);rw [e2]
   obtain ⟨a1,a2⟩:=cut H2 (fun c o e hc=>s2 _ _ (k1 c o e hc)) (s2 _ _ h1) t h2 htx
   exact ⟨x,C,dx,_,rfl,s2 _ _ h1,cl,n3,hlen,q _ a1 a2⟩
  ·have hbx:b≠x:=b0D hb' hx (by intro z;cases z)
   have hb1:=k1 _ _ hb' hbx
   refine ⟨b,bs,rfl,.inr ⟨SqT.of hb1,?_⟩⟩
   obtain ⟨a1,a2⟩:=cut H1 k1 h1 b hb1 hbx
   exact ⟨x,C,dx,_,rfl,h1,cl,n3,hlen,q _ a1 a2⟩
theorem b8n (T:Txt K mg t):a1y P w K mg base CX0 2 t.f_z0r t.fd_z0r ["self","head"] (b5c K t.C_Fact):=by
 refine T.F_z0r.ok b7i (fun vs H Q E h=>?_) (fun cdv A outer s H vs Q E hr h=>?_)
 ·obtain ⟨x,dx,hd,rfl,hx,q⟩:=h;rfl
 ·obtain ⟨x,dx,hd,rfl,hx,q⟩:=h
  refine ⟨_,(@a0f _ _ _ (@a4Q _ _ _ _ (@b3h _ _ _ _ _ _ _ _ _ _ _ _ _ _ _ _ _ _ _ _ (@a1x _ _ (.ref t.C_Rule) _ _ rfl T.g_Rule rfl (by decide)) T.cm_Rule (a8Y T) (hr.mono (by decide)) T.b_z0p .nil a0z (@a0b _ _ _ _ _ ‹0› (@a0b _ _ _ _ _ (@a0n _ _ _ _) (@a0b _ _ _ _ _ ‹1› (@a0b _ _ _ _ _ (@a5c _ _ _ _ _ (@a0e _)) (@a0e _) (by rfl)) (by rfl)) (by rfl)) (by rfl)) (by rfl) (by rfl) (by rfl)) (by rfl))),?_⟩
  rw [show a0N b7H [V.ref x,hd]=[some (V.ref x),some (hd)] from rfl]
  try simp only [a7U,b3s,tC,a0x,a0L,List.getElem?_cons_zero,List.getElem?_cons_succ,b2n,a0W,List.append_nil,a0j]
  refine ⟨(by trivial),by decide,fun b hb=>?_⟩
  obtain ⟨H1,e1,s1,h1⟩:=a2t hb (.tup []);rw [e1]
  refine ⟨x,t.C_Fact,dx,_,hd,b,[],rfl,s1 _ _ hx,⟨T.cl_Fact,T.nf_Fact_label,T.nf_Fact_head,T.nf_Fact_body⟩,.inr ⟨SqT.of h1,h1⟩,fun H' k r=>?_⟩
  exact q _ (fun c o e hc=>k c o (s1 _ _ e) hc) r
theorem b4p (T:Txt K mg t):a1y P w K mg base CX0 1 t.f_z00 t.fd_z00 ["self","found"] (c1S t.C_NoStatement "found"):=by
 refine T.F_z00.ok b7V (fun vs H Q E h=>?_) (fun cdv A outer s H vs Q E hr h=>?_)
 ·obtain ⟨x,v,rfl,hx,q⟩:=h;rfl
 ·obtain ⟨x,v,rfl,hx,q⟩:=h
  refine ⟨_,(@a0f _ _ _ (@b0F _ _ _ _ _ _ _ _ ‹0› ‹1› rfl)),?_⟩
  rw [show a0N b8J [V.ref x,v]=[some (V.ref x),some (v)] from rfl]
  try simp only [b4C,a0L,List.getElem?_cons_succ,List.getElem?_cons_zero,a0j]
  exact ⟨x,_,rfl,hx,T.x_NoStatement.c,T.x_NoStatement.no,fun d hd=>q d hd⟩
theorem b0W (T:Txt K mg t):a1y P w K mg base CX0 1 t.f_z0f t.fd_z0f ["thing","signs","most"] (b8u K):=by
 refine T.F_z0f.ok b7s (fun vs H Q E h=>?_) (fun cdv A outer s H vs Q E hr h=>?_)
 ·obtain ⟨x,sg,m,rfl,z,rfl,hz,q⟩:=h;rfl
 ·obtain ⟨x,sg,m,rfl,z,rfl,hz,q⟩:=h
  refine ⟨_,(@a0f _ _ _ (@a0p _ _ _ _ (@a7d _ _ _ _ _ _ _ (@a0r _ _ _ _ _ _ _ _ _ a0Z rfl T.z_isinstance a0q (@a0b _ _ _ _ _ ‹0› (@a0b _ _ _ _ _ (@a2f _ _ (.ty "str") _ _ rfl T.z_str a2S rfl (by decide) (by decide)) (@a0e _) (by rfl)) (by rfl)) (by decide) (by decide) (by rfl) (by rfl)) (@a7d _ _ _ _ _ _ _ (@b2F _ _ _ _ _ _ _ _ _ _ _ _ b6S b6S (@a0g _ _ _ _) (@a0r _ _ _ _ _ _ _ _ _ a0H rfl T.z_len a0I (@a0b _ _ _ _ _ ‹0› (@a0e _) (by rfl)) (by decide) (by decide) (by rfl) (by rfl)) ‹2› (by with_unfolding_all rfl)) (@a7J _ _ _ _ _ (@a0r _ _ _ _ _ _ _ _ _ (a2r rfl) rfl T.z_all a5p (@a0b _ _ _ _ _ (@a3w _ _ _ _ _ _ _ _ _ _ _ _ _ (@a1M _ (a0a a3u) (b4r) (["sign","signs"]) ([none,some 1]) _ rfl rfl (by decide+kernel)) rfl (@b3H _ _ _ _ ‹0›) (fun _ _ _ _ _=>(@a1w _ _ (0) _ (show List.Nodup (["sign","signs"]:List Str) by decide+kernel) rfl (by trivial) (by trivial))) (fun _ _ _ _ _=>@a4S _) (fun _ _ _ _ _=>(@a2X _ _ _ _ _ _ _ _ (b3u (K:=K) rfl) ‹0› ‹1› (by with_unfolding_all rfl))) (by intro _;rfl)) (@a0e _) (by rfl)) (by decide) (by decide) (by rfl) (by rfl))))))),?_⟩
  rw [show a0N b4r [V.str z,V.str sg,V.int m]=[some (V.str z),some (V.str sg),some (V.int m)] from rfl]
  try simp only [a1q,b1T,tCB,a0x,a0L,List.getElem?_cons_zero,tC,a0W,b3Z,List.getElem?_cons_succ,a1Z,c2c,a0j,b5X,a1b,a1U,a1V,a1F,decide_eq_true_eq,a1S,if_true]
  refine ⟨a0k hz,a1L (fun c1=>a1L (fun c2=>?_) (fun c2=>?_)) (fun c1=>?_)⟩
  ·refine a5X b6e (a0k hz) [some (V.str sg)] rfl (fun i v=>v=.bl (inS (sgn z i) sg)) (fun _ _=>trivial) (fun i H' R hi s hR=>?_) (fun D H' ys _ s hD hl hv=>?_)
   ·rw [show b1l z i=V.str (sgn z i) from rfl]
    try simp only [tOp,a0L,List.getElem?_cons_zero,List.getElem?_cons_succ,a0j,a6v]
    exact hR _ _ (a0A.refl _) rfl
   ·have e:ys=((List.range z.cps.size).map fun i=>inS (sgn z i) sg).map V.bl:=by
     refine List.ext_getElem? fun i=>?_
     rw [List.getElem?_map,List.getElem?_map]
     by_cases hi:i < z.cps.size
     ·rw [List.getElem?_range hi,List.getElem?_eq_getElem (by omega)]
      exact congrArg some (hv i _ (List.getElem?_eq_getElem (by omega)))
     ·rw [List.getElem?_eq_none (by omega),List.getElem?_eq_none (by simp;omega)];rfl
    refine ⟨D,_,rfl,by rw [←e];exact SqL.of hD,?_⟩
    have e2:a1Q z sg m=((List.range z.cps.size).map fun i=>inS (sgn z i) sg).all id:=by
     unfold a1Q b2p
     rw [decide_eq_true c1,decide_eq_true c2,List.all_map];rfl
    rw [←e2]
    exact q _ s
  ·have e2:a1Q z sg m=false:=by unfold a1Q;rw [decide_eq_false c2,Bool.and_false,Bool.false_and]
   rw [←e2];exact q _ (a0A.refl _)
  ·have e2:a1Q z sg m=false:=by unfold a1Q;rw [decide_eq_false c1,Bool.false_and,Bool.false_and]
   rw [←e2];exact q _ (a0A.refl _)
theorem b3S (T:Txt K mg t):a1y P w K mg base CX0 2 t.f_z18 t.fd_z18 ["thing"] (b9C K "abcdefghijklmnopqrstuvwxyz" 8):=by
 refine T.F_z18.ok b7a (fun vs H Q E h=>?_) (fun cdv A outer s H vs Q E hr h=>?_)
 ·obtain ⟨z,rfl,hz,q⟩:=h;rfl
 ·obtain ⟨z,rfl,hz,q⟩:=h
  obtain ⟨_,k_SMALL⟩:=T.k_SMALL
  obtain ⟨_,k_LONGEST⟩:=T.k_LONGEST
  refine ⟨_,(@a0f _ _ _ (@a0p _ _ _ _ (@a0m _ _ _ _ _ _ _ _ _ _ _ _ _ _ _ _ (b0W T) (hr.mono (by decide)) rfl T.g_z0f T.F_z0f.kp T.b_z0f .nil a0z (@a0b _ _ _ _ _ ‹0› (@a0b _ _ _ _ _ (@a1x _ _ (.str "abcdefghijklmnopqrstuvwxyz") _ _ rfl k_SMALL ⟨_,rfl⟩ (by decide)) (@a0b _ _ _ _ _ (@a1x _ _ (.int 8) _ _ rfl k_LONGEST ⟨_,rfl⟩ (by decide)) (@a0e _) (by rfl)) (by rfl)) (by rfl)) (by decide) (by rfl) (by rfl)))),?_⟩
  rw [show a0N b8C [V.str z]=[some (V.str z)] from rfl]
  try simp only [a1q,a0R,a0x,a0L,List.getElem?_cons_zero,tC,a0W,List.append_nil,a0j]
  exact ⟨_,_,_,rfl,z,rfl,hz,q⟩
theorem b4k (T:Txt K mg t):a1y P w K mg base CX0 2 t.f_z0n t.fd_z0n ["thing"] (b9C K "ABCDEFGHIJKLMNOPQRSTUVWXYZ" 1):=by
 refine T.F_z0n.ok b6l (fun vs H Q E h=>?_) (fun cdv A outer s H vs Q E hr h=>?_)
 ·obtain ⟨z,rfl,hz,q⟩:=h;rfl
 ·obtain ⟨z,rfl,hz,q⟩:=h
  obtain ⟨_,k_GREAT⟩:=T.k_GREAT
  refine ⟨_,(@a0f _ _ _ (@a0p _ _ _ _ (@a0m _ _ _ _ _ _ _ _ _ _ _ _ _ _ _ _ (b0W T) (hr.mono (by decide)) rfl T.g_z0f T.F_z0f.kp T.b_z0f .nil a0z (@a0b _ _ _ _ _ ‹0› (@a0b _ _ _ _ _ (@a1x _ _ (.str "ABCDEFGHIJKLMNOPQRSTUVWXYZ") _ _ rfl k_GREAT ⟨_,rfl⟩ (by decide)) (@a0b _ _ _ _ _ (@a0g _ _ _ _) (@a0e _) (by rfl)) (by rfl)) (by rfl)) (by decide) (by rfl) (by rfl)))),?_⟩
  rw [show a0N b6d [V.str z]=[some (V.str z)] from rfl]
  try simp only [a1q,a0R,a0x,a0L,List.getElem?_cons_zero,tC,a0W,List.append_nil,a0j]
  exact ⟨_,_,_,rfl,z,rfl,hz,q⟩
theorem b5V (T:Txt K mg t):a1y P w K mg base CX0 3 t.f_z0o t.fd_z0o ["behind"] b0x:=by
 refine T.F_z0o.ok b3v (fun vs H Q E h=>?_) (fun cdv A outer s H vs Q E hr h=>?_)
 ·obtain ⟨b,rfl,hl,qn,qs⟩:=h;rfl
 ·obtain ⟨b,rfl,hl,qn,qs⟩:=h
  obtain ⟨_,k_MOST_PLACES⟩:=T.k_MOST_PLACES
  refine ⟨_,(@a0h _ _ _ _ _ (@a0V _ _ _ _ _ _ _ _ (@a1X _ _ _ _ (@a1j _ _ _ (@a2k _ _ _ _ _ _ _ _ _ _ _ _ PySem.F.plainAttrs_str PySem.F.slot_str_endswith PySem.F.type_str_endswith b4V ‹0› (@a0b _ _ _ _ _ (@a0n _ _ _ _) (@a0e _) (by rfl)) (by rfl) (by rfl) (by rfl) (by rfl) (by rfl)) (by intro _;rfl))) (@a0f _ _ _ (@a0p _ _ _ _ (@a1p _ _ _))) (@a0u _)) (@a0h _ _ _ _ _ (@a0D _ _ (1) _ _ _ _ b3v.nd rfl (by trivial) (@a2k _ _ _ _ _ _ _ _ _ _ _ _ PySem.F.plainAttrs_str PySem.F.slot_str_split PySem.F.type_str_split a4d (@a0M _ _ _ _ _ _ _ _ _ _ a1v ‹0› (@a1k _) (@a0P _ _ _ (@a4P _ _ _ _ _ _ a2x (@a0g _ _ _ _)))) (@a0b _ _ _ _ _ (@a0n _ _ _ _) (@a0e _) (by rfl)) (by rfl) (by rfl) (by rfl) (by rfl) (by rfl)) (by rfl) (by trivial)) (@a0h _ _ _ _ _ (@a0V _ _ _ _ _ _ _ _ (@a0s _ _ _ _ _ _ _ _ a5d (@a0r _ _ _ _ _ _ _ _ _ a0H rfl T.z_len a0I (@a0b _ _ _ _ _ ‹1› (@a0e _) (by rfl)) (by decide) (by decide) (by rfl) (by rfl)) (@a1x _ _ (.int 2) _ _ rfl k_MOST_PLACES ⟨_,rfl⟩ (by decide)) (a0C _)) (@a0f _ _ _ (@a0p _ _ _ _ (@a1p _ _ _))) (@a0u _)) (@a0h _ _ _ _ _ (@a0V _ _ _ _ _ _ _ _ (@a1X _ _ _ _ (@a1j _ _ _ (@a0r _ _ _ _ _ _ _ _ _ (a2r rfl) rfl T.z_all a5p (@a0b _ _ _ _ _ (@a3w _ _ _ _ _ _ _ _ _ _ _ _ _ (@a1M _ (a0a a3v) (b5b) (["place"]) ([none]) _ rfl rfl (by decide+kernel)) rfl (@a2U _ _ _ _ ‹1›) (fun _ _ _ _ _=>(@a1w _ _ (0) _ (show List.Nodup (["place"]:List Str) by decide+kernel) rfl (by trivial) (by trivial))) (fun _ _ _ _ _=>@a4S _) (fun _ _ _ _ _=>(@c2n _ _ _ _ _ _ _ (@a0m _ _ _ _ _ _ _ _ _ _ _ _ _ _ _ _ (b3S T) (hr.mono (by decide)) rfl T.g_z18 T.F_z18.kp T.b_z18 .nil a0z (@a0b _ _ _ _ _ ‹0› (@a0e _) (by rfl)) (by decide) (by rfl) (by rfl)) (@a7J _ _ _ _ _ (@a0m _ _ _ _ _ _ _ _ _ _ _ _ _ _ _ _ (b4k T) (hr.mono (by decide)) rfl T.g_z0n T.F_z0n.kp T.b_z0n .nil a0z (@a0b _ _ _ _ _ ‹0› (@a0e _) (by rfl)) (by decide) (by rfl) (by rfl))))) (by intro _;rfl)) (@a0e _) (by rfl)) (by decide) (by decide) (by rfl) (by rfl)) (by intro _;rfl))) (@a0f _ _ _ (@a0p _ _ _ _ (@a1p _ _ _))) (@a0u _)) (@a0f _ _ _ (@a0p _ _ _ _ (@a5A _ _ _ _ _ _ _ _ _ a5I rfl T.z_tuple a3k (@a0b _ _ _ _ _ ‹1› (@a0e _) (by rfl)) (by decide) (by decide) (by rfl) (by rfl)))))))),?_⟩
  rw [show a0N b5b [sv b]=[some (sv b),none] from rfl]
  try simp only [a2D,a2e,a6l,tB,tBM,a0L,List.getElem?_cons_zero,a0x,tC,a0W,Bool.not_eq_true',a1q,a0Y,a2u,tSl,a1N,a3g,tUn,a0T,a1c,tOp,tCB,List.set_cons_succ,List.set_cons_zero,List.getElem?_cons_succ,a0j,a1b,a1Z,a5F,a2F,a3x,a1E,a2V,a8B,a1G,b2o]
  rw [show (")":Str)=mk [41] by decide+kernel,b3c]
  refine a1L (fun c=>?_) (fun c=>?_)
  ·exact qn (by unfold a3q;rw [if_neg (by simpa using c)]) _ (a0A.refl _)
  have hg:b.getLast?=some 41:=by simpa using c
  have hb:b≠[]:=fun z=>by rw [z] at hg;cases hg
  rw [a4U _ hb,show (",":Str)=mk [44] by decide+kernel,a3c (by decide)]
  have hdl:b.dropLast.length≤1000:=by rw [List.length_dropLast];omega
  have hsl:=a2b 44 b.dropLast
  refine ⟨a0k (by rw [a0i];omega),rfl,?_,fun D hD=>?_⟩
  ·rw [a0i];exact Nat.le_trans (show _≤2000 by omega) (by decide)
  rw [List.map_map]
  have hrd:a3q b=if (a0F 44 b.dropLast).length≤2 then (if (a0F 44 b.dropLast).all okP=true then some (a0F 44 b.dropLast) else none) else none:=if_pos hg
  generalize a0F 44 b.dropLast=ps at hsl hrd ⊢
  obtain ⟨H1,e1,s1,h1⟩:=a2t hD (.lst (pv' ps))
  rw [show (List.map (V.str∘mk) ps)=pv' ps from rfl,e1]
  refine a1o (SqL.of h1) ?_
  try simp only [a1F,a1b,decide_eq_true_eq]
  refine a1L (fun c=>?_) (fun c2=>?_)
  ·exact qn (by rw [hrd,if_neg (by simp at c;omega)]) _ s1
  have hp2:ps.length≤2:=by simp at c2;omega
  refine ⟨⟨_,SqL.of h1⟩,?_⟩
  refine a5X (a3M (xs:=pv' ps)) (Nat.le_trans (show (pv' ps).length≤1000 by simp;omega) (by decide)) [] rfl (fun i v=>v=.bl (okP ((ps[i]?).getD []))) (fun H' s=>s.seq (SqL.of h1)) (fun i H' R hi s hR=>?_) (fun D2 H2 ys _ s2 hD2 hl2 hv2=>?_)
  ·have hi':i < ps.length:=by simpa using hi
   have e2:((pv' ps)[i]?).getD .non=sv ps[i]:=by rw [List.getElem?_map,List.getElem?_eq_getElem hi'];rfl
   have e3:(ps[i]?).getD []=ps[i]:=by rw [List.getElem?_eq_getElem hi'];rfl
   have hp:=hsl.2 ps[i] (List.getElem_mem hi')
   rw [e3] at hR
   rw [e2]
   try simp only [c5J,a0R,a0x,a0L,List.getElem?_cons_zero,a0W,List.append_nil,a0j,a1b]
   refine ⟨_,rfl,by rw [a0i];omega,fun H3 s3=>?_⟩
   rw [b1m]
   try skip
   refine a1L (fun c=>hR _ _ s3 (by unfold okP;rw [c];rfl)) (fun c=>?_)
   refine ⟨_,rfl,by rw [a0i];omega,fun H4 s4=>?_⟩
   rw [b1C]
   exact hR _ _ (s3.trans s4) (by unfold okP;rw [Bool.eq_false_iff.mpr c];rfl)
  have e4:ys=(ps.map okP).map V.bl:=by
   refine List.ext_getElem? fun i=>?_
   rw [List.getElem?_map,List.getElem?_map]
   by_cases hi:i < ys.length
   ·have hi2:i < ps.length:=by simp at hl2;omega
    rw [List.getElem?_eq_getElem hi,hv2 i _ (List.getElem?_eq_getElem hi),List.getElem?_eq_getElem hi2];rfl
   ·rw [List.getElem?_eq_none (by omega),List.getElem?_eq_none (by simp at hl2 ⊢;omega)];rfl
  refine ⟨D2,_,rfl,by rw [←e4];exact SqL.of hD2,?_⟩
  rw [show (ps.map okP).all id=ps.all okP by rw [List.all_map];rfl]
  try skip
  refine a1L (fun c=>?_) (fun c=>?_)
  ·exact qn (by rw [hrd,if_pos hp2,if_neg (by simpa using c)]) _ (s1.trans s2)
  refine ⟨D,_,rfl,.inl ⟨SqL.of (s2 _ _ h1),fun t ht=>?_⟩⟩
  exact qs ps t _ (by rw [hrd,if_pos hp2,if_pos (by simpa using c)]) ((s1.trans s2).up ht) a0v
theorem b3x (T:Txt K mg t):a1y P w K mg base (CXE P w K) 4 t.f_z10 t.fd_z10 ["statement"] (b3j K t):=by
 refine T.F_z10.okX a8G (fun vs H Q E h=>?_) (fun cdv A outer s H vs Q E hr h=>?_)
 ·obtain ⟨v,r,rfl,hv,q,qx⟩:=h;rfl
 ·obtain ⟨v,r,rfl,hv,q,qx⟩:=h
  refine ⟨_,(@a0h _ _ _ _ _ (@a0V _ _ _ _ _ _ _ _ (@a1X _ _ _ _ (@a1j _ _ _ (@a0r _ _ _ _ _ _ _ _ _ a0Z rfl T.z_isinstance a0q (@a0b _ _ _ _ _ ‹0› (@a0b _ _ _ _ _ (@a2f _ _ (.ty "str") _ _ rfl T.z_str a2S rfl (by decide) (by decide)) (@a0e _) (by rfl)) (by rfl)) (by decide) (by decide) (by rfl) (by rfl)) (by intro _;rfl))) (@a0f _ _ _ (@a6o _ _ _ _ _ b1H rfl (@a6h _ _ _ _ _ _ _ _ _ _ _ _ _ _ _ _ _ T.x_NoStatement.mx (b4p T) (hr.mono (by decide)) rfl T.g_NoStatement T.b_z00 .nil a0z (@a0b _ _ _ _ _ ‹0› (@a0e _) (by rfl)) (by decide) (by rfl) (by rfl)))) (@a0u _)) (@a0O _ _ _ _ _ (@a0D _ _ (1) _ _ _ _ a8G.nd rfl (by trivial) (@a3a _ _ _ _ _ _ _ _ (@a1j _ _ _ (@a2k _ _ _ _ _ _ _ _ _ _ _ _ PySem.F.plainAttrs_str PySem.F.slot_str_startswith PySem.F.type_str_startswith a7N ‹0› (@a0b _ _ _ _ _ (@a0n _ _ _ _) (@a0e _) (by rfl)) (by rfl) (by rfl) (by rfl) (by rfl) (by rfl)) (by intro _;rfl)) (@a0n _ _ _ _) (@a0n _ _ _ _)) (by rfl) (by trivial)) (@a0h _ _ _ _ _ (@a0D _ _ (2) _ _ _ _ a8G.nd rfl (by trivial) (@a2k _ _ _ _ _ _ _ _ _ _ _ _ PySem.F.plainAttrs_str PySem.F.slot_str_partition PySem.F.type_str_partition a2P (@a0M _ _ _ _ _ _ _ _ _ _ a1v ‹0› (@a0P _ _ _ (@a0r _ _ _ _ _ _ _ _ _ a0H rfl T.z_len a0I (@a0b _ _ _ _ _ ‹1› (@a0e _) (by rfl)) (by decide) (by decide) (by rfl) (by rfl))) (@a1k _)) (@a0b _ _ _ _ _ (@a0n _ _ _ _) (@a0e _) (by rfl)) (by rfl) (by rfl) (by rfl) (by rfl) (by rfl)) (by rfl) (by trivial)) (@a0O _ _ _ _ _ (@a0D _ _ (3) _ _ _ _ a8G.nd rfl (by trivial) (@a3a _ _ _ _ _ _ _ _ (@a0s _ _ _ _ _ _ _ _ (a1C hr.units) (@a1i _ _ _ _ _ _ _ a0J ‹2› (@a0g _ _ _ _) (fun _ _=>rfl)) (@a0n _ _ _ _) (a0C _)) (@a0m _ _ _ _ _ _ _ _ _ _ _ _ _ _ _ _ (b5V T) (hr.mono (by decide)) rfl T.g_z0o T.F_z0o.kp T.b_z0o .nil a0z (@a0b _ _ _ _ _ (@a1i _ _ _ _ _ _ _ a0J ‹2› (@a0g _ _ _ _) (fun _ _=>rfl)) (@a0e _) (by rfl)) (by decide) (by rfl) (by rfl)) (@a5c _ _ _ _ _ (@a0e _))) (by rfl) (by trivial)) (@a0O _ _ _ _ _ (@a0V _ _ _ _ _ _ _ _ (@PW.pt _ _ _ (@a2I _ _ _ _ _ _ _ (@a0s _ _ _ _ _ _ _ _ a8a ‹3› (@a1p _ _ _) (a0C _)) (@a2G _ _ _ _ (@a1X _ _ _ _ (@a1j _ _ _ (@a0m _ _ _ _ _ _ _ _ _ _ _ _ _ _ _ _ (b3S T) (hr.mono (by decide)) rfl T.g_z18 T.F_z18.kp T.b_z18 .nil a0z (@a0b _ _ _ _ _ (@a1i _ _ _ _ _ _ _ a0J ‹2› (@a0g _ _ _ _) (fun _ _=>rfl)) (@a0e _) (by rfl)) (by decide) (by rfl) (by rfl)) (by intro _;rfl)))))) (@a0f _ _ _ (@a6o _ _ _ _ _ b1H rfl (@a6h _ _ _ _ _ _ _ _ _ _ _ _ _ _ _ _ _ T.x_NoStatement.mx (b4p T) (hr.mono (by decide)) rfl T.g_NoStatement T.b_z00 .nil a0z (@a0b _ _ _ _ _ ‹0› (@a0e _) (by rfl)) (by decide) (by rfl) (by rfl)))) (@a0u _)) (@a0f _ _ _ (@a0p _ _ _ _ (@a5c _ _ _ _ _ (@a0b _ _ _ _ _ ‹1› (@a0b _ _ _ _ _ (@a1i _ _ _ _ _ _ _ a0J ‹2› (@a0g _ _ _ _) (fun _ _=>rfl)) (@a0b _ _ _ _ _ ‹3› (@a0e _) (by rfl)) (by rfl)) (by rfl)))))))))),?_⟩
  rw [show a0N b6f [v]=[some (v),none,none,none] from rfl]
  have hx:=T.x_NoStatement.c
  rcases hv with ⟨l,rfl,hl,rfl⟩ | ⟨rfl,hN⟩
  rotate_left
  ·try simp only [a2D,a2e,a6l,tB,tCB,a0x,a0L,List.getElem?_cons_zero,tC,a0W,Bool.not_eq_true',a0Y,a0j]
   refine a6M hN ?_
   try simp only [a1b,if_true]
   exact a3Z hx (fun R r=>⟨_,rfl,r⟩) fun x d T H' n=>qx rfl x d T H' n
  have hsd:=b6K l
  have hrs:=b3G l
  try simp only [a2D,a2e,a6l,tB,tCB,a0x,a0L,List.getElem?_cons_zero,tC,a0W,Bool.not_eq_true',a0Y,a0j,a1S,a1b,a4b]
  refine ⟨fun σ' H'=>σ'=[some (sv l),some (sv (sdL l)),none,none]∧H=H',?_,?_⟩
  ·try simp only [a2u,tIf,tB,tBM,a0L,List.getElem?_cons_zero,a0x,tC,a0W,a0T,List.set_cons_succ,List.set_cons_zero,a0j,a5L,a1b,a1G]
   rw [show ("-":Str)=mk [45] by decide+kernel,a5T]
   refine a1L (fun c=>?_) (fun c=>?_)
   ·have c':l[0]?=some 45:=by simpa using c
    exact ⟨by rw [show sdL l=[45] from if_pos c'],(by trivial)⟩
   ·have c':¬l[0]?=some 45:=by simpa using c
    exact ⟨by rw [show sdL l=[] from if_neg c'];rfl,(by trivial)⟩
  rintro σ' H' ⟨rfl,rfl⟩
  try simp only [a2D,a2u,tBM,tSl,a0L,List.getElem?_cons_zero,a3g,tCB,a0x,List.getElem?_cons_succ,a0W,a1N,tC,a0T,List.set_cons_succ,List.set_cons_zero,a0j,a1V,a3x,a1E,a6m,a1G]
  rw [show ("(":Str)=mk [40] by decide+kernel,a4N _ (by omega) (by rw [a0i];omega)]
  rw [show List.drop (Int.toNat ((mk (sdL l)).length:Int)) l=rsL l by rw [a0i,Int.toNat_natCast];exact b1S l]
  refine ⟨a0k (by rw [a0i];omega),a0k (by rw [a0i];omega),rfl,a0k (by rw [a0i];omega),fun p hp=>?_⟩
  have hread:a1B l=(a6A (rsL l)).map fun p=>(sdL l,p.1,p.2):=rfl
  generalize rsL l=rs at hrs hread ⊢
  obtain ⟨x1,x2,hpart,hcase⟩:∃x1 x2:Str,Txt.partition (mk rs) (mk [40])=(mk (a5E rs),x1,x2)∧((x1≠mk [40]∧a8i rs=some [])∨∃b,x1=mk [40]∧x2=mk b∧b.length≤rs.length∧a8i rs=a3q b):=by
   rcases a9O 40 rs with ⟨h,e⟩ | ⟨a,b,rfl,h,e⟩
   ·exact ⟨_,_,by rw [e,a5s h],.inl ⟨by decide+kernel,a5w h⟩⟩
   ·exact ⟨_,_,by rw [e,a3l h],.inr ⟨b,rfl,rfl,by simp;omega,a5k h⟩⟩
  rw [hpart]
  obtain ⟨H1,e1,s1,hc1⟩:=a2t hp (.tup [.str (mk (a5E rs)),.str x1,.str x2]);rw [e1]
  refine ⟨fun σ' H'=>∃v3,σ'=[some (sv l),some (sv (sdL l)),some (.ref p),some v3]∧a0A H1 H'∧((v3=.non∧a8i rs=none)∨∃tt ps,v3=.ref tt∧a8i rs=some ps∧H' tt=some (.tup (pv' ps))),?_,?_⟩
  ·try simp only [a2u,tIf,a1c,tOp,a0L,List.getElem?_cons_succ,List.getElem?_cons_zero,tC,a0R,a0x,a0W,List.append_nil,a0T,List.set_cons_succ,List.set_cons_zero,a0j,b2n]
   refine a1g (SqT.of hc1) (v:=.str x1) rfl ?_
   try simp only [a2m,a1b,decide_eq_true_eq]
   rcases hcase with ⟨hx1,hcp⟩ | ⟨b,rfl,rfl,hbl,hcp⟩
   ·rw [if_neg hx1]
    refine ⟨by decide,fun tt ht=>⟨_,(by trivial),a0A.upd ht,.inr ⟨tt,[],rfl,hcp,a0v⟩⟩⟩
   ·rw [if_pos rfl]
    refine a1g (SqT.of hc1) (v:=.str (mk b)) rfl ?_
    exact ⟨b,rfl,by omega,fun hn H' s=>⟨_,(by trivial),s,.inl ⟨rfl,by rw [hcp];exact hn⟩⟩,fun ps tt H' hr s ht=>⟨_,(by trivial),s,.inr ⟨tt,ps,rfl,by rw [hcp];exact hr,ht⟩⟩⟩
  rintro σ' H2 ⟨v3,rfl,s2,hv3⟩
  have hnl:(a5E rs).length≤1000:=Nat.le_trans ((List.takeWhile_prefix _).length_le) (by omega)
  refine ⟨fun σ' H'=>∃tt ps,σ'=[some (sv l),some (sv (sdL l)),some (.ref p),some (.ref tt)]∧a0A H2 H'∧b0g (a5E rs)=true∧a8i rs=some ps∧H2 tt=some (.tup (pv' ps)),?_,?_⟩
  ·try simp only [a2e,tOr,a1c,tOp,a0L,List.getElem?_cons_succ,List.getElem?_cons_zero,tC,a0Y,if_true,a6l,tB,a0R,a0x,a0W,List.append_nil,Bool.not_eq_true',a0j]
   rcases hv3 with ⟨rfl,hcp⟩ | ⟨tt,ps,rfl,hcp,htt⟩
   ·try simp only [a3R,a1b,if_true]
    refine a3Z hx (fun R r=>⟨_,rfl,r⟩) fun x d T H' n=>qx ?_ x d T H' (n.mono (s1.trans s2))
    rw [hread];unfold a6A;rw [hcp];split<;>rfl
   ·try simp only [a3C,a1b,a1U]
    refine a1g (SqT.of (s2 _ _ hc1)) (v:=sv (a5E rs)) rfl ?_
    try simp only [a8s,a1b]
    refine ⟨by rw [a0i];omega,fun H3 s3=>?_⟩
    rw [b1m]
    try skip
    refine a1L (fun c=>?_) (fun c=>?_)
    ·refine a3Z hx (fun R r=>⟨_,rfl,r⟩) fun x d T H' n=>qx ?_ x d T H' (n.mono ((s1.trans s2).trans s3))
     rw [hread];unfold a6A;rw [if_neg (by simpa using c)];rfl
    ·exact ⟨tt,ps,(by trivial),s3,by simpa using c,hcp,htt⟩
  rintro σ' H3 ⟨tt,ps,rfl,s3,hw,hcp,htt⟩
  try simp only [a1q,b2n,a0x,a0L,List.getElem?_cons_succ,List.getElem?_cons_zero,tOp,tC,a0W,a0j]
  refine a1g (SqT.of (s3 _ _ (s2 _ _ hc1))) (v:=sv (a5E rs)) rfl ?_
  try skip
  refine ⟨by simp only [List.length_cons,List.length_nil];decide,fun p5 hp5=>?_⟩
  obtain ⟨H5,e5,s5,h5⟩:=a2t hp5 (.tup [sv (sdL l),sv (a5E rs),V.ref tt]);rw [e5]
  exact q _ _ _ (by rw [hread];unfold a6A;rw [if_pos hw,hcp];rfl) p5 H5 (((s1.trans s2).trans s3).trans s5) ⟨tt,h5,s5 _ _ (s3 _ _ htt)⟩
theorem b3L (T:Txt K mg t):a1y P w K mg base CX0 5 t.f_z03 t.fd_z03 ["thing"] b3I:=by
 refine T.F_z03.ok b8z (fun vs H Q E h=>?_) (fun cdv A outer s H vs Q E hr h=>?_)
 ·obtain ⟨l,rfl,hl,q⟩:=h;rfl
 ·obtain ⟨l,rfl,hl,q⟩:=h
  refine ⟨_,(@a0O _ _ _ _ _ (@b5t _ _ _ _ _ _ _ _ _ _ _ _ _ rfl rfl (@b1g _ _ _ _ (@a9p _ _ _ _ _ _ _ _ _ _ _ _ _ _ (b3x T) (hr.mono (by decide)) rfl T.g_z10 T.F_z10.kp T.b_z10 .nil (fun _=>(@a0b _ _ _ _ _ ‹0› (@a0e _) (by rfl))) (by decide) (by rfl) (by rfl)) (by rfl)) rfl T.g_NoStatement T.xc_NoStatement (fun _=>(@a0f _ _ _ (@a0p _ _ _ _ (@a5f _ _ _ _)))) (by decide)) (@a0f _ _ _ (@a0p _ _ _ _ (@a5f _ _ _ _)))),?_⟩
  rw [show a0N b7R [sv l]=[some (sv l)] from rfl]
  try simp only []
  refine ⟨fun σ' H'=>σ'=[some (sv l)]∧a0A H H'∧(a1B l).isSome=true,?_,?_⟩
  ·try simp only [b6y,b5z,b4I,a0x,a0L,List.getElem?_cons_zero,a0W,List.append_nil,a1q,tC,a0j]
   refine ⟨sv l,a1B l,rfl,.inl ⟨l,rfl,hl,rfl⟩,fun sd nm ps e p H2 s2 h3=>?_,fun e x d T1 H2 n=>?_⟩
   ·exact ⟨(by trivial),s2,by rw [e];rfl⟩
   ·intro x' C' ex eC
    cases ex;cases eC
    refine ⟨T.xm_NoStatement_NoStatement,some d,some T1,.inr ⟨T1,rfl,n.fl⟩,fun H3 T3 b3 f3=>?_⟩
    obtain ⟨s3,_⟩:=n.caught b3 f3
    have:=q H3 s3
    rw [e] at this
    exact this
  rintro σ' H2 ⟨rfl,s2,e⟩
  try simp only [a1q,tC]
  have:=q H2 s2
  rw [e] at this
  exact this
theorem b3P (T:Txt K mg t):a1y P w K mg base CX0 5 t.f_z0g t.fd_z0g ["statement"] a7K:=by
 refine T.F_z0g.ok b2a (fun vs H Q E h=>?_) (fun cdv A outer s H vs Q E hr h=>?_)
 ·obtain ⟨sd,nm,ps,rfl,hS,q⟩:=h;rfl
 ·obtain ⟨sd,nm,ps,rfl,hS,q⟩:=h
  refine ⟨_,(@a0h _ _ _ _ _ (@a0D _ _ (1) _ _ _ _ b2a.nd rfl (by trivial) (@a1z _ _ _ _ (@a0e _)) (by rfl) (by trivial)) (@a0h _ _ _ _ _ (@a5o _ _ _ _ _ _ _ _ PassesOwn.never rfl (@b3D _ _ _ _ (@a1i _ _ _ _ _ _ _ a0J (@a0m _ _ _ _ _ _ _ _ _ _ _ _ _ _ _ _ (b3x T) (hr.mono (by decide)) rfl T.g_z10 T.F_z10.kp T.b_z10 .nil b0P (@a0b _ _ _ _ _ ‹0› (@a0e _) (by rfl)) (by decide) (by rfl) (by rfl)) (@a0g _ _ _ _) (fun _ _=>rfl))) (@a1w _ _ (2) _ b2a.nd rfl (by trivial) (by trivial)) (@a0f _ _ _ (@a0V _ _ _ _ _ _ _ _ (@PW.pt _ _ _ (@a5O _ _ _ _ _ _ _ (@a1j _ _ _ (@a0m _ _ _ _ _ _ _ _ _ _ _ _ _ _ _ _ (b4k T) (hr.mono (by decide)) rfl T.g_z0n T.F_z0n.kp T.b_z0n .nil a0z (@a0b _ _ _ _ _ ‹2› (@a0e _) (by rfl)) (by decide) (by rfl) (by rfl)) (by intro _;rfl)) (@a4T _ _ _ _ (@a0s _ _ _ _ _ _ _ _ a4l ‹2› ‹1› (by with_unfolding_all rfl))))) (@a0f _ _ _ (@a4Q _ _ _ _ (@a2k _ _ _ _ _ _ _ _ _ _ _ _ PySem.F.plainAttrs_list PySem.F.slot_list_append PySem.F.type_list_append a2N ‹1› (@a0b _ _ _ _ _ ‹2› (@a0e _) (by rfl)) (by rfl) (by rfl) (by rfl) (by rfl) (by rfl)) (by rfl))) (@a0u _))) (by intro _;rfl)) (@a0f _ _ _ (@a0p _ _ _ _ ‹1›)))),?_⟩
  rw [show a0N b8r [sv (a0S sd nm ps)]=[some (sv (a0S sd nm ps)),none,none] from rfl]
  try simp only [a2D,a2u,a6Y,a0W,a0T,List.set_cons_succ,List.set_cons_zero,a3o,c3t,tOp,a0R,a0x,a0L,List.getElem?_cons_zero,List.append_nil,tC,a0j]
  refine ⟨by decide,fun D hD=>?_⟩
  obtain ⟨H1,e1,s1,h1⟩:=a2t hD (.lst []);rw [e1]
  refine ⟨_,some (sd,nm,ps),rfl,.inl ⟨_,rfl,by have:=a9x hS;omega,(a2W hS).symm⟩,fun sd' nm' ps' e p H2 s2 h2=>?_,fun e=>by cases e⟩
  cases e
  obtain ⟨t,ht1,ht2⟩:=h2
  refine a1g (SqT.of ht1) (v:=.ref t) rfl ?_
  try simp only [a8B]
  refine ⟨⟨_,SqT.of ht2⟩,?_⟩
  refine b1a (K:=K) (a:=t) (xs:=pv' ps) (fun i σ H'=>∃(x:Option V),σ=[some (sv (a0S sd nm ps)),some (V.ref D),x]∧a0A H H'∧H' t=some (.tup (pv' ps))∧H' D=some (.lst (pv' ((ps.take i).foldl a1T []))))
   ⟨_,rfl,s1.trans s2,ht2,s2 _ _ h1⟩ (fun i σ H' _ ⟨_,_,_,h,_⟩=>SqT.of h) ?_ ?_
  ·rintro i v σ H3 hi ⟨x,rfl,s3,ht3,hD3⟩
   have hil:i < ps.length:=by simpa using (List.getElem?_eq_some_iff.mp hi).1
   have ev:v=sv ps[i]:=by
    rw [List.getElem?_map,List.getElem?_eq_getElem hil] at hi
    exact (Option.some.inj hi).symm
   subst ev
   have hp:=hS.places ps[i] (List.getElem_mem hil)
   have hpl:=hp.len
   have etake:(ps.take (i+1)).foldl a1T []=a1T ((ps.take i).foldl a1T []) ps[i]:=by
    rw [List.take_succ_eq_append_getElem hil,List.foldl_append];rfl
   generalize hacc:(ps.take i).foldl a1T []=acc at hD3 etake
   have hal:acc.length≤2:=by
    rw [←hacc]
    have h0:=a8E (ps.take i)
    have h1:(ps.take i).length≤ps.length:=List.length_take_le' _ _
    have h2:=hS.many
    exact Nat.le_trans h0 (by omega)
   rw [etake]
   try simp only [a0T,a2e,b4s,tB,a0R,a0x,a0L,List.set_cons_succ,List.set_cons_zero,List.getElem?_cons_succ,List.getElem?_cons_zero,a0W,List.append_nil,a1c,tOp,a7U,tBM,a0j,a0Y,a1U,a8s,a1b]
   refine ⟨by rw [a0i];omega,fun H4 s4=>?_⟩
   try skip
   refine a1L (fun c=>?_) (fun c=>?_)
   ·refine .inr ⟨D,_,rfl,.inl (SqL.of (s4 _ _ hD3)),rfl,a8x _,?_⟩
    try simp only [if_true,a1b,Bool.not_eq_true']
    refine a1L (fun c2=>?_) (fun c2=>?_)
    ·refine ⟨.inl ⟨rfl,_,SqL.of (s4 _ _ hD3)⟩,D,_,_,rfl,rfl,s4 _ _ hD3,Nat.lt_of_le_of_lt (show _≤1000 by simp;omega) (by decide),_,rfl,?_,?_,?_⟩
     ·intro b o e
      have hb:b≠D:=a0y e hD
      rw [a0w hb];exact s4 _ _ (s3 b o e)
     ·have hb:t≠D:=b0D ht3 hD3 (by intro z;cases z)
      rw [a0w hb];exact s4 _ _ ht3
     ·rw [a0v]
      have c2':inV (sv ps[i]) (pv' acc)=false:=by simpa using c2
      have e:a1T acc ps[i]=acc++[ps[i]]:=if_pos ⟨c,c2'⟩
      rw [e];simp
    ·have c2':¬inV (sv ps[i]) (pv' acc)=false:=by simpa using c2
     have e:a1T acc ps[i]=acc:=if_neg fun z=>c2' z.2
     rw [e]
     exact ⟨_,rfl,s3.trans s4,s4 _ _ ht3,s4 _ _ hD3⟩
   ·have e:a1T acc ps[i]=acc:=if_neg fun z=>c z.1
    rw [e]
    exact ⟨_,rfl,s3.trans s4,s4 _ _ ht3,s4 _ _ hD3⟩
  ·rintro σ H3 ⟨x,rfl,s3,ht3,hD3⟩
   try simp only [a1q,a0L,List.getElem?_cons_succ,List.getElem?_cons_zero,a0j]
   refine q D H3 s3 hD ?_
   rw [show (pv' ps).length=ps.length by simp,List.take_length] at hD3
   exact hD3
theorem b8b (T:Txt K mg t):a1y P w K mg base CX0 6 t.f_z01 t.fd_z01 ["thing"] c8p:=by
 refine T.F_z01.ok b8j (fun vs H Q E h=>?_) (fun cdv A outer s H vs Q E hr h=>?_)
 ·obtain ⟨l,rfl,hl,q⟩:=h;rfl
 ·obtain ⟨l,rfl,hl,q⟩:=h
  refine ⟨_,(@a0f _ _ _ (@a0p _ _ _ _ (@a7d _ _ _ _ _ _ _ (@a0m _ _ _ _ _ _ _ _ _ _ _ _ _ _ _ _ (b3L T) (hr.mono (by decide)) rfl T.g_z03 T.F_z03.kp T.b_z03 .nil a0z (@a0b _ _ _ _ _ ‹0› (@a0e _) (by rfl)) (by decide) (by rfl) (by rfl)) (@a7J _ _ _ _ _ (@a2X _ _ _ _ _ _ _ _ (b3K hr.units) (@a0m _ _ _ _ _ _ _ _ _ _ _ _ _ _ _ _ (b3P T) (hr.mono (by decide)) rfl T.g_z0g T.F_z0g.kp T.b_z0g .nil a0z (@a0b _ _ _ _ _ ‹0› (@a0e _) (by rfl)) (by decide) (by rfl) (by rfl)) (@a1z _ _ _ _ (@a0e _)) (a0C _)))))),?_⟩
  rw [show a0N b7g [sv l]=[some (sv l)] from rfl]
  try simp only [a1q,b1T,a0R,a0x,a0L,List.getElem?_cons_zero,a0W,List.append_nil,tOp,a6Y,a0j]
  refine ⟨l,rfl,hl,fun H1 s1=>?_⟩
  cases e:a1B l with
  | none=>
   try simp only [a1b]
   have:=q H1 s1
   rw [show wrB l=false by unfold wrB;rw [e]] at this
   exact this
  | some s=>
   obtain ⟨sd,nm,ps⟩:=s
   have el:=a2y e
   have hS:=a2v e
   subst el
   try simp only [a1b]
   refine ⟨sd,nm,ps,rfl,hS,fun D H2 s2 hD h2=>?_⟩
   refine ⟨by decide,fun D2 hD2=>?_⟩
   obtain ⟨H3,e3,s3,h3⟩:=a2t hD2 (.lst []);rw [e3]
   refine ⟨D,D2,_,rfl,rfl,SqL.of (s3 _ _ h2),SqL.of h3,?_⟩
   have:=q H3 (s1.trans (s2.trans s3))
   rw [show wrB (a0S sd nm ps)=decide (pv' (a2C ps)=[]) by unfold wrB;rw [e];exact decide_eq_decide.mpr (by simp)] at this
   exact this
theorem b6k (T:Txt K mg t):a1y P w K mg base CX0 7 t.f_z19 t.fd_z19 ["row"] (b2Q t):=by
 refine T.F_z19.ok b3Y (fun vs H Q E h=>?_) (fun cdv A outer s H vs Q E hr h=>?_)
 ·obtain ⟨l,rfl,h5,hl,qn,qs⟩:=h;rfl
 ·obtain ⟨l,rfl,h5,hl,qn,qs⟩:=h
  obtain ⟨_,k_FACT⟩:=T.k_FACT
  refine ⟨_,(@a0h _ _ _ _ _ (@a0D _ _ (1) _ _ _ _ b3Y.nd rfl (by trivial) (@a0M _ _ _ _ _ _ _ _ _ _ a1v ‹0› (@a0P _ _ _ (@a0r _ _ _ _ _ _ _ _ _ a0H rfl T.z_len a0I (@a0b _ _ _ _ _ (@a1x _ _ (.str "fact ") _ _ rfl k_FACT ⟨_,rfl⟩ (by decide)) (@a0e _) (by rfl)) (by decide) (by decide) (by rfl) (by rfl))) (@a1k _)) (by rfl) (by trivial)) (@a0f _ _ _ (@a0p _ _ _ _ (@a3a _ _ _ _ _ _ _ _ (@a1j _ _ _ (@a0m _ _ _ _ _ _ _ _ _ _ _ _ _ _ _ _ (b8b T) (hr.mono (by decide)) rfl T.g_z01 T.F_z01.kp T.b_z01 .nil a0z (@a0b _ _ _ _ _ ‹1› (@a0e _) (by rfl)) (by decide) (by rfl) (by rfl)) (by intro _;rfl)) (@a6g _ _ _ _ _ _ _ _ _ _ _ _ _ _ _ _ _ T.mk_Fact (b8n T) (hr.mono (by decide)) rfl T.g_Fact T.b_z0r .nil a0z (@a0b _ _ _ _ _ ‹1› (@a0e _) (by rfl)) (by decide) (by rfl) (by rfl)) (@a1p _ _ _))))),?_⟩
  rw [show a0N b7b [sv l]=[some (sv l),none] from rfl]
  try simp only [a2D,a2u,tSl,a0L,List.getElem?_cons_zero,a3g,tCB,a0x,tC,a0W,a1N,a0T,a1q,tIf,tB,a0R,List.set_cons_succ,List.set_cons_zero,List.getElem?_cons_succ,List.append_nil,b4R,a0j,a1V,a3x,a1E]
  rw [show ((("fact ":Str).length:Nat):Int)=5 by decide+kernel,a4N l (by decide) (by omega)]
  refine ⟨by decide+kernel,a0k (by rw [a0i];omega),?_⟩
  rw [show Int.toNat 5=5 from rfl]
  refine ⟨l.drop 5,rfl,by simp;omega,fun H1 s1=>?_⟩
  try simp only [a1b]
  refine a1L (fun c=>?_) (fun c=>?_)
  ·cases e:a1B (l.drop 5) with
   | none=>unfold wrB at c;rw [e] at c;cases c
   | some s=>
    obtain ⟨sd,nm,ps⟩:=s
    have el:=a2y e
    have hS:=a2v e
    have hlet:a2C ps=[]:=by unfold wrB at c;rw [e] at c;simpa using c
    intro x dx nx ndx ne
    obtain ⟨s,hx⟩:(a0A H1 (upd (upd H1 dx (.own x)) x (.ins t.C_Fact dx [])))∧(upd (upd H1 dx (.own x)) x (.ins t.C_Fact dx [])) x=some (.ins t.C_Fact dx []):=
     ⟨fun c o e=>by rw [a0w (a0y e nx),a0w (a0y e ndx)];exact e,a0v⟩
    refine ⟨x,dx,_,rfl,hx,fun H' k r=>⟨rfl,qs x (sd,nm,ps) H' hS el hlet (s1.trans fun c o e=>k c o (s _ _ e) (a0y e nx)) ?_⟩⟩
    rw [el] at r
    exact r
  ·exact qn (by simpa using c) _ s1
theorem a8H (T:Txt K mg t):a1y P w K mg base CX0 6 t.f_z05 t.fd_z05 ["self"] (b0h K):=by
 refine T.F_z05.ok b1J (fun vs H Q E h=>?_) (fun cdv A outer s H vs Q E hr h=>?_)
 ·obtain ⟨r,C,lb,s0,ss,rfl,hR,hC,hs0,hss,hl,q⟩:=h;rfl
 ·obtain ⟨r,C,lb,s0,ss,rfl,hR,hC,hs0,hss,hl,q⟩:=h
  refine ⟨_,(@a0h _ _ _ _ _ (@a0D _ _ (1) _ _ _ _ b1J.nd rfl (by trivial) (@a1z _ _ _ _ (@a0e _)) (by rfl) (by trivial)) (@a0h _ _ _ _ _ (@a5o _ _ _ _ _ _ _ _ PassesOwn.never rfl (@b3D _ _ _ _ (@a0B _ _ _ _ _ _ _ _ a0E (@a5c _ _ _ _ _ (@a0b _ _ _ _ _ (@a2R _ _ _ _ _ ‹0› rfl) (@a0e _) (by rfl))) (@a2R _ _ _ _ _ ‹0› rfl))) (@a1w _ _ (2) _ b1J.nd rfl (by trivial) (by trivial)) (@a0f _ _ _ (@a4Q _ _ _ _ (@a2k _ _ _ _ _ _ _ _ _ _ _ _ PySem.F.plainAttrs_list PySem.F.slot_list_extend PySem.F.type_list_extend b0K ‹1› (@a0b _ _ _ _ _ (@a3w _ _ _ _ _ _ _ _ _ _ _ _ _ (@a1M _ (a0a a3y) (b5D) (["letter","told"]) ([none,some 1]) _ rfl rfl (by decide+kernel)) rfl (@a2U _ _ _ _ (@a0m _ _ _ _ _ _ _ _ _ _ _ _ _ _ _ _ (b3P T) (hr.mono (by decide)) rfl T.g_z0g T.F_z0g.kp T.b_z0g .nil a0z (@a0b _ _ _ _ _ ‹2› (@a0e _) (by rfl)) (by decide) (by rfl) (by rfl))) (fun _ _ _ _ _=>(@a1w _ _ (0) _ (show List.Nodup (["letter","told"]:List Str) by decide+kernel) rfl (by trivial) (by trivial))) (fun _ _ _ _ _=>@a8y _ _ _ (@a0s _ _ _ _ _ _ _ _ (b0p (K:=K) rfl) ‹0› ‹1› (by with_unfolding_all rfl))) (fun _ _ _ _ _=>‹0›) (by intro _;rfl)) (@a0e _) (by rfl)) (by rfl) (by rfl) (by rfl) (by rfl) (by rfl)) (by rfl))) (by intro _;rfl)) (@a0f _ _ _ (@a0p _ _ _ _ ‹1›)))),?_⟩
  rw [show a0N b5D [V.ref r]=[some (V.ref r),none,none] from rfl]
  obtain ⟨cl,n2,n3⟩:=hC
  obtain ⟨dx,t0,hr1,ht0⟩:=hR
  try simp only [a2D,a2u,a6Y,a0W,a0T,List.set_cons_succ,List.set_cons_zero,a3o,c3t,tOp,b2n,a0x,b3W,a0L,List.getElem?_cons_zero,a0j]
  refine ⟨by decide,fun D hD=>?_⟩
  obtain ⟨H1,e1,s1,h1⟩:=a2t hD (.lst []);rw [e1]
  refine ⟨r,C,dx,_,_,rfl,s1 _ _ hr1,cl,n2,a4c _ _ _,?_⟩
  refine ⟨by simp only [List.length_cons,List.length_nil];decide,fun p2 hp2=>?_⟩
  obtain ⟨H2,e2,s2,h2⟩:=a2t hp2 (.tup [sv (stat s0)]);rw [e2]
  refine ⟨r,C,dx,_,_,rfl,s2 _ _ (s1 _ _ hr1),cl,n3,a2Y _ _ _,?_⟩
  have ht2:=s2 _ _ (s1 _ _ ht0)
  have s12:=s1.trans s2
  have hD2:=s2 _ _ h1
  -- the walk,whichever tuple it is over
  have go:∀(a:Addr) (H3:Hp),a0A H H3→H3 D=some (.lst [])→H3 a=some (.tup (tv (s0::ss)))→c7r (Itt K a) (a0T 2) (a7U (tBM K "list" b1M (a0L 1) (a0x (b3a [none,some 1] (a5F K (a0R a7K [] E0 (a0x (a0L 2) a0W))) (a0T 0) (a1c (tOp (a8t K) (a0L 0) (a0L 1))) (a0L 0)) a0W)))
    {nx:=a1q (a0L 1) {nx:=fun _ H'=>Q .non H',rt:=Q},rt:=Q} [some (V.ref r),some (V.ref D),none] H3:=by
   intro a H3 s3 hD3 ha3
   refine b1a (K:=K) (a:=a) (xs:=tv (s0::ss)) (fun i σ H'=>∃(x:Option V),σ=[some (V.ref r),some (V.ref D),x]∧a0A H H'∧H' a=some (.tup (tv (s0::ss)))∧H' D=some (.lst (pv' (a5D ((s0::ss).take i)))))
    ⟨_,rfl,s3,ha3,hD3⟩ (fun i σ H' _ ⟨_,_,_,h,_⟩=>SqT.of h) ?_ ?_
   ·rintro i v σ H4 hi ⟨x,rfl,s4,ha4,hD4⟩
    have hil:i < (s0::ss).length:=by
     have:=(List.getElem?_eq_some_iff.mp hi).1
     rw [List.length_map] at this;exact this
    have hT:IsT (s0::ss)[i]:=by
     rcases List.mem_cons.mp (List.getElem_mem hil) with z | z
     ·rw [z];exact hs0
     ·exact hss _ z
    have ev:v=sv (stat (s0::ss)[i]):=by
     rw [List.getElem?_map,List.getElem?_eq_getElem hil] at hi
     exact (Option.some.inj hi).symm
    subst ev
    have etake:a5D ((s0::ss).take (i+1))=a5C (a5D ((s0::ss).take i)) (s0::ss)[i].2.2:=by
     rw [List.take_succ_eq_append_getElem hil,a6W]
    have hal:=b1X _ ((s0::ss).take i) rfl fun s hs=>by
     rcases List.mem_cons.mp (List.mem_of_mem_take hs) with z | z
     ·rw [z];exact hs0
     ·exact hss _ z
    have hal1:(a5D ((s0::ss).take i)).length≤1000:=by
     have:((s0::ss).take i).length≤(s0::ss).length:=List.length_take_le' _ _
     simp only [List.length_cons] at this
     omega
    rw [etake]
    generalize a5D ((s0::ss).take i)=acc at hD4 hal hal1
    generalize (s0::ss)[i]=s at hT ⊢
    try simp only [a0T,a7U,tBM,a0L,List.set_cons_succ,List.set_cons_zero,List.getElem?_cons_succ,List.getElem?_cons_zero,a0x,a0W,a1Z,a5F,a0R,List.append_nil,a0j]
    refine ⟨.inl ⟨rfl,_,SqL.of hD4⟩,s.1,s.2.1,s.2.2,rfl,hT,fun F H5 s5 hFn hF5=>?_⟩
    try simp only [a8B]
    refine ⟨⟨_,SqL.of hF5⟩,?_⟩
    have hD5:=s5 _ _ hD4
    have hll:=a8E s.2.2
    have hmany:=hT.many
    refine b1e (a3M (xs:=pv' (a2C s.2.2))) (Nat.le_trans (show (pv' (a2C s.2.2)).length≤1000 by rw [List.length_map];omega) (by decide)) [some (V.ref D)] rfl
     (fun i=>decide ((a2C s.2.2).getD i []∉acc)) (fun i=>sv ((a2C s.2.2).getD i [])) (fun H' s'=>SqL.of (s' _ _ hF5)) (fun i H' R hi s' hR=>?_) (fun i H' R hi s' hR=>?_) (fun G H6 hGn s6 hG6=>?_)
    ·have hi':i < (a2C s.2.2).length:=by simpa using hi
     have e2:((pv' (a2C s.2.2))[i]?).getD .non=sv ((a2C s.2.2).getD i []):=by
      rw [List.getElem?_map,List.getElem?_eq_getElem hi',List.getD_eq_getElem?_getD,List.getElem?_eq_getElem hi'];rfl
     rw [e2]
     try simp only [a1c,tOp,a0L,List.getElem?_cons_zero,List.getElem?_cons_succ,a0j]
     refine .inr ⟨D,_,rfl,.inl (SqL.of (s' _ _ hD5)),rfl,a8x _,?_⟩
     try simp only [if_true,a1b]
     have e3:(!inV (sv ((a2C s.2.2).getD i [])) (pv' acc))=decide ((a2C s.2.2).getD i []∉acc):=by
      rw [a6X];by_cases z:(a2C s.2.2).getD i []∈acc<;>simp [z]
     try rw [if_true]
     rw [e3]
     exact hR _ (a0A.refl _)
    ·have hi':i < (a2C s.2.2).length:=by simpa using hi
     have e2:((pv' (a2C s.2.2))[i]?).getD .non=sv ((a2C s.2.2).getD i []):=by
      rw [List.getElem?_map,List.getElem?_eq_getElem hi',List.getD_eq_getElem?_getD,List.getElem?_eq_getElem hi'];rfl
     rw [e2]
     try simp only [a0L,List.getElem?_cons_zero,a0j]
     exact hR _ (a0A.refl _)
    have eG:((List.range (pv' (a2C s.2.2)).length).filter fun i=>decide ((a2C s.2.2).getD i []∉acc)).map (fun i=>sv ((a2C s.2.2).getD i []))=pv' ((a2C s.2.2).filter fun l=>decide (l∉acc)):=by
     have key:∀(ls:List (List Nat)),((List.range ls.length).filter fun i=>decide (ls.getD i []∉acc)).map (fun i=>sv (ls.getD i []))=pv' (ls.filter fun l=>decide (l∉acc)):=by
      intro ls
      have e1:(List.range ls.length).map (fun i=>ls.getD i [])=ls:=by
       refine List.ext_getElem (by simp) fun i h1 h2=>?_
       rw [List.getElem_map,List.getElem_range,List.getD_eq_getElem?_getD,List.getElem?_eq_getElem h2];rfl
      conv=>rhs;rw [←e1,List.filter_map]
      show _=List.map (fun l=>V.str (mk l)) (List.map _ _)
      rw [List.map_map]
      rfl
     rw [List.length_map];exact key _
    rw [eG] at hG6
    refine ⟨D,G,_,_,rfl,rfl,s6 _ _ hD5,hG6,?_,_,rfl,?_,?_,?_⟩
    ·refine Nat.le_trans (show _≤1100 from ?_) (by decide)
     rw [List.length_map,List.length_map]
     have:=List.length_filter_le (fun l=>decide (l∉acc)) (a2C s.2.2)
     omega
    ·intro b o e
     rw [a0w (a0y e hD)];exact s6 _ _ (s5 _ _ (s4 b o e))
    ·rw [a0w (b0D ha4 hD4 (by intro z;cases z))];exact s6 _ _ (s5 _ _ ha4)
    ·rw [a0v];unfold a5C;exact congrArg (fun l=>some (HO.lst l)) List.map_append.symm
   ·rintro σ H4 ⟨x,rfl,s4,ha4,hD4⟩
    try simp only [a1q,a0L,List.getElem?_cons_succ,List.getElem?_cons_zero,a0j]
    rw [show (tv (s0::ss)).length=(s0::ss).length by rw [List.length_map],List.take_length] at hD4
    exact q D H4 s4 hD hD4
  refine .inr (.inr (.inr ⟨p2,t0,_,_,rfl,rfl,SqT.of h2,SqT.of ht2,by simp,?_,fun e=>?_,fun e p3 hp3=>?_⟩))
  ·rw [List.length_map];exact Nat.le_trans (show _≤1000 by simp;omega) (by decide)
  ·have e':ss=[]:=List.map_eq_nil_iff.mp e
   subst e'
   try simp only [a8B]
   exact ⟨⟨_,SqT.of h2⟩,go p2 H2 s12 hD2 h2⟩
  ·try simp only [List.cons_append,List.nil_append,a8B]
   refine ⟨⟨_,SqT.of a0v⟩,go p3 _ (s12.up hp3) ?_ a0v⟩
   rw [a0w (a0y hD2 hp3)];exact hD2
theorem b7G (T:Txt K mg t):a1y P w K mg base CX0 2 t.f_z0z t.fd_z0z ["thing"] (b9C K "abcdefghijklmnopqrstuvwxyz0123456789" 8):=by
 refine T.F_z0z.ok b8E (fun vs H Q E h=>?_) (fun cdv A outer s H vs Q E hr h=>?_)
 ·obtain ⟨z,rfl,hz,q⟩:=h;rfl
 ·obtain ⟨z,rfl,hz,q⟩:=h
  obtain ⟨_,k_SMALL_OR_FIGURE⟩:=T.k_SMALL_OR_FIGURE
  obtain ⟨_,k_LONGEST⟩:=T.k_LONGEST
  refine ⟨_,(@a0f _ _ _ (@a0p _ _ _ _ (@a0m _ _ _ _ _ _ _ _ _ _ _ _ _ _ _ _ (b0W T) (hr.mono (by decide)) rfl T.g_z0f T.F_z0f.kp T.b_z0f .nil a0z (@a0b _ _ _ _ _ ‹0› (@a0b _ _ _ _ _ (@a1x _ _ (.str "abcdefghijklmnopqrstuvwxyz0123456789") _ _ rfl k_SMALL_OR_FIGURE ⟨_,rfl⟩ (by decide)) (@a0b _ _ _ _ _ (@a1x _ _ (.int 8) _ _ rfl k_LONGEST ⟨_,rfl⟩ (by decide)) (@a0e _) (by rfl)) (by rfl)) (by rfl)) (by decide) (by rfl) (by rfl)))),?_⟩
  rw [show a0N b8P [V.str z]=[some (V.str z)] from rfl]
  try simp only [a1q,a0R,a0x,a0L,List.getElem?_cons_zero,tC,a0W,List.append_nil,a0j]
  exact ⟨_,_,_,rfl,z,rfl,hz,q⟩
theorem b6m (T:Txt K mg t):a1y P w K mg base CX0 4 t.f_z1n t.fd_z1n ["word","label","head","body"] (b2U K t):=by
 refine T.F_z1n.ok b5W (fun vs H Q E h=>?_) (fun cdv A outer s H vs Q E hr h=>?_)
 ·obtain ⟨w',lb,hd,b,bs,rfl,hb,qn,qs⟩:=h;rfl
 ·obtain ⟨w',lb,hd,b,bs,rfl,hb,qn,qs⟩:=h
  refine ⟨_,(@a0h _ _ _ _ _ (@a0V _ _ _ _ _ _ _ _ (@a0s _ _ _ _ _ _ _ _ (a1C hr.units) ‹0› (@a0n _ _ _ _) (a0C _)) (@a0f _ _ _ (@a0p _ _ _ _ (@a6g _ _ _ _ _ _ _ _ _ _ _ _ _ _ _ _ _ T.mk_Sure (a8Y T) (hr.mono (by decide)) rfl T.g_Sure T.b_z0p .nil a0z (@a0b _ _ _ _ _ ‹1› (@a0b _ _ _ _ _ ‹2› (@a0b _ _ _ _ _ ‹3› (@a0e _) (by rfl)) (by rfl)) (by rfl)) (by decide) (by rfl) (by rfl)))) (@a0u _)) (@a0h _ _ _ _ _ (@a0V _ _ _ _ _ _ _ _ (@a0s _ _ _ _ _ _ _ _ (a1C hr.units) ‹0› (@a0n _ _ _ _) (a0C _)) (@a0f _ _ _ (@a0p _ _ _ _ (@a6g _ _ _ _ _ _ _ _ _ _ _ _ _ _ _ _ _ T.mk_Most (a8Y T) (hr.mono (by decide)) rfl T.g_Most T.b_z0p .nil a0z (@a0b _ _ _ _ _ ‹1› (@a0b _ _ _ _ _ ‹2› (@a0b _ _ _ _ _ ‹3› (@a0e _) (by rfl)) (by rfl)) (by rfl)) (by decide) (by rfl) (by rfl)))) (@a0u _)) (@a0h _ _ _ _ _ (@a0V _ _ _ _ _ _ _ _ (@a0s _ _ _ _ _ _ _ _ (a1C hr.units) ‹0› (@a0n _ _ _ _) (a0C _)) (@a0f _ _ _ (@a0p _ _ _ _ (@a6g _ _ _ _ _ _ _ _ _ _ _ _ _ _ _ _ _ T.mk_Block (a8Y T) (hr.mono (by decide)) rfl T.g_Block T.b_z0p .nil a0z (@a0b _ _ _ _ _ ‹1› (@a0b _ _ _ _ _ ‹2› (@a0b _ _ _ _ _ ‹3› (@a0e _) (by rfl)) (by rfl)) (by rfl)) (by decide) (by rfl) (by rfl)))) (@a0u _)) (@a0f _ _ _ (@a0p _ _ _ _ (@a1p _ _ _)))))),?_⟩
  rw [show a0N b8T [sv w',lb,hd,V.ref b]=[some (sv w'),some (lb),some (hd),some (V.ref b)] from rfl]
  have hh:∀{x dx:Addr} {C:Addr},H x=none→H dx=none→dx≠x→(a0A H (upd (upd H dx (.own x)) x (.ins C dx [])))∧(upd (upd H dx (.own x)) x (.ins C dx [])) x=some (.ins C dx []):=fun {x dx C} h1 h2 h3=>
   ⟨fun c o e=>by rw [a0w (a0y e h1),a0w (a0y e h2)];exact e,a0v⟩
  try simp only [a2D,a2e,a1c,tOp,a0L,List.getElem?_cons_zero,tC,a1q,b4R,a0x,List.getElem?_cons_succ,a0W,List.append_nil,a0j,a0Y,a2m,a1b,decide_eq_true_eq]
  rw [show ("sure":Str)=mk (a0G 1) by decide+kernel,show ("most":Str)=mk (a0G 2) by decide+kernel,show ("block":Str)=mk (a0G 3) by decide+kernel]
  refine a1L (fun c=>?_) (fun c1=>a1L (fun c=>?_) (fun c2=>a1L (fun c=>?_) (fun c3=>?_)))
  ·have hk:a1Y w'=1:=by unfold a1Y;rw [if_pos (a1t c)]
   rw [hk] at qs
   intro x dx nx ndx ne
   obtain ⟨s,hx⟩:=hh (C:=t.C_Sure) nx ndx ne
   exact ⟨x,t.C_Sure,dx,lb,hd,b,bs,rfl,hx,⟨T.cl_Sure,T.nf_Sure_label,T.nf_Sure_head,T.nf_Sure_body⟩,.inl (s.seq hb),fun H' k r=>⟨rfl,qs x H' (by decide) (fun c o e=>k c o (s _ _ e) (a0y e nx)) r⟩⟩
  ·have hk:a1Y w'=2:=by unfold a1Y;rw [if_neg fun z=>c1 (by rw [z]),if_pos (a1t c)]
   rw [hk] at qs
   intro x dx nx ndx ne
   obtain ⟨s,hx⟩:=hh (C:=t.C_Most) nx ndx ne
   exact ⟨x,t.C_Most,dx,lb,hd,b,bs,rfl,hx,⟨T.cl_Most,T.nf_Most_label,T.nf_Most_head,T.nf_Most_body⟩,.inl (s.seq hb),fun H' k r=>⟨rfl,qs x H' (by decide) (fun c o e=>k c o (s _ _ e) (a0y e nx)) r⟩⟩
  ·have hk:a1Y w'=3:=by unfold a1Y;rw [if_neg fun z=>c1 (by rw [z]),if_neg fun z=>c2 (by rw [z]),if_pos (a1t c)]
   rw [hk] at qs
   intro x dx nx ndx ne
   obtain ⟨s,hx⟩:=hh (C:=t.C_Block) nx ndx ne
   exact ⟨x,t.C_Block,dx,lb,hd,b,bs,rfl,hx,⟨T.cl_Block,T.nf_Block_label,T.nf_Block_head,T.nf_Block_body⟩,.inl (s.seq hb),fun H' k r=>⟨rfl,qs x H' (by decide) (fun c o e=>k c o (s _ _ e) (a0y e nx)) r⟩⟩
  ·exact qn (by unfold a1Y;rw [if_neg fun z=>c1 (by rw [z]),if_neg fun z=>c2 (by rw [z]),if_neg fun z=>c3 (by rw [z])])
theorem b6X (T:Txt K mg t):a1y P w K mg base CX0 1 t.f_z0c t.fd_z0c ["ahead"] b6B:=by
 refine T.F_z0c.ok b7z (fun vs H Q E h=>?_) (fun cdv A outer s H vs Q E hr h=>?_)
 ·obtain ⟨z,rfl,hz,q⟩:=h;rfl
 ·obtain ⟨z,rfl,hz,q⟩:=h
  refine ⟨_,(@a0f _ _ _ (@a0p _ _ _ _ (@a3a _ _ _ _ _ _ _ _ (@a0s _ _ _ _ _ _ _ _ (a1C hr.units) ‹0› (@a0n _ _ _ _) (a0C _)) (@a1z _ _ _ _ (@a0e _)) (@a2k _ _ _ _ _ _ _ _ _ _ _ _ PySem.F.plainAttrs_str PySem.F.slot_str_split PySem.F.type_str_split a4d (@a0M _ _ _ _ _ _ _ _ _ _ a1v ‹0› (@a1k _) (@a0P _ _ _ (@a4P _ _ _ _ _ _ a2x (@a0g _ _ _ _)))) (@a0b _ _ _ _ _ (@a0n _ _ _ _) (@a0e _) (by rfl)) (by rfl) (by rfl) (by rfl) (by rfl) (by rfl))))),?_⟩
  rw [show a0N b7Z [V.str z]=[some (V.str z)] from rfl]
  try simp only [a1q,tIf,a1c,tOp,a0L,List.getElem?_cons_zero,tC,a6Y,a0W,tBM,tSl,a1N,a3g,tUn,a0x,a2F,a3x,a0j,a1E,a2V,a1G,a2m,a1b,decide_eq_true_eq]
  refine a1L (fun c=>?_) (fun c=>?_)
  ·refine ⟨by decide,fun D hD=>q D _ (a0A.upd hD) ?_⟩
   rw [a0v,show a2Q z=[] from if_pos c];rfl
  ·have hs:=Txt.slice_le z none (some (-1))
   refine ⟨a0k (by omega),by decide+kernel,Nat.le_trans (show _≤2000 by omega) (by decide),fun D hD=>q D _ (a0A.upd hD) ?_⟩
   rw [a0v,show a2Q z=Txt.split (Txt.slice z none (some (-1))) ", " from if_neg c]
theorem b6a (T:Txt K mg t):a1y P w K mg base CX0 1 t.f_z13 t.fd_z13 ["row"] (b5H K):=by
 refine T.F_z13.ok b8S (fun vs H Q E h=>?_) (fun cdv A outer s H vs Q E hr h=>?_)
 ·obtain ⟨l,rfl,hl,q⟩:=h;rfl
 ·obtain ⟨l,rfl,hl,q⟩:=h
  refine ⟨_,(@a0f _ _ _ (@a0p _ _ _ _ (@a3a _ _ _ _ _ _ _ _ (@a1j _ _ _ (@a0r _ _ _ _ _ _ _ _ _ a0Z rfl T.z_isinstance a0q (@a0b _ _ _ _ _ ‹0› (@a0b _ _ _ _ _ (@a2f _ _ (.ty "str") _ _ rfl T.z_str a2S rfl (by decide) (by decide)) (@a0e _) (by rfl)) (by rfl)) (by decide) (by decide) (by rfl) (by rfl)) (by intro _;rfl)) (@a2k _ _ _ _ _ _ _ _ _ _ _ _ PySem.F.plainAttrs_str PySem.F.slot_str_split PySem.F.type_str_split a4d ‹0› (@a0b _ _ _ _ _ (@a0n _ _ _ _) (@a0e _) (by rfl)) (by rfl) (by rfl) (by rfl) (by rfl) (by rfl)) (@a1z _ _ _ _ (@a0e _))))),?_⟩
  rw [show a0N b8a [sv l]=[some (sv l)] from rfl]
  try simp only [a1q,tIf,tB,tCB,a0x,a0L,List.getElem?_cons_zero,tC,a0W,tBM,a0j,a2V,a1G,a6Y,a1S,a1b,if_true]
  rw [show (" ":Str)=mk [32] by decide+kernel,a3c (by decide)]
  refine ⟨rfl,?_,fun p hp=>?_⟩
  ·rw [a0i];exact Nat.le_trans (show _≤2000 by omega) (by decide)
  rw [List.map_map]
  exact q p _ (a0A.upd hp) a0v
theorem b5Q (T:Txt K mg t):a1y P w K mg base CX0 8 t.f_z0d t.fd_z0d ["row"] (c0I t):=by
 refine T.F_z0d.ok a5G (fun vs H Q E h=>?_) (fun cdv A outer s H vs Q E hr h=>?_)
 ·obtain ⟨l,rfl,hl,qn,qs⟩:=h;rfl
 ·obtain ⟨l,rfl,hl,qn,qs⟩:=h
  obtain ⟨_,k_MOST_PREMISES⟩:=T.k_MOST_PREMISES
  obtain ⟨_,k_MOST_LETTERS⟩:=T.k_MOST_LETTERS
  refine ⟨_,(@a0h _ _ _ _ _ (@a0D _ _ (1) _ _ _ _ a5G.nd rfl (by trivial) (@a2k _ _ _ _ _ _ _ _ _ _ _ _ PySem.F.plainAttrs_str PySem.F.slot_str_partition PySem.F.type_str_partition a2P ‹0› (@a0b _ _ _ _ _ (@a0n _ _ _ _) (@a0e _) (by rfl)) (by rfl) (by rfl) (by rfl) (by rfl) (by rfl)) (by rfl) (by trivial)) (@a0h _ _ _ _ _ (@a0D _ _ (2) _ _ _ _ a5G.nd rfl (by trivial) (@a0m _ _ _ _ _ _ _ _ _ _ _ _ _ _ _ _ (b6a T) (hr.mono (by decide)) rfl T.g_z13 T.F_z13.kp T.b_z13 .nil a0z (@a0b _ _ _ _ _ (@a1i _ _ _ _ _ _ _ a0J ‹1› (@a0g _ _ _ _) (fun _ _=>rfl)) (@a0e _) (by rfl)) (by decide) (by rfl) (by rfl)) (by rfl) (by trivial)) (@a0h _ _ _ _ _ (@a0D _ _ (3) _ _ _ _ a5G.nd rfl (by trivial) (@a2k _ _ _ _ _ _ _ _ _ _ _ _ PySem.F.plainAttrs_str PySem.F.slot_str_partition PySem.F.type_str_partition a2P (@a1i _ _ _ _ _ _ _ a0J ‹1› (@a0g _ _ _ _) (fun _ _=>rfl)) (@a0b _ _ _ _ _ (@a0n _ _ _ _) (@a0e _) (by rfl)) (by rfl) (by rfl) (by rfl) (by rfl) (by rfl)) (by rfl) (by trivial)) (@a0h _ _ _ _ _ (@a0D _ _ (4) _ _ _ _ a5G.nd rfl (by trivial) (@a0m _ _ _ _ _ _ _ _ _ _ _ _ _ _ _ _ (b6X T) (hr.mono (by decide)) rfl T.g_z0c T.F_z0c.kp T.b_z0c .nil a0z (@a0b _ _ _ _ _ (@a1i _ _ _ _ _ _ _ a0J ‹3› (@a0g _ _ _ _) (fun _ _=>rfl)) (@a0e _) (by rfl)) (by decide) (by rfl) (by rfl)) (by rfl) (by trivial)) (@a0O _ _ _ _ _ (@a0V _ _ _ _ _ _ _ _ (@PW.pt _ _ _ (@a2I _ _ _ _ _ _ _ (@a0s _ _ _ _ _ _ _ _ (a4A hr.units) (@a0r _ _ _ _ _ _ _ _ _ a0H rfl T.z_len a0I (@a0b _ _ _ _ _ ‹2› (@a0e _) (by rfl)) (by decide) (by decide) (by rfl) (by rfl)) (@a0g _ _ _ _) (a0C _)) (@a2I _ _ _ _ _ _ _ (@a1X _ _ _ _ (@a1j _ _ _ (@a0m _ _ _ _ _ _ _ _ _ _ _ _ _ _ _ _ (b7G T) (hr.mono (by decide)) rfl T.g_z0z T.F_z0z.kp T.b_z0z .nil a0z (@a0b _ _ _ _ _ (@a1i _ _ _ _ _ _ _ a0J ‹2› (@a0g _ _ _ _) (fun _ _=>rfl)) (@a0e _) (by rfl)) (by decide) (by rfl) (by rfl)) (by intro _;rfl))) (@a2G _ _ _ _ (@a0s _ _ _ _ _ _ _ _ a5d (@a0r _ _ _ _ _ _ _ _ _ a0H rfl T.z_len a0I (@a0b _ _ _ _ _ ‹4› (@a0e _) (by rfl)) (by decide) (by decide) (by rfl) (by rfl)) (@a1x _ _ (.int 4) _ _ rfl k_MOST_PREMISES ⟨_,rfl⟩ (by decide)) (a0C _)))))) (@a0f _ _ _ (@a0p _ _ _ _ (@a1p _ _ _))) (@a0u _)) (@a0h _ _ _ _ _ (@a0V _ _ _ _ _ _ _ _ (@a1X _ _ _ _ (@a1j _ _ _ (@a0r _ _ _ _ _ _ _ _ _ (a2r rfl) rfl T.z_all a5p (@a0b _ _ _ _ _ (@a3w _ _ _ _ _ _ _ _ _ _ _ _ _ (@a1M _ (a0a a3n) (b4w) (["text"]) ([none]) _ rfl rfl (by decide+kernel)) rfl (@a2U _ _ _ _ (@a0B _ _ _ _ _ _ _ _ a0E (@a1z _ _ _ _ (@a0b _ _ _ _ _ (@a1i _ _ _ _ _ _ _ a0J ‹3› (@a0g _ _ _ _) (fun _ _=>rfl)) (@a0e _) (by rfl))) ‹4›)) (fun _ _ _ _ _=>(@a1w _ _ (0) _ (show List.Nodup (["text"]:List Str) by decide+kernel) rfl (by trivial) (by trivial))) (fun _ _ _ _ _=>@a4S _) (fun _ _ _ _ _=>(@a0m _ _ _ _ _ _ _ _ _ _ _ _ _ _ _ _ (b3L T) (hr.mono (by decide)) rfl T.g_z03 T.F_z03.kp T.b_z03 .nil a0z (@a0b _ _ _ _ _ ‹0› (@a0e _) (by rfl)) (by decide) (by rfl) (by rfl))) (by intro _;rfl)) (@a0e _) (by rfl)) (by decide) (by decide) (by rfl) (by rfl)) (by intro _;rfl))) (@a0f _ _ _ (@a0p _ _ _ _ (@a1p _ _ _))) (@a0u _)) (@a0h _ _ _ _ _ (@a0D _ _ (5) _ _ _ _ a5G.nd rfl (by trivial) (@a0m _ _ _ _ _ _ _ _ _ _ _ _ _ _ _ _ (b6m T) (hr.mono (by decide)) rfl T.g_z1n T.F_z1n.kp T.b_z1n .nil a0z (@a0b _ _ _ _ _ (@a1i _ _ _ _ _ _ _ a0J ‹2› (@a0g _ _ _ _) (fun _ _=>rfl)) (@a0b _ _ _ _ _ (@a1i _ _ _ _ _ _ _ a0J ‹2› (@a0g _ _ _ _) (fun _ _=>rfl)) (@a0b _ _ _ _ _ (@a1i _ _ _ _ _ _ _ a0J ‹3› (@a0g _ _ _ _) (fun _ _=>rfl)) (@a0b _ _ _ _ _ ‹4› (@a0e _) (by rfl)) (by rfl)) (by rfl)) (by rfl)) (by decide) (by rfl) (by rfl)) (by rfl) (by trivial)) (@a0O _ _ _ _ _ (@a0V _ _ _ _ _ _ _ _ (@PW.pt _ _ _ (@a2I _ _ _ _ _ _ _ (@a0s _ _ _ _ _ _ _ _ a8a ‹5› (@a1p _ _ _) (a0C _)) (@a2G _ _ _ _ (@a0s _ _ _ _ _ _ _ _ a5d (@a0r _ _ _ _ _ _ _ _ _ a0H rfl T.z_len a0I (@a0b _ _ _ _ _ (@a2E _ _ _ _ (@a1d _ _ _ _ _ _ _ _ _ _ _ _ _ _ _ _ _ ‹5› T.cl_Fact T.me_Fact_letters (a8H T) (hr.mono (by decide)) T.b_z05 .nil a0z (by rfl)) (@a2E _ _ _ _ (@a1d _ _ _ _ _ _ _ _ _ _ _ _ _ _ _ _ _ ‹5› T.cl_Sure T.me_Sure_letters (a8H T) (hr.mono (by decide)) T.b_z05 .nil a0z (by rfl)) (@a2E _ _ _ _ (@a1d _ _ _ _ _ _ _ _ _ _ _ _ _ _ _ _ _ ‹5› T.cl_Most T.me_Most_letters (a8H T) (hr.mono (by decide)) T.b_z05 .nil a0z (by rfl)) (@a1d _ _ _ _ _ _ _ _ _ _ _ _ _ _ _ _ _ ‹5› T.cl_Block T.me_Block_letters (a8H T) (hr.mono (by decide)) T.b_z05 .nil a0z (by rfl))))) (@a0e _) (by rfl)) (by decide) (by decide) (by rfl) (by rfl)) (@a1x _ _ (.int 3) _ _ rfl k_MOST_LETTERS ⟨_,rfl⟩ (by decide)) (a0C _))))) (@a0f _ _ _ (@a0p _ _ _ _ (@a1p _ _ _))) (@a0u _)) (@a0f _ _ _ (@a0p _ _ _ _ ‹5›)))))))))),?_⟩
  rw [show a0N b4w [sv l]=[some (sv l),none,none,none,none,none] from rfl]
  try simp only [a2D,a2u,tBM,a0L,List.getElem?_cons_zero,a0x,tC,a0W,a0T,a0R,tOp,List.set_cons_succ,List.set_cons_zero,List.getElem?_cons_succ,List.append_nil,a0j,a6m,a1G]
  have hp:=b0l l ": "
  refine ⟨by decide+kernel,a0k (by rw [a0i];omega),fun p1 hp1=>?_⟩
  obtain ⟨x0,x1,x2,hx⟩:∃x0 x1 x2,Txt.partition (mk l) ": "=(x0,x1,x2):=⟨_,_,_,rfl⟩
  rw [hx] at hp ⊢
  obtain ⟨l0,rfl⟩:∃l0,x0=mk l0:=⟨_,(a5S x0).symm⟩
  obtain ⟨l2,rfl⟩:∃l2,x2=mk l2:=⟨_,(a5S x2).symm⟩
  have hl0:l0.length≤1000:=by have:=hp.1;rw [a0i] at this;omega
  have hl2:l2.length≤1000:=by have:=hp.2;rw [a0i] at this;omega
  obtain ⟨H1,e1,s1,h1⟩:=a2t hp1 (.tup [sv l0,V.str x1,sv l2]);rw [e1]
  refine a1g (SqT.of h1) (v:=sv l0) rfl ?_
  refine ⟨l0,rfl,hl0,fun p2 H2 s2 h2=>?_⟩
  refine a1g (SqT.of (s2 _ _ h1)) (v:=sv l2) rfl ?_
  try simp only [a6m,a1G]
  have hq:=b0l l2 "-> "
  refine ⟨by decide+kernel,a0k (by rw [a0i];omega),fun p3 hp3=>?_⟩
  obtain ⟨y0,y1,y2,hy⟩:∃y0 y1 y2,Txt.partition (mk l2) "-> "=(y0,y1,y2):=⟨_,_,_,rfl⟩
  rw [hy] at hq ⊢
  have hy0:y0.length≤1000:=Nat.le_trans hq.1 hl2
  have hy2:y2.length≤1000:=Nat.le_trans hq.2 hl2
  have ex:∀k lb s0 ss,a1J l (k,lb,s0,ss)→k≠0→a0F 32 l0=[a0G k,lb]∧y2=mk (stat s0)∧a2Q y0=(ss.map stat).map mk:=by
   intro k lb s0 ss hG hk
   obtain ⟨b,g1,g2,g3,g4⟩:=hG.exact hk
   rw [hx] at g1
   have a0:mk l0=mk (a0G k++32::lb):=(Prod.mk.inj g1).1
   have a2:mk l2=mk b:=(Prod.mk.inj (Prod.mk.inj g1).2).2
   rw [←a2,hy] at g3
   have c0:y0=mk (b2s ss):=(Prod.mk.inj g3).1
   have c2:y2=mk (stat s0):=(Prod.mk.inj (Prod.mk.inj g3).2).2
   rw [a1t a0,c0]
   exact ⟨g2,c2,g4⟩
  obtain ⟨H3,e3,s3,h3⟩:=a2t hp3 (.tup [V.str y0,V.str y1,V.str y2]);rw [e3]
  refine a1g (SqT.of h3) (v:=V.str y0) rfl ?_
  refine ⟨y0,rfl,hy0,fun D H4 s4 h4=>?_⟩
  have hpl:=b4B hy0
  have h24:=s4 _ _ (s3 _ _ h2)
  have h34:=s4 _ _ h3
  have s04:a0A H H4:=((s1.trans s2).trans s3).trans s4
  refine ⟨fun σ' H'=>σ'=[some (sv l),some (V.ref p1),some (V.ref p2),some (V.ref p3),some (V.ref D),none]∧a0A H4 H'∧∃w lb,a0F 32 l0=[w,lb]∧a9l lb=true∧(a2Q y0).length≤4,?_,?_⟩
  ·have spl:=a2b 32 l0
   try simp only [a2e,tOr,a1c,tOp,tCB,a0x,a0L,List.getElem?_cons_succ,List.getElem?_cons_zero,a0W,tC,a1q,a0Y,if_true,a6l,tB,a0R,List.append_nil,Bool.not_eq_true',a0j]
   refine a1o (SqL.of h24) ?_
   try simp only [b2G,a1b,Bool.not_eq_true',decide_eq_false_iff_not]
   refine a1L (fun c=>?_) (fun c=>?_)
   ·refine qn (fun ⟨k,lb,s0,ss⟩ hG=>Classical.byContradiction fun hk=>c ?_) _ s04
    have:=(ex k lb s0 ss hG hk).1
    rw [this];rfl
   have h2l:(a0F 32 l0).length=2:=by
    have:=Classical.not_not.mp c
    rw [List.length_map] at this
    omega
   match hs:a0F 32 l0,h2l with
   | [w',lb],_=>
    rw [hs] at h24 spl
    have hlb:=spl.2 lb (by simp)
    refine a1m (SqL.of h24) (v:=sv lb) rfl ?_
    try simp only [a8s,a1b]
    refine ⟨by rw [a0i];omega,fun H5 s5=>?_⟩
    rw [a8N,show a1Q (mk lb) (mk b2W) 8=a9l lb by unfold a1Q a9l;rw [a6D,a0i];congr 2<;>exact decide_eq_decide.mpr (by omega)]
    try skip
    refine a1L (fun c1=>?_) (fun c1=>?_)
    ·refine qn (fun ⟨k,lb',s0,ss⟩ hG=>Classical.byContradiction fun hk=>?_) _ (s04.trans s5)
     have e:=(ex k lb' s0 ss hG hk).1
     rw [hs] at e
     have e2:lb=lb':=by simpa using (List.cons.inj e).2
     obtain ⟨⟨_,_,hv⟩,_⟩:=hG
     rcases hv with ⟨z,_⟩ | ⟨_,z,_⟩
     ·exact hk z
     ·have z':a9l lb'=true:=z
      rw [←e2] at z'
      rw [z'] at c1;cases c1
    refine a1o (SqL.of (s5 _ _ h4)) ?_
    try simp only [a1F,a1b,decide_eq_true_eq]
    refine a1L (fun c2=>?_) (fun c2=>?_)
    ·refine qn (fun ⟨k,lb',s0,ss⟩ hG=>Classical.byContradiction fun hk=>?_) _ (s04.trans s5)
     have e:=(ex k lb' s0 ss hG hk).2.2
     rw [e] at c2
     obtain ⟨⟨_,_,hv⟩,_⟩:=hG
     rcases hv with ⟨z,_⟩ | ⟨_,_,z,_⟩
     ·exact hk z
     ·have z':ss.length≤4:=z
      simp at c2;omega
    ·exact ⟨(by trivial),s5,w',lb,rfl,by simpa using c1,by simp at c2;omega⟩
  rintro σ' H5 ⟨rfl,s5,w',lb,hs,hlb,h4l⟩
  rw [hs] at h24
  have s05:=s04.trans s5
  obtain ⟨ls,els⟩:=b0C (y2::a2Q y0)
  have hlen:∀z∈ls,z.length≤1000:=fun z hz=>by
   have:mk z∈y2::a2Q y0:=by rw [els];exact List.mem_map_of_mem hz
   have h:(mk z).length≤1000:=by
    rcases List.mem_cons.mp this with e | e
    ·rw [e];exact hy2
    ·exact hpl.1 _ e
   rw [a0i] at h;exact h
  have hll:ls.length≤5:=by
   have:=congrArg List.length els
   simp at this;omega
  try simp only [a2D,a2e,a6l,tB,tCB,a0x,a0W,Bool.not_eq_true',a1q,tC,a0Y,a2u,a0R,tOp,a0L,List.getElem?_cons_succ,List.getElem?_cons_zero,List.append_nil,a0T,List.set_cons_succ,List.set_cons_zero,a0j,a1b,a1Z,a5F,a6Y]
  refine a1g (SqT.of (s5 _ _ h34)) (v:=V.str y2) rfl ?_
  refine ⟨a0k (show 1≤100000 by decide),fun p6 hp6=>?_⟩
  obtain ⟨H6,e6,s6,h6⟩:=a2t hp6 (.lst [V.str y2]);rw [e6]
  refine .inr (.inr (.inl ⟨p6,D,_,_,rfl,rfl,h6,s6 _ _ (s5 _ _ h4),a0k (by simp;omega),fun p7 hp7=>?_⟩))
  rw [show [V.str y2]++(a2Q y0).map V.str=pv' ls by rw [show [V.str y2]++(a2Q y0).map V.str=(y2::a2Q y0).map V.str from rfl,els,List.map_map];rfl]
  obtain ⟨H7,e7,s7,h7⟩:=a2t hp7 (.lst (pv' ls));rw [e7]
  refine ⟨p7,rfl,⟨_,SqL.of h7⟩,?_⟩
  refine a5X (a3M (xs:=pv' ls)) (a0k (by simp;omega)) [] rfl (fun i v=>v=.bl (a1B ((ls[i]?).getD [])).isSome) (fun H' s=>s.seq (SqL.of h7)) (fun i H' R hi s hR=>?_) (fun D8 H8 ys _ s8 hD8 hl8 hv8=>?_)
  ·have hi':i < ls.length:=by simpa using hi
   have e2:((pv' ls)[i]?).getD .non=sv ls[i]:=by rw [List.getElem?_map,List.getElem?_eq_getElem hi'];rfl
   have e3:(ls[i]?).getD []=ls[i]:=by rw [List.getElem?_eq_getElem hi'];rfl
   rw [e3] at hR
   rw [e2]
   try simp only [a0R,a0x,a0L,List.getElem?_cons_zero,a0W,List.append_nil,a0j]
   exact ⟨_,rfl,hlen _ (List.getElem_mem hi'),fun H3 s3=>hR _ _ s3 rfl⟩
  have e8:ys=(ls.map fun l=>(a1B l).isSome).map V.bl:=by
   refine List.ext_getElem? fun i=>?_
   rw [List.getElem?_map,List.getElem?_map]
   by_cases hi:i < ys.length
   ·have hi2:i < ls.length:=by simp at hl8;omega
    rw [List.getElem?_eq_getElem hi,hv8 i _ (List.getElem?_eq_getElem hi),List.getElem?_eq_getElem hi2];rfl
   ·rw [List.getElem?_eq_none (by omega),List.getElem?_eq_none (by simp at hl8 ⊢;omega)];rfl
  refine ⟨D8,_,rfl,by rw [←e8];exact SqL.of hD8,?_⟩
  rw [show (ls.map fun l=>(a1B l).isSome).all id=ls.all (fun l=>(a1B l).isSome) by rw [List.all_map];rfl]
  have s58:a0A H5 H8:=(s6.trans s7).trans s8
  have s08:=s05.trans s58
  try skip
  refine a1L (fun c=>?_) (fun c=>?_)
  ·refine qn (fun ⟨k,lb',s0,ss⟩ hG=>Classical.byContradiction fun hk=>?_) _ s08
   obtain ⟨_,g2,g3⟩:=ex k lb' s0 ss hG hk
   have e9:ls.map mk=((s0::ss).map stat).map mk:=by rw [←els,g2,g3];rfl
   have e10:ls=(s0::ss).map stat:=by
    have hinj:∀a b:List (List Nat),a.map mk=b.map mk→a=b:=by
     intro a
     induction a with
     | nil=>intro b h;cases b with
      | nil=>rfl
      | cons _ _=>cases h
     | cons x a ih=>intro b h;cases b with
      | nil=>cases h
      | cons y b=>
       rw [List.map_cons,List.map_cons] at h
       rw [a1t (List.cons.inj h).1,ih b (List.cons.inj h).2]
    exact hinj _ _ e9
   obtain ⟨⟨hT,hTs,_⟩,_⟩:=hG
   rw [e10,List.all_map] at c
   have:(s0::ss).all ((fun l=>(a1B l).isSome)∘stat)=true:=by
    rw [List.all_eq_true]
    intro s hs'
    rcases List.mem_cons.mp hs' with e | e
    ·rw [e];exact a2M hT
    ·exact a2M (hTs s e)
   rw [this] at c;cases c
  obtain ⟨sss,e9,hTT⟩:=a8O (zs:=ls) (by revert c;cases ls.all (fun l=>(a1B l).isSome)<;>simp)
  obtain ⟨s0,ss,rfl⟩:∃s0 ss,sss=s0::ss:=by
   cases sss with
   | nil=>rw [e9] at els;cases els
   | cons a b=>exact ⟨a,b,rfl⟩
  have ey2:y2=mk (stat s0):=by rw [e9] at els;exact (List.cons.inj els).1
  have epm:a2Q y0=(ss.map stat).map mk:=by rw [e9] at els;exact (List.cons.inj els).2
  have hT0:=hTT s0 List.mem_cons_self
  have hTs:∀s∈ss,IsT s:=fun s hs=>hTT s (List.mem_cons_of_mem _ hs)
  have hss4:ss.length≤4:=by rw [epm] at h4l;simpa using h4l
  have uniq:∀p',a1J l p'→p'.1≠0→p'.1=a1Y w'∧p'.2.1=lb∧p'.2.2.1=s0∧p'.2.2.2=ss:=by
   rintro ⟨k,lb',s0',ss'⟩ hG hk
   obtain ⟨g1,g2,g3⟩:=ex k lb' s0' ss' hG hk
   obtain ⟨⟨hT',hTs',hv'⟩,_⟩:=hG
   have hk3:1≤k∧k≤3:=by
    rcases hv' with ⟨z,_⟩ | ⟨z,_⟩
    ·exact absurd z hk
    ·exact z
   rw [hs] at g1
   have w1:w'=a0G k:=(List.cons.inj g1).1
   have w2:lb=lb':=by simpa using (List.cons.inj g1).2
   refine ⟨by rw [w1,a5K hk3.1 hk3.2],w2.symm,?_,?_⟩
   ·exact a2B hT' hT0 (a1t (g2.symm.trans ey2))
   ·refine a1W hTs' hTs ?_
    have:=g3.symm.trans epm
    refine List.ext_getElem? fun i=>?_
    have h:=congrArg (fun z=>z[i]?) this
    rw [List.getElem?_map,List.getElem?_map (l:=ss.map stat)] at h
    cases ha:(ss'.map stat)[i]? with
    | none=>rw [ha] at h;cases hb:(ss.map stat)[i]? with
     | none=>rfl
     | some _=>rw [hb] at h;cases h
    | some a=>rw [ha] at h;cases hb:(ss.map stat)[i]? with
     | none=>rw [hb] at h;cases h
     | some b=>rw [hb] at h;exact congrArg some (a1t (Option.some.inj h))
  have h28:=s58 _ _ (s5 _ _ h24)
  have h38:=s58 _ _ (s5 _ _ h34)
  have h48:H8 D=some (.lst (tv ss)):=by
   have:=s58 _ _ (s5 _ _ h4)
   rw [epm] at this
   rw [this,b7c]
  refine a1m (SqL.of h28) (v:=sv w') rfl (a1m (SqL.of h28) (v:=sv lb) rfl (a1g (SqT.of h38) (v:=V.str y2) rfl ?_))
  rw [ey2]
  refine ⟨w',sv lb,sv (stat s0),D,tv ss,rfl,SqL.of h48,fun hk0=>?_,fun r H9 hk s9 hR=>?_⟩
  ·refine ⟨fun _ _=>False,?_,fun _ _ z=>z.elim⟩
   try simp only [a2e,tOr,a1c,tOp,a0L,List.getElem?_cons_succ,List.getElem?_cons_zero,tC,a1q,a0Y,if_true,tCB,a0x,a0W,a0j,a3R,a1b]
   refine qn (fun p' hG=>Classical.byContradiction fun hk=>?_) _ s08
   exact hk ((uniq p' hG hk).1.trans hk0)
  have hk4:a1Y w' < 4:=Nat.lt_succ_of_le (a6G w')
  have CF:=c0V T hk4
  refine ⟨fun σ' H'=>σ'=[some (sv l),some (V.ref p1),some (V.ref p2),some (V.ref p3),some (V.ref D),some (V.ref r)]∧a0A H9 H'∧(a5D (s0::ss)).length≤3,?_,?_⟩
  ·try simp only [a2e,tOr,a1c,tOp,a0L,List.getElem?_cons_succ,List.getElem?_cons_zero,tC,a1q,a0Y,if_true,tCB,a0x,a0W,a0j,a3C,a1b,a1U]
   refine b9r hk4 (a6z rfl) hR ⟨by decide+kernel,by decide+kernel,by decide+kernel⟩ ?_
   rw [b1B hk4]
   refine ⟨r,_,_,s0,ss,rfl,hR,⟨CF.cl,CF.nh,CF.nb⟩,hT0,hTs,by omega,fun D10 H10 s10 _ h10=>?_⟩
   refine a1o (SqL.of h10) ?_
   try simp only [a1F,a1b,decide_eq_true_eq]
   refine a1L (fun c=>?_) (fun c=>?_)
   ·refine qn (fun p' hG=>Classical.byContradiction fun hk'=>?_) _ ((s08.trans s9).trans s10)
    obtain ⟨_,_,u3,u4⟩:=uniq p' hG hk'
    obtain ⟨⟨_,_,hv'⟩,_⟩:=hG
    rcases hv' with ⟨z,_⟩ | ⟨_,_,_,z⟩
    ·exact hk' z
    ·rw [u3,u4] at z
     simp at c;omega
   ·exact ⟨(by trivial),s10,by simp at c;omega⟩
  rintro σ' H10 ⟨rfl,s10,hlet⟩
  try simp only [a1q,a0L,List.getElem?_cons_succ,List.getElem?_cons_zero,a0j]
  refine qs r (a1Y w',lb,s0,ss) H10 hk ⟨hT0,hTs,.inr ⟨⟨Nat.one_le_iff_ne_zero.mpr hk,a6G w'⟩,hlb,hss4,hlet⟩⟩ ?_ ((s08.trans s9).trans s10) (hR.same s10)
  rintro ⟨k,lb',s0',ss'⟩ hG hk'
  obtain ⟨u1,u2,u3,u4⟩:=uniq _ hG hk'
  dsimp only at u1 u2 u3 u4
  rw [u1,u2,u3,u4]
theorem b3R (T:Txt K mg t):a1y P w K mg base (CXE P w K) 9 t.f_z1a t.fd_z1a ["row"] (b2A K t):=by
 refine T.F_z1a.okX b1o (fun vs H Q E h=>?_) (fun cdv A outer s H vs Q E hr h=>?_)
 ·obtain ⟨v,rfl,hv,q,qx⟩:=h;rfl
 ·obtain ⟨v,rfl,hv,q,qx⟩:=h
  obtain ⟨_,k_FACT⟩:=T.k_FACT
  refine ⟨_,(@a0h _ _ _ _ _ (@a0D _ _ (1) _ _ _ _ b1o.nd rfl (by trivial) (@a1p _ _ _) (by rfl) (by trivial)) (@a0O _ _ _ _ _ (@a0V _ _ _ _ _ _ _ _ (@a1j _ _ _ (@a0r _ _ _ _ _ _ _ _ _ a0Z rfl T.z_isinstance a0q (@a0b _ _ _ _ _ ‹0› (@a0b _ _ _ _ _ (@a2f _ _ (.ty "str") _ _ rfl T.z_str a2S rfl (by decide) (by decide)) (@a0e _) (by rfl)) (by rfl)) (by decide) (by decide) (by rfl) (by rfl)) (by intro _;rfl)) (@a0f _ _ _ (@a0D _ _ (1) _ _ _ _ b1o.nd rfl (by trivial) (@a3a _ _ _ _ _ _ _ _ (@a1j _ _ _ (@a2k _ _ _ _ _ _ _ _ _ _ _ _ PySem.F.plainAttrs_str PySem.F.slot_str_startswith PySem.F.type_str_startswith a7N ‹0› (@a0b _ _ _ _ _ (@a1x _ _ (.str "fact ") _ _ rfl k_FACT ⟨_,rfl⟩ (by decide)) (@a0e _) (by rfl)) (by rfl) (by rfl) (by rfl) (by rfl) (by rfl)) (by intro _;rfl)) (@a0m _ _ _ _ _ _ _ _ _ _ _ _ _ _ _ _ (b6k T) (hr.mono (by decide)) rfl T.g_z19 T.F_z19.kp T.b_z19 .nil a0z (@a0b _ _ _ _ _ ‹0› (@a0e _) (by rfl)) (by decide) (by rfl) (by rfl)) (@a0m _ _ _ _ _ _ _ _ _ _ _ _ _ _ _ _ (b5Q T) (hr.mono (by decide)) rfl T.g_z0d T.F_z0d.kp T.b_z0d .nil a0z (@a0b _ _ _ _ _ ‹0› (@a0e _) (by rfl)) (by decide) (by rfl) (by rfl))) (by rfl) (by trivial))) (@a0u _)) (@a0O _ _ _ _ _ (@a0V _ _ _ _ _ _ _ _ (@PW.pt _ _ _ (@a2I _ _ _ _ _ _ _ (@a0s _ _ _ _ _ _ _ _ a8a ‹1› (@a1p _ _ _) (a0C _)) (@a2G _ _ _ _ (@a0s _ _ _ _ _ _ _ _ (a4A hr.units) (@a2E _ _ _ _ (@a1d _ _ _ _ _ _ _ _ _ _ _ _ _ _ _ _ _ ‹1› T.cl_Fact T.me_Fact_row (b3V T) (hr.mono (by decide)) T.b_z12 .nil a0z (by rfl)) (@a2E _ _ _ _ (@a1d _ _ _ _ _ _ _ _ _ _ _ _ _ _ _ _ _ ‹1› T.cl_Sure T.me_Sure_row (a5W T) (hr.mono (by decide)) T.b_z11 .nil a0z (by rfl)) (@a2E _ _ _ _ (@a1d _ _ _ _ _ _ _ _ _ _ _ _ _ _ _ _ _ ‹1› T.cl_Most T.me_Most_row (a5W T) (hr.mono (by decide)) T.b_z11 .nil a0z (by rfl)) (@a1d _ _ _ _ _ _ _ _ _ _ _ _ _ _ _ _ _ ‹1› T.cl_Block T.me_Block_row (a5W T) (hr.mono (by decide)) T.b_z11 .nil a0z (by rfl))))) ‹0› (a0C _))))) (@a0f _ _ _ (@a6o _ _ _ _ _ b1H rfl (@a6h _ _ _ _ _ _ _ _ _ _ _ _ _ _ _ _ _ T.x_NoRow.mx (b6T T) (hr.mono (by decide)) rfl T.g_NoRow T.b_z0e .nil a0z (@a0b _ _ _ _ _ ‹0› (@a0e _) (by rfl)) (by decide) (by rfl) (by rfl)))) (@a0u _)) (@a0f _ _ _ (@a0p _ _ _ _ ‹1›))))),?_⟩
  rw [show a0N b6t [v]=[some (v),none] from rfl]
  have hxc:=T.x_NoRow.c
  try simp only [a2D,a2u,tC,a0T,List.set_cons_succ,List.set_cons_zero]
  refine ⟨fun σ' H'=>∃rv,σ'=[some v,some rv]∧a0A H H'∧((rv=.non∧∀l p,v=sv l→¬a1J l p)∨∃r l p,rv=.ref r∧v=sv l∧a5n t H' r p∧c3k p∧∀p',a1J l p'→p'=p),?_,?_⟩
  ·rcases hv with ⟨l,rfl,hl⟩ | hN
   rotate_left
   ·try simp only [a2e,tB,tCB,a0x,a0L,List.getElem?_cons_zero,tC,a0W,a2u,tIf,tBM,a0R,List.append_nil,a0T,List.set_cons_succ,List.set_cons_zero,a0j,a0Y]
    refine a6M hN ?_
    try simp only [a1b,a1U]
    refine ⟨_,(by trivial),a0A.refl _,.inl ⟨rfl,fun l p e _=>?_⟩⟩
    subst e
    obtain ⟨ty,h1,h2⟩:=hN
    cases h1
    rw [a2z] at h2;cases h2
   try simp only [a2e,tB,tCB,a0x,a0L,List.getElem?_cons_zero,tC,a0W,a2u,tIf,tBM,a0R,List.append_nil,a0T,List.set_cons_succ,List.set_cons_zero,a0j,a5L,a1b,a1G,a0Y,a1S,if_true]
   rw [show ("fact ":Str)=mk (a0G 0++[32]) by decide+kernel,b2v]
   have hfact:∀p,a1J l p→p.1=0→l=(a0G 0++[32])++stat p.2.2.1:=by
    rintro ⟨k,lb,s0,ss⟩ ⟨_,e⟩ hk
    have hk':k=0:=hk
    subst hk'
    exact e
   refine a1L (fun c=>?_) (fun c=>?_)
   ·have c':l.take 5=a0G 0++[32]:=of_decide_eq_true c
    have h5:5≤l.length:=by
     have:=congrArg List.length c'
     rw [List.length_take] at this
     have h2:(a0G 0++[32]).length=5:=rfl
     omega
    have hz:∀p,a1J l p→p.1=0:=by
     rintro ⟨k,lb,s0,ss⟩ ⟨⟨_,_,hv⟩,e⟩
     rcases hv with ⟨z,_⟩ | ⟨z,_⟩
     ·exact z
     ·have e1:l.take 1=(a0G k++32::lb).take 1:=by
       rw [e,a7A (Nat.ne_of_gt z.1),List.append_assoc,List.take_append_of_le_length]
       have:=(a6T k).2.2
       have:=List.length_pos_iff.mpr this
       show 1≤(a0G k++32::lb).length
       rw [List.length_append];omega
      have e2:l.take 1=[102]:=by
       have:=congrArg (List.take 1) c'
       rw [List.take_take] at this
       exact this
      rw [e2] at e1
      match k,z.1,z.2,e1 with
      | 1,_,_,e1=>cases e1
      | 2,_,_,e1=>cases e1
      | 3,_,_,e1=>cases e1
    refine ⟨l,rfl,h5,hl,fun hw H1 s1=>⟨_,(by trivial),s1,.inl ⟨rfl,fun l' p e hG=>?_⟩⟩,fun r s0 H1 hT ed hlet s1 hR=>⟨_,(by trivial),s1,.inr ⟨r,l,(0,[],s0,[]),rfl,rfl,hR,⟨hT,fun s hs=>(by cases hs),.inl ⟨rfl,rfl,rfl,hlet⟩⟩,fun p' hG=>?_⟩⟩⟩
    ·have el:l=l':=a1t (V.str.inj e)
     subst el
     have hp0:=hz p hG
     have e1:=hfact p hG hp0
     obtain ⟨⟨hT,_,hv⟩,_⟩:=hG
     have hlet:a2C p.2.2.1.2.2=[]:=by
      rcases hv with ⟨_,_,_,z⟩ | ⟨z,_⟩
      ·exact z
      ·rw [hp0] at z;exact absurd z.1 (by decide)
     have e2:l.drop 5=stat p.2.2.1:=by rw [e1];rfl
     rw [e2] at hw
     unfold wrB at hw
     rw [show a1B (stat p.2.2.1)=some p.2.2.1 from a2W (sd:=p.2.2.1.1) (nm:=p.2.2.1.2.1) (ps:=p.2.2.1.2.2) hT] at hw
     simp [hlet] at hw
    ·have hp0:=hz p' hG
     have e1:=hfact p' hG hp0
     obtain ⟨⟨hT',_,hv⟩,_⟩:=hG
     obtain ⟨k,lb',s0',ss'⟩:=p'
     have hst:stat s0'=stat s0:=by
      rw [←ed,e1];rfl
     rcases hv with ⟨z1,z2,z3,_⟩ | ⟨z,_⟩
     ·dsimp only at z1 z2 z3
      have hs0:s0'=s0:=a2B hT' hT hst
      rw [z1,z2,z3,hs0]
     ·dsimp only at hp0 z
      omega
   ·have c':¬l.take 5=a0G 0++[32]:=fun z=>c (decide_eq_true z)
    have hz:∀p,a1J l p→p.1≠0:=fun p hG h0=>c' (by rw [hfact p hG h0];rfl)
    refine ⟨l,rfl,hl,fun h0 H1 s1=>⟨_,(by trivial),s1,.inl ⟨rfl,fun l' p e hG=>?_⟩⟩,fun r p H1 hk hV hu s1 hR=>⟨_,(by trivial),s1,.inr ⟨r,l,p,rfl,rfl,hR,hV,fun p' hG=>hu p' hG (hz p' hG)⟩⟩⟩
    have el:l=l':=a1t (V.str.inj e)
    subst el
    exact hz p hG (h0 p hG)
  rintro σ' H1 ⟨rv,rfl,s1,hrv⟩
  refine ⟨fun σ' H'=>∃r l p,σ'=[some v,some (V.ref r)]∧a0A H1 H'∧v=sv l∧a5n t H1 r p∧a1J l p,?_,?_⟩
  ·try simp only [a2e,tOr,a1c,tOp,a0L,List.getElem?_cons_succ,List.getElem?_cons_zero,tC,a0Y,if_true,a0j]
   rcases hrv with ⟨rfl,hno⟩ | ⟨r,l,p,rfl,rfl,hR,hV,hu⟩
   ·try simp only [a3R,a1b,if_true]
    exact a3Z hxc (fun R r=>⟨_,rfl,r⟩) fun x d T H' n=>qx hno x d T H' (n.mono s1)
   ·try simp only [a3C,a1b,a1U]
    have hk4:p.1 < 4:=by
     rcases hV.2.2 with ⟨z,_⟩ | ⟨z,_⟩
     ·rw [z];decide
     ·exact Nat.lt_succ_of_le z.2
    have hlb:p.2.1.length≤8:=by
     rcases hV.2.2 with ⟨_,z,_⟩ | ⟨_,z,_⟩
     ·rw [z];decide
     ·unfold a9l at z
      rw [Bool.and_eq_true,Bool.and_eq_true] at z
      exact of_decide_eq_true z.1.2
    have hss:p.2.2.2.length≤4:=by
     rcases hV.2.2 with ⟨_,_,z,_⟩ | ⟨_,_,z,_⟩
     ·rw [z];decide
     ·exact z
    have hTT:∀s∈p.2.2.1::p.2.2.2,IsT s:=fun s hs=>by
     rcases List.mem_cons.mp hs with e | e
     ·rw [e];exact hV.1
     ·exact hV.2.1 s e
    refine b9r hk4 (a6z rfl) hR ⟨by decide+kernel,by decide+kernel,by decide+kernel⟩ ?_
    refine a8R T hk4 hR hlb hTT (by omega) fun H2 s2=>?_
    try simp only [a2o,a1b,Bool.not_eq_true',decide_eq_false_iff_not]
    refine a1L (fun c=>?_) (fun c=>?_)
    ·refine a3Z hxc (fun R r=>⟨_,rfl,r⟩) fun x d T H' n=>qx (fun l' p' e hG=>?_) x d T H' (n.mono (s1.trans s2))
     have el:l=l':=a1t (V.str.inj e)
     subst el
     rw [hu p' hG] at hG
     exact c (congrArg mk hG.2.symm)
    ·have e:mk (b5P p)=mk l:=Classical.not_not.mp c
     exact ⟨r,l,p,(by trivial),s2,rfl,hR,hV,(a1t e).symm⟩
  rintro σ' H2 ⟨r,l,p,rfl,s2,rfl,hR,hG⟩
  try simp only [a1q,a0L,List.getElem?_cons_succ,List.getElem?_cons_zero,a0j]
  exact q l p r H2 rfl hG (s1.trans s2) (hR.same s2)
theorem b7y (T:Txt K mg t):a1y P w K mg base CX0 10 t.f_z0y t.fd_z0y ["_law_row_here"] (a8A K):=by
 refine T.F_z0y.ok a8W (fun vs H Q E h=>?_) (fun cdv A outer s H vs Q E hr h=>?_)
 ·obtain ⟨v,rfl,hv,hno,q⟩:=h;rfl
 ·obtain ⟨v,rfl,hv,hno,q⟩:=h
  refine ⟨_,(@a0h _ _ _ _ _ (@a0D _ _ (1) _ _ _ _ a8W.nd rfl (by trivial) (@a1p _ _ _) (by rfl) (by trivial)) (@a0O _ _ _ _ _ (@b7C _ _ _ _ _ _ _ _ _ _ _ _ _ _ (2) rfl rfl (@b1g _ _ _ _ (@a9p _ _ _ _ _ _ _ _ _ _ _ _ _ _ (b3R T) (hr.mono (by decide)) rfl T.g_z1a T.F_z1a.kp T.b_z1a .nil (fun _=>(@a0b _ _ _ _ _ ‹0› (@a0e _) (by rfl))) (by decide) (by rfl) (by rfl)) (by rfl)) rfl T.g_MostError T.xc_MostError a8W.nd rfl rfl (fun _=>(@a0f _ _ _ (@a0D _ _ (1) _ _ _ _ a8W.nd rfl (by trivial) ‹2› (by rfl) (by trivial)))) (by decide)) (@a0O _ _ _ _ _ (@a0V _ _ _ _ _ _ _ _ (@PW.pt _ _ _ (@a2I _ _ _ _ _ _ _ (@a1X _ _ _ _ (@a1j _ _ _ (@a0r _ _ _ _ _ _ _ _ _ a1s rfl T.z_isinstance a0q (@a0b _ _ _ _ _ ‹1› (@a0b _ _ _ _ _ (@a1x _ _ (.ref t.C_NoRow) _ _ rfl T.g_NoRow rfl (by decide)) (@a0e _) (by rfl)) (by rfl)) (by decide) (by decide) (by rfl) (by rfl)) (by intro _;rfl))) (@a2I _ _ _ _ _ _ _ (@a1X _ _ _ _ (@a1j _ _ _ (@a0r _ _ _ _ _ _ _ _ _ a1s rfl T.z_isinstance a0q (@a0b _ _ _ _ _ ‹1› (@a0b _ _ _ _ _ (@a2f _ _ (.ty "ValueError") _ _ rfl T.z_ValueError a5e rfl (by decide) (by decide)) (@a0e _) (by rfl)) (by rfl)) (by decide) (by decide) (by rfl) (by rfl)) (by intro _;rfl))) (@a2G _ _ _ _ (@a1j _ _ _ (@a0r _ _ _ _ _ _ _ _ _ a1s rfl T.z_isinstance a0q (@a0b _ _ _ _ _ ‹1› (@a0b _ _ _ _ _ (@a1x _ _ (.ref t.C_NoStatement) _ _ rfl T.g_NoStatement rfl (by decide)) (@a0e _) (by rfl)) (by rfl)) (by decide) (by decide) (by rfl) (by rfl)) (by intro _;rfl)))))) (@a0f _ _ _ (@a0p _ _ _ _ (@a5f _ _ _ _))) (@a0u _)) (@a0O _ _ _ _ _ (@a0V _ _ _ _ _ _ _ _ (@PW.pt _ _ _ (@a2I _ _ _ _ _ _ _ (@a1j _ _ _ (@a0r _ _ _ _ _ _ _ _ _ a0Z rfl T.z_isinstance a0q (@a0b _ _ _ _ _ ‹0› (@a0b _ _ _ _ _ (@a2f _ _ (.ty "bool") _ _ rfl T.z_bool a3f rfl (by decide) (by decide)) (@a0e _) (by rfl)) (by rfl)) (by decide) (by decide) (by rfl) (by rfl)) (by intro _;rfl)) (@a2G _ _ _ _ (@a1j _ _ _ (@a0r _ _ _ _ _ _ _ _ _ a0Z rfl T.z_isinstance a0q (@a0b _ _ _ _ _ (@a8j _ _ _ _ _ ‹1› rfl) (@a0b _ _ _ _ _ (@a2f _ _ (.ty "bool") _ _ rfl T.z_bool a3f rfl (by decide) (by decide)) (@a0e _) (by rfl)) (by rfl)) (by decide) (by decide) (by rfl) (by rfl)) (by intro _;rfl))))) (@a0f _ _ _ (@a0p _ _ _ _ (@a7d _ _ _ _ _ _ _ (@a0r _ _ _ _ _ _ _ _ _ a0Z rfl T.z_isinstance a0q (@a0b _ _ _ _ _ ‹0› (@a0b _ _ _ _ _ (@a2f _ _ (.ty "bool") _ _ rfl T.z_bool a3f rfl (by decide) (by decide)) (@a0e _) (by rfl)) (by rfl)) (by decide) (by decide) (by rfl) (by rfl)) (@a7J _ _ _ _ _ (@a0r _ _ _ _ _ _ _ _ _ a0Z rfl T.z_isinstance a0q (@a0b _ _ _ _ _ (@a8j _ _ _ _ _ ‹1› rfl) (@a0b _ _ _ _ _ (@a2f _ _ (.ty "bool") _ _ rfl T.z_bool a3f rfl (by decide) (by decide)) (@a0e _) (by rfl)) (by rfl)) (by decide) (by decide) (by rfl) (by rfl)))))) (@a0u _)) (@a0f _ _ _ (@a0p _ _ _ _ (@a2X _ _ _ _ _ _ _ _ (a1C hr.units) (@a8j _ _ _ _ _ ‹1› rfl) ‹0› (a0C _)))))))),?_⟩
  rw [show a0N b7M [v]=[some (v),none,none] from rfl]
  try simp only [a2D,a2u,tC,a0T,List.set_cons_succ,List.set_cons_zero]
  refine ⟨fun σ' H'=>∃x,σ'=[some v,some (V.ref x),none]∧a0A H H'∧b3g H' x t.C_NoRow "found" v,?_,?_⟩
  ·try simp only [c4q,b5z,b4I,a0x,a0L,List.getElem?_cons_zero,a0W,List.append_nil,a2u,List.set_cons_succ,List.set_cons_zero,List.getElem?_cons_succ,a0T,a0j]
   refine ⟨v,rfl,hv.1,fun l p r H' e hG=>absurd hG (hno l p e),fun _ x d T1 H2 n=>?_⟩
   intro x' C' ex eC
   cases ex;cases eC
   refine ⟨T.xm_NoRow_MostError,some d,some T1,.inr ⟨T1,rfl,n.fl⟩,fun H3 T3 b3 f3=>?_⟩
   obtain ⟨s3,er⟩:=n.caught b3 f3
   exact ⟨x,rfl,s3,er⟩
  rintro σ' H2 ⟨x,rfl,s2,er⟩
  have hc:=T.x_NoRow.c
  obtain ⟨_,hE,b,hB⟩:=hv
  refine ⟨fun σ' H'=>σ'=[some v,some (V.ref x),none]∧H2=H',?_,?_⟩
  ·try simp only [a2e,tOr,a6l,tB,tCB,a0x,a0L,List.getElem?_cons_succ,List.getElem?_cons_zero,tC,a0W,Bool.not_eq_true',a1q,a0Y,if_true,a0j]
   refine a8u hc er (u:=.ref t.C_NoRow) rfl (T.xt_up 0 0 _ _ rfl rfl) ?_
   try simp only [a1b,a4b]
   refine a8u hc er (u:=.type "ValueError") rfl (T.xt_up 0 1 _ _ rfl rfl) ?_
   try simp only [a1b,a4b]
   refine a8u hc er (u:=.ref t.C_NoStatement) rfl (T.xt_no 0 0 _ _ rfl rfl) ?_
   try simp only [a1b,a1U]
   exact ⟨(by trivial),(by trivial)⟩
  rintro σ' H' ⟨rfl,rfl⟩
  refine ⟨fun σ' H'=>σ'=[some v,some (V.ref x),none]∧H2=H',?_,?_⟩
  ·try simp only [a2e,tOr,tB,tCB,a0x,a0L,List.getElem?_cons_zero,tC,a0W,a1q,b1T,a0j,a0Y,if_true]
   refine hB H2 s2 _ ?_
   cases b
   ·try simp only [a1b,a1U]
    refine a8q T.x_NoRow er (fun R r=>⟨_,rfl,r⟩) ?_
    refine hB H2 s2 _ ?_
    try simp only [a1b,a1U]
    exact ⟨(by trivial),(by trivial)⟩
   ·try simp only [a1b,if_true]
    refine hB H2 s2 _ ?_
    try simp only [a1b,if_true]
    refine a8q T.x_NoRow er (fun R r=>⟨_,rfl,r⟩) ?_
    refine hB H2 s2 _ ?_
    exact q _ s2
  rintro σ' H' ⟨rfl,rfl⟩
  try simp only [a1q,tOp,a0L,List.getElem?_cons_zero,a0j]
  refine a8q T.x_NoRow er (fun R r=>⟨_,rfl,r⟩) ?_
  try skip
  exact hE _ s2 _ (q _ s2)
theorem b7O (T:Txt K mg t):a1y P w K mg base CX0 10 t.f_z1f t.fd_z1f ["_law_row_here","_law_due"] b1R:=by
 refine T.F_z1f.ok b1z (fun vs H Q E h=>?_) (fun cdv A outer s H vs Q E hr h=>?_)
 ·obtain ⟨l,dv,p,rfl,hl,hG,h4,q⟩:=h;rfl
 ·obtain ⟨l,dv,p,rfl,hl,hG,h4,q⟩:=h
  refine ⟨_,(@a0h _ _ _ _ _ (@a0D _ _ (2) _ _ _ _ b1z.nd rfl (by trivial) (@a0m _ _ _ _ _ _ _ _ _ _ _ _ _ _ _ _ (b3R T) (hr.mono (by decide)) rfl T.g_z1a T.F_z1a.kp T.b_z1a .nil b0P (@a0b _ _ _ _ _ ‹0› (@a0e _) (by rfl)) (by decide) (by rfl) (by rfl)) (by rfl) (by trivial)) (@a0h _ _ _ _ _ (@a0D _ _ (3) _ _ _ _ b1z.nd rfl (by trivial) (@a1z _ _ _ _ (@a0b _ _ _ _ _ (@a0r _ _ _ _ _ _ _ _ _ a1s rfl T.z_isinstance a0q (@a0b _ _ _ _ _ ‹2› (@a0b _ _ _ _ _ (@a1x _ _ (.ref t.C_Fact) _ _ rfl T.g_Fact rfl (by decide)) (@a0e _) (by rfl)) (by rfl)) (by decide) (by decide) (by rfl) (by rfl)) (@a0b _ _ _ _ _ (@a0r _ _ _ _ _ _ _ _ _ a1s rfl T.z_isinstance a0q (@a0b _ _ _ _ _ ‹2› (@a0b _ _ _ _ _ (@a1x _ _ (.ref t.C_Sure) _ _ rfl T.g_Sure rfl (by decide)) (@a0e _) (by rfl)) (by rfl)) (by decide) (by decide) (by rfl) (by rfl)) (@a0b _ _ _ _ _ (@a0r _ _ _ _ _ _ _ _ _ a1s rfl T.z_isinstance a0q (@a0b _ _ _ _ _ ‹2› (@a0b _ _ _ _ _ (@a1x _ _ (.ref t.C_Most) _ _ rfl T.g_Most rfl (by decide)) (@a0e _) (by rfl)) (by rfl)) (by decide) (by decide) (by rfl) (by rfl)) (@a0b _ _ _ _ _ (@a0r _ _ _ _ _ _ _ _ _ a1s rfl T.z_isinstance a0q (@a0b _ _ _ _ _ ‹2› (@a0b _ _ _ _ _ (@a1x _ _ (.ref t.C_Block) _ _ rfl T.g_Block rfl (by decide)) (@a0e _) (by rfl)) (by rfl)) (by decide) (by decide) (by rfl) (by rfl)) (@a0e _) (by rfl)) (by rfl)) (by rfl)) (by rfl))) (by rfl) (by trivial)) (@a0h _ _ _ _ _ (@a0V _ _ _ _ _ _ _ _ (@a0s _ _ _ _ _ _ _ _ (a4A hr.units) ‹3› (@a3w _ _ _ _ _ _ _ _ _ _ _ _ _ (@a1M _ (a0a a3z) (b5m) (["_law_word","_law_due"]) ([none,some 1]) _ rfl rfl (by decide+kernel)) rfl (@a2U _ _ _ _ (@a1z _ _ _ _ (@a0b _ _ _ _ _ (@a0n _ _ _ _) (@a0b _ _ _ _ _ (@a0n _ _ _ _) (@a0b _ _ _ _ _ (@a0n _ _ _ _) (@a0b _ _ _ _ _ (@a0n _ _ _ _) (@a0e _) (by rfl)) (by rfl)) (by rfl)) (by rfl)))) (fun _ _ _ _ _=>(@a1w _ _ (0) _ (show List.Nodup (["_law_word","_law_due"]:List Str) by decide+kernel) rfl (by trivial) (by trivial))) (fun _ _ _ _ _=>@a4S _) (fun _ _ _ _ _=>(@a2X _ _ _ _ _ _ _ _ (b6L hr.units (K:=K) rfl) (@a1i _ _ _ _ _ _ _ (b5E (K:=K) rfl) ‹1› (@a0g _ _ _ _) (fun _ _=>rfl)) ‹0› (a0C _))) (by intro _;rfl)) (a0C _)) (@a0f _ _ _ (@a0p _ _ _ _ (@a5f _ _ _ _))) (@a0u _)) (@a0O _ _ _ _ _ (@a0V _ _ _ _ _ _ _ _ (@PW.pt _ _ _ (@a2I _ _ _ _ _ _ _ (@a0s _ _ _ _ _ _ _ _ (a4A hr.units) (@a2R _ _ _ _ _ ‹2› rfl) (@a1i _ _ _ _ _ _ _ a0J ‹1› (@a0g _ _ _ _) (fun _ _=>rfl)) (a0C _)) (@a2I _ _ _ _ _ _ _ (@a0s _ _ _ _ _ _ _ _ (a4A hr.units) (@a2R _ _ _ _ _ ‹2› rfl) (@a1i _ _ _ _ _ _ _ a0J ‹1› (@a0g _ _ _ _) (fun _ _=>rfl)) (a0C _)) (@a2G _ _ _ _ (@a1X _ _ _ _ (@a1j _ _ _ (@a0r _ _ _ _ _ _ _ _ _ a0Z rfl T.z_isinstance a0q (@a0b _ _ _ _ _ (@a2R _ _ _ _ _ ‹2› rfl) (@a0b _ _ _ _ _ (@a2f _ _ (.ty "tuple") _ _ rfl T.z_tuple a3k rfl (by decide) (by decide)) (@a0e _) (by rfl)) (by rfl)) (by decide) (by decide) (by rfl) (by rfl)) (by intro _;rfl))))))) (@a0f _ _ _ (@a0p _ _ _ _ (@a5f _ _ _ _))) (@a0u _)) (@a0f _ _ _ (@a0p _ _ _ _ (@a7d _ _ _ _ _ _ _ (@a2X _ _ _ _ _ _ _ _ (a1C hr.units) (@a5A _ _ _ _ _ _ _ _ _ a8r rfl T.z_list a9F (@a0b _ _ _ _ _ (@a2R _ _ _ _ _ ‹2› rfl) (@a0e _) (by rfl)) (by decide) (by decide) (by rfl) (by rfl)) (@a1i _ _ _ _ _ _ _ a0J ‹1› (@a0g _ _ _ _) (fun _ _=>rfl)) (a0C _)) (@a7J _ _ _ _ _ (@a2X _ _ _ _ _ _ _ _ (a1C hr.units) (@a2E _ _ _ _ (@a1d _ _ _ _ _ _ _ _ _ _ _ _ _ _ _ _ _ ‹2› T.cl_Fact T.me_Fact_row (b3V T) (hr.mono (by decide)) T.b_z12 .nil a0z (by rfl)) (@a2E _ _ _ _ (@a1d _ _ _ _ _ _ _ _ _ _ _ _ _ _ _ _ _ ‹2› T.cl_Sure T.me_Sure_row (a5W T) (hr.mono (by decide)) T.b_z11 .nil a0z (by rfl)) (@a2E _ _ _ _ (@a1d _ _ _ _ _ _ _ _ _ _ _ _ _ _ _ _ _ ‹2› T.cl_Most T.me_Most_row (a5W T) (hr.mono (by decide)) T.b_z11 .nil a0z (by rfl)) (@a1d _ _ _ _ _ _ _ _ _ _ _ _ _ _ _ _ _ ‹2› T.cl_Block T.me_Block_row (a5W T) (hr.mono (by decide)) T.b_z11 .nil a0z (by rfl))))) ‹0› (a0C _)))))))))),?_⟩
  rw [show a0N b5m [sv l,dv]=[some (sv l),some (dv),none,none] from rfl]
  obtain ⟨da,D,rfl,hda,hD⟩:=h4
  have hk4:p.1 < 4:=by
   rcases hG.1.2.2 with ⟨z,_⟩ | ⟨z,_⟩
   ·rw [z];decide
   ·exact Nat.lt_succ_of_le z.2
  have hlb:p.2.1.length≤8:=by
   rcases hG.1.2.2 with ⟨_,z,_⟩ | ⟨_,z,_⟩
   ·rw [z];decide
   ·unfold a9l at z
    rw [Bool.and_eq_true,Bool.and_eq_true] at z
    exact of_decide_eq_true z.1.2
  have hss:p.2.2.2.length≤4:=by
   rcases hG.1.2.2 with ⟨_,_,z,_⟩ | ⟨_,_,z,_⟩
   ·rw [z];decide
   ·exact z
  have hTT:∀s∈p.2.2.1::p.2.2.2,IsT s:=fun s hs=>by
   rcases List.mem_cons.mp hs with e | e
   ·rw [e];exact hG.1.1
   ·exact hG.1.2.1 s e
  have CF:=c0V T hk4
  try simp only [a2D,a2u,a0R,a0x,a0L,List.getElem?_cons_zero,a0W,List.append_nil,a0T,a6Y,tCB,List.set_cons_succ,List.set_cons_zero,List.getElem?_cons_succ,tC,a2e,a1c,tOp,a1q,a0Y,a1Z,a5F,a8B,a0j]
  refine ⟨sv l,rfl,.inl ⟨l,rfl,hl⟩,fun l' p' r H1 e hG' s1 hR=>?_,fun hno=>absurd hG (hno l p rfl)⟩
  have el:l=l':=a1t (V.str.inj e)
  subst el
  have ep:=hG'.inj hG
  subst ep
  obtain ⟨k,lb,s0,ss⟩:=p'
  obtain ⟨dr,t0,hr1,hr2⟩:=id hR
  dsimp only at hk4 hlb hss hTT CF hda hD
  try simp only []
  refine b9s T hk4 hR 0 (by decide) (b9s T hk4 hR 1 (by decide) (b9s T hk4 hR 2 (by decide) (b9s T hk4 hR 3 (by decide) ?_)))
  refine ⟨a0k (show 4≤100000 by decide),fun E1 hE1=>?_⟩
  obtain ⟨H2,e2,s2,h2⟩:=a2t hE1 (.lst ((a6a k).map V.bl))
  rw [show [V.bl (decide ((k:Int)=(0:Int)+((0:Nat):Int))),V.bl (decide ((k:Int)=(0:Int)+((1:Nat):Int))),V.bl (decide ((k:Int)=(0:Int)+((2:Nat):Int))),V.bl (decide ((k:Int)=(0:Int)+((3:Nat):Int)))]=(a6a k).map V.bl from rfl,e2]
  try skip
  refine ⟨a0k (show 4≤100000 by decide),fun p3 hp3=>?_⟩
  obtain ⟨H3,e3,s3,h3⟩:=a2t hp3 (.lst [V.str "fact",V.str "sure",V.str "most",V.str "block"]);rw [e3]
  have hda3:=s3 _ _ (s2 _ _ (s1 _ _ hda))
  refine ⟨⟨_,SqL.of h3⟩,?_⟩
  refine a5X (a3M (xs:=[V.str "fact",V.str "sure",V.str "most",V.str "block"])) (a0k (show 4≤100000 by decide)) [some (V.ref da)] rfl (fun i v=>v=.bl (decide ((k:Int)=(0:Int)+(i:Int)))) (fun H' s=>s.seq (SqL.of h3)) (fun i H' R hi s hR'=>?_) (fun G H4 zs _ s4 hG4 hl4 hv4=>?_)
  ·have hi4:i < 4:=hi
   rw [show (([V.str "fact",V.str "sure",V.str "most",V.str "block"])[i]?).getD .non=V.str (a7Y i) by
    match i,hi4 with
    | 0,_=>rfl
    | 1,_=>rfl
    | 2,_=>rfl
    | 3,_=>rfl]
   try simp only [tOp,a0L,List.getElem?_cons_succ,List.getElem?_cons_zero,tC,a0j]
   refine a1g (SqT.of (s _ _ hda3)) (v:=sv (a0G k)) rfl ?_
   try simp only [a2m]
   rw [b4L hk4 i hi4]
   exact hR' _ _ (a0A.refl _) rfl
  have ezs:zs=(a6a k).map V.bl:=by
   refine List.ext_getElem? fun i=>?_
   unfold a6a
   rw [List.getElem?_map,List.getElem?_map]
   by_cases hi:i < zs.length
   ·have hi4:i < 4:=by rw [hl4] at hi;exact hi
    rw [List.getElem?_eq_getElem hi,hv4 i _ (List.getElem?_eq_getElem hi),List.getElem?_range hi4];rfl
   ·have hi4:¬i < 4:=by rw [hl4] at hi;exact hi
    rw [List.getElem?_eq_none (by omega),List.getElem?_eq_none (by simp;omega)];rfl
  subst ezs
  have s14:a0A H1 H4:=(s2.trans s3).trans s4
  refine b1t (d:=.list ((a6a k).map PyData.bool)) (.lst (SqL.of (s4 _ _ (s3 _ _ h2))) (b0M _)) (.lst (SqL.of hG4) (b0M _)) (b5j _) ?_
  try simp only [a1b,a1U]
  have hda4:=s4 _ _ hda3
  have hD4:=s14 _ _ (s1 _ _ hD)
  have hr14:=s14 _ _ hr1
  have hr24:=s14 _ _ hr2
  have hR4:=hR.same s14
  refine ⟨fun σ' H'=>σ'=[some (sv l),some (V.ref da),some (V.ref r),some (V.ref E1)]∧H4=H',?_,?_⟩
  ·try simp only [a2e,tOr,a1c,tOp,b3W,a0L,List.getElem?_cons_succ,List.getElem?_cons_zero,tC,a1q,a0Y,if_true,a6l,tB,tCB,a0x,a0W,Bool.not_eq_true',a0j]
   refine ⟨r,_,dr,_,_,rfl,hr14,CF.cl,CF.nl,a5R _ _ _,?_⟩
   refine a1g (SqT.of hda4) (v:=sv lb) rfl ?_
   try simp only [a2o,decide_true,a1b,Bool.not_eq_true',a4b]
   try rw [if_neg (by simp)]
   refine ⟨r,_,dr,_,_,rfl,hr14,CF.cl,CF.nh,a4c _ _ _,?_⟩
   refine a1g (SqT.of hda4) (v:=sv (stat s0)) rfl ?_
   try simp only [a2o,decide_true,a1b,Bool.not_eq_true',a4b]
   try rw [if_neg (by simp)]
   refine ⟨r,_,dr,_,_,rfl,hr14,CF.cl,CF.nb,a2Y _ _ _,?_⟩
   refine b2D hr24 ?_
   try simp only [a1b,a4b]
   exact ⟨(by trivial),(by trivial)⟩
  rintro σ' H' ⟨rfl,rfl⟩
  try simp only [a1q,b1T,tOp,tCB,a0x,b3W,a0L,List.getElem?_cons_succ,List.getElem?_cons_zero,a0W,tC,a0j]
  refine ⟨r,_,dr,_,_,rfl,hr14,CF.cl,CF.nb,a2Y _ _ _,?_⟩
  refine ⟨t0,_,rfl,.inr (SqT.of hr24),fun l5 hl5=>?_⟩
  obtain ⟨H5,e5,s5,h5⟩:=a2t hl5 (.lst (tv ss));rw [e5]
  refine a1g (SqT.of (s5 _ _ hda4)) (v:=.ref D) rfl ?_
  refine a2T (c4Y (SqL.of h5)) (c4Y (SqL.of (s5 _ _ hD4))) (b4H fun s hs=>hTT s (List.mem_cons_of_mem _ hs)) ?_
  try simp only [a1b,if_true]
  have hR5:=hR4.same s5
  refine b9r hk4 (a6z rfl) hR5 ⟨by decide+kernel,by decide+kernel,by decide+kernel⟩ ?_
  refine a8R T hk4 hR5 hlb hTT (Nat.le_trans hss (by decide)) fun H6 s6=>?_
  try simp only [a2m]
  rw [decide_eq_true (show mk (a9z k lb (stat s0) (ss.map stat))=mk l from congrArg mk hG.2.symm)]
  exact q _ (((s1.trans s14).trans s5).trans s6)
theorem b3X (T:Txt K mg t):a1y P w K mg base CX0 2 t.f_z1g t.fd_z1g ["_law_cell","_law_signs","_law_most"] c2w:=by
 refine T.F_z1g.ok a7j (fun vs H Q E h=>?_) (fun cdv A outer s H vs Q E hr h=>?_)
 ·obtain ⟨c,sg,rfl,hsg,q⟩:=h;rfl
 ·obtain ⟨c,sg,rfl,hsg,q⟩:=h
  refine ⟨_,(@a0h _ _ _ _ _ (@a0D _ _ (3) _ _ _ _ a7j.nd rfl (by trivial) (@a0m _ _ _ _ _ _ _ _ _ _ _ _ _ _ _ _ (a3h T) (hr.mono (by decide)) rfl T.g_z1k T.F_z1k.kp T.b_z1k .nil a0z (@a0b _ _ _ _ _ ‹0› (@a0b _ _ _ _ _ (@a0g _ _ _ _) (@a0e _) (by rfl)) (by rfl)) (by decide) (by rfl) (by rfl)) (by rfl) (by trivial)) (@a0h _ _ _ _ _ (@a0D _ _ (4) _ _ _ _ a7j.nd rfl (by trivial) (@a0n _ _ _ _) (by rfl) (by trivial)) (@a0h _ _ _ _ _ (@a5o _ _ _ _ _ _ _ _ PassesOwn.never rfl (@a5t _ _ _ _ _ _ rfl T.z_range (@a0b _ _ _ _ _ (@a0B _ _ _ _ _ _ _ _ a0E (@a0g _ _ _ _) (@a0B _ _ _ _ _ _ _ _ a1A ‹3› ‹2›)) (@a0e _) (by rfl)) (by rfl)) (@a1w _ _ (5) _ a7j.nd rfl (by trivial) (by trivial)) (@a0f _ _ _ (@a0D _ _ (4) _ _ _ _ a7j.nd rfl (by trivial) (@a0B _ _ _ _ _ _ _ _ a0E ‹4› (@a1i _ _ _ _ _ _ _ a0J ‹1› (@a0B _ _ _ _ _ _ _ _ a1A (@a0B _ _ _ _ _ _ _ _ a0E (@a0B _ _ _ _ _ _ _ _ a2K (@a0m _ _ _ _ _ _ _ _ _ _ _ _ _ _ _ _ (a3h T) (hr.mono (by decide)) rfl T.g_z1k T.F_z1k.kp T.b_z1k .nil a0z (@a0b _ _ _ _ _ ‹0› (@a0b _ _ _ _ _ (@a0g _ _ _ _) (@a0e _) (by rfl)) (by rfl)) (by decide) (by rfl) (by rfl)) (@a0B _ _ _ _ _ _ _ _ a0E ‹5› (@a0g _ _ _ _))) (@a0B _ _ _ _ _ _ _ _ a3Y (@a0B _ _ _ _ _ _ _ _ a3Y (@a0g _ _ _ _) ‹5›) ‹5›)) (@a0r _ _ _ _ _ _ _ _ _ a0H rfl T.z_len a0I (@a0b _ _ _ _ _ ‹1› (@a0e _) (by rfl)) (by decide) (by decide) (by rfl) (by rfl))) (fun _ _=>rfl))) (by rfl) (by trivial))) (by intro _;rfl)) (@a0f _ _ _ (@a0p _ _ _ _ ‹4›))))),?_⟩
  rw [show a0N b7t [V.int c,sv sg,V.int 8]=[some (V.int c),some (sv sg),some (V.int 8),none,none,none] from rfl]
  try simp only [a2D,a2u,a0R,a0x,a0L,List.getElem?_cons_zero,tC,a0W,List.append_nil,a0T,List.set_cons_succ,List.set_cons_zero,a3o,b2L,tOp,List.getElem?_cons_succ,a0j,a2n,a2H,a1r]
  intro n _
  have hn:=a2g (i:=n) (j:=8) (by decide)
  try skip
  refine ⟨by decide,_,rfl,by omega,by omega,?_⟩
  refine b0I (n:=(1+n % 8).toNat) (lo:=0) (fun i σ H'=>H=H'∧∃(l:List Nat) (b:Option V),l.length=i∧(∀c∈l,c∈sg)∧σ=[some (V.int c),some (sv sg),some (V.int 8),some (V.int n),some (sv l),b]) ⟨rfl,[],_,rfl,by simp,rfl⟩ ?_ ?_
  ·rintro i σ H' hi ⟨rfl,l,b,hl,hc,rfl⟩
   try simp only [a0T,a2u,tOp,a0L,List.set_cons_succ,List.set_cons_zero,List.getElem?_cons_succ,List.getElem?_cons_zero,a0R,a0x,tC,a0W,List.append_nil,tCB,a0j,a1V,a2H,b4h,a1r,a2n,b5N,a8n,a1h]
   intro r hr
   try skip
   have hm:=a2g (i:=r / (0+(i:Int)+1)+7 * (0+(i:Int)) * (0+(i:Int))) (j:=((mk sg).length:Int)) (by rw [a0i];omega)
   obtain ⟨d,e,hv,_⟩:=a5P (xs:=(mk sg).cps.toList) hm.1 (by rw [show ((mk sg).cps.toList.length:Int)=((mk sg).length:Int) by rw [a0i]];exact hm.2)
   have hd:d∈sg:=hv
   refine ⟨⟨by omega,by omega⟩,.inl (by decide),.inl ⟨by omega,by omega⟩,a0k (by rw [a0i];omega),by rw [a0i];omega,a0k (by rw [a0i];omega),d,e,?_,(by trivial),l++[d],_,by simp [hl],fun x hx=>?_,by rw [show (mk l++(⟨#[d]⟩:Str))=mk (l++[d]) from a4j l [d]]⟩
   ·show (mk l).length+1≤sizeLine
    rw [a0i]
    exact Nat.le_trans (show l.length+1≤1000 by omega) (by decide)
   ·rcases List.mem_append.mp hx with z | z
    ·exact hc x z
    ·have e2:x=d:=by simpa using z
     rw [e2];exact hd
  ·rintro σ H' ⟨rfl,l,b,hl,hc,rfl⟩
   try simp only [a1q,a0L,List.getElem?_cons_succ,List.getElem?_cons_zero,a0j]
   exact q l (by omega) hc
theorem b8i (T:Txt K mg t):a1y P w K mg base CX0 3 t.f_z1b t.fd_z1b ["_law_cell"] b4K:=by
 refine T.F_z1b.ok b8m (fun vs H Q E h=>?_) (fun cdv A outer s H vs Q E hr h=>?_)
 ·obtain ⟨c,rfl,q⟩:=h;rfl
 ·obtain ⟨c,rfl,q⟩:=h
  refine ⟨_,(@a0f _ _ _ (@a0p _ _ _ _ (@a0m _ _ _ _ _ _ _ _ _ _ _ _ _ _ _ _ (b3X T) (hr.mono (by decide)) rfl T.g_z1g T.F_z1g.kp T.b_z1g .nil a0z (@a0b _ _ _ _ _ ‹0› (@a0b _ _ _ _ _ (@a0n _ _ _ _) (@a0b _ _ _ _ _ (@a0g _ _ _ _) (@a0e _) (by rfl)) (by rfl)) (by rfl)) (by decide) (by rfl) (by rfl)))),?_⟩
  rw [show a0N b7j [V.int c]=[some (V.int c)] from rfl]
  try simp only [a1q,a0R,a0x,a0L,List.getElem?_cons_zero,tC,a0W,List.append_nil,a0j]
  rw [a8N]
  exact ⟨c,b2W,rfl,by decide,fun l h1 h2=>q l h1 h2⟩
theorem b3B (T:Txt K mg t):a1y P w K mg base CX0 3 t.f_z1h t.fd_z1h ["_law_cell"] b3A:=by
 refine T.F_z1h.ok b5Z (fun vs H Q E h=>?_) (fun cdv A outer s H vs Q E hr h=>?_)
 ·obtain ⟨c,rfl,q⟩:=h;rfl
 ·obtain ⟨c,rfl,q⟩:=h
  refine ⟨_,(@a0f _ _ _ (@a0p _ _ _ _ (@a0m _ _ _ _ _ _ _ _ _ _ _ _ _ _ _ _ (b3X T) (hr.mono (by decide)) rfl T.g_z1g T.F_z1g.kp T.b_z1g .nil a0z (@a0b _ _ _ _ _ ‹0› (@a0b _ _ _ _ _ (@a0n _ _ _ _) (@a0b _ _ _ _ _ (@a0g _ _ _ _) (@a0e _) (by rfl)) (by rfl)) (by rfl)) (by decide) (by rfl) (by rfl)))),?_⟩
  rw [show a0N b8B [V.int c]=[some (V.int c)] from rfl]
  try simp only [a1q,a0R,a0x,a0L,List.getElem?_cons_zero,tC,a0W,List.append_nil,a0j]
  rw [a8S]
  exact ⟨c,b0o,rfl,by decide,fun l h1 h2=>q l ⟨h1.1,h1.2,h2⟩⟩
theorem b6O (T:Txt K mg t):a1y P w K mg base CX0 1 t.f_z14 t.fd_z14 ["_law_base","_law_k"] a9u:=by
 refine T.F_z14.ok b5S (fun vs H Q E h=>?_) (fun cdv A outer s H vs Q E hr h=>?_)
 ·obtain ⟨b,k,rfl,q⟩:=h;rfl
 ·obtain ⟨b,k,rfl,q⟩:=h
  refine ⟨_,(@a0f _ _ _ (@a0p _ _ _ _ (@a1i _ _ _ _ _ _ _ a0J (@a0n _ _ _ _) (@a0B _ _ _ _ _ _ _ _ a1A (@a0B _ _ _ _ _ _ _ _ a0E ‹0› (@a0B _ _ _ _ _ _ _ _ a3Y (@a0g _ _ _ _) ‹1›)) (@a0g _ _ _ _)) (fun _ _=>rfl)))),?_⟩
  rw [show a0N b8I [V.int b,V.int k]=[some (V.int b),some (V.int k)] from rfl]
  try simp only [a1q,tOp,tC,a0L,List.getElem?_cons_zero,List.getElem?_cons_succ,a0j,a2H,b4h,a1r,a8n]
  rw [b1Y]
  have h1:=a2g (i:=b+5 * k) (j:=26) (by decide)
  obtain ⟨d,e,hv,_⟩:=a5P (xs:=(mk b2h).cps.toList) h1.1 h1.2
  exact ⟨.inl (by decide),by decide,by decide,d,e,q d hv⟩
theorem b7U (T:Txt K mg t):a1y P w K mg base CX0 4 t.f_z1c t.fd_z1c ["_law_cell","_law_base","_law_many"] b1N:=by
 refine T.F_z1c.ok b3F (fun vs H Q E h=>?_) (fun cdv A outer s H vs Q E hr h=>?_)
 ·obtain ⟨c,b,m,rfl,q⟩:=h;rfl
 ·obtain ⟨c,b,m,rfl,q⟩:=h
  refine ⟨_,(@a0h _ _ _ _ _ (@a0D _ _ (3) _ _ _ _ b3F.nd rfl (by trivial) (@a0m _ _ _ _ _ _ _ _ _ _ _ _ _ _ _ _ (a3h T) (hr.mono (by decide)) rfl T.g_z1k T.F_z1k.kp T.b_z1k .nil a0z (@a0b _ _ _ _ _ ‹0› (@a0b _ _ _ _ _ (@a0g _ _ _ _) (@a0e _) (by rfl)) (by rfl)) (by decide) (by rfl) (by rfl)) (by rfl) (by trivial)) (@a0O _ _ _ _ _ (@a0V _ _ _ _ _ _ _ _ (@PW.pt _ _ _ (@a5O _ _ _ _ _ _ _ (@a0s _ _ _ _ _ _ _ _ a5d ‹2› (@a0g _ _ _ _) (a0C _)) (@a4T _ _ _ _ (@a0s _ _ _ _ _ _ _ _ (a1C hr.units) (@a0B _ _ _ _ _ _ _ _ a1A ‹3› (@a0g _ _ _ _)) (@a0g _ _ _ _) (a0C _))))) (@a0f _ _ _ (@a0p _ _ _ _ (@a0m _ _ _ _ _ _ _ _ _ _ _ _ _ _ _ _ (b6O T) (hr.mono (by decide)) rfl T.g_z14 T.F_z14.kp T.b_z14 .nil a0z (@a0b _ _ _ _ _ ‹1› (@a0b _ _ _ _ _ (@a0B _ _ _ _ _ _ _ _ a1A (@a0B _ _ _ _ _ _ _ _ a2K ‹3› (@a0g _ _ _ _)) ‹2›) (@a0e _) (by rfl)) (by rfl)) (by decide) (by rfl) (by rfl)))) (@a0u _)) (@a0f _ _ _ (@a0p _ _ _ _ (@a0m _ _ _ _ _ _ _ _ _ _ _ _ _ _ _ _ (b3B T) (hr.mono (by decide)) rfl T.g_z1h T.F_z1h.kp T.b_z1h .nil a0z (@a0b _ _ _ _ _ (@a0B _ _ _ _ _ _ _ _ a0E ‹0› (@a0g _ _ _ _)) (@a0e _) (by rfl)) (by decide) (by rfl) (by rfl)))))),?_⟩
  rw [show a0N b6Q [V.int c,V.int b,V.int m]=[some (V.int c),some (V.int b),some (V.int m),none] from rfl]
  try simp only [a2D,a2u,a0R,a0x,a0L,List.getElem?_cons_zero,tC,a0W,List.append_nil,a0T,List.set_cons_succ,List.set_cons_zero,a0j,a2n]
  intro n _
  refine ⟨fun σ' H'=>σ'=[some (V.int c),some (V.int b),some (V.int m),some (V.int n)]∧H=H',?_,?_⟩
  ·try simp only [a2e,b4s,a1c,tOp,a0L,List.getElem?_cons_succ,List.getElem?_cons_zero,tC,a1q,a0R,a0x,a0W,List.append_nil,a0j,a2H,b5N,a8z,a0Y,a2p,a1b,decide_eq_true_eq,a1U,a1F]
   refine a1L (fun c1=>⟨by decide,a1L (fun c2=>?_) (fun c2=>⟨(by trivial),(by trivial)⟩)⟩) (fun c1=>⟨(by trivial),(by trivial)⟩)
   exact ⟨⟨by decide,by decide⟩,c1,fun d hd=>q [d] (.inr ⟨d,hd,rfl⟩)⟩
  rintro σ' H' ⟨rfl,rfl⟩
  try simp only [a1q,a0R,a0x,tOp,a0L,List.getElem?_cons_zero,tC,a0W,List.append_nil,a0j,a1r,a7i]
  exact fun l hl=>q l (.inl hl)
theorem b4b (T:Txt K mg t):a1y P w K mg base CX0 5 t.f_z1d t.fd_z1d ["_law_cell","_law_base","_law_many"] b2K:=by
 refine T.F_z1d.ok b0v (fun vs H Q E h=>?_) (fun cdv A outer s H vs Q E hr h=>?_)
 ·obtain ⟨c,b,m,rfl,q⟩:=h;rfl
 ·obtain ⟨c,b,m,rfl,q⟩:=h
  refine ⟨_,(@a0h _ _ _ _ _ (@a0D _ _ (3) _ _ _ _ b0v.nd rfl (by trivial) (@a0m _ _ _ _ _ _ _ _ _ _ _ _ _ _ _ _ (a3h T) (hr.mono (by decide)) rfl T.g_z1k T.F_z1k.kp T.b_z1k .nil a0z (@a0b _ _ _ _ _ ‹0› (@a0b _ _ _ _ _ (@a0g _ _ _ _) (@a0e _) (by rfl)) (by rfl)) (by decide) (by rfl) (by rfl)) (by rfl) (by trivial)) (@a0h _ _ _ _ _ (@a5Z _ _ _ _ _ _ _ _ _ _ _ _ _ (4) _ _ _ (@a1M _ (a0a a3s) (b4G) (["_law_k","_law_base","_law_many","_law_cell"]) ([none,some 1,some 2,some 0]) _ rfl rfl (by decide+kernel)) rfl (@a5t _ _ _ _ _ _ rfl T.z_range (@a0b _ _ _ _ _ (@a0B _ _ _ _ _ _ _ _ a1A ‹3› (@a0g _ _ _ _)) (@a0e _) (by rfl)) (by rfl)) (fun _ _ _ _ _=>(@a1w _ _ (0) _ (show List.Nodup (["_law_k","_law_base","_law_many","_law_cell"]:List Str) by decide+kernel) rfl (by trivial) (by trivial))) (fun _ _ _ _ _=>@a4S _) (fun _ _ _ _ _=>(@a0m _ _ _ _ _ _ _ _ _ _ _ _ _ _ _ _ (b7U T) (hr.mono (by decide)) rfl T.g_z1c T.F_z1c.kp T.b_z1c .nil a0z (@a0b _ _ _ _ _ (@a0B _ _ _ _ _ _ _ _ (a6F (K:=K) rfl) (@a0B _ _ _ _ _ _ _ _ (a6F (K:=K) rfl) ‹3› (@a0B _ _ _ _ _ _ _ _ a3Y (@a0g _ _ _ _) ‹0›)) (@a0g _ _ _ _)) (@a0b _ _ _ _ _ ‹1› (@a0b _ _ _ _ _ ‹2› (@a0e _) (by rfl)) (by rfl)) (by rfl)) (by decide) (by rfl) (by rfl))) b0v.nd rfl (by trivial) rfl (by intro _;rfl) (by trivial)) (@a0f _ _ _ (@a0p _ _ _ _ (@a5c _ _ _ _ _ (@a0b _ _ _ _ _ (@a1i _ _ _ _ _ _ _ a0J (@a1z _ _ _ _ (@a0b _ _ _ _ _ (@a0n _ _ _ _) (@a0b _ _ _ _ _ (@a0n _ _ _ _) (@a0e _) (by rfl)) (by rfl))) (@a0B _ _ _ _ _ _ _ _ a1A (@a0B _ _ _ _ _ _ _ _ a2K ‹3› (@a0g _ _ _ _)) (@a0g _ _ _ _)) (fun _ _=>rfl)) (@a0b _ _ _ _ _ (@a0m _ _ _ _ _ _ _ _ _ _ _ _ _ _ _ _ (b3B T) (hr.mono (by decide)) rfl T.g_z1h T.F_z1h.kp T.b_z1h .nil a0z (@a0b _ _ _ _ _ ‹0› (@a0e _) (by rfl)) (by decide) (by rfl) (by rfl)) (@a0b _ _ _ _ _ ‹4› (@a0e _) (by rfl)) (by rfl)) (by rfl))))))),?_⟩
  rw [show a0N b4G [V.int c,V.int b,V.int m]=[some (V.int c),some (V.int b),some (V.int m),none,none] from rfl]
  try simp only [a2D,a2u,a0R,a0x,a0L,List.getElem?_cons_zero,tC,a0W,List.append_nil,a0T,List.set_cons_succ,List.set_cons_zero,a1q,b2n,tOp,a6Y,List.getElem?_cons_succ,a0j,a7i,a1Z,b2L,a2n,a2H,b5N]
  intro n _
  have m4:=a2g (i:=n) (j:=3) (by decide)
  refine ⟨by decide,_,rfl,by omega,by omega,?_⟩
  refine a5X a7e (Nat.le_trans (show (n % 3).toNat≤1000 by omega) (by decide)) [some (V.int b),some (V.int m),some (V.int c)] rfl (fun i v=>∃l,IsP l∧v=.str (mk l)) (fun _ _=>trivial) (fun i H' R hi s hR=>?_) (fun D H2 ys hDn s2 hD hl hv=>?_)
  ·try simp only [a0R,a0x,tOp,a0L,List.getElem?_cons_succ,List.getElem?_cons_zero,tC,a0W,List.append_nil,a0j,a2H,b4h,a1r,b0j]
   refine ⟨.inl (by decide),?_⟩
   first | exact ⟨_,_,_,rfl,fun l hl=>hR _ _ (a0A.refl _) ⟨l,hl,rfl⟩⟩ | exact fun l hl=>hR _ _ (a0A.refl _) ⟨l,hl,rfl⟩
  obtain ⟨ps,rfl,hps⟩:=b8L hv
  have hn:ps.length≤2:=by
   have:(pv' ps).length=ps.length:=by simp
   omega
  try skip
  refine ⟨by decide,fun p hp=>?_⟩
  obtain ⟨H3,e3,s3,h3⟩:=a2t hp (.lst [V.str "",V.str "-"]);rw [e3]
  have m1:=a2g (i:=n / 3) (j:=2) (by decide)
  obtain ⟨v,e2,hv2,_⟩:=a5P (xs:=[V.str "",V.str "-"]) m1.1 m1.2
  refine ⟨⟨by decide,by decide⟩,by decide,a1m (SqL.of h3) e2 ?_⟩
  obtain ⟨sd,rfl,hsd⟩:∃sd:List Nat,v=sv sd∧(sd=[]∨sd=[45]):=by
   simp only [List.mem_cons,List.not_mem_nil,or_false] at hv2
   rcases hv2 with rfl | rfl
   ·exact ⟨[],rfl,.inl rfl⟩
   ·exact ⟨[45],by show V.str _=V.str _;rw [show ("-":Str)=mk [45] by decide+kernel],.inr rfl⟩
  intro nm hnm
  refine ⟨by simp only [List.length_cons,List.length_nil];decide,fun p5 hp5=>?_⟩
  obtain ⟨H5,e5,s5,h5⟩:=a2t hp5 (.tup [sv sd,sv nm,V.ref D]);rw [e5]
  have hp5':H p5=none:=s2.free (s3.free hp5)
  exact q sd nm ps p5 D H5 ⟨hsd,hnm,hn,hps⟩ ((s2.trans s3).trans s5) ⟨hp5',hDn,fun z=>a0y (s3 _ _ hD) hp5 z.symm⟩ ⟨h5,s5 _ _ (s3 _ _ hD)⟩
theorem b4i (T:Txt K mg t):a1y P w K mg base CX0 1 t.f_z1e t.fd_z1e ["_law_parts_here"] b5h:=by
 refine T.F_z1e.ok b7h (fun vs H Q E h=>?_) (fun cdv A outer s H vs Q E hr h=>?_)
 ·obtain ⟨p,sd,nm,ps,rfl,hS,h3,q⟩:=h;rfl
 ·obtain ⟨p,sd,nm,ps,rfl,hS,h3,q⟩:=h
  refine ⟨_,(@a0h _ _ _ _ _ (@a0V _ _ _ _ _ _ _ _ (@a0s _ _ _ _ _ _ _ _ (a1C hr.units) (@a1i _ _ _ _ _ _ _ a0J ‹0› (@a0g _ _ _ _) (fun _ _=>rfl)) (@a1z _ _ _ _ (@a0e _)) (a0C _)) (@a0f _ _ _ (@a0p _ _ _ _ (@a0B _ _ _ _ _ _ _ _ a0E (@a1i _ _ _ _ _ _ _ a0J ‹0› (@a0g _ _ _ _) (fun _ _=>rfl)) (@a1i _ _ _ _ _ _ _ a0J ‹0› (@a0g _ _ _ _) (fun _ _=>rfl))))) (@a0u _)) (@a0f _ _ _ (@a0p _ _ _ _ (@a0B _ _ _ _ _ _ _ _ a0E (@a0B _ _ _ _ _ _ _ _ a0E (@a0B _ _ _ _ _ _ _ _ a0E (@a0B _ _ _ _ _ _ _ _ a0E (@a1i _ _ _ _ _ _ _ a0J ‹0› (@a0g _ _ _ _) (fun _ _=>rfl)) (@a1i _ _ _ _ _ _ _ a0J ‹0› (@a0g _ _ _ _) (fun _ _=>rfl))) (@a0n _ _ _ _)) (@a2k _ _ _ _ _ _ _ _ _ _ _ _ PySem.F.plainAttrs_str PySem.F.slot_str_join PySem.F.type_str_join a6x (@a0n _ _ _ _) (@a0b _ _ _ _ _ (@a1i _ _ _ _ _ _ _ a0J ‹0› (@a0g _ _ _ _) (fun _ _=>rfl)) (@a0e _) (by rfl)) (by rfl) (by rfl) (by rfl) (by rfl) (by rfl))) (@a0n _ _ _ _))))),?_⟩
  rw [show a0N b7d [V.ref p]=[some (V.ref p)] from rfl]
  obtain ⟨D,hp,hD⟩:=h3
  have h1:sd.length≤1:=by rcases hS.side with e | e<;>rw [e]<;>simp
  have h2:=hS.name.2.1
  try simp only [a2D,a2e,a1c,tOp,a0L,List.getElem?_cons_zero,tC,a6Y,a0W,a1q,a0j,a0Y,tBM,a0x,a1G]
  refine a1g (SqT.of hp) (v:=.ref D) rfl ?_
  try skip
  refine ⟨by decide,fun p1 hp1=>?_⟩
  obtain ⟨H1,e1,s1,h1'⟩:=a2t hp1 (.lst []);rw [e1]
  have hp:=s1 _ _ hp
  have hD:=s1 _ _ hD
  refine .inr ⟨_,_,c5x (SqL.of hD),c5x (qs:=[]) (SqL.of h1'),b1P hS.places,b1P (by simp),?_⟩
  rw [show ("(":Str)=mk [40] by decide+kernel,show (")":Str)=mk [41] by decide+kernel,show (",":Str)=mk [44] by decide+kernel]
  cases ps with
  | nil=>
   try simp only [a1b]
   rw [if_pos (by rfl)]
   refine a1g (SqT.of hp) (v:=sv sd) rfl (a1g (SqT.of hp) (v:=sv nm) rfl ?_)
   try simp only [a1h]
   rw [a4j]
   exact ⟨by rw [a0i,a0i];exact Nat.le_trans (show _≤1000 by omega) (by decide),q _ s1⟩
  | cons a qs=>
   try simp only [a1b]
   rw [if_neg (by simp [PyData.eqv,PyData.eqvAll])]
   generalize hps:a::qs=ps at hS hD q ⊢
   refine a1g (SqT.of hp) (v:=sv sd) rfl (a1g (SqT.of hp) (v:=sv nm) rfl ?_)
   try simp only [a1h]
   refine ⟨?_,?_,?_⟩
   ·rw [a0i,a0i];exact Nat.le_trans (show _≤1000 by omega) (by decide)
   ·rw [a4j,a0i,a0i];exact Nat.le_trans (show _≤1000 by simp;omega) (by decide)
   have hj:Txt.join (mk [44]) (ps.map mk)=mk (a4Y ps):=by
    match ps,hS.many with
    | [],_=>rfl
    | [a],_=>rfl
    | [a,b],_=>
     show Txt.join (mk [44]) [mk a,mk b]=mk (a++44::b)
     rw [b3n];simp
   have hl:(a4Y ps).length≤40∧((ps.map mk).map (·.length)).sum+(ps.map mk).length * (mk [44]).length≤16777216:=by
    match ps,hS.many,hS.places with
    | [],_,_=>exact ⟨by decide,by decide⟩
    | [a],_,hp=>have:=(hp a (by simp)).len;refine ⟨by simp [a4Y];omega,?_⟩;simp [a0i];omega
    | [a,b],_,hp=>have:=(hp a (by simp)).len;have:=(hp b (by simp)).len;refine ⟨by simp [a4Y];omega,?_⟩;simp [a0i];omega
   refine a1g (SqT.of hp) (v:=.ref D) rfl (a4h (ys:=ps.map mk) (.inl (by rw [List.map_map];exact SqL.of hD)) hl.2 ?_)
   try simp only [a1h]
   rw [hj,a4j,a4j,a4j,a4j]
   refine ⟨?_,?_,?_⟩
   ·rw [a0i,a0i];exact Nat.le_trans (show _≤1000 by simp;omega) (by decide)
   ·rw [a0i,a0i];exact Nat.le_trans (show _≤1000 by simp;omega) (by decide)
   ·have e:sd++nm++[40]++a4Y ps++[41]=a0S sd nm ps:=by
     match ps,hS.many,hps with
     | [],_,c=>simp at c
     | [a],_,_=>simp [a0S,a4Y]
     | [a,b],_,_=>simp [a0S,a4Y]
    rw [e];exact q _ s1
theorem b6v (T:Txt K mg t):a1y P w K mg base CX0 6 t.f_z1l t.fd_z1l ["_law_cell"] b8W:=by
 refine T.F_z1l.ok a5r (fun vs H Q E h=>?_) (fun cdv A outer s H vs Q E hr h=>?_)
 ·obtain ⟨c,rfl,q⟩:=h;rfl
 ·obtain ⟨c,rfl,q⟩:=h
  refine ⟨_,(@a0h _ _ _ _ _ (@a0D _ _ (1) _ _ _ _ a5r.nd rfl (by trivial) (@a0m _ _ _ _ _ _ _ _ _ _ _ _ _ _ _ _ (a3h T) (hr.mono (by decide)) rfl T.g_z1k T.F_z1k.kp T.b_z1k .nil a0z (@a0b _ _ _ _ _ ‹0› (@a0b _ _ _ _ _ (@a0g _ _ _ _) (@a0e _) (by rfl)) (by rfl)) (by decide) (by rfl) (by rfl)) (by rfl) (by trivial)) (@a0h _ _ _ _ _ (@a0D _ _ (2) _ _ _ _ a5r.nd rfl (by trivial) (@a0B _ _ _ _ _ _ _ _ a1A (@a0B _ _ _ _ _ _ _ _ a2K ‹1› (@a0g _ _ _ _)) (@a0g _ _ _ _)) (by rfl) (by trivial)) (@a0h _ _ _ _ _ (@a5Z _ _ _ _ _ _ _ _ _ _ _ _ _ (3) _ _ _ (@a1M _ (a0a a3r) (b4U) (["_law_k","_law_base","_law_cell","_law_number"]) ([none,some 2,some 0,some 1]) _ rfl rfl (by decide+kernel)) rfl (@a5t _ _ _ _ _ _ rfl T.z_range (@a0b _ _ _ _ _ (@a0g _ _ _ _) (@a0e _) (by rfl)) (by rfl)) (fun _ _ _ _ _=>(@a1w _ _ (0) _ (show List.Nodup (["_law_k","_law_base","_law_cell","_law_number"]:List Str) by decide+kernel) rfl (by trivial) (by trivial))) (fun _ _ _ _ _=>@a4S _) (fun _ _ _ _ _=>(@a0m _ _ _ _ _ _ _ _ _ _ _ _ _ _ _ _ (b4i T) (hr.mono (by decide)) rfl T.g_z1e T.F_z1e.kp T.b_z1e .nil a0z (@a0b _ _ _ _ _ (@a0m _ _ _ _ _ _ _ _ _ _ _ _ _ _ _ _ (b4b T) (hr.mono (by decide)) rfl T.g_z1d T.F_z1d.kp T.b_z1d .nil a0z (@a0b _ _ _ _ _ (@a0B _ _ _ _ _ _ _ _ (a6F (K:=K) rfl) ‹2› (@a0B _ _ _ _ _ _ _ _ a3Y (@a0g _ _ _ _) ‹0›)) (@a0b _ _ _ _ _ ‹1› (@a0b _ _ _ _ _ (@a0B _ _ _ _ _ _ _ _ (a6F (K:=K) rfl) (@a0g _ _ _ _) (@a0B _ _ _ _ _ _ _ _ a1A (@a0B _ _ _ _ _ _ _ _ a2K ‹3› (@a0g _ _ _ _)) (@a0g _ _ _ _))) (@a0e _) (by rfl)) (by rfl)) (by rfl)) (by decide) (by rfl) (by rfl)) (@a0e _) (by rfl)) (by decide) (by rfl) (by rfl))) a5r.nd rfl (by trivial) rfl (by intro _;rfl) (by trivial)) (@a0h _ _ _ _ _ (@a0D _ _ (4) _ _ _ _ a5r.nd rfl (by trivial) (@a0B _ _ _ _ _ _ _ _ a1A (@a0B _ _ _ _ _ _ _ _ a2K ‹1› (@a0g _ _ _ _)) (@a0g _ _ _ _)) (by rfl) (by trivial)) (@a0h _ _ _ _ _ (@a0V _ _ _ _ _ _ _ _ (@a0s _ _ _ _ _ _ _ _ (a1C hr.units) (@a0B _ _ _ _ _ _ _ _ a1A ‹1› (@a0g _ _ _ _)) (@a0g _ _ _ _) (a0C _)) (@a0f _ _ _ (@a0p _ _ _ _ (@a0B _ _ _ _ _ _ _ _ a0E (@a0n _ _ _ _) (@a0m _ _ _ _ _ _ _ _ _ _ _ _ _ _ _ _ (b4i T) (hr.mono (by decide)) rfl T.g_z1e T.F_z1e.kp T.b_z1e .nil a0z (@a0b _ _ _ _ _ (@a0m _ _ _ _ _ _ _ _ _ _ _ _ _ _ _ _ (b4b T) (hr.mono (by decide)) rfl T.g_z1d T.F_z1d.kp T.b_z1d .nil a0z (@a0b _ _ _ _ _ ‹0› (@a0b _ _ _ _ _ ‹2› (@a0b _ _ _ _ _ (@a0B _ _ _ _ _ _ _ _ a2K (@a0B _ _ _ _ _ _ _ _ a1A (@a0B _ _ _ _ _ _ _ _ a2K ‹1› (@a0g _ _ _ _)) (@a0g _ _ _ _)) (@a0g _ _ _ _)) (@a0e _) (by rfl)) (by rfl)) (by rfl)) (by decide) (by rfl) (by rfl)) (@a0e _) (by rfl)) (by decide) (by rfl) (by rfl))))) (@a0u _)) (@a0h _ _ _ _ _ (@a0D _ _ (5) _ _ _ _ a5r.nd rfl (by trivial) (@a0B _ _ _ _ _ _ _ _ a0E (@a0B _ _ _ _ _ _ _ _ a0E (@a0B _ _ _ _ _ _ _ _ a0E (@a1i _ _ _ _ _ _ _ a0J (@a1z _ _ _ _ (@a0b _ _ _ _ _ (@a0n _ _ _ _) (@a0b _ _ _ _ _ (@a0n _ _ _ _) (@a0b _ _ _ _ _ (@a0n _ _ _ _) (@a0e _) (by rfl)) (by rfl)) (by rfl))) (@a0B _ _ _ _ _ _ _ _ b4g (@a0B _ _ _ _ _ _ _ _ a1A ‹1› (@a0g _ _ _ _)) (@a0g _ _ _ _)) (fun _ _=>rfl)) (@a0n _ _ _ _)) (@a0m _ _ _ _ _ _ _ _ _ _ _ _ _ _ _ _ (b8i T) (hr.mono (by decide)) rfl T.g_z1b T.F_z1b.kp T.b_z1b .nil a0z (@a0b _ _ _ _ _ ‹0› (@a0e _) (by rfl)) (by decide) (by rfl) (by rfl))) (@a0n _ _ _ _)) (by rfl) (by trivial)) (@a0O _ _ _ _ _ (@a0V _ _ _ _ _ _ _ _ (@a0s _ _ _ _ _ _ _ _ a5d ‹4› (@a0g _ _ _ _) (a0C _)) (@a0f _ _ _ (@a0D _ _ (5) _ _ _ _ a5r.nd rfl (by trivial) (@a0B _ _ _ _ _ _ _ _ a0E (@a0B _ _ _ _ _ _ _ _ a0E ‹5› (@a2k _ _ _ _ _ _ _ _ _ _ _ _ PySem.F.plainAttrs_str PySem.F.slot_str_join PySem.F.type_str_join a6x (@a0n _ _ _ _) (@a0b _ _ _ _ _ (@a0M _ _ _ _ _ _ _ _ _ _ a1v ‹3› (@a0P _ _ _ (@a0g _ _ _ _)) (@a0P _ _ _ (@a0B _ _ _ _ _ _ _ _ a0E (@a0g _ _ _ _) ‹4›))) (@a0e _) (by rfl)) (by rfl) (by rfl) (by rfl) (by rfl) (by rfl))) (@a0n _ _ _ _)) (by rfl) (by trivial))) (@a0u _)) (@a0f _ _ _ (@a0p _ _ _ _ (@a0B _ _ _ _ _ _ _ _ a0E (@a0B _ _ _ _ _ _ _ _ a0E ‹5› (@a0n _ _ _ _)) (@a1i _ _ _ _ _ _ _ a0J ‹3› (@a0g _ _ _ _) (fun _ _=>rfl)))))))))))),?_⟩
  rw [show a0N b4U [V.int c]=[some (V.int c),none,none,none,none,none] from rfl]
  try simp only [a2D,a2u,a0R,a0x,a0L,List.getElem?_cons_zero,tC,a0W,List.append_nil,a0T,tOp,List.set_cons_succ,List.set_cons_zero,List.getElem?_cons_succ,a2e,a1c,a1q,a0j,a0Y,a6Y,a1Z,b2L,a2n,a2H,b5N,a1F,a2p,a1b,decide_eq_true_eq]
  intro r1 _
  have k1:("fact ":Str).length=5:=by decide+kernel
  have k2:(" ":Str).length=1:=by decide+kernel
  have k3:(": ":Str).length=2:=by decide+kernel
  have k4:(", ":Str).length=2:=by decide+kernel
  have k5:("-> ":Str).length=3:=by decide+kernel
  refine ⟨by decide,by decide,6,rfl,by decide,by decide,?_⟩
  refine a5X a7e (a0k (show (6:Int).toNat≤100000 by decide)) [some (V.int (r1 / 4 % 26)),some (V.int c),some (V.int r1)] rfl (fun i v=>∃l:List Nat,l.length≤28∧v=.str (mk l)) (fun _ _=>trivial) (fun i H' R hi s hR=>?_) (fun D H2 ys hDn s2 hD hl hv=>?_)
  ·try simp only [a0R,a0x,tOp,a0L,List.getElem?_cons_succ,List.getElem?_cons_zero,tC,a0W,List.append_nil,a0j,a2H,b5N,a1r,b4h]
   refine ⟨.inl ⟨by decide,by decide⟩,by decide,by decide,_,_,_,rfl,fun sd nm ps p L H3 hS s3 _ h3=>?_⟩
   exact ⟨p,sd,nm,ps,rfl,hS,⟨L,h3.1,h3.2⟩,fun H4 s4=>hR _ _ (s3.trans s4) ⟨_,b3E hS,rfl⟩⟩
  obtain ⟨qs,rfl,hqs⟩:=b3z hv
  have hn:qs.length=6:=by simpa using hl
  try skip
  refine ⟨by decide,by decide,by decide,a1L (fun _=>?_) (fun hc=>?_)⟩
  ·refine ⟨by decide,by decide,by decide,_,_,_,rfl,fun sd nm ps p L H3 hS s3 _ h3=>?_⟩
   refine ⟨p,sd,nm,ps,rfl,hS,⟨L,h3.1,h3.2⟩,fun H4 s4=>?_⟩
   try simp only [a1h]
   have hs:=b3E hS
   have a1:=a1H "fact " (mk (a0S sd nm ps))
   have m1:(mk (a0S sd nm ps)).length=(a0S sd nm ps).length:=a0i _
   exact ⟨a0k (by omega),q _ _ (by omega) ((s2.trans s3).trans s4)⟩
  have hm4:=a2g (i:=r1) (j:=4) (by decide)
  have hm6:=a2g (i:=r1 / 416) (j:=6) (by decide)
  refine ⟨a0k (show 3≤100000 by decide),fun p3 hp3=>?_⟩
  obtain ⟨H3,e3,s3,h3⟩:=a2t hp3 (.lst [V.str "sure",V.str "most",V.str "block"]);rw [e3]
  obtain ⟨v,ev,hv',_⟩:=a5P (xs:=[V.str "sure",V.str "most",V.str "block"]) (i:=r1 % 4 - 1) (by omega) (by show r1 % 4 - 1 < 3;omega)
  obtain ⟨w',rfl,hw'⟩:∃w':Str,v=.str w'∧w'.length≤5:=by
   simp only [List.mem_cons,List.not_mem_nil,or_false] at hv'
   rcases hv' with rfl | rfl | rfl
   ·exact ⟨_,rfl,by decide+kernel⟩
   ·exact ⟨_,rfl,by decide+kernel⟩
   ·exact ⟨_,rfl,by decide+kernel⟩
  refine ⟨by decide,a1m (SqL.of h3) ev ?_⟩
  try simp only [a1h]
  have b1:=a1H w' " "
  refine ⟨a0k (by omega),c,rfl,fun l hl1 _=>?_⟩
  have m1:(mk l).length=l.length:=a0i _
  have b2:=a1H (w'++" ") (mk l)
  have b3:=a1H (w'++" "++mk l) ": "
  try simp only [a1h]
  refine ⟨a0k (by omega),a0k (by omega),?_⟩
  have hlen:(w'++" "++mk l++": ").length≤16:=by omega
  generalize w'++" "++mk l++": "=ah at hlen
  have hD3:=s3 _ _ hD
  refine ⟨fun σ' H'=>∃z:Str,σ'=[some (V.int c),some (V.int r1),some (V.int (r1 / 4 % 26)),some (V.ref D),some (V.int (r1 / 416 % 6)),some (V.str z)]∧a0A H3 H'∧z.length≤170,?_,?_⟩
  ·try simp only [a2e,a1c,tOp,a0L,List.getElem?_cons_succ,List.getElem?_cons_zero,tC,a2u,tBM,a0x,tSl,a3g,a0W,a0T,List.set_cons_succ,List.set_cons_zero,a0j,a1r,a3x,a1G,a0Y,a1F,a1b,decide_eq_true_eq]
   refine a1L (fun _=>?_) (fun _=>⟨ah,(by trivial),a0A.refl _,by omega⟩)
   refine .inr (.inl ⟨D,_,rfl,SqL.of hD3,fun p4 hp4=>?_⟩)
   obtain ⟨k,hk,ek⟩:=b6N (pv' qs) (n:=r1 / 416 % 6) hm6.1
   rw [ek,←List.map_drop,←List.map_take]
   obtain ⟨H4,e4,s4,h4⟩:=a2t hp4 (.lst (pv' ((qs.drop 1).take k)));rw [e4]
   have hq5:((qs.drop 1).take k).length≤5:=by rw [List.length_take,List.length_drop];omega
   have hq28:∀p∈(qs.drop 1).take k,p.length≤28:=fun p hp=>hqs p (List.mem_of_mem_drop (List.mem_of_mem_take hp))
   generalize (qs.drop 1).take k=us at h4 hq5 hq28
   have hsum:=c4J 28 us hq28
   refine a4h (ys:=us.map mk) (.inl (SqL.of (by rw [List.map_map];exact h4))) (by rw [k4,List.length_map];omega) ?_
   rw [show (", ":Str)=mk [44,32] by decide+kernel,a6d]
   have hj:=a8Z [44,32] (m:=28) us hq28
   have mj:(mk (a1n [44,32] us)).length=(a1n [44,32] us).length:=a0i _
   have aj:=a1H ah (mk (a1n [44,32] us))
   have aj2:=a1H (ah++mk (a1n [44,32] us)) " "
   have hj2:us.length * ([44,32].length+28)≤5 * 30:=Nat.mul_le_mul hq5 (by decide)
   try simp only [a1h]
   exact ⟨a0k (by omega),a0k (by omega),_,(by trivial),s4,by omega⟩
  rintro σ' H4 ⟨z,rfl,s4,hz⟩
  try simp only [a1q,tOp,a0L,List.getElem?_cons_succ,List.getElem?_cons_zero,tC,a0j,a1h]
  obtain ⟨q0,hq0⟩:∃q0,qs[0]?=some q0:=⟨_,List.getElem?_eq_getElem (by omega)⟩
  have hq0l:=hqs q0 (List.mem_of_getElem? hq0)
  have a1:=a1H z "-> "
  have a2:=a1H (z++"-> ") (mk q0)
  have m0:(mk q0).length=q0.length:=a0i _
  refine ⟨a0k (by omega),a1m (SqL.of (s4 _ _ hD3)) (v:=sv q0) (a2A (j:=0) (by rw [List.getElem?_map,hq0];rfl)) ?_⟩
  try simp only [a1h]
  exact ⟨a0k (by omega),q _ _ (by omega) ((s2.trans s3).trans s4)⟩
theorem b4e (T:Txt K mg t):a1y P w K mg base CX0 2 t.f_z15 t.fd_z15 ["_law_row_here","_law_cell"] a9Y:=by
 refine T.F_z15.ok a7S (fun vs H Q E h=>?_) (fun cdv A outer s H vs Q E hr h=>?_)
 ·obtain ⟨z,c,rfl,hz,q⟩:=h;rfl
 ·obtain ⟨z,c,rfl,hz,q⟩:=h
  refine ⟨_,(@a0h _ _ _ _ _ (@a0D _ _ (2) _ _ _ _ a7S.nd rfl (by trivial) (@a0n _ _ _ _) (by rfl) (by trivial)) (@a0h _ _ _ _ _ (@a0D _ _ (3) _ _ _ _ a7S.nd rfl (by trivial) (@a1i _ _ _ _ _ _ _ a0J ‹2› (@a0B _ _ _ _ _ _ _ _ a1A (@a0m _ _ _ _ _ _ _ _ _ _ _ _ _ _ _ _ (a3h T) (hr.mono (by decide)) rfl T.g_z1k T.F_z1k.kp T.b_z1k .nil a0z (@a0b _ _ _ _ _ ‹1› (@a0b _ _ _ _ _ (@a0g _ _ _ _) (@a0e _) (by rfl)) (by rfl)) (by decide) (by rfl) (by rfl)) (@a0r _ _ _ _ _ _ _ _ _ a0H rfl T.z_len a0I (@a0b _ _ _ _ _ ‹2› (@a0e _) (by rfl)) (by decide) (by decide) (by rfl) (by rfl))) (fun _ _=>rfl)) (by rfl) (by trivial)) (@a0h _ _ _ _ _ (@a0D _ _ (4) _ _ _ _ a7S.nd rfl (by trivial) (@a0B _ _ _ _ _ _ _ _ a1A (@a0m _ _ _ _ _ _ _ _ _ _ _ _ _ _ _ _ (a3h T) (hr.mono (by decide)) rfl T.g_z1k T.F_z1k.kp T.b_z1k .nil a0z (@a0b _ _ _ _ _ ‹1› (@a0b _ _ _ _ _ (@a0g _ _ _ _) (@a0e _) (by rfl)) (by rfl)) (by decide) (by rfl) (by rfl)) (@a0B _ _ _ _ _ _ _ _ a0E (@a0r _ _ _ _ _ _ _ _ _ a0H rfl T.z_len a0I (@a0b _ _ _ _ _ ‹0› (@a0e _) (by rfl)) (by decide) (by decide) (by rfl) (by rfl)) (@a0g _ _ _ _))) (by rfl) (by trivial)) (@a0h _ _ _ _ _ (@a0D _ _ (5) _ _ _ _ a7S.nd rfl (by trivial) (@a0B _ _ _ _ _ _ _ _ a1A (@a0m _ _ _ _ _ _ _ _ _ _ _ _ _ _ _ _ (a3h T) (hr.mono (by decide)) rfl T.g_z1k T.F_z1k.kp T.b_z1k .nil a0z (@a0b _ _ _ _ _ ‹1› (@a0b _ _ _ _ _ (@a0g _ _ _ _) (@a0e _) (by rfl)) (by rfl)) (by decide) (by rfl) (by rfl)) (@a0g _ _ _ _)) (by rfl) (by trivial)) (@a0h _ _ _ _ _ (@a0V _ _ _ _ _ _ _ _ (@a0s _ _ _ _ _ _ _ _ (a1C hr.units) ‹5› (@a0g _ _ _ _) (a0C _)) (@a0f _ _ _ (@a0p _ _ _ _ (@a0B _ _ _ _ _ _ _ _ a0E (@a0M _ _ _ _ _ _ _ _ _ _ a1v ‹0› (@a1k _) (@a0P _ _ _ ‹4›)) (@a0M _ _ _ _ _ _ _ _ _ _ a1v ‹0› (@a0P _ _ _ (@a0B _ _ _ _ _ _ _ _ a0E ‹4› (@a0g _ _ _ _))) (@a1k _))))) (@a0u _)) (@a0h _ _ _ _ _ (@a0V _ _ _ _ _ _ _ _ (@a0s _ _ _ _ _ _ _ _ (a1C hr.units) ‹5› (@a0g _ _ _ _) (a0C _)) (@a0f _ _ _ (@a0p _ _ _ _ (@a0B _ _ _ _ _ _ _ _ a0E (@a0B _ _ _ _ _ _ _ _ a0E (@a0M _ _ _ _ _ _ _ _ _ _ a1v ‹0› (@a1k _) (@a0P _ _ _ ‹4›)) ‹3›) (@a0M _ _ _ _ _ _ _ _ _ _ a1v ‹0› (@a0P _ _ _ ‹4›) (@a1k _))))) (@a0u _)) (@a0f _ _ _ (@a0p _ _ _ _ (@a0B _ _ _ _ _ _ _ _ a0E (@a0B _ _ _ _ _ _ _ _ a0E (@a0M _ _ _ _ _ _ _ _ _ _ a1v ‹0› (@a1k _) (@a0P _ _ _ ‹4›)) ‹3›) (@a0M _ _ _ _ _ _ _ _ _ _ a1v ‹0› (@a0P _ _ _ (@a0B _ _ _ _ _ _ _ _ a0E ‹4› (@a0g _ _ _ _))) (@a1k _))))))))))),?_⟩
  rw [show a0N b7X [V.str z,V.int c]=[some (V.str z),some (V.int c),none,none,none,none] from rfl]
  have hS:∀lo hi,(Txt.slice z lo hi).length≤z.length:=fun lo hi=>Txt.slice_le z lo hi
  try simp only [a2D,a2u,tC,a0T,tOp,a0L,List.set_cons_succ,List.set_cons_zero,List.getElem?_cons_succ,List.getElem?_cons_zero,a0R,a0x,a0W,List.append_nil,tCB,a2e,a1c,a1q,tSl,a1N,a3g,a0j,a1E,a1h,a0Y,a2n,a2H,a2p,a1b,decide_eq_true_eq,a1V,a1r,a3x,a8n]
  intro r1 _
  have kl:(" ,:->()fsmbactAQZz09!  ,,::-->>(()).;x1":Str).length=39:=by decide+kernel
  have hm1:=a2g (i:=r1) (j:=((" ,:->()fsmbactAQZz09!  ,,::-->>(()).;x1":Str).length:Int)) (by rw [kl];decide)
  obtain ⟨c1,e1,_⟩:=a5P (xs:=(" ,:->()fsmbactAQZz09!  ,,::-->>(()).;x1":Str).cps.toList) (i:=r1 % ((" ,:->()fsmbactAQZz09!  ,,::-->>(()).;x1":Str).length:Int)) hm1.1 hm1.2
  refine ⟨by decide+kernel,by rw [kl];decide,by decide+kernel,c1,e1,?_⟩
  intro r2 _
  refine ⟨a0k (by omega),by omega,?_⟩
  generalize r2 % ((z.length:Int)+1)=at_
  intro r3 _
  refine ⟨by decide,?_⟩
  have h1:(⟨#[c1]⟩:Str).length=1:=rfl
  have a1:=hS none (some at_)
  have a2:=hS (some at_) none
  have a3:=hS (some (at_+1)) none
  generalize Txt.slice z none (some at_)=z1 at a1 ⊢
  generalize Txt.slice z (some at_) none=z2 at a2 ⊢
  generalize Txt.slice z (some (at_+1)) none=z3 at a3 ⊢
  generalize (⟨#[c1]⟩:Str)=z5 at h1 ⊢
  have zl:z.length≤sizeLine:=a0k (by omega)
  refine a1L (fun _=>?_) (fun _=>a1L (fun _=>?_) (fun _=>?_))
  ·exact ⟨zl,zl,a0k (by omega),q _ (by rw [a1H];omega)⟩
  ·exact ⟨zl,a0k (by omega),zl,a0k (by rw [a1H];omega),q _ (by rw [a1H,a1H];omega)⟩
  ·exact ⟨zl,a0k (by omega),zl,a0k (by rw [a1H];omega),q _ (by rw [a1H,a1H];omega)⟩
theorem b2I (T:Txt K mg t):a1y P w K mg base CX0 12 t.f_d_law t.fd_d_law ["_law_script"] (b5p K):=by
 refine T.F_d_law.ok a2q (fun vs H Q E h=>?_) (fun cdv A outer s H vs Q E hr h=>?_)
 ·obtain ⟨a,ns,rfl,hS,hl,q⟩:=h;rfl
 ·obtain ⟨a,ns,rfl,hS,hl,q⟩:=h
  refine ⟨_,(@a0h _ _ _ _ _ (@a5o _ _ _ _ _ _ _ _ PassesOwn.never rfl (@a2U _ _ _ _ (@a0M _ _ _ _ _ _ _ _ _ _ a1v ‹0› (@a1k _) (@a0P _ _ _ (@a0g _ _ _ _)))) (@a1w _ _ (1) _ a2q.nd rfl (by trivial) (by trivial)) (@a0h _ _ _ _ _ (@a0D _ _ (2) _ _ _ _ a2q.nd rfl (by trivial) (@a0m _ _ _ _ _ _ _ _ _ _ _ _ _ _ _ _ (b6v T) (hr.mono (by decide)) rfl T.g_z1l T.F_z1l.kp T.b_z1l .nil a0z (@a0b _ _ _ _ _ ‹1› (@a0e _) (by rfl)) (by decide) (by rfl) (by rfl)) (by rfl) (by trivial)) (@a0h _ _ _ _ _ (@a0D _ _ (3) _ _ _ _ a2q.nd rfl (by trivial) (@a0B _ _ _ _ _ _ _ _ a1A (@a0m _ _ _ _ _ _ _ _ _ _ _ _ _ _ _ _ (a3h T) (hr.mono (by decide)) rfl T.g_z1k T.F_z1k.kp T.b_z1k .nil a0z (@a0b _ _ _ _ _ ‹1› (@a0b _ _ _ _ _ (@a0g _ _ _ _) (@a0e _) (by rfl)) (by rfl)) (by decide) (by rfl) (by rfl)) (@a0g _ _ _ _)) (by rfl) (by trivial)) (@a0O _ _ _ _ _ (@a0V _ _ _ _ _ _ _ _ (@a0s _ _ _ _ _ _ _ _ a5d ‹3› (@a0g _ _ _ _) (a0C _)) (@a0f _ _ _ (@a0D _ _ (2) _ _ _ _ a2q.nd rfl (by trivial) (@a0m _ _ _ _ _ _ _ _ _ _ _ _ _ _ _ _ (b4e T) (hr.mono (by decide)) rfl T.g_z15 T.F_z15.kp T.b_z15 .nil a0z (@a0b _ _ _ _ _ ‹2› (@a0b _ _ _ _ _ ‹1› (@a0e _) (by rfl)) (by rfl)) (by decide) (by rfl) (by rfl)) (by rfl) (by trivial))) (@a0u _)) (@a0O _ _ _ _ _ (@a0V _ _ _ _ _ _ _ _ (@a0s _ _ _ _ _ _ _ _ a5d ‹3› (@a0g _ _ _ _) (a0C _)) (@a0f _ _ _ (@a0D _ _ (2) _ _ _ _ a2q.nd rfl (by trivial) (@a0m _ _ _ _ _ _ _ _ _ _ _ _ _ _ _ _ (b4e T) (hr.mono (by decide)) rfl T.g_z15 T.F_z15.kp T.b_z15 .nil a0z (@a0b _ _ _ _ _ ‹2› (@a0b _ _ _ _ _ (@a0B _ _ _ _ _ _ _ _ a0E ‹1› (@a0g _ _ _ _)) (@a0e _) (by rfl)) (by rfl)) (by decide) (by rfl) (by rfl)) (by rfl) (by trivial))) (@a0u _)) (@a0O _ _ _ _ _ (@a0V _ _ _ _ _ _ _ _ (@a0s _ _ _ _ _ _ _ _ (a1C hr.units) ‹3› (@a0g _ _ _ _) (a0C _)) (@a0f _ _ _ (@a0D _ _ (2) _ _ _ _ a2q.nd rfl (by trivial) (@a0m _ _ _ _ _ _ _ _ _ _ _ _ _ _ _ _ (b7x T) (hr.mono (by decide)) rfl T.g_z1m T.F_z1m.kp T.b_z1m .nil a0z (@a0b _ _ _ _ _ (@a0m _ _ _ _ _ _ _ _ _ _ _ _ _ _ _ _ (a3h T) (hr.mono (by decide)) rfl T.g_z1k T.F_z1k.kp T.b_z1k .nil a0z (@a0b _ _ _ _ _ ‹1› (@a0b _ _ _ _ _ (@a0g _ _ _ _) (@a0e _) (by rfl)) (by rfl)) (by decide) (by rfl) (by rfl)) (@a0e _) (by rfl)) (by decide) (by rfl) (by rfl)) (by rfl) (by trivial))) (@a0u _)) (@a0h _ _ _ _ _ (@a0D _ _ (4) _ _ _ _ a2q.nd rfl (by trivial) (@a0m _ _ _ _ _ _ _ _ _ _ _ _ _ _ _ _ (b6h T) (hr.mono (by decide)) rfl T.g_z1i T.F_z1i.kp T.b_z1i .nil a0z (@a0b _ _ _ _ _ ‹2› (@a0e _) (by rfl)) (by decide) (by rfl) (by rfl)) (by rfl) (by trivial)) (@a0f _ _ _ (@a0V _ _ _ _ _ _ _ _ (@a0s _ _ _ _ _ _ _ _ a8a ‹4› (@a1p _ _ _) (a0C _)) (@a0f _ _ _ (@a0V _ _ _ _ _ _ _ _ (@a1X _ _ _ _ (@a1j _ _ _ (@a0m _ _ _ _ _ _ _ _ _ _ _ _ _ _ _ _ (b7y T) (hr.mono (by decide)) rfl T.g_z0y T.F_z0y.kp T.b_z0y .nil a0z (@a0b _ _ _ _ _ ‹2› (@a0e _) (by rfl)) (by decide) (by rfl) (by rfl)) (by intro _;rfl))) (@a0f _ _ _ (@a0p _ _ _ _ (@a5f _ _ _ _))) (@a0u _))) (@a0f _ _ _ (@a0V _ _ _ _ _ _ _ _ (@a1X _ _ _ _ (@a1j _ _ _ (@a0m _ _ _ _ _ _ _ _ _ _ _ _ _ _ _ _ (b7O T) (hr.mono (by decide)) rfl T.g_z1f T.F_z1f.kp T.b_z1f .nil a0z (@a0b _ _ _ _ _ ‹2› (@a0b _ _ _ _ _ ‹4› (@a0e _) (by rfl)) (by rfl)) (by decide) (by rfl) (by rfl)) (by intro _;rfl))) (@a0f _ _ _ (@a0p _ _ _ _ (@a5f _ _ _ _))) (@a0u _))))))))))) (by intro _;rfl)) (@a0f _ _ _ (@a0p _ _ _ _ (@a5f _ _ _ _)))),?_⟩
  rw [show a0N b0u [V.ref a]=[some (V.ref a),none,none,none,none] from rfl]
  try simp only [a2D,a3o,a5F,tSl,a0L,List.getElem?_cons_zero,a1N,a3g,tC,a3x,a0j]
  refine .inr (.inl ⟨a,_,rfl,hS,fun p1 hp1=>?_⟩)
  have hc:∀v∈a8h (ns.map V.int) none (some 16),∃i,v=V.int i:=fun v hv=>by
   have:=List.mem_of_mem_drop (List.mem_of_mem_take hv)
   obtain ⟨i,_,e⟩:=List.mem_map.mp this
   exact ⟨i,e.symm⟩
  generalize a8h (ns.map V.int) none (some 16)=cs at hc
  obtain ⟨H1,e1,s1,h1⟩:=a2t hp1 (.lst cs);rw [e1]
  refine ⟨p1,rfl,⟨_,SqL.of h1⟩,?_⟩
  refine a6Q (K:=K) (a:=p1) (xs:=cs) (fun i σ H'=>a0A H1 H'∧∃(x1 x2 x3 x4:Option V),σ=[some (V.ref a),x1,x2,x3,x4]) ⟨a0A.refl _,_,_,_,_,rfl⟩ (fun i σ H' _ h=>h.1.seq (SqL.of h1)) ?_ ?_
  ·rintro i w σ Hi hi ⟨si,x1,x2,x3,x4,rfl⟩
   obtain ⟨c,rfl⟩:=hc w (List.mem_of_getElem? hi)
   try simp only [a0T,a2D,a2u,a0R,a0x,a0L,List.set_cons_succ,List.set_cons_zero,List.getElem?_cons_succ,List.getElem?_cons_zero,a0W,List.append_nil,tOp,tC,a0j,a2n,a2H]
   refine ⟨c,rfl,fun z H2 hz s2=>?_⟩
   try simp only []
   intro r1 _
   refine ⟨by decide,?_⟩
   generalize r1 % 8=way
   refine ⟨fun σ' H'=>∃z:Str,σ'=[some (V.ref a),some (V.int c),some (V.str z),some (V.int way),x4]∧H2=H'∧z.length≤481,?_,?_⟩
   ·try simp only [a2e,a1c,tOp,a0L,List.getElem?_cons_succ,List.getElem?_cons_zero,tC,a2u,a0R,a0x,a0W,List.append_nil,a0T,List.set_cons_succ,List.set_cons_zero,a0j,a0Y,a1F,a1b,decide_eq_true_eq]
    refine a1L (fun _=>?_) (fun _=>⟨z,(by trivial),(by trivial),by omega⟩)
    exact ⟨z,c,rfl,by omega,fun z' hz'=>⟨z',(by trivial),(by trivial),by omega⟩⟩
   rintro σ' H' ⟨z1,rfl,rfl,hz1⟩
   refine ⟨fun σ' H'=>∃z:Str,σ'=[some (V.ref a),some (V.int c),some (V.str z),some (V.int way),x4]∧H2=H'∧z.length≤1000,?_,?_⟩
   ·try simp only [a2e,a1c,tOp,a0L,List.getElem?_cons_succ,List.getElem?_cons_zero,tC,a2u,a0R,a0x,a0W,List.append_nil,a0T,List.set_cons_succ,List.set_cons_zero,a0j,a1r,a0Y,a1F,a1b,decide_eq_true_eq]
    refine a1L (fun _=>?_) (fun _=>⟨z1,(by trivial),(by trivial),by omega⟩)
    exact ⟨z1,c+999,rfl,by omega,fun z' hz'=>⟨z',(by trivial),(by trivial),by omega⟩⟩
   rintro σ' H' ⟨z2,rfl,rfl,hz2⟩
   refine ⟨fun σ' H'=>∃v,σ'=[some (V.ref a),some (V.int c),some v,some (V.int way),x4]∧a0A H2 H'∧a6w K H' v,?_,?_⟩
   ·try simp only [a2e,a1c,tOp,a0L,List.getElem?_cons_succ,List.getElem?_cons_zero,tC,a2u,a0R,a0x,a0W,List.append_nil,a0T,List.set_cons_succ,List.set_cons_zero,a0j,a2n,a0Y,a2p,a1b,decide_eq_true_eq]
    refine a1L (fun _=>?_) (fun _=>⟨_,(by trivial),a0A.refl _,.txt _ hz2⟩)
    intro r2 _
    exact ⟨r2,rfl,fun v H3 s3 hv=>⟨v,(by trivial),s3,hv⟩⟩
   rintro σ' H3 ⟨v,rfl,s3,hv⟩
   try simp only [a2D,a2u,a0R,a0x,a0L,List.getElem?_cons_succ,List.getElem?_cons_zero,a0W,List.append_nil,a0T,a2e,a1c,tOp,List.set_cons_succ,List.set_cons_zero,tC,a6l,tB,Bool.not_eq_true',a1q,a0Y,a0j]
   refine ⟨v,rfl,hv.1,fun dv H4 s4 hd=>?_⟩
   have s04:=si.trans (s2.trans (s3.trans s4))
   rcases hd with ⟨rfl,hno⟩ | ⟨l,p,rfl,hG,h4⟩
   ·try simp only [a3R,a1b,if_true]
    refine ⟨v,rfl,hv.same s4,hno,fun H5 s5=>?_⟩
    try simp only [a1b,a4b]
    exact ⟨s04.trans s5,_,_,_,_,rfl⟩
   ·have hll:l.length≤1000:=by
     rcases hv.1 with ⟨l',e,h⟩ | h
     ·have el:l=l':=a1t (V.str.inj e)
      rw [el];exact h
     ·exact (a7y h).elim
    obtain ⟨da,D,e,_⟩:=id h4
    subst e
    try simp only [a3C,a1b,a1U]
    refine ⟨l,_,p,rfl,hll,hG,h4,fun H5 s5=>?_⟩
    try simp only [a1b,a4b]
    exact ⟨s04.trans s5,_,_,_,_,rfl⟩
  ·rintro σ Hi ⟨si,x1,x2,x3,x4,rfl⟩
   try simp only [a1q,tC]
   exact q _
end
end K13
open PySem PySem.W PyProof.Rows
namespace K13
open PySem PySem.W L2
noncomputable section
abbrev kE (P:Params) (x:String) (t:Nat) (v:Value):DictEntry:=⟨PyData.keyHash P x,.str x t,v⟩
abbrev kC (n q:String) (s:Stmt):Obj:=⟨.none,none,(.func ⟨n,q,a0d s,.stmts (a0c s),a0a s,0,[],.none,.none,.none,.none,none,.none,.none,0⟩),#[]⟩
def o0 (P:Params):Obj:=⟨(.type "dict"),none,(.dict #[kE P "__name__" 1 (.str "builtins" 160),kE P "__doc__" 2 (.builtin "builtins.__doc__:str#opaque"),kE P "__package__" 3 (.builtin "builtins.__package__:str#opaque"),kE P "__loader__" 4 (.builtin "builtins.__loader__:shared#opaque"),kE P "__spec__" 5 (.builtin "builtins.__spec__#opaque"),kE P "__build_class__" 6 (.builtin "__build_class__"),kE P "__import__" 7 (.builtin "__import__"),kE P "abs" 8 (.builtin "abs"),kE P "all" 9 (.builtin "all"),kE P "any" 10 (.builtin "any"),kE P "ascii" 11 (.builtin "ascii"),kE P "bin" 12 (.builtin "bin"),kE P "breakpoint" 13 (.builtin "breakpoint"),kE P "callable" 14 (.builtin "callable"),kE P "chr" 15 (.builtin "chr"),kE P "compile" 16 (.builtin "compile"),kE P "delattr" 17 (.builtin "delattr"),kE P "dir" 18 (.builtin "dir"),kE P "divmod" 19 (.builtin "divmod"),kE P "eval" 20 (.builtin "eval"),kE P "exec" 21 (.builtin "exec"),kE P "format" 22 (.builtin "format"),kE P "getattr" 23 (.builtin "getattr"),kE P "globals" 24 (.builtin "globals"),kE P "hasattr" 25 (.builtin "hasattr"),kE P "hash" 26 (.builtin "hash"),kE P "hex" 27 (.builtin "hex"),kE P "id" 28 (.builtin "id"),kE P "input" 29 (.builtin "input"),kE P "isinstance" 30 (.builtin "isinstance"),kE P "issubclass" 31 (.builtin "issubclass"),kE P "iter" 32 (.builtin "iter"),kE P "aiter" 33 (.builtin "aiter"),kE P "len" 34 (.builtin "len"),kE P "locals" 35 (.builtin "locals"),kE P "max" 36 (.builtin "max"),kE P "min" 37 (.builtin "min"),kE P "next" 38 (.builtin "next"),kE P "anext" 39 (.builtin "anext"),kE P "oct" 40 (.builtin "oct"),kE P "ord" 41 (.builtin "ord"),kE P "pow" 42 (.builtin "pow"),kE P "print" 43 (.builtin "print"),kE P "repr" 44 (.builtin "repr"),kE P "round" 45 (.builtin "round"),kE P "setattr" 46 (.builtin "setattr"),kE P "sorted" 47 (.builtin "sorted"),kE P "sum" 48 (.builtin "sum"),kE P "vars" 49 (.builtin "vars"),kE P "None" 50 .none,kE P "Ellipsis" 51 .ellipsis,kE P "NotImplemented" 52 .notImplemented,kE P "False" 53 (.bool false),kE P "True" 54 (.bool true),kE P "bool" 55 (.type "bool"),kE P "memoryview" 56 (.type "memoryview"),kE P "bytearray" 57 (.type "bytearray"),kE P "bytes" 58 (.type "bytes"),kE P "classmethod" 59 (.type "classmethod"),kE P "complex" 60 (.type "complex"),kE P "dict" 61 (.type "dict"),kE P "enumerate" 62 (.type "enumerate"),kE P "filter" 63 (.type "filter"),kE P "float" 64 (.type "float"),kE P "frozenset" 65 (.type "frozenset"),kE P "property" 66 (.type "property"),kE P "int" 67 (.type "int"),kE P "list" 68 (.type "list"),kE P "map" 69 (.type "map"),kE P "object" 70 (.type "object"),kE P "range" 71 (.type "range"),kE P "reversed" 72 (.type "reversed"),kE P "set" 73 (.type "set"),kE P "slice" 74 (.type "slice"),kE P "staticmethod" 75 (.type "staticmethod"),kE P "str" 76 (.type "str"),kE P "super" 77 (.type "super"),kE P "tuple" 78 (.type "tuple"),kE P "type" 79 (.type "type"),kE P "zip" 80 (.type "zip"),kE P "__debug__" 81 (.bool true),kE P "BaseException" 82 (.type "BaseException"),kE P "BaseExceptionGroup" 83 (.type "BaseExceptionGroup"),kE P "Exception" 84 (.type "Exception"),kE P "GeneratorExit" 85 (.type "GeneratorExit"),kE P "KeyboardInterrupt" 86 (.type "KeyboardInterrupt"),kE P "SystemExit" 87 (.type "SystemExit"),kE P "ArithmeticError" 88 (.type "ArithmeticError"),kE P "AssertionError" 89 (.type "AssertionError"),kE P "AttributeError" 90 (.type "AttributeError"),kE P "BufferError" 91 (.type "BufferError"),kE P "EOFError" 92 (.type "EOFError"),kE P "ImportError" 93 (.type "ImportError"),kE P "LookupError" 94 (.type "LookupError"),kE P "MemoryError" 95 (.type "MemoryError"),kE P "NameError" 96 (.type "NameError"),kE P "OSError" 97 (.type "OSError"),kE P "ReferenceError" 98 (.type "ReferenceError"),kE P "RuntimeError" 99 (.type "RuntimeError"),kE P "StopAsyncIteration" 100 (.type "StopAsyncIteration"),kE P "StopIteration" 101 (.type "StopIteration"),kE P "SyntaxError" 102 (.type "SyntaxError"),kE P "SystemError" 103 (.type "SystemError"),kE P "TypeError" 104 (.type "TypeError"),kE P "ValueError" 105 (.type "ValueError"),kE P "Warning" 106 (.type "Warning"),kE P "FloatingPointError" 107 (.type "FloatingPointError"),kE P "OverflowError" 108 (.type "OverflowError"),kE P "ZeroDivisionError" 109 (.type "ZeroDivisionError"),kE P "BytesWarning" 110 (.type "BytesWarning"),kE P "DeprecationWarning" 111 (.type "DeprecationWarning"),kE P "EncodingWarning" 112 (.type "EncodingWarning"),kE P "FutureWarning" 113 (.type "FutureWarning"),kE P "ImportWarning" 114 (.type "ImportWarning"),kE P "PendingDeprecationWarning" 115 (.type "PendingDeprecationWarning"),kE P "ResourceWarning" 116 (.type "ResourceWarning"),kE P "RuntimeWarning" 117 (.type "RuntimeWarning"),kE P "SyntaxWarning" 118 (.type "SyntaxWarning"),kE P "UnicodeWarning" 119 (.type "UnicodeWarning"),kE P "UserWarning" 120 (.type "UserWarning"),kE P "BlockingIOError" 121 (.type "BlockingIOError"),kE P "ChildProcessError" 122 (.type "ChildProcessError"),kE P "ConnectionError" 123 (.type "ConnectionError"),kE P "FileExistsError" 124 (.type "FileExistsError"),kE P "FileNotFoundError" 125 (.type "FileNotFoundError"),kE P "InterruptedError" 126 (.type "InterruptedError"),kE P "IsADirectoryError" 127 (.type "IsADirectoryError"),kE P "NotADirectoryError" 128 (.type "NotADirectoryError"),kE P "PermissionError" 129 (.type "PermissionError"),kE P "ProcessLookupError" 130 (.type "ProcessLookupError"),kE P "TimeoutError" 131 (.type "TimeoutError"),kE P "IndentationError" 132 (.type "IndentationError"),kE P "_IncompleteInputError" 133 (.type "_IncompleteInputError"),kE P "IndexError" 134 (.type "IndexError"),kE P "KeyError" 135 (.type "KeyError"),kE P "ModuleNotFoundError" 136 (.type "ModuleNotFoundError"),kE P "NotImplementedError" 137 (.type "NotImplementedError"),kE P "PythonFinalizationError" 138 (.type "PythonFinalizationError"),kE P "RecursionError" 139 (.type "RecursionError"),kE P "UnboundLocalError" 140 (.type "UnboundLocalError"),kE P "UnicodeError" 141 (.type "UnicodeError"),kE P "BrokenPipeError" 142 (.type "BrokenPipeError"),kE P "ConnectionAbortedError" 143 (.type "ConnectionAbortedError"),kE P "ConnectionRefusedError" 144 (.type "ConnectionRefusedError"),kE P "ConnectionResetError" 145 (.type "ConnectionResetError"),kE P "TabError" 146 (.type "TabError"),kE P "UnicodeDecodeError" 147 (.type "UnicodeDecodeError"),kE P "UnicodeEncodeError" 148 (.type "UnicodeEncodeError"),kE P "UnicodeTranslateError" 149 (.type "UnicodeTranslateError"),kE P "ExceptionGroup" 150 (.type "ExceptionGroup"),kE P "EnvironmentError" 151 (.type "OSError"),kE P "IOError" 152 (.type "OSError"),kE P "open" 153 (.builtin "open"),kE P "quit" 154 (.builtin "builtins.quit#opaque"),kE P "exit" 155 (.builtin "builtins.exit#opaque"),kE P "copyright" 156 (.builtin "builtins.copyright#opaque"),kE P "credits" 157 (.builtin "builtins.credits#opaque"),kE P "license" 158 (.builtin "builtins.license#opaque"),kE P "help" 159 (.builtin "builtins.help#opaque")] 159),#[]⟩
def o1 (P:Params):Obj:=⟨(.type "dict"),none,(.dict #[kE P "builtins" 162 (.ref 4),kE P "__main__" 163 (.ref 5)] 2),#[]⟩
def o2 (P:Params):Obj:=⟨.none,none,(.dict #[] 0),#[]⟩
def o3 (P:Params):Obj:=⟨(.type "dict"),none,(.dict #[kE P "__name__" 165 (.str "law_mostwise_k13_whole_rows" 647),kE P "__doc__" 166 .none,kE P "__package__" 167 .none,kE P "__loader__" 168 (.builtin "__main__.__loader__#opaque"),kE P "__spec__" 169 .none,kE P "__annotations__" 170 (.ref 6),kE P "__builtins__" 171 (.ref 4),kE P "__file__" 173 (.str "/claim/cut.py" 172),kE P "__cached__" 174 .none,kE P "_wall" 193 (.ref 21),kE P "MostError" 213 (.ref 31),kE P "NoStatement" 238 (.ref 51),kE P "NoRow" 263 (.ref 70),kE P "SMALL" 267 (.str "abcdefghijklmnopqrstuvwxyz" 266),kE P "SMALL_OR_FIGURE" 269 (.str "abcdefghijklmnopqrstuvwxyz0123456789" 268),kE P "GREAT" 271 (.str "ABCDEFGHIJKLMNOPQRSTUVWXYZ" 270),⟨PyData.keyHash P "LONGEST",(.str "LONGEST" 273),(.int (8) 272)⟩,⟨PyData.keyHash P "MOST_PLACES",(.str "MOST_PLACES" 275),(.int (2) 274)⟩,kE P "is_made_of" 281 (.ref 77),kE P "is_name" 288 (.ref 84),kE P "is_label" 295 (.ref 91),kE P "is_letter" 302 (.ref 98),kE P "places_of" 308 (.ref 103),kE P "parts_of" 318 (.ref 110),kE P "is_statement" 325 (.ref 117),kE P "letters_of" 334 (.ref 124),kE P "is_written_out" 341 (.ref 131),kE P "Rule" 428 (.ref 195),kE P "Fact" 482 (.ref 244),kE P "Sure" 521 (.ref 277),kE P "Most" 553 (.ref 303),kE P "Block" 592 (.ref 336),kE P "FACT" 596 (.str "fact " 595),⟨PyData.keyHash P "MOST_PREMISES",(.str "MOST_PREMISES" 598),(.int (4) 597)⟩,⟨PyData.keyHash P "MOST_LETTERS",(.str "MOST_LETTERS" 600),(.int (3) 599)⟩,kE P "words_of" 607 (.ref 345),kE P "fact_in" 615 (.ref 352),kE P "made" 625 (.ref 359),kE P "premises_in" 632 (.ref 366),kE P "labelled_in" 638 (.ref 371),kE P "rule_of" 646 (.ref 378),kE P "_law_cell_at" 656 (.ref 385),kE P "_law_mix" 665 (.ref 392),kE P "_law_text" 677 (.ref 399),kE P "_law_name" 684 (.ref 406),kE P "_law_label" 691 (.ref 413),kE P "_law_letter" 699 (.ref 420),kE P "_law_place" 709 (.ref 427),kE P "_law_parts" 715 (.ref 432),kE P "_law_shown" 722 (.ref 439),kE P "_law_row" 728 (.ref 444),kE P "_law_spoilt" 740 (.ref 451),kE P "_law_odd" 748 (.ref 458),kE P "_law_name_is" 754 (.ref 463),kE P "_law_place_is" 762 (.ref 470),kE P "_law_places" 770 (.ref 477),kE P "_law_statement_is" 776 (.ref 482),kE P "_law_letters" 786 (.ref 489),kE P "_law_middle" 796 (.ref 496),kE P "_law_read" 806 (.ref 503),kE P "_law_refused" 815 (.ref 510),kE P "_law_right" 821 (.ref 515),kE P "law" 832 (.ref 522)] 63),#[]⟩
def o4 (P:Params):Obj:=⟨(.type "module"),(some 0),.plain,#[]⟩
def o5 (P:Params):Obj:=⟨(.type "module"),(some 3),.plain,#[]⟩
def o6 (P:Params):Obj:=⟨(.type "dict"),none,(.dict #[] 0),#[]⟩
def o7 (P:Params):Obj:=⟨(.type "tuple"),none,(.seq #[] 0),#[]⟩
def o8 (P:Params):Obj:=⟨.none,none,(.fields #[]),#[]⟩
def o9 (P:Params):Obj:=⟨(.type "code"),none,(.fields #[(.str "<module>" 176),(.str "<module>" 177),(.str "/claim/cut.py" 178),(.int (1) 0),(.int (0) 0),(.int (0) 0),(.int (0) 0),(.int (0) 0),(.ref 7),(.bool false),(.int (175) 0),(.ref 8),.none,.none,.none,.none,(.int (179) 0),(.int (1) 0),(.str "/claim/cut.py" 180)]),#[]⟩
def o10 (P:Params):Obj:=⟨(.type "frame"),none,.plain,#[(some (.ref 9)),(some (.ref 3)),(some (.ref 3)),none,(some (.str "__main__" 164)),none,(some (.ref 0))]⟩
def o11 (P:Params):Obj:=⟨(.type "tuple"),none,(.seq #[] 0),#[]⟩
def o12 (P:Params):Obj:=⟨.none,none,(.fields #[(.int (1) 0),(.int (0) 0),(.ref 20),(.int (5) 0),(.int (0) 0),(.ref 27),(.int (7) 0),(.int (0) 0),(.ref 40),(.int (11) 0),(.int (0) 0),(.ref 59),(.int (21) 0),(.int (0) 0),(.ref 76),(.int (23) 0),(.int (0) 0),(.ref 83),(.int (25) 0),(.int (0) 0),(.ref 90),(.int (27) 0),(.int (0) 0),(.ref 97),(.int (29) 0),(.int (0) 0),(.ref 102),(.int (38) 0),(.int (0) 0),(.ref 109),(.int (47) 0),(.int (0) 0),(.ref 116),(.int (53) 0),(.int (0) 0),(.ref 123),(.int (59) 0),(.int (0) 0),(.ref 130),(.int (62) 0),(.int (0) 0),(.ref 137),(.int (95) 0),(.int (0) 0),(.ref 205),(.int (111) 0),(.int (0) 0),(.ref 252),(.int (121) 0),(.int (0) 0),(.ref 285),(.int (128) 0),(.int (0) 0),(.ref 311),(.int (142) 0),(.int (0) 0),(.ref 344),(.int (144) 0),(.int (0) 0),(.ref 351),(.int (147) 0),(.int (0) 0),(.ref 358),(.int (155) 0),(.int (0) 0),(.ref 365),(.int (157) 0),(.int (0) 0),(.ref 370),(.int (170) 0),(.int (0) 0),(.ref 377),(.int (178) 0),(.int (0) 0),(.ref 384),(.int (182) 0),(.int (0) 0),(.ref 391),(.int (186) 0),(.int (0) 0),(.ref 398),(.int (192) 0),(.int (0) 0),(.ref 405),(.int (194) 0),(.int (0) 0),(.ref 412),(.int (196) 0),(.int (0) 0),(.ref 419),(.int (198) 0),(.int (0) 0),(.ref 426),(.int (203) 0),(.int (0) 0),(.ref 431),(.int (207) 0),(.int (0) 0),(.ref 438),(.int (211) 0),(.int (0) 0),(.ref 443),(.int (222) 0),(.int (0) 0),(.ref 450),(.int (232) 0),(.int (0) 0),(.ref 457),(.int (236) 0),(.int (0) 0),(.ref 462),(.int (240) 0),(.int (0) 0),(.ref 469),(.int (245) 0),(.int (0) 0),(.ref 476),(.int (250) 0),(.int (0) 0),(.ref 481),(.int (260) 0),(.int (0) 0),(.ref 488),(.int (267) 0),(.int (0) 0),(.ref 495),(.int (278) 0),(.int (0) 0),(.ref 502),(.int (297) 0),(.int (0) 0),(.ref 509),(.int (308) 0),(.int (0) 0),(.ref 514),(.int (316) 0),(.int (0) 0),(.ref 521)]),#[]⟩
def o13 (P:Params):Obj:=⟨(.type "code"),none,(.fields #[(.str "<module>" 182),(.str "<module>" 183),(.str "/claim/cut.py" 184),(.int (1) 0),(.int (0) 0),(.int (0) 0),(.int (0) 0),(.int (0) 0),(.ref 11),(.bool false),(.int (181) 0),(.ref 12),.none,.none,.none,.none,(.int (185) 0),(.int (1) 0),(.str "/claim/cut.py" 186)]),#[]⟩
def o14 (P:Params):Obj:=⟨(.type "frame"),none,.plain,#[(some (.ref 13)),(some (.ref 3)),(some (.ref 3)),none,(some (.str "__main__" 164)),none,(some (.ref 0))]⟩
def o15 (P:Params):Obj:=⟨(.type "tuple"),none,(.seq #[] 0),#[]⟩
def o16 (P:Params):Obj:=⟨.none,none,(.fields #[]),#[]⟩
def o17 (P:Params):Obj:=⟨(.type "tuple"),none,(.seq #[(.str "k" 190)] 0),#[]⟩
def o18 (P:Params):Obj:=⟨(.type "tuple"),none,(.seq #[] 0),#[]⟩
def o19 (P:Params):Obj:=kC "_wall" "_wall" (top 0)
def o20 (P:Params):Obj:=⟨(.type "code"),none,(.fields #[(.str "_wall" 187),(.str "_wall" 188),(.str "/claim/cut.py" 189),(.int (1) 0),(.int (1) 0),(.int (0) 0),(.int (0) 0),(.int (3) 0),(.ref 15),(.bool true),(.int (181) 0),(.ref 16),.none,(.ref 17),(.ref 18),(.ref 19),(.int (191) 0),(.int (1) 0),(.str "/claim/cut.py" 192)]),#[]⟩
def o21 (P:Params):Obj:=⟨(.type "function"),none,(.func (PySem.W.fnOf "_wall" "_wall" (a0d (top 0)) (a0c (top 0)) (a0a (top 0)) .none .none .none (.str "__main__" 164) none (.ref 20) .none)),#[]⟩
def o22 (P:Params):Obj:=⟨(.type "tuple"),none,(.seq #[(.type "ValueError")] 0),#[]⟩
def o23 (P:Params):Obj:=⟨(.type "builtin_function_or_method"),none,(.fields #[(.builtin "type.__prepare__"),(.type "type")]),#[]⟩
def o24 (P:Params):Obj:=⟨(.type "dict"),none,(.dict #[kE P "__module__" 203 (.str "mostwise.errors" 194),kE P "__qualname__" 205 (.str "MostError" 204),⟨PyData.keyHash P "__firstlineno__",(.str "__firstlineno__" 207),(.int (5) 206)⟩,kE P "__static_attributes__" 208 (.ref 29)] 4),#[]⟩
def o25 (P:Params):Obj:=⟨(.type "tuple"),none,(.seq #[] 0),#[]⟩
def o26 (P:Params):Obj:=⟨.none,none,(.fields #[]),#[]⟩
def o27 (P:Params):Obj:=⟨(.type "code"),none,(.fields #[(.str "MostError" 198),(.str "MostError" 199),(.str "/claim/cut.py" 200),(.int (5) 0),(.int (0) 0),(.int (0) 0),(.int (0) 0),(.int (0) 0),(.ref 25),(.bool false),(.int (181) 0),(.ref 26),.none,.none,.none,.none,(.int (201) 0),(.int (5) 0),(.str "/claim/cut.py" 202)]),#[]⟩
def o28 (P:Params):Obj:=⟨(.type "frame"),none,.plain,#[(some (.ref 27)),(some (.ref 3)),(some (.ref 24)),none,(some (.str "mostwise.errors" 194)),none,(some (.ref 0))]⟩
def o29 (P:Params):Obj:=⟨(.type "tuple"),none,(.seq #[] 0),#[]⟩
def o30 (P:Params):Obj:=⟨(.type "dict"),none,(.dict #[kE P "__module__" 203 (.str "mostwise.errors" 194),⟨PyData.keyHash P "__firstlineno__",(.str "__firstlineno__" 207),(.int (5) 206)⟩,kE P "__static_attributes__" 208 (.ref 29),kE P "__weakref__" 210 (.ref 32),kE P "__doc__" 211 .none] 3),#[]⟩
def o31 (P:Params):Obj:=⟨(.type "type"),none,(.cls ⟨"MostError",[(.type "ValueError")],[(.ref 31),(.type "ValueError"),(.type "Exception"),(.type "BaseException"),(.type "object")],30,"MostError",true,[],[(.ref 51),(.ref 70)],false,none,false⟩),#[(some (.ref 22)),none,(some (.str "MostError" 196)),(some (.str "MostError" 204)),(some (.builtin "ValueError.__new__")),(some (.bool true))]⟩
def o32 (P:Params):Obj:=⟨(.type "getset_descriptor"),none,(.fields #[(.str "__weakref__" 209),(.ref 31),(.builtin "ExceptionGroup.__weakref__"),.none]),#[]⟩
def o33 (P:Params):Obj:=⟨(.type "super"),none,(.fields #[(.ref 31),(.ref 31),(.ref 31)]),#[]⟩
def o34 (P:Params):Obj:=⟨(.type "builtin_function_or_method"),none,(.fields #[(.builtin "object.__init_subclass__"),(.ref 31)]),#[]⟩
def o35 (P:Params):Obj:=⟨(.type "tuple"),none,(.seq #[(.ref 31)] 0),#[]⟩
def o36 (P:Params):Obj:=⟨(.type "builtin_function_or_method"),none,(.fields #[(.builtin "type.__prepare__"),(.type "type")]),#[]⟩
def o37 (P:Params):Obj:=⟨(.type "dict"),none,(.dict #[kE P "__module__" 221 (.str "mostwise.errors" 194),kE P "__qualname__" 223 (.str "NoStatement" 222),⟨PyData.keyHash P "__firstlineno__",(.str "__firstlineno__" 225),(.int (7) 224)⟩,kE P "__init__" 233 (.ref 48),kE P "__static_attributes__" 235 (.ref 49)] 5),#[]⟩
def o38 (P:Params):Obj:=⟨(.type "tuple"),none,(.seq #[] 0),#[]⟩
def o39 (P:Params):Obj:=⟨.none,none,(.fields #[(.int (9) 0),(.int (4) 0),(.ref 47)]),#[]⟩
def o40 (P:Params):Obj:=⟨(.type "code"),none,(.fields #[(.str "NoStatement" 216),(.str "NoStatement" 217),(.str "/claim/cut.py" 218),(.int (7) 0),(.int (0) 0),(.int (0) 0),(.int (0) 0),(.int (0) 0),(.ref 38),(.bool false),(.int (181) 0),(.ref 39),.none,.none,.none,.none,(.int (219) 0),(.int (7) 0),(.str "/claim/cut.py" 220)]),#[]⟩
def o41 (P:Params):Obj:=⟨(.type "frame"),none,.plain,#[(some (.ref 40)),(some (.ref 3)),(some (.ref 37)),none,(some (.str "mostwise.errors" 194)),none,(some (.ref 0))]⟩
def o42 (P:Params):Obj:=⟨(.type "tuple"),none,(.seq #[] 0),#[]⟩
def o43 (P:Params):Obj:=⟨.none,none,(.fields #[]),#[]⟩
def o44 (P:Params):Obj:=⟨(.type "tuple"),none,(.seq #[(.str "self" 229),(.str "found" 230)] 0),#[]⟩
def o45 (P:Params):Obj:=⟨(.type "tuple"),none,(.seq #[] 0),#[]⟩
def o46 (P:Params):Obj:=kC "__init__" "NoStatement.__init__" a4a
def o47 (P:Params):Obj:=⟨(.type "code"),none,(.fields #[(.str "__init__" 226),(.str "NoStatement.__init__" 227),(.str "/claim/cut.py" 228),(.int (9) 0),(.int (2) 0),(.int (0) 0),(.int (0) 0),(.int (3) 0),(.ref 42),(.bool true),(.int (181) 0),(.ref 43),.none,(.ref 44),(.ref 45),(.ref 46),(.int (231) 0),(.int (9) 0),(.str "/claim/cut.py" 232)]),#[]⟩
def o48 (P:Params):Obj:=⟨(.type "function"),none,(.func (PySem.W.fnOf "__init__" "NoStatement.__init__" (a0d a4a) (a0c a4a) (a0a a4a) .none .none .none (.str "mostwise.errors" 194) none (.ref 47) .none)),#[]⟩
def o49 (P:Params):Obj:=⟨(.type "tuple"),none,(.seq #[(.str "found" 234)] 0),#[]⟩
def o50 (P:Params):Obj:=⟨(.type "dict"),none,(.dict #[kE P "__module__" 221 (.str "mostwise.errors" 194),⟨PyData.keyHash P "__firstlineno__",(.str "__firstlineno__" 225),(.int (7) 224)⟩,kE P "__init__" 233 (.ref 48),kE P "__static_attributes__" 235 (.ref 49),kE P "__doc__" 236 .none] 2),#[]⟩
def o51 (P:Params):Obj:=⟨(.type "type"),none,(.cls ⟨"NoStatement",[(.ref 31)],[(.ref 51),(.ref 31),(.type "ValueError"),(.type "Exception"),(.type "BaseException"),(.type "object")],50,"NoStatement",true,[],[],false,none,false⟩),#[(some (.ref 35)),none,(some (.str "NoStatement" 214)),(some (.str "NoStatement" 222)),(some (.builtin "ValueError.__new__")),(some (.bool true))]⟩
def o52 (P:Params):Obj:=⟨(.type "super"),none,(.fields #[(.ref 51),(.ref 51),(.ref 51)]),#[]⟩
def o53 (P:Params):Obj:=⟨(.type "builtin_function_or_method"),none,(.fields #[(.builtin "object.__init_subclass__"),(.ref 51)]),#[]⟩
def o54 (P:Params):Obj:=⟨(.type "tuple"),none,(.seq #[(.ref 31)] 0),#[]⟩
def o55 (P:Params):Obj:=⟨(.type "builtin_function_or_method"),none,(.fields #[(.builtin "type.__prepare__"),(.type "type")]),#[]⟩
def o56 (P:Params):Obj:=⟨(.type "dict"),none,(.dict #[kE P "__module__" 246 (.str "mostwise.errors" 194),kE P "__qualname__" 248 (.str "NoRow" 247),⟨PyData.keyHash P "__firstlineno__",(.str "__firstlineno__" 250),(.int (11) 249)⟩,kE P "__init__" 258 (.ref 67),kE P "__static_attributes__" 260 (.ref 68)] 5),#[]⟩
def o57 (P:Params):Obj:=⟨(.type "tuple"),none,(.seq #[] 0),#[]⟩
def o58 (P:Params):Obj:=⟨.none,none,(.fields #[(.int (13) 0),(.int (4) 0),(.ref 66)]),#[]⟩
def o59 (P:Params):Obj:=⟨(.type "code"),none,(.fields #[(.str "NoRow" 241),(.str "NoRow" 242),(.str "/claim/cut.py" 243),(.int (11) 0),(.int (0) 0),(.int (0) 0),(.int (0) 0),(.int (0) 0),(.ref 57),(.bool false),(.int (181) 0),(.ref 58),.none,.none,.none,.none,(.int (244) 0),(.int (11) 0),(.str "/claim/cut.py" 245)]),#[]⟩
def o60 (P:Params):Obj:=⟨(.type "frame"),none,.plain,#[(some (.ref 59)),(some (.ref 3)),(some (.ref 56)),none,(some (.str "mostwise.errors" 194)),none,(some (.ref 0))]⟩
def o61 (P:Params):Obj:=⟨(.type "tuple"),none,(.seq #[] 0),#[]⟩
def o62 (P:Params):Obj:=⟨.none,none,(.fields #[]),#[]⟩
def o63 (P:Params):Obj:=⟨(.type "tuple"),none,(.seq #[(.str "self" 254),(.str "found" 255)] 0),#[]⟩
def o64 (P:Params):Obj:=⟨(.type "tuple"),none,(.seq #[] 0),#[]⟩
def o65 (P:Params):Obj:=kC "__init__" "NoRow.__init__" a4k
def o66 (P:Params):Obj:=⟨(.type "code"),none,(.fields #[(.str "__init__" 251),(.str "NoRow.__init__" 252),(.str "/claim/cut.py" 253),(.int (13) 0),(.int (2) 0),(.int (0) 0),(.int (0) 0),(.int (3) 0),(.ref 61),(.bool true),(.int (181) 0),(.ref 62),.none,(.ref 63),(.ref 64),(.ref 65),(.int (256) 0),(.int (13) 0),(.str "/claim/cut.py" 257)]),#[]⟩
def o67 (P:Params):Obj:=⟨(.type "function"),none,(.func (PySem.W.fnOf "__init__" "NoRow.__init__" (a0d a4k) (a0c a4k) (a0a a4k) .none .none .none (.str "mostwise.errors" 194) none (.ref 66) .none)),#[]⟩
def o68 (P:Params):Obj:=⟨(.type "tuple"),none,(.seq #[(.str "found" 259)] 0),#[]⟩
def o69 (P:Params):Obj:=⟨(.type "dict"),none,(.dict #[kE P "__module__" 246 (.str "mostwise.errors" 194),⟨PyData.keyHash P "__firstlineno__",(.str "__firstlineno__" 250),(.int (11) 249)⟩,kE P "__init__" 258 (.ref 67),kE P "__static_attributes__" 260 (.ref 68),kE P "__doc__" 261 .none] 2),#[]⟩
def o70 (P:Params):Obj:=⟨(.type "type"),none,(.cls ⟨"NoRow",[(.ref 31)],[(.ref 70),(.ref 31),(.type "ValueError"),(.type "Exception"),(.type "BaseException"),(.type "object")],69,"NoRow",true,[],[],false,none,false⟩),#[(some (.ref 54)),none,(some (.str "NoRow" 239)),(some (.str "NoRow" 247)),(some (.builtin "ValueError.__new__")),(some (.bool true))]⟩
def o71 (P:Params):Obj:=⟨(.type "super"),none,(.fields #[(.ref 70),(.ref 70),(.ref 70)]),#[]⟩
def o72 (P:Params):Obj:=⟨(.type "builtin_function_or_method"),none,(.fields #[(.builtin "object.__init_subclass__"),(.ref 70)]),#[]⟩
def o73 (P:Params):Obj:=⟨(.type "tuple"),none,(.seq #[] 0),#[]⟩
def o74 (P:Params):Obj:=⟨.none,none,(.fields #[]),#[]⟩
def o75 (P:Params):Obj:=kC "is_made_of" "is_made_of" a3u
def o76 (P:Params):Obj:=⟨(.type "code"),none,(.fields #[(.str "is_made_of" 276),(.str "is_made_of" 277),(.str "/claim/cut.py" 278),(.int (21) 0),(.int (3) 0),(.int (0) 0),(.int (0) 0),(.int (3) 0),(.ref 73),(.bool true),(.int (181) 0),(.ref 74),.none,.none,.none,(.ref 75),(.int (279) 0),(.int (21) 0),(.str "/claim/cut.py" 280)]),#[]⟩
def o77 (P:Params):Obj:=⟨(.type "function"),none,(.func (PySem.W.fnOf "is_made_of" "is_made_of" (a0d a3u) (a0c a3u) (a0a a3u) .none .none .none (.str "mostwise.words" 264) none (.ref 76) .none)),#[]⟩
def o78 (P:Params):Obj:=⟨(.type "tuple"),none,(.seq #[] 0),#[]⟩
def o79 (P:Params):Obj:=⟨.none,none,(.fields #[]),#[]⟩
def o80 (P:Params):Obj:=⟨(.type "tuple"),none,(.seq #[(.str "thing" 285)] 0),#[]⟩
def o81 (P:Params):Obj:=⟨(.type "tuple"),none,(.seq #[] 0),#[]⟩
def o82 (P:Params):Obj:=kC "is_name" "is_name" a3L
def o83 (P:Params):Obj:=⟨(.type "code"),none,(.fields #[(.str "is_name" 282),(.str "is_name" 283),(.str "/claim/cut.py" 284),(.int (23) 0),(.int (1) 0),(.int (0) 0),(.int (0) 0),(.int (3) 0),(.ref 78),(.bool true),(.int (181) 0),(.ref 79),.none,(.ref 80),(.ref 81),(.ref 82),(.int (286) 0),(.int (23) 0),(.str "/claim/cut.py" 287)]),#[]⟩
def o84 (P:Params):Obj:=⟨(.type "function"),none,(.func (PySem.W.fnOf "is_name" "is_name" (a0d a3L) (a0c a3L) (a0a a3L) .none .none .none (.str "mostwise.words" 264) none (.ref 83) .none)),#[]⟩
def o85 (P:Params):Obj:=⟨(.type "tuple"),none,(.seq #[] 0),#[]⟩
def o86 (P:Params):Obj:=⟨.none,none,(.fields #[]),#[]⟩
def o87 (P:Params):Obj:=⟨(.type "tuple"),none,(.seq #[(.str "thing" 292)] 0),#[]⟩
def o88 (P:Params):Obj:=⟨(.type "tuple"),none,(.seq #[] 0),#[]⟩
def o89 (P:Params):Obj:=kC "is_label" "is_label" a4m
def o90 (P:Params):Obj:=⟨(.type "code"),none,(.fields #[(.str "is_label" 289),(.str "is_label" 290),(.str "/claim/cut.py" 291),(.int (25) 0),(.int (1) 0),(.int (0) 0),(.int (0) 0),(.int (3) 0),(.ref 85),(.bool true),(.int (181) 0),(.ref 86),.none,(.ref 87),(.ref 88),(.ref 89),(.int (293) 0),(.int (25) 0),(.str "/claim/cut.py" 294)]),#[]⟩
def o91 (P:Params):Obj:=⟨(.type "function"),none,(.func (PySem.W.fnOf "is_label" "is_label" (a0d a4m) (a0c a4m) (a0a a4m) .none .none .none (.str "mostwise.words" 264) none (.ref 90) .none)),#[]⟩
def o92 (P:Params):Obj:=⟨(.type "tuple"),none,(.seq #[] 0),#[]⟩
def o93 (P:Params):Obj:=⟨.none,none,(.fields #[]),#[]⟩
def o94 (P:Params):Obj:=⟨(.type "tuple"),none,(.seq #[(.str "thing" 299)] 0),#[]⟩
def o95 (P:Params):Obj:=⟨(.type "tuple"),none,(.seq #[] 0),#[]⟩
def o96 (P:Params):Obj:=kC "is_letter" "is_letter" a4g
def o97 (P:Params):Obj:=⟨(.type "code"),none,(.fields #[(.str "is_letter" 296),(.str "is_letter" 297),(.str "/claim/cut.py" 298),(.int (27) 0),(.int (1) 0),(.int (0) 0),(.int (0) 0),(.int (3) 0),(.ref 92),(.bool true),(.int (181) 0),(.ref 93),.none,(.ref 94),(.ref 95),(.ref 96),(.int (300) 0),(.int (27) 0),(.str "/claim/cut.py" 301)]),#[]⟩
def o98 (P:Params):Obj:=⟨(.type "function"),none,(.func (PySem.W.fnOf "is_letter" "is_letter" (a0d a4g) (a0c a4g) (a0a a4g) .none .none .none (.str "mostwise.words" 264) none (.ref 97) .none)),#[]⟩
def o99 (P:Params):Obj:=⟨(.type "tuple"),none,(.seq #[] 0),#[]⟩
def c2s (P:Params):Obj:=⟨.none,none,(.fields #[]),#[]⟩
def c1N (P:Params):Obj:=kC "places_of" "places_of" a3v
def c0m (P:Params):Obj:=⟨(.type "code"),none,(.fields #[(.str "places_of" 303),(.str "places_of" 304),(.str "/claim/cut.py" 305),(.int (29) 0),(.int (1) 0),(.int (0) 0),(.int (0) 0),(.int (3) 0),(.ref 99),(.bool true),(.int (181) 0),(.ref 100),.none,.none,.none,(.ref 101),(.int (306) 0),(.int (29) 0),(.str "/claim/cut.py" 307)]),#[]⟩
def b9z (P:Params):Obj:=⟨(.type "function"),none,(.func (PySem.W.fnOf "places_of" "places_of" (a0d a3v) (a0c a3v) (a0a a3v) .none .none .none (.str "mostwise.words" 264) none (.ref 102) .none)),#[]⟩
def b8Y (P:Params):Obj:=⟨(.type "tuple"),none,(.seq #[] 0),#[]⟩
def c0Z (P:Params):Obj:=⟨.none,none,(.fields #[]),#[]⟩
def b9Y (P:Params):Obj:=⟨(.type "tuple"),none,(.seq #[(.str "statement" 312),(.str "side" 313),(.str "cut" 314),(.str "places" 315)] 0),#[]⟩
def b9x (P:Params):Obj:=⟨(.type "tuple"),none,(.seq #[] 0),#[]⟩
def c3g (P:Params):Obj:=kC "parts_of" "parts_of" a4F
def b9k (P:Params):Obj:=⟨(.type "code"),none,(.fields #[(.str "parts_of" 309),(.str "parts_of" 310),(.str "/claim/cut.py" 311),(.int (38) 0),(.int (1) 0),(.int (0) 0),(.int (0) 0),(.int (3) 0),(.ref 104),(.bool true),(.int (181) 0),(.ref 105),.none,(.ref 106),(.ref 107),(.ref 108),(.int (316) 0),(.int (38) 0),(.str "/claim/cut.py" 317)]),#[]⟩
def b9M (P:Params):Obj:=⟨(.type "function"),none,(.func (PySem.W.fnOf "parts_of" "parts_of" (a0d a4F) (a0c a4F) (a0a a4F) .none .none .none (.str "mostwise.words" 264) none (.ref 109) .none)),#[]⟩
def c0l (P:Params):Obj:=⟨(.type "tuple"),none,(.seq #[] 0),#[]⟩
def c0r (P:Params):Obj:=⟨.none,none,(.fields #[]),#[]⟩
def b9Z (P:Params):Obj:=⟨(.type "tuple"),none,(.seq #[(.str "thing" 322)] 0),#[]⟩
def b9U (P:Params):Obj:=⟨(.type "tuple"),none,(.seq #[] 0),#[]⟩
def c2P (P:Params):Obj:=kC "is_statement" "is_statement" a3X
def b9I (P:Params):Obj:=⟨(.type "code"),none,(.fields #[(.str "is_statement" 319),(.str "is_statement" 320),(.str "/claim/cut.py" 321),(.int (47) 0),(.int (1) 0),(.int (0) 0),(.int (0) 0),(.int (3) 0),(.ref 111),(.bool true),(.int (181) 0),(.ref 112),.none,(.ref 113),(.ref 114),(.ref 115),(.int (323) 0),(.int (47) 0),(.str "/claim/cut.py" 324)]),#[]⟩
def c0d (P:Params):Obj:=⟨(.type "function"),none,(.func (PySem.W.fnOf "is_statement" "is_statement" (a0d a3X) (a0c a3X) (a0a a3X) .none .none .none (.str "mostwise.words" 264) none (.ref 116) .none)),#[]⟩
def c0j (P:Params):Obj:=⟨(.type "tuple"),none,(.seq #[] 0),#[]⟩
def c3z (P:Params):Obj:=⟨.none,none,(.fields #[]),#[]⟩
def b9N (P:Params):Obj:=⟨(.type "tuple"),none,(.seq #[(.str "statement" 329),(.str "letters" 330),(.str "place" 331)] 0),#[]⟩
def b9b (P:Params):Obj:=⟨(.type "tuple"),none,(.seq #[] 0),#[]⟩
def c1O (P:Params):Obj:=kC "letters_of" "letters_of" a3D
def c0b (P:Params):Obj:=⟨(.type "code"),none,(.fields #[(.str "letters_of" 326),(.str "letters_of" 327),(.str "/claim/cut.py" 328),(.int (53) 0),(.int (1) 0),(.int (0) 0),(.int (0) 0),(.int (3) 0),(.ref 118),(.bool true),(.int (181) 0),(.ref 119),.none,(.ref 120),(.ref 121),(.ref 122),(.int (332) 0),(.int (53) 0),(.str "/claim/cut.py" 333)]),#[]⟩
def b9D (P:Params):Obj:=⟨(.type "function"),none,(.func (PySem.W.fnOf "letters_of" "letters_of" (a0d a3D) (a0c a3D) (a0a a3D) .none .none .none (.str "mostwise.words" 264) none (.ref 123) .none)),#[]⟩
def b9f (P:Params):Obj:=⟨(.type "tuple"),none,(.seq #[] 0),#[]⟩
def c1u (P:Params):Obj:=⟨.none,none,(.fields #[]),#[]⟩
def b9X (P:Params):Obj:=⟨(.type "tuple"),none,(.seq #[(.str "thing" 338)] 0),#[]⟩
def b9m (P:Params):Obj:=⟨(.type "tuple"),none,(.seq #[] 0),#[]⟩
def c2R (P:Params):Obj:=kC "is_written_out" "is_written_out" a4J
def b9V (P:Params):Obj:=⟨(.type "code"),none,(.fields #[(.str "is_written_out" 335),(.str "is_written_out" 336),(.str "/claim/cut.py" 337),(.int (59) 0),(.int (1) 0),(.int (0) 0),(.int (0) 0),(.int (3) 0),(.ref 125),(.bool true),(.int (181) 0),(.ref 126),.none,(.ref 127),(.ref 128),(.ref 129),(.int (339) 0),(.int (59) 0),(.str "/claim/cut.py" 340)]),#[]⟩
def b9v (P:Params):Obj:=⟨(.type "function"),none,(.func (PySem.W.fnOf "is_written_out" "is_written_out" (a0d a4J) (a0c a4J) (a0a a4J) .none .none .none (.str "mostwise.words" 264) none (.ref 130) .none)),#[]⟩
def c0x (P:Params):Obj:=⟨(.type "tuple"),none,(.seq #[] 0),#[]⟩
def c2h (P:Params):Obj:=⟨(.type "builtin_function_or_method"),none,(.fields #[(.builtin "type.__prepare__"),(.type "type")]),#[]⟩
def c3i (P:Params):Obj:=⟨(.type "dict"),none,(.dict #[kE P "__module__" 351 (.str "mostwise.rules" 342),kE P "__qualname__" 353 (.str "Rule" 352),⟨PyData.keyHash P "__firstlineno__",(.str "__firstlineno__" 355),(.int (62) 354)⟩,kE P "__init__" 365 (.ref 145),kE P "word" 372 (.ref 152),kE P "speaks" 379 (.ref 159),kE P "is_sure" 386 (.ref 166),kE P "letters" 392 (.ref 171),kE P "again" 401 (.ref 178),kE P "filled" 409 (.ref 185),kE P "row" 417 (.ref 192),kE P "__static_attributes__" 421 (.ref 193)] 12),#[]⟩
def c3b (P:Params):Obj:=⟨(.type "tuple"),none,(.seq #[] 0),#[]⟩
def c2Q (P:Params):Obj:=⟨.none,none,(.fields #[(.int (64) 0),(.int (4) 0),(.ref 144),(.int (69) 0),(.int (4) 0),(.ref 151),(.int (72) 0),(.int (4) 0),(.ref 158),(.int (75) 0),(.int (4) 0),(.ref 165),(.int (78) 0),(.int (4) 0),(.ref 170),(.int (84) 0),(.int (4) 0),(.ref 177),(.int (87) 0),(.int (4) 0),(.ref 184),(.int (90) 0),(.int (4) 0),(.ref 191)]),#[]⟩
def c3j (P:Params):Obj:=⟨(.type "code"),none,(.fields #[(.str "Rule" 346),(.str "Rule" 347),(.str "/claim/cut.py" 348),(.int (62) 0),(.int (0) 0),(.int (0) 0),(.int (0) 0),(.int (0) 0),(.ref 135),(.bool false),(.int (181) 0),(.ref 136),.none,.none,.none,.none,(.int (349) 0),(.int (62) 0),(.str "/claim/cut.py" 350)]),#[]⟩
def c3r (P:Params):Obj:=⟨(.type "frame"),none,.plain,#[(some (.ref 137)),(some (.ref 3)),(some (.ref 134)),none,(some (.str "mostwise.rules" 342)),none,(some (.ref 0))]⟩
def c0h (P:Params):Obj:=⟨(.type "tuple"),none,(.seq #[] 0),#[]⟩
def c2q (P:Params):Obj:=⟨.none,none,(.fields #[]),#[]⟩
def c0f (P:Params):Obj:=⟨(.type "tuple"),none,(.seq #[(.str "self" 359),(.str "label" 360),(.str "head" 361),(.str "body" 362)] 0),#[]⟩
def b9l (P:Params):Obj:=⟨(.type "tuple"),none,(.seq #[] 0),#[]⟩
def c1f (P:Params):Obj:=kC "__init__" "Rule.__init__" a3H
def b9J (P:Params):Obj:=⟨(.type "code"),none,(.fields #[(.str "__init__" 356),(.str "Rule.__init__" 357),(.str "/claim/cut.py" 358),(.int (64) 0),(.int (4) 0),(.int (0) 0),(.int (0) 0),(.int (3) 0),(.ref 139),(.bool true),(.int (181) 0),(.ref 140),.none,(.ref 141),(.ref 142),(.ref 143),(.int (363) 0),(.int (64) 0),(.str "/claim/cut.py" 364)]),#[]⟩
def b9R (P:Params):Obj:=⟨(.type "function"),none,(.func (PySem.W.fnOf "__init__" "Rule.__init__" (a0d a3H) (a0c a3H) (a0a a3H) .none .none .none (.str "mostwise.rules" 342) none (.ref 144) .none)),#[]⟩
def c0o (P:Params):Obj:=⟨(.type "tuple"),none,(.seq #[] 0),#[]⟩
def c0G (P:Params):Obj:=⟨.none,none,(.fields #[]),#[]⟩
def b9c (P:Params):Obj:=⟨(.type "tuple"),none,(.seq #[(.str "self" 369)] 0),#[]⟩
def c0p (P:Params):Obj:=⟨(.type "tuple"),none,(.seq #[] 0),#[]⟩
def c3l (P:Params):Obj:=kC "word" "Rule.word" (a0o (top 21) 1)
def b9H (P:Params):Obj:=⟨(.type "code"),none,(.fields #[(.str "word" 366),(.str "Rule.word" 367),(.str "/claim/cut.py" 368),(.int (69) 0),(.int (1) 0),(.int (0) 0),(.int (0) 0),(.int (3) 0),(.ref 146),(.bool true),(.int (181) 0),(.ref 147),.none,(.ref 148),(.ref 149),(.ref 150),(.int (370) 0),(.int (69) 0),(.str "/claim/cut.py" 371)]),#[]⟩
def c0A (P:Params):Obj:=⟨(.type "function"),none,(.func (PySem.W.fnOf "word" "Rule.word" (a0d (a0o (top 21) 1)) (a0c (a0o (top 21) 1)) (a0a (a0o (top 21) 1)) .none .none .none (.str "mostwise.rules" 342) none (.ref 151) .none)),#[]⟩
def b9q (P:Params):Obj:=⟨(.type "tuple"),none,(.seq #[] 0),#[]⟩
def c0F (P:Params):Obj:=⟨.none,none,(.fields #[]),#[]⟩
def b9p (P:Params):Obj:=⟨(.type "tuple"),none,(.seq #[(.str "self" 376)] 0),#[]⟩
def b9g (P:Params):Obj:=⟨(.type "tuple"),none,(.seq #[] 0),#[]⟩
def c2B (P:Params):Obj:=kC "speaks" "Rule.speaks" (a0o (top 21) 2)
def b9Q (P:Params):Obj:=⟨(.type "code"),none,(.fields #[(.str "speaks" 373),(.str "Rule.speaks" 374),(.str "/claim/cut.py" 375),(.int (72) 0),(.int (1) 0),(.int (0) 0),(.int (0) 0),(.int (3) 0),(.ref 153),(.bool true),(.int (181) 0),(.ref 154),.none,(.ref 155),(.ref 156),(.ref 157),(.int (377) 0),(.int (72) 0),(.str "/claim/cut.py" 378)]),#[]⟩
def c0s (P:Params):Obj:=⟨(.type "function"),none,(.func (PySem.W.fnOf "speaks" "Rule.speaks" (a0d (a0o (top 21) 2)) (a0c (a0o (top 21) 2)) (a0a (a0o (top 21) 2)) .none .none .none (.str "mostwise.rules" 342) none (.ref 158) .none)),#[]⟩
def b9t (P:Params):Obj:=⟨(.type "tuple"),none,(.seq #[] 0),#[]⟩
def c0J (P:Params):Obj:=⟨.none,none,(.fields #[]),#[]⟩
def c0c (P:Params):Obj:=⟨(.type "tuple"),none,(.seq #[(.str "self" 383)] 0),#[]⟩
def b9h (P:Params):Obj:=⟨(.type "tuple"),none,(.seq #[] 0),#[]⟩
def c1t (P:Params):Obj:=kC "is_sure" "Rule.is_sure" (a0o (top 21) 3)
def b9y (P:Params):Obj:=⟨(.type "code"),none,(.fields #[(.str "is_sure" 380),(.str "Rule.is_sure" 381),(.str "/claim/cut.py" 382),(.int (75) 0),(.int (1) 0),(.int (0) 0),(.int (0) 0),(.int (3) 0),(.ref 160),(.bool true),(.int (181) 0),(.ref 161),.none,(.ref 162),(.ref 163),(.ref 164),(.int (384) 0),(.int (75) 0),(.str "/claim/cut.py" 385)]),#[]⟩
def c0U (P:Params):Obj:=⟨(.type "function"),none,(.func (PySem.W.fnOf "is_sure" "Rule.is_sure" (a0d (a0o (top 21) 3)) (a0c (a0o (top 21) 3)) (a0a (a0o (top 21) 3)) .none .none .none (.str "mostwise.rules" 342) none (.ref 165) .none)),#[]⟩
def b9L (P:Params):Obj:=⟨(.type "tuple"),none,(.seq #[] 0),#[]⟩
def c3y (P:Params):Obj:=⟨.none,none,(.fields #[]),#[]⟩
def c1e (P:Params):Obj:=kC "letters" "Rule.letters" a3y
def b9A (P:Params):Obj:=⟨(.type "code"),none,(.fields #[(.str "letters" 387),(.str "Rule.letters" 388),(.str "/claim/cut.py" 389),(.int (78) 0),(.int (1) 0),(.int (0) 0),(.int (0) 0),(.int (3) 0),(.ref 167),(.bool true),(.int (181) 0),(.ref 168),.none,.none,.none,(.ref 169),(.int (390) 0),(.int (78) 0),(.str "/claim/cut.py" 391)]),#[]⟩
def c0q (P:Params):Obj:=⟨(.type "function"),none,(.func (PySem.W.fnOf "letters" "Rule.letters" (a0d a3y) (a0c a3y) (a0a a3y) .none .none .none (.str "mostwise.rules" 342) none (.ref 170) .none)),#[]⟩
def c0g (P:Params):Obj:=⟨(.type "tuple"),none,(.seq #[] 0),#[]⟩
def c2z (P:Params):Obj:=⟨.none,none,(.fields #[]),#[]⟩
def b9B (P:Params):Obj:=⟨(.type "tuple"),none,(.seq #[(.str "self" 396),(.str "head" 397),(.str "body" 398)] 0),#[]⟩
def c0n (P:Params):Obj:=⟨(.type "tuple"),none,(.seq #[] 0),#[]⟩
def c3o (P:Params):Obj:=kC "again" "Rule.again" (a0o (top 21) 5)
def b9K (P:Params):Obj:=⟨(.type "code"),none,(.fields #[(.str "again" 393),(.str "Rule.again" 394),(.str "/claim/cut.py" 395),(.int (84) 0),(.int (3) 0),(.int (0) 0),(.int (0) 0),(.int (3) 0),(.ref 172),(.bool true),(.int (181) 0),(.ref 173),.none,(.ref 174),(.ref 175),(.ref 176),(.int (399) 0),(.int (84) 0),(.str "/claim/cut.py" 400)]),#[]⟩
def c1j (P:Params):Obj:=⟨(.type "function"),none,(.func (PySem.W.fnOf "again" "Rule.again" (a0d (a0o (top 21) 5)) (a0c (a0o (top 21) 5)) (a0a (a0o (top 21) 5)) .none .none .none (.str "mostwise.rules" 342) none (.ref 177) .none)),#[]⟩
def b9o (P:Params):Obj:=⟨(.type "tuple"),none,(.seq #[] 0),#[]⟩
def c3u (P:Params):Obj:=⟨.none,none,(.fields #[]),#[]⟩
def b9P (P:Params):Obj:=⟨(.type "tuple"),none,(.seq #[(.str "self" 405),(.str "given" 406)] 0),#[]⟩
def b9j (P:Params):Obj:=⟨(.type "tuple"),none,(.seq #[] 0),#[]⟩
def c2v (P:Params):Obj:=kC "filled" "Rule.filled" (a0o (top 21) 6)
def c0k (P:Params):Obj:=⟨(.type "code"),none,(.fields #[(.str "filled" 402),(.str "Rule.filled" 403),(.str "/claim/cut.py" 404),(.int (87) 0),(.int (2) 0),(.int (0) 0),(.int (0) 0),(.int (3) 0),(.ref 179),(.bool true),(.int (181) 0),(.ref 180),.none,(.ref 181),(.ref 182),(.ref 183),(.int (407) 0),(.int (87) 0),(.str "/claim/cut.py" 408)]),#[]⟩
def c1Z (P:Params):Obj:=⟨(.type "function"),none,(.func (PySem.W.fnOf "filled" "Rule.filled" (a0d (a0o (top 21) 6)) (a0c (a0o (top 21) 6)) (a0a (a0o (top 21) 6)) .none .none .none (.str "mostwise.rules" 342) none (.ref 184) .none)),#[]⟩
def b9n (P:Params):Obj:=⟨(.type "tuple"),none,(.seq #[] 0),#[]⟩
def c2C (P:Params):Obj:=⟨.none,none,(.fields #[]),#[]⟩
def b9d (P:Params):Obj:=⟨(.type "tuple"),none,(.seq #[(.str "self" 413),(.str "words" 414)] 0),#[]⟩
def b8Z (P:Params):Obj:=⟨(.type "tuple"),none,(.seq #[] 0),#[]⟩
def c1X (P:Params):Obj:=kC "row" "Rule.row" a3K
def b9G (P:Params):Obj:=⟨(.type "code"),none,(.fields #[(.str "row" 410),(.str "Rule.row" 411),(.str "/claim/cut.py" 412),(.int (90) 0),(.int (1) 0),(.int (0) 0),(.int (0) 0),(.int (3) 0),(.ref 186),(.bool true),(.int (181) 0),(.ref 187),.none,(.ref 188),(.ref 189),(.ref 190),(.int (415) 0),(.int (90) 0),(.str "/claim/cut.py" 416)]),#[]⟩
def b9a (P:Params):Obj:=⟨(.type "function"),none,(.func (PySem.W.fnOf "row" "Rule.row" (a0d a3K) (a0c a3K) (a0a a3K) .none .none .none (.str "mostwise.rules" 342) none (.ref 191) .none)),#[]⟩
def b9e (P:Params):Obj:=⟨(.type "tuple"),none,(.seq #[(.str "body" 418),(.str "head" 419),(.str "label" 420)] 0),#[]⟩
def b9S (P:Params):Obj:=⟨(.type "dict"),none,(.dict #[kE P "__module__" 351 (.str "mostwise.rules" 342),⟨PyData.keyHash P "__firstlineno__",(.str "__firstlineno__" 355),(.int (62) 354)⟩,kE P "__init__" 365 (.ref 145),kE P "word" 372 (.ref 152),kE P "speaks" 379 (.ref 159),kE P "is_sure" 386 (.ref 166),kE P "letters" 392 (.ref 171),kE P "again" 401 (.ref 178),kE P "filled" 409 (.ref 185),kE P "row" 417 (.ref 192),kE P "__static_attributes__" 421 (.ref 193),kE P "__dict__" 423 (.ref 196),kE P "__weakref__" 425 (.ref 197),kE P "__doc__" 426 .none] 4),#[]⟩
def c1D (P:Params):Obj:=⟨(.type "type"),none,(.cls ⟨"Rule",[(.type "object")],[(.ref 195),(.type "object")],194,"Rule",true,[],[(.ref 244),(.ref 277),(.ref 303),(.ref 336)],false,none,false⟩),#[none,none,(some (.str "Rule" 344)),(some (.str "Rule" 352)),(some (.builtin "object.__new__")),(some (.bool true))]⟩
def c0a (P:Params):Obj:=⟨(.type "getset_descriptor"),none,(.fields #[(.str "__dict__" 422),(.ref 195),(.builtin "function.__dict__"),(.builtin "function.__dict__#set")]),#[]⟩
def b9T (P:Params):Obj:=⟨(.type "getset_descriptor"),none,(.fields #[(.str "__weakref__" 424),(.ref 195),(.builtin "ExceptionGroup.__weakref__"),.none]),#[]⟩
def c2y (P:Params):Obj:=⟨(.type "super"),none,(.fields #[(.ref 195),(.ref 195),(.ref 195)]),#[]⟩
def c0C (P:Params):Obj:=⟨(.type "builtin_function_or_method"),none,(.fields #[(.builtin "object.__init_subclass__"),(.ref 195)]),#[]⟩
def c0z (P:Params):Obj:=⟨(.type "tuple"),none,(.seq #[(.ref 195)] 0),#[]⟩
def c4R (P:Params):Obj:=⟨(.type "builtin_function_or_method"),none,(.fields #[(.builtin "type.__prepare__"),(.type "type")]),#[]⟩
def c7w (P:Params):Obj:=⟨(.type "dict"),none,(.dict #[kE P "__module__" 436 (.str "mostwise.rules" 342),kE P "__qualname__" 438 (.str "Fact" 437),⟨PyData.keyHash P "__firstlineno__",(.str "__firstlineno__" 440),(.int (95) 439)⟩,kE P "__init__" 448 (.ref 213),kE P "word" 455 (.ref 220),kE P "is_sure" 462 (.ref 227),kE P "again" 471 (.ref 234),kE P "row" 478 (.ref 241),kE P "__static_attributes__" 479 (.ref 242)] 9),#[]⟩
def c4B (P:Params):Obj:=⟨(.type "tuple"),none,(.seq #[] 0),#[]⟩
def c7d (P:Params):Obj:=⟨.none,none,(.fields #[(.int (97) 0),(.int (4) 0),(.ref 212),(.int (100) 0),(.int (4) 0),(.ref 219),(.int (103) 0),(.int (4) 0),(.ref 226),(.int (106) 0),(.int (4) 0),(.ref 233),(.int (109) 0),(.int (4) 0),(.ref 240)]),#[]⟩
def c6c (P:Params):Obj:=⟨(.type "code"),none,(.fields #[(.str "Fact" 431),(.str "Fact" 432),(.str "/claim/cut.py" 433),(.int (95) 0),(.int (0) 0),(.int (0) 0),(.int (0) 0),(.int (0) 0),(.ref 203),(.bool false),(.int (181) 0),(.ref 204),.none,.none,.none,.none,(.int (434) 0),(.int (95) 0),(.str "/claim/cut.py" 435)]),#[]⟩
def c4b (P:Params):Obj:=⟨(.type "frame"),none,.plain,#[(some (.ref 205)),(some (.ref 3)),(some (.ref 202)),none,(some (.str "mostwise.rules" 342)),none,(some (.ref 0))]⟩
def c0P (P:Params):Obj:=⟨(.type "tuple"),none,(.seq #[] 0),#[]⟩
def c6J (P:Params):Obj:=⟨.none,none,(.fields #[]),#[]⟩
def c1Y (P:Params):Obj:=⟨(.type "tuple"),none,(.seq #[(.str "self" 444),(.str "head" 445)] 0),#[]⟩
def c3e (P:Params):Obj:=⟨(.type "tuple"),none,(.seq #[] 0),#[]⟩
def c5k (P:Params):Obj:=kC "__init__" "Fact.__init__" a4D
def c1q (P:Params):Obj:=⟨(.type "code"),none,(.fields #[(.str "__init__" 441),(.str "Fact.__init__" 442),(.str "/claim/cut.py" 443),(.int (97) 0),(.int (2) 0),(.int (0) 0),(.int (0) 0),(.int (3) 0),(.ref 207),(.bool true),(.int (181) 0),(.ref 208),.none,(.ref 209),(.ref 210),(.ref 211),(.int (446) 0),(.int (97) 0),(.str "/claim/cut.py" 447)]),#[]⟩
def c2k (P:Params):Obj:=⟨(.type "function"),none,(.func (PySem.W.fnOf "__init__" "Fact.__init__" (a0d a4D) (a0c a4D) (a0a a4D) .none .none .none (.str "mostwise.rules" 342) none (.ref 212) .none)),#[]⟩
def c1w (P:Params):Obj:=⟨(.type "tuple"),none,(.seq #[] 0),#[]⟩
def c7F (P:Params):Obj:=⟨.none,none,(.fields #[]),#[]⟩
def c1H (P:Params):Obj:=⟨(.type "tuple"),none,(.seq #[(.str "self" 452)] 0),#[]⟩
def c1p (P:Params):Obj:=⟨(.type "tuple"),none,(.seq #[] 0),#[]⟩
def c7M (P:Params):Obj:=kC "word" "Fact.word" a4o
def c2F (P:Params):Obj:=⟨(.type "code"),none,(.fields #[(.str "word" 449),(.str "Fact.word" 450),(.str "/claim/cut.py" 451),(.int (100) 0),(.int (1) 0),(.int (0) 0),(.int (0) 0),(.int (3) 0),(.ref 214),(.bool true),(.int (181) 0),(.ref 215),.none,(.ref 216),(.ref 217),(.ref 218),(.int (453) 0),(.int (100) 0),(.str "/claim/cut.py" 454)]),#[]⟩
def c0v (P:Params):Obj:=⟨(.type "function"),none,(.func (PySem.W.fnOf "word" "Fact.word" (a0d a4o) (a0c a4o) (a0a a4o) .none .none .none (.str "mostwise.rules" 342) none (.ref 219) .none)),#[]⟩
def c1W (P:Params):Obj:=⟨(.type "tuple"),none,(.seq #[] 0),#[]⟩
def c6T (P:Params):Obj:=⟨.none,none,(.fields #[]),#[]⟩
def c0S (P:Params):Obj:=⟨(.type "tuple"),none,(.seq #[(.str "self" 459)] 0),#[]⟩
def c1L (P:Params):Obj:=⟨(.type "tuple"),none,(.seq #[] 0),#[]⟩
def c7D (P:Params):Obj:=kC "is_sure" "Fact.is_sure" (a0o (top 22) 2)
def c2E (P:Params):Obj:=⟨(.type "code"),none,(.fields #[(.str "is_sure" 456),(.str "Fact.is_sure" 457),(.str "/claim/cut.py" 458),(.int (103) 0),(.int (1) 0),(.int (0) 0),(.int (0) 0),(.int (3) 0),(.ref 221),(.bool true),(.int (181) 0),(.ref 222),.none,(.ref 223),(.ref 224),(.ref 225),(.int (460) 0),(.int (103) 0),(.str "/claim/cut.py" 461)]),#[]⟩
def c5M (P:Params):Obj:=⟨(.type "function"),none,(.func (PySem.W.fnOf "is_sure" "Fact.is_sure" (a0d (a0o (top 22) 2)) (a0c (a0o (top 22) 2)) (a0a (a0o (top 22) 2)) .none .none .none (.str "mostwise.rules" 342) none (.ref 226) .none)),#[]⟩
def c0E (P:Params):Obj:=⟨(.type "tuple"),none,(.seq #[] 0),#[]⟩
def c5R (P:Params):Obj:=⟨.none,none,(.fields #[]),#[]⟩
def c0K (P:Params):Obj:=⟨(.type "tuple"),none,(.seq #[(.str "self" 466),(.str "head" 467),(.str "body" 468)] 0),#[]⟩
def c2L (P:Params):Obj:=⟨(.type "tuple"),none,(.seq #[] 0),#[]⟩
def c7O (P:Params):Obj:=kC "again" "Fact.again" (a0o (top 22) 3)
def c2Z (P:Params):Obj:=⟨(.type "code"),none,(.fields #[(.str "again" 463),(.str "Fact.again" 464),(.str "/claim/cut.py" 465),(.int (106) 0),(.int (3) 0),(.int (0) 0),(.int (0) 0),(.int (3) 0),(.ref 228),(.bool true),(.int (181) 0),(.ref 229),.none,(.ref 230),(.ref 231),(.ref 232),(.int (469) 0),(.int (106) 0),(.str "/claim/cut.py" 470)]),#[]⟩
def c6Y (P:Params):Obj:=⟨(.type "function"),none,(.func (PySem.W.fnOf "again" "Fact.again" (a0d (a0o (top 22) 3)) (a0c (a0o (top 22) 3)) (a0a (a0o (top 22) 3)) .none .none .none (.str "mostwise.rules" 342) none (.ref 233) .none)),#[]⟩
def c2x (P:Params):Obj:=⟨(.type "tuple"),none,(.seq #[] 0),#[]⟩
def c4o (P:Params):Obj:=⟨.none,none,(.fields #[]),#[]⟩
def c1P (P:Params):Obj:=⟨(.type "tuple"),none,(.seq #[(.str "self" 475)] 0),#[]⟩
def c2d (P:Params):Obj:=⟨(.type "tuple"),none,(.seq #[] 0),#[]⟩
def c7J (P:Params):Obj:=kC "row" "Fact.row" a3I
def c1U (P:Params):Obj:=⟨(.type "code"),none,(.fields #[(.str "row" 472),(.str "Fact.row" 473),(.str "/claim/cut.py" 474),(.int (109) 0),(.int (1) 0),(.int (0) 0),(.int (0) 0),(.int (3) 0),(.ref 235),(.bool true),(.int (181) 0),(.ref 236),.none,(.ref 237),(.ref 238),(.ref 239),(.int (476) 0),(.int (109) 0),(.str "/claim/cut.py" 477)]),#[]⟩
def c3C (P:Params):Obj:=⟨(.type "function"),none,(.func (PySem.W.fnOf "row" "Fact.row" (a0d a3I) (a0c a3I) (a0a a3I) .none .none .none (.str "mostwise.rules" 342) none (.ref 240) .none)),#[]⟩
def c2S (P:Params):Obj:=⟨(.type "tuple"),none,(.seq #[] 0),#[]⟩
def c2K (P:Params):Obj:=⟨(.type "dict"),none,(.dict #[kE P "__module__" 436 (.str "mostwise.rules" 342),⟨PyData.keyHash P "__firstlineno__",(.str "__firstlineno__" 440),(.int (95) 439)⟩,kE P "__init__" 448 (.ref 213),kE P "word" 455 (.ref 220),kE P "is_sure" 462 (.ref 227),kE P "again" 471 (.ref 234),kE P "row" 478 (.ref 241),kE P "__static_attributes__" 479 (.ref 242),kE P "__doc__" 480 .none] 2),#[]⟩
def c1s (P:Params):Obj:=⟨(.type "type"),none,(.cls ⟨"Fact",[(.ref 195)],[(.ref 244),(.ref 195),(.type "object")],243,"Fact",true,[],[],false,none,false⟩),#[(some (.ref 200)),none,(some (.str "Fact" 429)),(some (.str "Fact" 437)),(some (.builtin "object.__new__")),(some (.bool true))]⟩
def c5I (P:Params):Obj:=⟨(.type "super"),none,(.fields #[(.ref 244),(.ref 244),(.ref 244)]),#[]⟩
def c4i (P:Params):Obj:=⟨(.type "builtin_function_or_method"),none,(.fields #[(.builtin "object.__init_subclass__"),(.ref 244)]),#[]⟩
def c1T (P:Params):Obj:=⟨(.type "tuple"),none,(.seq #[(.ref 195)] 0),#[]⟩
def c6W (P:Params):Obj:=⟨(.type "builtin_function_or_method"),none,(.fields #[(.builtin "type.__prepare__"),(.type "type")]),#[]⟩
def c4m (P:Params):Obj:=⟨(.type "dict"),none,(.dict #[kE P "__module__" 490 (.str "mostwise.rules" 342),kE P "__qualname__" 492 (.str "Sure" 491),⟨PyData.keyHash P "__firstlineno__",(.str "__firstlineno__" 494),(.int (111) 493)⟩,kE P "word" 501 (.ref 260),kE P "is_sure" 508 (.ref 267),kE P "again" 517 (.ref 274),kE P "__static_attributes__" 518 (.ref 275)] 7),#[]⟩
def c4N (P:Params):Obj:=⟨(.type "tuple"),none,(.seq #[] 0),#[]⟩
def c5e (P:Params):Obj:=⟨.none,none,(.fields #[(.int (113) 0),(.int (4) 0),(.ref 259),(.int (116) 0),(.int (4) 0),(.ref 266),(.int (119) 0),(.int (4) 0),(.ref 273)]),#[]⟩
def c4e (P:Params):Obj:=⟨(.type "code"),none,(.fields #[(.str "Sure" 485),(.str "Sure" 486),(.str "/claim/cut.py" 487),(.int (111) 0),(.int (0) 0),(.int (0) 0),(.int (0) 0),(.int (0) 0),(.ref 250),(.bool false),(.int (181) 0),(.ref 251),.none,.none,.none,.none,(.int (488) 0),(.int (111) 0),(.str "/claim/cut.py" 489)]),#[]⟩
def c7k (P:Params):Obj:=⟨(.type "frame"),none,.plain,#[(some (.ref 252)),(some (.ref 3)),(some (.ref 249)),none,(some (.str "mostwise.rules" 342)),none,(some (.ref 0))]⟩
def c0u (P:Params):Obj:=⟨(.type "tuple"),none,(.seq #[] 0),#[]⟩
def c7n (P:Params):Obj:=⟨.none,none,(.fields #[]),#[]⟩
def c2W (P:Params):Obj:=⟨(.type "tuple"),none,(.seq #[(.str "self" 498)] 0),#[]⟩
def c2t (P:Params):Obj:=⟨(.type "tuple"),none,(.seq #[] 0),#[]⟩
def c5r (P:Params):Obj:=kC "word" "Sure.word" a3E
def c3a (P:Params):Obj:=⟨(.type "code"),none,(.fields #[(.str "word" 495),(.str "Sure.word" 496),(.str "/claim/cut.py" 497),(.int (113) 0),(.int (1) 0),(.int (0) 0),(.int (0) 0),(.int (3) 0),(.ref 254),(.bool true),(.int (181) 0),(.ref 255),.none,(.ref 256),(.ref 257),(.ref 258),(.int (499) 0),(.int (113) 0),(.str "/claim/cut.py" 500)]),#[]⟩
def c0B (P:Params):Obj:=⟨(.type "function"),none,(.func (PySem.W.fnOf "word" "Sure.word" (a0d a3E) (a0c a3E) (a0a a3E) .none .none .none (.str "mostwise.rules" 342) none (.ref 259) .none)),#[]⟩
def c1n (P:Params):Obj:=⟨(.type "tuple"),none,(.seq #[] 0),#[]⟩
def c5z (P:Params):Obj:=⟨.none,none,(.fields #[]),#[]⟩
def c2e (P:Params):Obj:=⟨(.type "tuple"),none,(.seq #[(.str "self" 505)] 0),#[]⟩
def c2T (P:Params):Obj:=⟨(.type "tuple"),none,(.seq #[] 0),#[]⟩
def c5F (P:Params):Obj:=kC "is_sure" "Sure.is_sure" (a0o (top 23) 1)
def c1y (P:Params):Obj:=⟨(.type "code"),none,(.fields #[(.str "is_sure" 502),(.str "Sure.is_sure" 503),(.str "/claim/cut.py" 504),(.int (116) 0),(.int (1) 0),(.int (0) 0),(.int (0) 0),(.int (3) 0),(.ref 261),(.bool true),(.int (181) 0),(.ref 262),.none,(.ref 263),(.ref 264),(.ref 265),(.int (506) 0),(.int (116) 0),(.str "/claim/cut.py" 507)]),#[]⟩
def c6C (P:Params):Obj:=⟨(.type "function"),none,(.func (PySem.W.fnOf "is_sure" "Sure.is_sure" (a0d (a0o (top 23) 1)) (a0c (a0o (top 23) 1)) (a0a (a0o (top 23) 1)) .none .none .none (.str "mostwise.rules" 342) none (.ref 266) .none)),#[]⟩
def c1m (P:Params):Obj:=⟨(.type "tuple"),none,(.seq #[] 0),#[]⟩
def c5f (P:Params):Obj:=⟨.none,none,(.fields #[]),#[]⟩
def c1F (P:Params):Obj:=⟨(.type "tuple"),none,(.seq #[(.str "self" 512),(.str "head" 513),(.str "body" 514)] 0),#[]⟩
def c3f (P:Params):Obj:=⟨(.type "tuple"),none,(.seq #[] 0),#[]⟩
def c7y (P:Params):Obj:=kC "again" "Sure.again" (a0o (top 23) 2)
def c1B (P:Params):Obj:=⟨(.type "code"),none,(.fields #[(.str "again" 509),(.str "Sure.again" 510),(.str "/claim/cut.py" 511),(.int (119) 0),(.int (3) 0),(.int (0) 0),(.int (0) 0),(.int (3) 0),(.ref 268),(.bool true),(.int (181) 0),(.ref 269),.none,(.ref 270),(.ref 271),(.ref 272),(.int (515) 0),(.int (119) 0),(.str "/claim/cut.py" 516)]),#[]⟩
def c5s (P:Params):Obj:=⟨(.type "function"),none,(.func (PySem.W.fnOf "again" "Sure.again" (a0d (a0o (top 23) 2)) (a0c (a0o (top 23) 2)) (a0a (a0o (top 23) 2)) .none .none .none (.str "mostwise.rules" 342) none (.ref 273) .none)),#[]⟩
def c3x (P:Params):Obj:=⟨(.type "tuple"),none,(.seq #[] 0),#[]⟩
def c2M (P:Params):Obj:=⟨(.type "dict"),none,(.dict #[kE P "__module__" 490 (.str "mostwise.rules" 342),⟨PyData.keyHash P "__firstlineno__",(.str "__firstlineno__" 494),(.int (111) 493)⟩,kE P "word" 501 (.ref 260),kE P "is_sure" 508 (.ref 267),kE P "again" 517 (.ref 274),kE P "__static_attributes__" 518 (.ref 275),kE P "__doc__" 519 .none] 2),#[]⟩
def c1A (P:Params):Obj:=⟨(.type "type"),none,(.cls ⟨"Sure",[(.ref 195)],[(.ref 277),(.ref 195),(.type "object")],276,"Sure",true,[],[],false,none,false⟩),#[(some (.ref 247)),none,(some (.str "Sure" 483)),(some (.str "Sure" 491)),(some (.builtin "object.__new__")),(some (.bool true))]⟩
def c4D (P:Params):Obj:=⟨(.type "super"),none,(.fields #[(.ref 277),(.ref 277),(.ref 277)]),#[]⟩
def c4r (P:Params):Obj:=⟨(.type "builtin_function_or_method"),none,(.fields #[(.builtin "object.__init_subclass__"),(.ref 277)]),#[]⟩
def c0O (P:Params):Obj:=⟨(.type "tuple"),none,(.seq #[(.ref 195)] 0),#[]⟩
def c6y (P:Params):Obj:=⟨(.type "builtin_function_or_method"),none,(.fields #[(.builtin "type.__prepare__"),(.type "type")]),#[]⟩
def c3K (P:Params):Obj:=⟨(.type "dict"),none,(.dict #[kE P "__module__" 529 (.str "mostwise.rules" 342),kE P "__qualname__" 531 (.str "Most" 530),⟨PyData.keyHash P "__firstlineno__",(.str "__firstlineno__" 533),(.int (121) 532)⟩,kE P "word" 540 (.ref 293),kE P "again" 549 (.ref 300),kE P "__static_attributes__" 550 (.ref 301)] 6),#[]⟩
def c6u (P:Params):Obj:=⟨(.type "tuple"),none,(.seq #[] 0),#[]⟩
def c6I (P:Params):Obj:=⟨.none,none,(.fields #[(.int (123) 0),(.int (4) 0),(.ref 292),(.int (126) 0),(.int (4) 0),(.ref 299)]),#[]⟩
def c4V (P:Params):Obj:=⟨(.type "code"),none,(.fields #[(.str "Most" 524),(.str "Most" 525),(.str "/claim/cut.py" 526),(.int (121) 0),(.int (0) 0),(.int (0) 0),(.int (0) 0),(.int (0) 0),(.ref 283),(.bool false),(.int (181) 0),(.ref 284),.none,.none,.none,.none,(.int (527) 0),(.int (121) 0),(.str "/claim/cut.py" 528)]),#[]⟩
def c4d (P:Params):Obj:=⟨(.type "frame"),none,.plain,#[(some (.ref 285)),(some (.ref 3)),(some (.ref 282)),none,(some (.str "mostwise.rules" 342)),none,(some (.ref 0))]⟩
def c1b (P:Params):Obj:=⟨(.type "tuple"),none,(.seq #[] 0),#[]⟩
def c7I (P:Params):Obj:=⟨.none,none,(.fields #[]),#[]⟩
def c2m (P:Params):Obj:=⟨(.type "tuple"),none,(.seq #[(.str "self" 537)] 0),#[]⟩
def c2Y (P:Params):Obj:=⟨(.type "tuple"),none,(.seq #[] 0),#[]⟩
def c6j (P:Params):Obj:=kC "word" "Most.word" a3B
def c2A (P:Params):Obj:=⟨(.type "code"),none,(.fields #[(.str "word" 534),(.str "Most.word" 535),(.str "/claim/cut.py" 536),(.int (123) 0),(.int (1) 0),(.int (0) 0),(.int (0) 0),(.int (3) 0),(.ref 287),(.bool true),(.int (181) 0),(.ref 288),.none,(.ref 289),(.ref 290),(.ref 291),(.int (538) 0),(.int (123) 0),(.str "/claim/cut.py" 539)]),#[]⟩
def c3s (P:Params):Obj:=⟨(.type "function"),none,(.func (PySem.W.fnOf "word" "Most.word" (a0d a3B) (a0c a3B) (a0a a3B) .none .none .none (.str "mostwise.rules" 342) none (.ref 292) .none)),#[]⟩
def c0N (P:Params):Obj:=⟨(.type "tuple"),none,(.seq #[] 0),#[]⟩
def c6X (P:Params):Obj:=⟨.none,none,(.fields #[]),#[]⟩
def c1d (P:Params):Obj:=⟨(.type "tuple"),none,(.seq #[(.str "self" 544),(.str "head" 545),(.str "body" 546)] 0),#[]⟩
def c1k (P:Params):Obj:=⟨(.type "tuple"),none,(.seq #[] 0),#[]⟩
def c7b (P:Params):Obj:=kC "again" "Most.again" (a0o (top 24) 1)
def c1R (P:Params):Obj:=⟨(.type "code"),none,(.fields #[(.str "again" 541),(.str "Most.again" 542),(.str "/claim/cut.py" 543),(.int (126) 0),(.int (3) 0),(.int (0) 0),(.int (0) 0),(.int (3) 0),(.ref 294),(.bool true),(.int (181) 0),(.ref 295),.none,(.ref 296),(.ref 297),(.ref 298),(.int (547) 0),(.int (126) 0),(.str "/claim/cut.py" 548)]),#[]⟩
def c4a (P:Params):Obj:=⟨(.type "function"),none,(.func (PySem.W.fnOf "again" "Most.again" (a0d (a0o (top 24) 1)) (a0c (a0o (top 24) 1)) (a0a (a0o (top 24) 1)) .none .none .none (.str "mostwise.rules" 342) none (.ref 299) .none)),#[]⟩
def c1c (P:Params):Obj:=⟨(.type "tuple"),none,(.seq #[] 0),#[]⟩
def c1M (P:Params):Obj:=⟨(.type "dict"),none,(.dict #[kE P "__module__" 529 (.str "mostwise.rules" 342),⟨PyData.keyHash P "__firstlineno__",(.str "__firstlineno__" 533),(.int (121) 532)⟩,kE P "word" 540 (.ref 293),kE P "again" 549 (.ref 300),kE P "__static_attributes__" 550 (.ref 301),kE P "__doc__" 551 .none] 2),#[]⟩
def c2V (P:Params):Obj:=⟨(.type "type"),none,(.cls ⟨"Most",[(.ref 195)],[(.ref 303),(.ref 195),(.type "object")],302,"Most",true,[],[],false,none,false⟩),#[(some (.ref 280)),none,(some (.str "Most" 522)),(some (.str "Most" 530)),(some (.builtin "object.__new__")),(some (.bool true))]⟩
def c5X (P:Params):Obj:=⟨(.type "super"),none,(.fields #[(.ref 303),(.ref 303),(.ref 303)]),#[]⟩
def c6w (P:Params):Obj:=⟨(.type "builtin_function_or_method"),none,(.fields #[(.builtin "object.__init_subclass__"),(.ref 303)]),#[]⟩
def c2H (P:Params):Obj:=⟨(.type "tuple"),none,(.seq #[(.ref 195)] 0),#[]⟩
def c5V (P:Params):Obj:=⟨(.type "builtin_function_or_method"),none,(.fields #[(.builtin "type.__prepare__"),(.type "type")]),#[]⟩
def c7l (P:Params):Obj:=⟨(.type "dict"),none,(.dict #[kE P "__module__" 561 (.str "mostwise.rules" 342),kE P "__qualname__" 563 (.str "Block" 562),⟨PyData.keyHash P "__firstlineno__",(.str "__firstlineno__" 565),(.int (128) 564)⟩,kE P "word" 572 (.ref 319),kE P "speaks" 579 (.ref 326),kE P "again" 588 (.ref 333),kE P "__static_attributes__" 589 (.ref 334)] 7),#[]⟩
def c6q (P:Params):Obj:=⟨(.type "tuple"),none,(.seq #[] 0),#[]⟩
def c5Y (P:Params):Obj:=⟨.none,none,(.fields #[(.int (130) 0),(.int (4) 0),(.ref 318),(.int (133) 0),(.int (4) 0),(.ref 325),(.int (136) 0),(.int (4) 0),(.ref 332)]),#[]⟩
def c6g (P:Params):Obj:=⟨(.type "code"),none,(.fields #[(.str "Block" 556),(.str "Block" 557),(.str "/claim/cut.py" 558),(.int (128) 0),(.int (0) 0),(.int (0) 0),(.int (0) 0),(.int (0) 0),(.ref 309),(.bool false),(.int (181) 0),(.ref 310),.none,.none,.none,.none,(.int (559) 0),(.int (128) 0),(.str "/claim/cut.py" 560)]),#[]⟩
def c3I (P:Params):Obj:=⟨(.type "frame"),none,.plain,#[(some (.ref 311)),(some (.ref 3)),(some (.ref 308)),none,(some (.str "mostwise.rules" 342)),none,(some (.ref 0))]⟩
def c3m (P:Params):Obj:=⟨(.type "tuple"),none,(.seq #[] 0),#[]⟩
def c4C (P:Params):Obj:=⟨.none,none,(.fields #[]),#[]⟩
def c2o (P:Params):Obj:=⟨(.type "tuple"),none,(.seq #[(.str "self" 569)] 0),#[]⟩
def c0Y (P:Params):Obj:=⟨(.type "tuple"),none,(.seq #[] 0),#[]⟩
def c5a (P:Params):Obj:=kC "word" "Block.word" a4G
def c1C (P:Params):Obj:=⟨(.type "code"),none,(.fields #[(.str "word" 566),(.str "Block.word" 567),(.str "/claim/cut.py" 568),(.int (130) 0),(.int (1) 0),(.int (0) 0),(.int (0) 0),(.int (3) 0),(.ref 313),(.bool true),(.int (181) 0),(.ref 314),.none,(.ref 315),(.ref 316),(.ref 317),(.int (570) 0),(.int (130) 0),(.str "/claim/cut.py" 571)]),#[]⟩
def c2O (P:Params):Obj:=⟨(.type "function"),none,(.func (PySem.W.fnOf "word" "Block.word" (a0d a4G) (a0c a4G) (a0a a4G) .none .none .none (.str "mostwise.rules" 342) none (.ref 318) .none)),#[]⟩
def c2f (P:Params):Obj:=⟨(.type "tuple"),none,(.seq #[] 0),#[]⟩
def c6H (P:Params):Obj:=⟨.none,none,(.fields #[]),#[]⟩
def c1K (P:Params):Obj:=⟨(.type "tuple"),none,(.seq #[(.str "self" 576)] 0),#[]⟩
def c1r (P:Params):Obj:=⟨(.type "tuple"),none,(.seq #[] 0),#[]⟩
def c4X (P:Params):Obj:=kC "speaks" "Block.speaks" (a0o (top 25) 1)
def c0L (P:Params):Obj:=⟨(.type "code"),none,(.fields #[(.str "speaks" 573),(.str "Block.speaks" 574),(.str "/claim/cut.py" 575),(.int (133) 0),(.int (1) 0),(.int (0) 0),(.int (0) 0),(.int (3) 0),(.ref 320),(.bool true),(.int (181) 0),(.ref 321),.none,(.ref 322),(.ref 323),(.ref 324),(.int (577) 0),(.int (133) 0),(.str "/claim/cut.py" 578)]),#[]⟩
def c5Z (P:Params):Obj:=⟨(.type "function"),none,(.func (PySem.W.fnOf "speaks" "Block.speaks" (a0d (a0o (top 25) 1)) (a0c (a0o (top 25) 1)) (a0a (a0o (top 25) 1)) .none .none .none (.str "mostwise.rules" 342) none (.ref 325) .none)),#[]⟩
def c2g (P:Params):Obj:=⟨(.type "tuple"),none,(.seq #[] 0),#[]⟩
def c6f (P:Params):Obj:=⟨.none,none,(.fields #[]),#[]⟩
def c2l (P:Params):Obj:=⟨(.type "tuple"),none,(.seq #[(.str "self" 583),(.str "head" 584),(.str "body" 585)] 0),#[]⟩
def c0W (P:Params):Obj:=⟨(.type "tuple"),none,(.seq #[] 0),#[]⟩
def c4c (P:Params):Obj:=kC "again" "Block.again" (a0o (top 25) 2)
def c1E (P:Params):Obj:=⟨(.type "code"),none,(.fields #[(.str "again" 580),(.str "Block.again" 581),(.str "/claim/cut.py" 582),(.int (136) 0),(.int (3) 0),(.int (0) 0),(.int (0) 0),(.int (3) 0),(.ref 327),(.bool true),(.int (181) 0),(.ref 328),.none,(.ref 329),(.ref 330),(.ref 331),(.int (586) 0),(.int (136) 0),(.str "/claim/cut.py" 587)]),#[]⟩
def c5g (P:Params):Obj:=⟨(.type "function"),none,(.func (PySem.W.fnOf "again" "Block.again" (a0d (a0o (top 25) 2)) (a0c (a0o (top 25) 2)) (a0a (a0o (top 25) 2)) .none .none .none (.str "mostwise.rules" 342) none (.ref 332) .none)),#[]⟩
def c3w (P:Params):Obj:=⟨(.type "tuple"),none,(.seq #[] 0),#[]⟩
def c0H (P:Params):Obj:=⟨(.type "dict"),none,(.dict #[kE P "__module__" 561 (.str "mostwise.rules" 342),⟨PyData.keyHash P "__firstlineno__",(.str "__firstlineno__" 565),(.int (128) 564)⟩,kE P "word" 572 (.ref 319),kE P "speaks" 579 (.ref 326),kE P "again" 588 (.ref 333),kE P "__static_attributes__" 589 (.ref 334),kE P "__doc__" 590 .none] 2),#[]⟩
def c3D (P:Params):Obj:=⟨(.type "type"),none,(.cls ⟨"Block",[(.ref 195)],[(.ref 336),(.ref 195),(.type "object")],335,"Block",true,[],[],false,none,false⟩),#[(some (.ref 306)),none,(some (.str "Block" 554)),(some (.str "Block" 562)),(some (.builtin "object.__new__")),(some (.bool true))]⟩
def c4A (P:Params):Obj:=⟨(.type "super"),none,(.fields #[(.ref 336),(.ref 336),(.ref 336)]),#[]⟩
def c4W (P:Params):Obj:=⟨(.type "builtin_function_or_method"),none,(.fields #[(.builtin "object.__init_subclass__"),(.ref 336)]),#[]⟩
def c1I (P:Params):Obj:=⟨(.type "tuple"),none,(.seq #[] 0),#[]⟩
def c5U (P:Params):Obj:=⟨.none,none,(.fields #[]),#[]⟩
def c2I (P:Params):Obj:=⟨(.type "tuple"),none,(.seq #[(.str "row" 604)] 0),#[]⟩
def c3h (P:Params):Obj:=⟨(.type "tuple"),none,(.seq #[] 0),#[]⟩
def c6P (P:Params):Obj:=kC "words_of" "words_of" a4H
def c1J (P:Params):Obj:=⟨(.type "code"),none,(.fields #[(.str "words_of" 601),(.str "words_of" 602),(.str "/claim/cut.py" 603),(.int (142) 0),(.int (1) 0),(.int (0) 0),(.int (0) 0),(.int (3) 0),(.ref 339),(.bool true),(.int (181) 0),(.ref 340),.none,(.ref 341),(.ref 342),(.ref 343),(.int (605) 0),(.int (142) 0),(.str "/claim/cut.py" 606)]),#[]⟩
def c1Q (P:Params):Obj:=⟨(.type "function"),none,(.func (PySem.W.fnOf "words_of" "words_of" (a0d a4H) (a0c a4H) (a0a a4H) .none .none .none (.str "mostwise.lines" 593) none (.ref 344) .none)),#[]⟩
def c1a (P:Params):Obj:=⟨(.type "tuple"),none,(.seq #[] 0),#[]⟩
def c6r (P:Params):Obj:=⟨.none,none,(.fields #[]),#[]⟩
def c3B (P:Params):Obj:=⟨(.type "tuple"),none,(.seq #[(.str "row" 611),(.str "head" 612)] 0),#[]⟩
def c2G (P:Params):Obj:=⟨(.type "tuple"),none,(.seq #[] 0),#[]⟩
def c6v (P:Params):Obj:=kC "fact_in" "fact_in" a4z
def c2a (P:Params):Obj:=⟨(.type "code"),none,(.fields #[(.str "fact_in" 608),(.str "fact_in" 609),(.str "/claim/cut.py" 610),(.int (144) 0),(.int (1) 0),(.int (0) 0),(.int (0) 0),(.int (3) 0),(.ref 346),(.bool true),(.int (181) 0),(.ref 347),.none,(.ref 348),(.ref 349),(.ref 350),(.int (613) 0),(.int (144) 0),(.str "/claim/cut.py" 614)]),#[]⟩
def c2U (P:Params):Obj:=⟨(.type "function"),none,(.func (PySem.W.fnOf "fact_in" "fact_in" (a0d a4z) (a0c a4z) (a0a a4z) .none .none .none (.str "mostwise.lines" 593) none (.ref 351) .none)),#[]⟩
def c6U (P:Params):Obj:=⟨(.type "tuple"),none,(.seq #[] 0),#[]⟩
def c9c (P:Params):Obj:=⟨.none,none,(.fields #[]),#[]⟩
def c6k (P:Params):Obj:=⟨(.type "tuple"),none,(.seq #[(.str "word" 619),(.str "label" 620),(.str "head" 621),(.str "body" 622)] 0),#[]⟩
def c5L (P:Params):Obj:=⟨(.type "tuple"),none,(.seq #[] 0),#[]⟩
def c8A (P:Params):Obj:=kC "made" "made" a4x
def c4t (P:Params):Obj:=⟨(.type "code"),none,(.fields #[(.str "made" 616),(.str "made" 617),(.str "/claim/cut.py" 618),(.int (147) 0),(.int (4) 0),(.int (0) 0),(.int (0) 0),(.int (3) 0),(.ref 353),(.bool true),(.int (181) 0),(.ref 354),.none,(.ref 355),(.ref 356),(.ref 357),(.int (623) 0),(.int (147) 0),(.str "/claim/cut.py" 624)]),#[]⟩
def c5K (P:Params):Obj:=⟨(.type "function"),none,(.func (PySem.W.fnOf "made" "made" (a0d a4x) (a0c a4x) (a0a a4x) .none .none .none (.str "mostwise.lines" 593) none (.ref 358) .none)),#[]⟩
def c6E (P:Params):Obj:=⟨(.type "tuple"),none,(.seq #[] 0),#[]⟩
def c8S (P:Params):Obj:=⟨.none,none,(.fields #[]),#[]⟩
def c3R (P:Params):Obj:=⟨(.type "tuple"),none,(.seq #[(.str "ahead" 629)] 0),#[]⟩
def c3P (P:Params):Obj:=⟨(.type "tuple"),none,(.seq #[] 0),#[]⟩
def c8h (P:Params):Obj:=kC "premises_in" "premises_in" a4I
def c4I (P:Params):Obj:=⟨(.type "code"),none,(.fields #[(.str "premises_in" 626),(.str "premises_in" 627),(.str "/claim/cut.py" 628),(.int (155) 0),(.int (1) 0),(.int (0) 0),(.int (0) 0),(.int (3) 0),(.ref 360),(.bool true),(.int (181) 0),(.ref 361),.none,(.ref 362),(.ref 363),(.ref 364),(.int (630) 0),(.int (155) 0),(.str "/claim/cut.py" 631)]),#[]⟩
def c3Y (P:Params):Obj:=⟨(.type "function"),none,(.func (PySem.W.fnOf "premises_in" "premises_in" (a0d a4I) (a0c a4I) (a0a a4I) .none .none .none (.str "mostwise.lines" 593) none (.ref 365) .none)),#[]⟩
def c6t (P:Params):Obj:=⟨(.type "tuple"),none,(.seq #[] 0),#[]⟩
def c9t (P:Params):Obj:=⟨.none,none,(.fields #[]),#[]⟩
def c8M (P:Params):Obj:=kC "labelled_in" "labelled_in" a3n
def c6x (P:Params):Obj:=⟨(.type "code"),none,(.fields #[(.str "labelled_in" 633),(.str "labelled_in" 634),(.str "/claim/cut.py" 635),(.int (157) 0),(.int (1) 0),(.int (0) 0),(.int (0) 0),(.int (3) 0),(.ref 367),(.bool true),(.int (181) 0),(.ref 368),.none,.none,.none,(.ref 369),(.int (636) 0),(.int (157) 0),(.str "/claim/cut.py" 637)]),#[]⟩
def c6d (P:Params):Obj:=⟨(.type "function"),none,(.func (PySem.W.fnOf "labelled_in" "labelled_in" (a0d a3n) (a0c a3n) (a0a a3n) .none .none .none (.str "mostwise.lines" 593) none (.ref 370) .none)),#[]⟩
def c5q (P:Params):Obj:=⟨(.type "tuple"),none,(.seq #[] 0),#[]⟩
def c8l (P:Params):Obj:=⟨.none,none,(.fields #[]),#[]⟩
def c7o (P:Params):Obj:=⟨(.type "tuple"),none,(.seq #[(.str "row" 642),(.str "rule" 643)] 0),#[]⟩
def c4x (P:Params):Obj:=⟨(.type "tuple"),none,(.seq #[] 0),#[]⟩
def c8X (P:Params):Obj:=kC "rule_of" "rule_of" a3W
def c7A (P:Params):Obj:=⟨(.type "code"),none,(.fields #[(.str "rule_of" 639),(.str "rule_of" 640),(.str "/claim/cut.py" 641),(.int (170) 0),(.int (1) 0),(.int (0) 0),(.int (0) 0),(.int (3) 0),(.ref 372),(.bool true),(.int (181) 0),(.ref 373),.none,(.ref 374),(.ref 375),(.ref 376),(.int (644) 0),(.int (170) 0),(.str "/claim/cut.py" 645)]),#[]⟩
def c7z (P:Params):Obj:=⟨(.type "function"),none,(.func (PySem.W.fnOf "rule_of" "rule_of" (a0d a3W) (a0c a3W) (a0a a3W) .none .none .none (.str "mostwise.lines" 593) none (.ref 377) .none)),#[]⟩
def c8G (P:Params):Obj:=⟨(.type "tuple"),none,(.seq #[] 0),#[]⟩
def c9v (P:Params):Obj:=⟨.none,none,(.fields #[]),#[]⟩
def c8K (P:Params):Obj:=⟨(.type "tuple"),none,(.seq #[(.str "_law_script" 652),(.str "_law_k" 653)] 0),#[]⟩
def c9p (P:Params):Obj:=⟨(.type "tuple"),none,(.seq #[] 0),#[]⟩
def c8r (P:Params):Obj:=kC "_law_cell_at" "_law_cell_at" (top 37)
def c8v (P:Params):Obj:=⟨(.type "code"),none,(.fields #[(.str "_law_cell_at" 649),(.str "_law_cell_at" 650),(.str "/claim/cut.py" 651),(.int (178) 0),(.int (2) 0),(.int (0) 0),(.int (0) 0),(.int (3) 0),(.ref 379),(.bool true),(.int (181) 0),(.ref 380),.none,(.ref 381),(.ref 382),(.ref 383),(.int (654) 0),(.int (178) 0),(.str "/claim/cut.py" 655)]),#[]⟩
def c7W (P:Params):Obj:=⟨(.type "function"),none,(.func (PySem.W.fnOf "_law_cell_at" "_law_cell_at" (a0d (top 37)) (a0c (top 37)) (a0a (top 37)) .none .none .none (.str "law_mostwise_k13_whole_rows" 647) none (.ref 384) .none)),#[]⟩
def c6M (P:Params):Obj:=⟨(.type "tuple"),none,(.seq #[] 0),#[]⟩
def c9n (P:Params):Obj:=⟨.none,none,(.fields #[]),#[]⟩
def c4z (P:Params):Obj:=⟨(.type "tuple"),none,(.seq #[(.str "_law_cell" 660),(.str "_law_k" 661),(.str "_law_m" 662)] 0),#[]⟩
def c3M (P:Params):Obj:=⟨(.type "tuple"),none,(.seq #[] 0),#[]⟩
def c7R (P:Params):Obj:=kC "_law_mix" "_law_mix" a4B
def c7e (P:Params):Obj:=⟨(.type "code"),none,(.fields #[(.str "_law_mix" 657),(.str "_law_mix" 658),(.str "/claim/cut.py" 659),(.int (182) 0),(.int (2) 0),(.int (0) 0),(.int (0) 0),(.int (3) 0),(.ref 386),(.bool true),(.int (181) 0),(.ref 387),.none,(.ref 388),(.ref 389),(.ref 390),(.int (663) 0),(.int (182) 0),(.str "/claim/cut.py" 664)]),#[]⟩
def c3H (P:Params):Obj:=⟨(.type "function"),none,(.func (PySem.W.fnOf "_law_mix" "_law_mix" (a0d a4B) (a0c a4B) (a0a a4B) .none .none .none (.str "law_mostwise_k13_whole_rows" 647) none (.ref 391) .none)),#[]⟩
def c3T (P:Params):Obj:=⟨(.type "tuple"),none,(.seq #[] 0),#[]⟩
def c8F (P:Params):Obj:=⟨.none,none,(.fields #[]),#[]⟩
def c5n (P:Params):Obj:=⟨(.type "tuple"),none,(.seq #[(.str "_law_cell" 669),(.str "_law_signs" 670),(.str "_law_most" 671),(.str "_law_number" 672),(.str "_law_found" 673),(.str "_law_k" 674)] 0),#[]⟩
def c7a (P:Params):Obj:=⟨(.type "tuple"),none,(.seq #[] 0),#[]⟩
def c9d (P:Params):Obj:=kC "_law_text" "_law_text" a3O
def c7H (P:Params):Obj:=⟨(.type "code"),none,(.fields #[(.str "_law_text" 666),(.str "_law_text" 667),(.str "/claim/cut.py" 668),(.int (186) 0),(.int (3) 0),(.int (0) 0),(.int (0) 0),(.int (3) 0),(.ref 393),(.bool true),(.int (181) 0),(.ref 394),.none,(.ref 395),(.ref 396),(.ref 397),(.int (675) 0),(.int (186) 0),(.str "/claim/cut.py" 676)]),#[]⟩
def c7p (P:Params):Obj:=⟨(.type "function"),none,(.func (PySem.W.fnOf "_law_text" "_law_text" (a0d a3O) (a0c a3O) (a0a a3O) .none .none .none (.str "law_mostwise_k13_whole_rows" 647) none (.ref 398) .none)),#[]⟩
def c5v (P:Params):Obj:=⟨(.type "tuple"),none,(.seq #[] 0),#[]⟩
def c8L (P:Params):Obj:=⟨.none,none,(.fields #[]),#[]⟩
def c7K (P:Params):Obj:=⟨(.type "tuple"),none,(.seq #[(.str "_law_cell" 681)] 0),#[]⟩
def c4S (P:Params):Obj:=⟨(.type "tuple"),none,(.seq #[] 0),#[]⟩
def c8s (P:Params):Obj:=kC "_law_name" "_law_name" a4i
def c6L (P:Params):Obj:=⟨(.type "code"),none,(.fields #[(.str "_law_name" 678),(.str "_law_name" 679),(.str "/claim/cut.py" 680),(.int (192) 0),(.int (1) 0),(.int (0) 0),(.int (0) 0),(.int (3) 0),(.ref 400),(.bool true),(.int (181) 0),(.ref 401),.none,(.ref 402),(.ref 403),(.ref 404),(.int (682) 0),(.int (192) 0),(.str "/claim/cut.py" 683)]),#[]⟩
def c6Z (P:Params):Obj:=⟨(.type "function"),none,(.func (PySem.W.fnOf "_law_name" "_law_name" (a0d a4i) (a0c a4i) (a0a a4i) .none .none .none (.str "law_mostwise_k13_whole_rows" 647) none (.ref 405) .none)),#[]⟩
def c5m (P:Params):Obj:=⟨(.type "tuple"),none,(.seq #[] 0),#[]⟩
def c7Q (P:Params):Obj:=⟨.none,none,(.fields #[]),#[]⟩
def c4P (P:Params):Obj:=⟨(.type "tuple"),none,(.seq #[(.str "_law_cell" 688)] 0),#[]⟩
def c4U (P:Params):Obj:=⟨(.type "tuple"),none,(.seq #[] 0),#[]⟩
def c9s (P:Params):Obj:=kC "_law_label" "_law_label" a3U
def c7G (P:Params):Obj:=⟨(.type "code"),none,(.fields #[(.str "_law_label" 685),(.str "_law_label" 686),(.str "/claim/cut.py" 687),(.int (194) 0),(.int (1) 0),(.int (0) 0),(.int (0) 0),(.int (3) 0),(.ref 407),(.bool true),(.int (181) 0),(.ref 408),.none,(.ref 409),(.ref 410),(.ref 411),(.int (689) 0),(.int (194) 0),(.str "/claim/cut.py" 690)]),#[]⟩
def c6b (P:Params):Obj:=⟨(.type "function"),none,(.func (PySem.W.fnOf "_law_label" "_law_label" (a0d a3U) (a0c a3U) (a0a a3U) .none .none .none (.str "law_mostwise_k13_whole_rows" 647) none (.ref 412) .none)),#[]⟩
def c5W (P:Params):Obj:=⟨(.type "tuple"),none,(.seq #[] 0),#[]⟩
def c8u (P:Params):Obj:=⟨.none,none,(.fields #[]),#[]⟩
def c3V (P:Params):Obj:=⟨(.type "tuple"),none,(.seq #[(.str "_law_base" 695),(.str "_law_k" 696)] 0),#[]⟩
def c3Q (P:Params):Obj:=⟨(.type "tuple"),none,(.seq #[] 0),#[]⟩
def c9e (P:Params):Obj:=kC "_law_letter" "_law_letter" a4C
def c3X (P:Params):Obj:=⟨(.type "code"),none,(.fields #[(.str "_law_letter" 692),(.str "_law_letter" 693),(.str "/claim/cut.py" 694),(.int (196) 0),(.int (2) 0),(.int (0) 0),(.int (0) 0),(.int (3) 0),(.ref 414),(.bool true),(.int (181) 0),(.ref 415),.none,(.ref 416),(.ref 417),(.ref 418),(.int (697) 0),(.int (196) 0),(.str "/claim/cut.py" 698)]),#[]⟩
def c7u (P:Params):Obj:=⟨(.type "function"),none,(.func (PySem.W.fnOf "_law_letter" "_law_letter" (a0d a4C) (a0c a4C) (a0a a4C) .none .none .none (.str "law_mostwise_k13_whole_rows" 647) none (.ref 419) .none)),#[]⟩
def c6K (P:Params):Obj:=⟨(.type "tuple"),none,(.seq #[] 0),#[]⟩
def c7T (P:Params):Obj:=⟨.none,none,(.fields #[]),#[]⟩
def c4O (P:Params):Obj:=⟨(.type "tuple"),none,(.seq #[(.str "_law_cell" 703),(.str "_law_base" 704),(.str "_law_many" 705),(.str "_law_number" 706)] 0),#[]⟩
def c5o (P:Params):Obj:=⟨(.type "tuple"),none,(.seq #[] 0),#[]⟩
def c8B (P:Params):Obj:=kC "_law_place" "_law_place" a4u
def c5i (P:Params):Obj:=⟨(.type "code"),none,(.fields #[(.str "_law_place" 700),(.str "_law_place" 701),(.str "/claim/cut.py" 702),(.int (198) 0),(.int (3) 0),(.int (0) 0),(.int (0) 0),(.int (3) 0),(.ref 421),(.bool true),(.int (181) 0),(.ref 422),.none,(.ref 423),(.ref 424),(.ref 425),(.int (707) 0),(.int (198) 0),(.str "/claim/cut.py" 708)]),#[]⟩
def c6n (P:Params):Obj:=⟨(.type "function"),none,(.func (PySem.W.fnOf "_law_place" "_law_place" (a0d a4u) (a0c a4u) (a0a a4u) .none .none .none (.str "law_mostwise_k13_whole_rows" 647) none (.ref 426) .none)),#[]⟩
def c6l (P:Params):Obj:=⟨(.type "tuple"),none,(.seq #[] 0),#[]⟩
def c8D (P:Params):Obj:=⟨.none,none,(.fields #[]),#[]⟩
def c8Y (P:Params):Obj:=kC "_law_parts" "_law_parts" a3s
def c7i (P:Params):Obj:=⟨(.type "code"),none,(.fields #[(.str "_law_parts" 710),(.str "_law_parts" 711),(.str "/claim/cut.py" 712),(.int (203) 0),(.int (3) 0),(.int (0) 0),(.int (0) 0),(.int (3) 0),(.ref 428),(.bool true),(.int (181) 0),(.ref 429),.none,.none,.none,(.ref 430),(.int (713) 0),(.int (203) 0),(.str "/claim/cut.py" 714)]),#[]⟩
def c5A (P:Params):Obj:=⟨(.type "function"),none,(.func (PySem.W.fnOf "_law_parts" "_law_parts" (a0d a3s) (a0c a3s) (a0a a3s) .none .none .none (.str "law_mostwise_k13_whole_rows" 647) none (.ref 431) .none)),#[]⟩
def c4L (P:Params):Obj:=⟨(.type "tuple"),none,(.seq #[] 0),#[]⟩
def c8g (P:Params):Obj:=⟨.none,none,(.fields #[]),#[]⟩
def c4Z (P:Params):Obj:=⟨(.type "tuple"),none,(.seq #[(.str "_law_parts_here" 719)] 0),#[]⟩
def c7N (P:Params):Obj:=⟨(.type "tuple"),none,(.seq #[] 0),#[]⟩
def c8q (P:Params):Obj:=kC "_law_shown" "_law_shown" a4s
def c4n (P:Params):Obj:=⟨(.type "code"),none,(.fields #[(.str "_law_shown" 716),(.str "_law_shown" 717),(.str "/claim/cut.py" 718),(.int (207) 0),(.int (1) 0),(.int (0) 0),(.int (0) 0),(.int (3) 0),(.ref 433),(.bool true),(.int (181) 0),(.ref 434),.none,(.ref 435),(.ref 436),(.ref 437),(.int (720) 0),(.int (207) 0),(.str "/claim/cut.py" 721)]),#[]⟩
def c7E (P:Params):Obj:=⟨(.type "function"),none,(.func (PySem.W.fnOf "_law_shown" "_law_shown" (a0d a4s) (a0c a4s) (a0a a4s) .none .none .none (.str "law_mostwise_k13_whole_rows" 647) none (.ref 438) .none)),#[]⟩
def c7g (P:Params):Obj:=⟨(.type "tuple"),none,(.seq #[] 0),#[]⟩
def c7S (P:Params):Obj:=⟨.none,none,(.fields #[]),#[]⟩
def c9k (P:Params):Obj:=kC "_law_row" "_law_row" a3r
def c6N (P:Params):Obj:=⟨(.type "code"),none,(.fields #[(.str "_law_row" 723),(.str "_law_row" 724),(.str "/claim/cut.py" 725),(.int (211) 0),(.int (1) 0),(.int (0) 0),(.int (0) 0),(.int (3) 0),(.ref 440),(.bool true),(.int (181) 0),(.ref 441),.none,.none,.none,(.ref 442),(.int (726) 0),(.int (211) 0),(.str "/claim/cut.py" 727)]),#[]⟩
def c4j (P:Params):Obj:=⟨(.type "function"),none,(.func (PySem.W.fnOf "_law_row" "_law_row" (a0d a3r) (a0c a3r) (a0a a3r) .none .none .none (.str "law_mostwise_k13_whole_rows" 647) none (.ref 443) .none)),#[]⟩
def c5l (P:Params):Obj:=⟨(.type "tuple"),none,(.seq #[] 0),#[]⟩
def c8H (P:Params):Obj:=⟨.none,none,(.fields #[]),#[]⟩
def c4Q (P:Params):Obj:=⟨(.type "tuple"),none,(.seq #[(.str "_law_row_here" 732),(.str "_law_cell" 733),(.str "_law_signs" 734),(.str "_law_sign" 735),(.str "_law_at" 736),(.str "_law_way" 737)] 0),#[]⟩
def c5d (P:Params):Obj:=⟨(.type "tuple"),none,(.seq #[] 0),#[]⟩
def c9i (P:Params):Obj:=kC "_law_spoilt" "_law_spoilt" a3P
def c6i (P:Params):Obj:=⟨(.type "code"),none,(.fields #[(.str "_law_spoilt" 729),(.str "_law_spoilt" 730),(.str "/claim/cut.py" 731),(.int (222) 0),(.int (2) 0),(.int (0) 0),(.int (0) 0),(.int (3) 0),(.ref 445),(.bool true),(.int (181) 0),(.ref 446),.none,(.ref 447),(.ref 448),(.ref 449),(.int (738) 0),(.int (222) 0),(.str "/claim/cut.py" 739)]),#[]⟩
def c4M (P:Params):Obj:=⟨(.type "function"),none,(.func (PySem.W.fnOf "_law_spoilt" "_law_spoilt" (a0d a3P) (a0c a3P) (a0a a3P) .none .none .none (.str "law_mostwise_k13_whole_rows" 647) none (.ref 450) .none)),#[]⟩
def c3G (P:Params):Obj:=⟨(.type "tuple"),none,(.seq #[] 0),#[]⟩
def c8W (P:Params):Obj:=⟨.none,none,(.fields #[]),#[]⟩
def c4T (P:Params):Obj:=⟨(.type "tuple"),none,(.seq #[(.str "_law_cell" 744),(.str "_law_some" 745)] 0),#[]⟩
def c6m (P:Params):Obj:=⟨(.type "tuple"),none,(.seq #[] 0),#[]⟩
def c8m (P:Params):Obj:=kC "_law_odd" "_law_odd" a4v
def c3U (P:Params):Obj:=⟨(.type "code"),none,(.fields #[(.str "_law_odd" 741),(.str "_law_odd" 742),(.str "/claim/cut.py" 743),(.int (232) 0),(.int (1) 0),(.int (0) 0),(.int (0) 0),(.int (3) 0),(.ref 452),(.bool true),(.int (181) 0),(.ref 453),.none,(.ref 454),(.ref 455),(.ref 456),(.int (746) 0),(.int (232) 0),(.str "/claim/cut.py" 747)]),#[]⟩
def c5C (P:Params):Obj:=⟨(.type "function"),none,(.func (PySem.W.fnOf "_law_odd" "_law_odd" (a0d a4v) (a0c a4v) (a0a a4v) .none .none .none (.str "law_mostwise_k13_whole_rows" 647) none (.ref 457) .none)),#[]⟩
def c6o (P:Params):Obj:=⟨(.type "tuple"),none,(.seq #[] 0),#[]⟩
def c8k (P:Params):Obj:=⟨.none,none,(.fields #[]),#[]⟩
def c9h (P:Params):Obj:=kC "_law_name_is" "_law_name_is" a3t
def c7c (P:Params):Obj:=⟨(.type "code"),none,(.fields #[(.str "_law_name_is" 749),(.str "_law_name_is" 750),(.str "/claim/cut.py" 751),(.int (236) 0),(.int (2) 0),(.int (0) 0),(.int (0) 0),(.int (3) 0),(.ref 459),(.bool true),(.int (181) 0),(.ref 460),.none,.none,.none,(.ref 461),(.int (752) 0),(.int (236) 0),(.str "/claim/cut.py" 753)]),#[]⟩
def c3F (P:Params):Obj:=⟨(.type "function"),none,(.func (PySem.W.fnOf "_law_name_is" "_law_name_is" (a0d a3t) (a0c a3t) (a0a a3t) .none .none .none (.str "law_mostwise_k13_whole_rows" 647) none (.ref 462) .none)),#[]⟩
def c7C (P:Params):Obj:=⟨(.type "tuple"),none,(.seq #[] 0),#[]⟩
def c8x (P:Params):Obj:=⟨.none,none,(.fields #[]),#[]⟩
def c5p (P:Params):Obj:=⟨(.type "tuple"),none,(.seq #[(.str "_law_text_here" 758),(.str "_law_small" 759)] 0),#[]⟩
def c5T (P:Params):Obj:=⟨(.type "tuple"),none,(.seq #[] 0),#[]⟩
def c8o (P:Params):Obj:=kC "_law_place_is" "_law_place_is" a4f
def c5S (P:Params):Obj:=⟨(.type "code"),none,(.fields #[(.str "_law_place_is" 755),(.str "_law_place_is" 756),(.str "/claim/cut.py" 757),(.int (240) 0),(.int (1) 0),(.int (0) 0),(.int (0) 0),(.int (3) 0),(.ref 464),(.bool true),(.int (181) 0),(.ref 465),.none,(.ref 466),(.ref 467),(.ref 468),(.int (760) 0),(.int (240) 0),(.str "/claim/cut.py" 761)]),#[]⟩
def c7s (P:Params):Obj:=⟨(.type "function"),none,(.func (PySem.W.fnOf "_law_place_is" "_law_place_is" (a0d a4f) (a0c a4f) (a0a a4f) .none .none .none (.str "law_mostwise_k13_whole_rows" 647) none (.ref 469) .none)),#[]⟩
def c5G (P:Params):Obj:=⟨(.type "tuple"),none,(.seq #[] 0),#[]⟩
def c8I (P:Params):Obj:=⟨.none,none,(.fields #[]),#[]⟩
def c4s (P:Params):Obj:=⟨(.type "tuple"),none,(.seq #[(.str "_law_text_here" 766),(.str "_law_cut" 767)] 0),#[]⟩
def c7v (P:Params):Obj:=⟨(.type "tuple"),none,(.seq #[] 0),#[]⟩
def c8N (P:Params):Obj:=kC "_law_places" "_law_places" a4E
def c6B (P:Params):Obj:=⟨(.type "code"),none,(.fields #[(.str "_law_places" 763),(.str "_law_places" 764),(.str "/claim/cut.py" 765),(.int (245) 0),(.int (1) 0),(.int (0) 0),(.int (0) 0),(.int (3) 0),(.ref 471),(.bool true),(.int (181) 0),(.ref 472),.none,(.ref 473),(.ref 474),(.ref 475),(.int (768) 0),(.int (245) 0),(.str "/claim/cut.py" 769)]),#[]⟩
def c6O (P:Params):Obj:=⟨(.type "function"),none,(.func (PySem.W.fnOf "_law_places" "_law_places" (a0d a4E) (a0c a4E) (a0a a4E) .none .none .none (.str "law_mostwise_k13_whole_rows" 647) none (.ref 476) .none)),#[]⟩
def c5O (P:Params):Obj:=⟨(.type "tuple"),none,(.seq #[] 0),#[]⟩
def c8j (P:Params):Obj:=⟨.none,none,(.fields #[]),#[]⟩
def c8O (P:Params):Obj:=kC "_law_statement_is" "_law_statement_is" a3A
def c3Z (P:Params):Obj:=⟨(.type "code"),none,(.fields #[(.str "_law_statement_is" 771),(.str "_law_statement_is" 772),(.str "/claim/cut.py" 773),(.int (250) 0),(.int (1) 0),(.int (0) 0),(.int (0) 0),(.int (3) 0),(.ref 478),(.bool true),(.int (181) 0),(.ref 479),.none,.none,.none,(.ref 480),(.int (774) 0),(.int (250) 0),(.str "/claim/cut.py" 775)]),#[]⟩
def c5y (P:Params):Obj:=⟨(.type "function"),none,(.func (PySem.W.fnOf "_law_statement_is" "_law_statement_is" (a0d a3A) (a0c a3A) (a0a a3A) .none .none .none (.str "law_mostwise_k13_whole_rows" 647) none (.ref 481) .none)),#[]⟩
def c6s (P:Params):Obj:=⟨(.type "tuple"),none,(.seq #[] 0),#[]⟩
def c8z (P:Params):Obj:=⟨.none,none,(.fields #[]),#[]⟩
def c7j (P:Params):Obj:=⟨(.type "tuple"),none,(.seq #[(.str "_law_texts" 780),(.str "_law_found" 781),(.str "_law_text_here" 782),(.str "_law_place_here" 783)] 0),#[]⟩
def c6A (P:Params):Obj:=⟨(.type "tuple"),none,(.seq #[] 0),#[]⟩
def c8i (P:Params):Obj:=kC "_law_letters" "_law_letters" a3F
def c3J (P:Params):Obj:=⟨(.type "code"),none,(.fields #[(.str "_law_letters" 777),(.str "_law_letters" 778),(.str "/claim/cut.py" 779),(.int (260) 0),(.int (1) 0),(.int (0) 0),(.int (0) 0),(.int (3) 0),(.ref 483),(.bool true),(.int (181) 0),(.ref 484),.none,(.ref 485),(.ref 486),(.ref 487),(.int (784) 0),(.int (260) 0),(.str "/claim/cut.py" 785)]),#[]⟩
def c3S (P:Params):Obj:=⟨(.type "function"),none,(.func (PySem.W.fnOf "_law_letters" "_law_letters" (a0d a3F) (a0c a3F) (a0a a3F) .none .none .none (.str "law_mostwise_k13_whole_rows" 647) none (.ref 488) .none)),#[]⟩
def c4H (P:Params):Obj:=⟨(.type "tuple"),none,(.seq #[] 0),#[]⟩
def c8E (P:Params):Obj:=⟨.none,none,(.fields #[]),#[]⟩
def c6V (P:Params):Obj:=⟨(.type "tuple"),none,(.seq #[(.str "_law_words" 790),(.str "_law_found" 791),(.str "_law_k" 792),(.str "_law_word" 793)] 0),#[]⟩
def c6e (P:Params):Obj:=⟨(.type "tuple"),none,(.seq #[] 0),#[]⟩
def c8e (P:Params):Obj:=kC "_law_middle" "_law_middle" a3G
def c3N (P:Params):Obj:=⟨(.type "code"),none,(.fields #[(.str "_law_middle" 787),(.str "_law_middle" 788),(.str "/claim/cut.py" 789),(.int (267) 0),(.int (1) 0),(.int (0) 0),(.int (0) 0),(.int (3) 0),(.ref 490),(.bool true),(.int (181) 0),(.ref 491),.none,(.ref 492),(.ref 493),(.ref 494),(.int (794) 0),(.int (267) 0),(.str "/claim/cut.py" 795)]),#[]⟩
def c6z (P:Params):Obj:=⟨(.type "function"),none,(.func (PySem.W.fnOf "_law_middle" "_law_middle" (a0d a3G) (a0c a3G) (a0a a3G) .none .none .none (.str "law_mostwise_k13_whole_rows" 647) none (.ref 495) .none)),#[]⟩
def c5w (P:Params):Obj:=⟨(.type "tuple"),none,(.seq #[] 0),#[]⟩
def c9b (P:Params):Obj:=⟨.none,none,(.fields #[]),#[]⟩
def c7L (P:Params):Obj:=⟨(.type "tuple"),none,(.seq #[(.str "_law_row_here" 800),(.str "_law_words" 801),(.str "_law_label_here" 802),(.str "_law_body" 803)] 0),#[]⟩
def c5Q (P:Params):Obj:=⟨(.type "tuple"),none,(.seq #[] 0),#[]⟩
def c8d (P:Params):Obj:=kC "_law_read" "_law_read" a3S
def c5h (P:Params):Obj:=⟨(.type "code"),none,(.fields #[(.str "_law_read" 797),(.str "_law_read" 798),(.str "/claim/cut.py" 799),(.int (278) 0),(.int (1) 0),(.int (0) 0),(.int (0) 0),(.int (3) 0),(.ref 497),(.bool true),(.int (181) 0),(.ref 498),.none,(.ref 499),(.ref 500),(.ref 501),(.int (804) 0),(.int (278) 0),(.str "/claim/cut.py" 805)]),#[]⟩
def c3O (P:Params):Obj:=⟨(.type "function"),none,(.func (PySem.W.fnOf "_law_read" "_law_read" (a0d a3S) (a0c a3S) (a0a a3S) .none .none .none (.str "law_mostwise_k13_whole_rows" 647) none (.ref 502) .none)),#[]⟩
def c7h (P:Params):Obj:=⟨(.type "tuple"),none,(.seq #[] 0),#[]⟩
def c8V (P:Params):Obj:=⟨.none,none,(.fields #[]),#[]⟩
def c4E (P:Params):Obj:=⟨(.type "tuple"),none,(.seq #[(.str "_law_row_here" 810),(.str "_law_caught" 811),(.str "e" 812)] 0),#[]⟩
def c6R (P:Params):Obj:=⟨(.type "tuple"),none,(.seq #[] 0),#[]⟩
def c9f (P:Params):Obj:=kC "_law_refused" "_law_refused" a4y
def c6D (P:Params):Obj:=⟨(.type "code"),none,(.fields #[(.str "_law_refused" 807),(.str "_law_refused" 808),(.str "/claim/cut.py" 809),(.int (297) 0),(.int (1) 0),(.int (0) 0),(.int (0) 0),(.int (3) 0),(.ref 504),(.bool true),(.int (181) 0),(.ref 505),.none,(.ref 506),(.ref 507),(.ref 508),(.int (813) 0),(.int (297) 0),(.str "/claim/cut.py" 814)]),#[]⟩
def c5E (P:Params):Obj:=⟨(.type "function"),none,(.func (PySem.W.fnOf "_law_refused" "_law_refused" (a0d a4y) (a0c a4y) (a0a a4y) .none .none .none (.str "law_mostwise_k13_whole_rows" 647) none (.ref 509) .none)),#[]⟩
def c4y (P:Params):Obj:=⟨(.type "tuple"),none,(.seq #[] 0),#[]⟩
def c7V (P:Params):Obj:=⟨.none,none,(.fields #[]),#[]⟩
def c8P (P:Params):Obj:=kC "_law_right" "_law_right" a3z
def c5u (P:Params):Obj:=⟨(.type "code"),none,(.fields #[(.str "_law_right" 816),(.str "_law_right" 817),(.str "/claim/cut.py" 818),(.int (308) 0),(.int (2) 0),(.int (0) 0),(.int (0) 0),(.int (3) 0),(.ref 511),(.bool true),(.int (181) 0),(.ref 512),.none,.none,.none,(.ref 513),(.int (819) 0),(.int (308) 0),(.str "/claim/cut.py" 820)]),#[]⟩
def c5P (P:Params):Obj:=⟨(.type "function"),none,(.func (PySem.W.fnOf "_law_right" "_law_right" (a0d a3z) (a0c a3z) (a0a a3z) .none .none .none (.str "law_mostwise_k13_whole_rows" 647) none (.ref 514) .none)),#[]⟩
def c6a (P:Params):Obj:=⟨(.type "tuple"),none,(.seq #[] 0),#[]⟩
def c8y (P:Params):Obj:=⟨.none,none,(.fields #[]),#[]⟩
def c5t (P:Params):Obj:=⟨(.type "tuple"),none,(.seq #[(.str "_law_script" 825),(.str "_law_cell" 826),(.str "_law_row_here" 827),(.str "_law_way" 828),(.str "_law_due" 829)] 0),#[]⟩
def c7q (P:Params):Obj:=⟨(.type "tuple"),none,(.seq #[] 0),#[]⟩
def c8Q (P:Params):Obj:=kC "law" "law" a1u
def c6Q (P:Params):Obj:=⟨(.type "code"),none,(.fields #[(.str "law" 822),(.str "law" 823),(.str "/claim/cut.py" 824),(.int (316) 0),(.int (1) 0),(.int (0) 0),(.int (0) 0),(.int (3) 0),(.ref 516),(.bool true),(.int (181) 0),(.ref 517),.none,(.ref 518),(.ref 519),(.ref 520),(.int (830) 0),(.int (316) 0),(.str "/claim/cut.py" 831)]),#[]⟩
def c4u (P:Params):Obj:=⟨(.type "function"),none,(.func (PySem.W.fnOf "law" "law" (a0d a1u) (a0c a1u) (a0a a1u) .none .none .none (.str "law_mostwise_k13_whole_rows" 647) none (.ref 521) .none)),#[]⟩
def p3 (P:Params):Obj:=⟨(.type "dict"),none,(.dict #[kE P "__name__" 165 (.str "__main__" 164),kE P "__doc__" 166 .none,kE P "__package__" 167 .none,kE P "__loader__" 168 (.builtin "__main__.__loader__#opaque"),kE P "__spec__" 169 .none,kE P "__annotations__" 170 (.ref 6),kE P "__builtins__" 171 (.ref 4),kE P "__file__" 173 (.str "/claim/cut.py" 172),kE P "__cached__" 174 .none] 9),#[]⟩
def H0 (P:Params):Heap:=⟨⟨o0 P::o1 P::o2 P::p3 P::o4 P::o5 P::o6 P::o7 P::o8 P::o9 P::o10 P::[]⟩,{}⟩
def H1 (P:Params):Heap:=⟨⟨o0 P::o1 P::o2 P::o3 P::o4 P::o5 P::o6 P::o7 P::o8 P::o9 P::o10 P::o11 P::o12 P::o13 P::o14 P::o15 P::o16 P::o17 P::o18 P::o19 P::o20 P::o21 P::o22 P::o23 P::o24 P::o25 P::o26 P::o27 P::o28 P::o29 P::o30 P::o31 P::o32 P::o33 P::o34 P::o35 P::o36 P::o37 P::o38 P::o39 P::o40 P::o41 P::o42 P::o43 P::o44 P::o45 P::o46 P::o47 P::o48 P::o49 P::o50 P::o51 P::o52 P::o53 P::o54 P::o55 P::o56 P::o57 P::o58 P::o59 P::o60 P::o61 P::o62 P::o63 P::o64 P::o65 P::o66 P::o67 P::o68 P::o69 P::o70 P::o71 P::o72 P::o73 P::o74 P::o75 P::o76 P::o77 P::o78 P::o79 P::o80 P::o81 P::o82 P::o83 P::o84 P::o85 P::o86 P::o87 P::o88 P::o89 P::o90 P::o91 P::o92 P::o93 P::o94 P::o95 P::o96 P::o97 P::o98 P::o99 P::c2s P::c1N P::c0m P::b9z P::b8Y P::c0Z P::b9Y P::b9x P::c3g P::b9k P::b9M P::c0l P::c0r P::b9Z P::b9U P::c2P P::b9I P::c0d P::c0j P::c3z P::b9N P::b9b P::c1O P::c0b P::b9D P::b9f P::c1u P::b9X P::b9m P::c2R P::b9V P::b9v P::c0x P::c2h P::c3i P::c3b P::c2Q P::c3j P::c3r P::c0h P::c2q P::c0f P::b9l P::c1f P::b9J P::b9R P::c0o P::c0G P::b9c P::c0p P::c3l P::b9H P::c0A P::b9q P::c0F P::b9p P::b9g P::c2B P::b9Q P::c0s P::b9t P::c0J P::c0c P::b9h P::c1t P::b9y P::c0U P::b9L P::c3y P::c1e P::b9A P::c0q P::c0g P::c2z P::b9B P::c0n P::c3o P::b9K P::c1j P::b9o P::c3u P::b9P P::b9j P::c2v P::c0k P::c1Z P::b9n P::c2C P::b9d P::b8Z P::c1X P::b9G P::b9a P::b9e P::b9S P::c1D P::c0a P::b9T P::c2y P::c0C P::c0z P::c4R P::c7w P::c4B P::c7d P::c6c P::c4b P::c0P P::c6J P::c1Y P::c3e P::c5k P::c1q P::c2k P::c1w P::c7F P::c1H P::c1p P::c7M P::c2F P::c0v P::c1W P::c6T P::c0S P::c1L P::c7D P::c2E P::c5M P::c0E P::c5R P::c0K P::c2L P::c7O P::c2Z P::c6Y P::c2x P::c4o P::c1P P::c2d P::c7J P::c1U P::c3C P::c2S P::c2K P::c1s P::c5I P::c4i P::c1T P::c6W P::c4m P::c4N P::c5e P::c4e P::c7k P::c0u P::c7n P::c2W P::c2t P::c5r P::c3a P::c0B P::c1n P::c5z P::c2e P::c2T P::c5F P::c1y P::c6C P::c1m P::c5f P::c1F P::c3f P::c7y P::c1B P::c5s P::c3x P::c2M P::c1A P::c4D P::c4r P::c0O P::c6y P::c3K P::c6u P::c6I P::c4V P::c4d P::c1b P::c7I P::c2m P::c2Y P::c6j P::c2A P::c3s P::c0N P::c6X P::c1d P::c1k P::c7b P::c1R P::c4a P::c1c P::c1M P::c2V P::c5X P::c6w P::c2H P::c5V P::c7l P::c6q P::c5Y P::c6g P::c3I P::c3m P::c4C P::c2o P::c0Y P::c5a P::c1C P::c2O P::c2f P::c6H P::c1K P::c1r P::c4X P::c0L P::c5Z P::c2g P::c6f P::c2l P::c0W P::c4c P::c1E P::c5g P::c3w P::c0H P::c3D P::c4A P::c4W P::c1I P::c5U P::c2I P::c3h P::c6P P::c1J P::c1Q P::c1a P::c6r P::c3B P::c2G P::c6v P::c2a P::c2U P::c6U P::c9c P::c6k P::c5L P::c8A P::c4t P::c5K P::c6E P::c8S P::c3R P::c3P P::c8h P::c4I P::c3Y P::c6t P::c9t P::c8M P::c6x P::c6d P::c5q P::c8l P::c7o P::c4x P::c8X P::c7A P::c7z P::c8G P::c9v P::c8K P::c9p P::c8r P::c8v P::c7W P::c6M P::c9n P::c4z P::c3M P::c7R P::c7e P::c3H P::c3T P::c8F P::c5n P::c7a P::c9d P::c7H P::c7p P::c5v P::c8L P::c7K P::c4S P::c8s P::c6L P::c6Z P::c5m P::c7Q P::c4P P::c4U P::c9s P::c7G P::c6b P::c5W P::c8u P::c3V P::c3Q P::c9e P::c3X P::c7u P::c6K P::c7T P::c4O P::c5o P::c8B P::c5i P::c6n P::c6l P::c8D P::c8Y P::c7i P::c5A P::c4L P::c8g P::c4Z P::c7N P::c8q P::c4n P::c7E P::c7g P::c7S P::c9k P::c6N P::c4j P::c5l P::c8H P::c4Q P::c5d P::c9i P::c6i P::c4M P::c3G P::c8W P::c4T P::c6m P::c8m P::c3U P::c5C P::c6o P::c8k P::c9h P::c7c P::c3F P::c7C P::c8x P::c5p P::c5T P::c8o P::c5S P::c7s P::c5G P::c8I P::c4s P::c7v P::c8N P::c6B P::c6O P::c5O P::c8j P::c8O P::c3Z P::c5y P::c6s P::c8z P::c7j P::c6A P::c8i P::c3J P::c3S P::c4H P::c8E P::c6V P::c6e P::c8e P::c3N P::c6z P::c5w P::c9b P::c7L P::c5Q P::c8d P::c5h P::c3O P::c7h P::c8V P::c4E P::c6R P::c9f P::c6D P::c5E P::c4y P::c7V P::c8P P::c5u P::c5P P::c6a P::c8y P::c5t P::c7q P::c8Q P::c6Q P::c4u P::[]⟩,{}⟩
def a9P:Params→PySem.W.Frag:=fun P=>
(nat_lit 2,o2 P)::(nat_lit 3,o3 P)::(nat_lit 15,o15 P)::(nat_lit 17,o17 P)::(nat_lit 18,o18 P)::(nat_lit 20,o20 P)::(nat_lit 22,o22 P)::(nat_lit 29,o29 P)::(nat_lit 30,o30 P)::(nat_lit 31,o31 P)::(nat_lit 32,o32 P)::(nat_lit 35,o35 P)::(nat_lit 42,o42 P)::(nat_lit 44,o44 P)::(nat_lit 45,o45 P)::(nat_lit 47,o47 P)::(nat_lit 48,o48 P)::(nat_lit 49,o49 P)::(nat_lit 50,o50 P)::(nat_lit 51,o51 P)::(nat_lit 54,o54 P)::(nat_lit 61,o61 P)::(nat_lit 63,o63 P)::(nat_lit 64,o64 P)::(nat_lit 66,o66 P)::(nat_lit 67,o67 P)::(nat_lit 68,o68 P)::(nat_lit 69,o69 P)::(nat_lit 70,o70 P)::(nat_lit 73,o73 P)::(nat_lit 76,o76 P)::(nat_lit 77,o77 P)::(nat_lit 78,o78 P)::(nat_lit 80,o80 P)::(nat_lit 81,o81 P)::(nat_lit 83,o83 P)::(nat_lit 84,o84 P)::(nat_lit 85,o85 P)::(nat_lit 87,o87 P)::(nat_lit 88,o88 P)::(nat_lit 90,o90 P)::(nat_lit 91,o91 P)::(nat_lit 92,o92 P)::(nat_lit 94,o94 P)::(nat_lit 95,o95 P)::(nat_lit 97,o97 P)::(nat_lit 98,o98 P)::(nat_lit 99,o99 P)::(nat_lit 102,c0m P)::(nat_lit 103,b9z P)::(nat_lit 104,b8Y P)::(nat_lit 106,b9Y P)::(nat_lit 107,b9x P)::(nat_lit 109,b9k P)::(nat_lit 110,b9M P)::(nat_lit 111,c0l P)::(nat_lit 113,b9Z P)::(nat_lit 114,b9U P)::(nat_lit 116,b9I P)::(nat_lit 117,c0d P)::(nat_lit 118,c0j P)::(nat_lit 120,b9N P)::(nat_lit 121,b9b P)::(nat_lit 123,c0b P)::(nat_lit 124,b9D P)::(nat_lit 125,b9f P)::(nat_lit 127,b9X P)::(nat_lit 128,b9m P)::(nat_lit 130,b9V P)::(nat_lit 131,b9v P)::(nat_lit 139,c0h P)::(nat_lit 141,c0f P)::(nat_lit 142,b9l P)::(nat_lit 144,b9J P)::(nat_lit 145,b9R P)::(nat_lit 146,c0o P)::(nat_lit 148,b9c P)::(nat_lit 149,c0p P)::(nat_lit 151,b9H P)::(nat_lit 153,b9q P)::(nat_lit 155,b9p P)::(nat_lit 156,b9g P)::(nat_lit 158,b9Q P)::(nat_lit 160,b9t P)::(nat_lit 162,c0c P)::(nat_lit 163,b9h P)::(nat_lit 165,b9y P)::(nat_lit 167,b9L P)::(nat_lit 170,b9A P)::(nat_lit 171,c0q P)::(nat_lit 172,c0g P)::(nat_lit 174,b9B P)::(nat_lit 175,c0n P)::(nat_lit 177,b9K P)::(nat_lit 179,b9o P)::(nat_lit 181,b9P P)::(nat_lit 182,b9j P)::(nat_lit 184,c0k P)::(nat_lit 186,b9n P)::(nat_lit 188,b9d P)::(nat_lit 189,b8Z P)::(nat_lit 191,b9G P)::(nat_lit 192,b9a P)::(nat_lit 193,b9e P)::(nat_lit 194,b9S P)::(nat_lit 195,c1D P)::(nat_lit 196,c0a P)::(nat_lit 197,b9T P)::(nat_lit 200,c0z P)::(nat_lit 207,c0P P)::(nat_lit 209,c1Y P)::(nat_lit 210,c3e P)::(nat_lit 212,c1q P)::(nat_lit 213,c2k P)::(nat_lit 214,c1w P)::(nat_lit 216,c1H P)::(nat_lit 217,c1p P)::(nat_lit 219,c2F P)::(nat_lit 220,c0v P)::(nat_lit 221,c1W P)::(nat_lit 223,c0S P)::(nat_lit 224,c1L P)::(nat_lit 226,c2E P)::(nat_lit 228,c0E P)::(nat_lit 230,c0K P)::(nat_lit 231,c2L P)::(nat_lit 233,c2Z P)::(nat_lit 235,c2x P)::(nat_lit 237,c1P P)::(nat_lit 238,c2d P)::(nat_lit 240,c1U P)::(nat_lit 241,c3C P)::(nat_lit 242,c2S P)::(nat_lit 243,c2K P)::(nat_lit 244,c1s P)::(nat_lit 247,c1T P)::(nat_lit 254,c0u P)::(nat_lit 256,c2W P)::(nat_lit 257,c2t P)::(nat_lit 259,c3a P)::(nat_lit 260,c0B P)::(nat_lit 261,c1n P)::(nat_lit 263,c2e P)::(nat_lit 264,c2T P)::(nat_lit 266,c1y P)::(nat_lit 268,c1m P)::(nat_lit 270,c1F P)::(nat_lit 271,c3f P)::(nat_lit 273,c1B P)::(nat_lit 275,c3x P)::(nat_lit 276,c2M P)::(nat_lit 277,c1A P)::(nat_lit 280,c0O P)::(nat_lit 287,c1b P)::(nat_lit 289,c2m P)::(nat_lit 290,c2Y P)::(nat_lit 292,c2A P)::(nat_lit 293,c3s P)::(nat_lit 294,c0N P)::(nat_lit 296,c1d P)::(nat_lit 297,c1k P)::(nat_lit 299,c1R P)::(nat_lit 301,c1c P)::(nat_lit 302,c1M P)::(nat_lit 303,c2V P)::(nat_lit 306,c2H P)::(nat_lit 313,c3m P)::(nat_lit 315,c2o P)::(nat_lit 316,c0Y P)::(nat_lit 318,c1C P)::(nat_lit 319,c2O P)::(nat_lit 320,c2f P)::(nat_lit 322,c1K P)::(nat_lit 323,c1r P)::(nat_lit 325,c0L P)::(nat_lit 327,c2g P)::(nat_lit 329,c2l P)::(nat_lit 330,c0W P)::(nat_lit 332,c1E P)::(nat_lit 334,c3w P)::(nat_lit 335,c0H P)::(nat_lit 336,c3D P)::(nat_lit 339,c1I P)::(nat_lit 341,c2I P)::(nat_lit 342,c3h P)::(nat_lit 344,c1J P)::(nat_lit 345,c1Q P)::(nat_lit 346,c1a P)::(nat_lit 348,c3B P)::(nat_lit 349,c2G P)::(nat_lit 351,c2a P)::(nat_lit 352,c2U P)::(nat_lit 353,c6U P)::(nat_lit 355,c6k P)::(nat_lit 356,c5L P)::(nat_lit 358,c4t P)::(nat_lit 359,c5K P)::(nat_lit 360,c6E P)::(nat_lit 362,c3R P)::(nat_lit 363,c3P P)::(nat_lit 365,c4I P)::(nat_lit 366,c3Y P)::(nat_lit 367,c6t P)::(nat_lit 370,c6x P)::(nat_lit 371,c6d P)::(nat_lit 372,c5q P)::(nat_lit 374,c7o P)::(nat_lit 375,c4x P)::(nat_lit 377,c7A P)::(nat_lit 378,c7z P)::(nat_lit 386,c6M P)::(nat_lit 388,c4z P)::(nat_lit 389,c3M P)::(nat_lit 391,c7e P)::(nat_lit 392,c3H P)::(nat_lit 393,c3T P)::(nat_lit 395,c5n P)::(nat_lit 396,c7a P)::(nat_lit 398,c7H P)::(nat_lit 399,c7p P)::(nat_lit 400,c5v P)::(nat_lit 402,c7K P)::(nat_lit 403,c4S P)::(nat_lit 405,c6L P)::(nat_lit 406,c6Z P)::(nat_lit 407,c5m P)::(nat_lit 409,c4P P)::(nat_lit 410,c4U P)::(nat_lit 412,c7G P)::(nat_lit 413,c6b P)::(nat_lit 414,c5W P)::(nat_lit 416,c3V P)::(nat_lit 417,c3Q P)::(nat_lit 419,c3X P)::(nat_lit 420,c7u P)::(nat_lit 421,c6K P)::(nat_lit 423,c4O P)::(nat_lit 424,c5o P)::(nat_lit 426,c5i P)::(nat_lit 427,c6n P)::(nat_lit 428,c6l P)::(nat_lit 431,c7i P)::(nat_lit 432,c5A P)::(nat_lit 433,c4L P)::(nat_lit 435,c4Z P)::(nat_lit 436,c7N P)::(nat_lit 438,c4n P)::(nat_lit 439,c7E P)::(nat_lit 440,c7g P)::(nat_lit 443,c6N P)::(nat_lit 444,c4j P)::(nat_lit 445,c5l P)::(nat_lit 447,c4Q P)::(nat_lit 448,c5d P)::(nat_lit 450,c6i P)::(nat_lit 451,c4M P)::(nat_lit 452,c3G P)::(nat_lit 454,c4T P)::(nat_lit 455,c6m P)::(nat_lit 457,c3U P)::(nat_lit 458,c5C P)::(nat_lit 459,c6o P)::(nat_lit 462,c7c P)::(nat_lit 463,c3F P)::(nat_lit 464,c7C P)::(nat_lit 466,c5p P)::(nat_lit 467,c5T P)::(nat_lit 469,c5S P)::(nat_lit 470,c7s P)::(nat_lit 471,c5G P)::(nat_lit 473,c4s P)::(nat_lit 474,c7v P)::(nat_lit 476,c6B P)::(nat_lit 477,c6O P)::(nat_lit 478,c5O P)::(nat_lit 481,c3Z P)::(nat_lit 482,c5y P)::(nat_lit 483,c6s P)::(nat_lit 485,c7j P)::(nat_lit 486,c6A P)::(nat_lit 488,c3J P)::(nat_lit 489,c3S P)::(nat_lit 490,c4H P)::(nat_lit 492,c6V P)::(nat_lit 493,c6e P)::(nat_lit 495,c3N P)::(nat_lit 496,c6z P)::(nat_lit 497,c5w P)::(nat_lit 499,c7L P)::(nat_lit 500,c5Q P)::(nat_lit 502,c5h P)::(nat_lit 503,c3O P)::(nat_lit 504,c7h P)::(nat_lit 506,c4E P)::(nat_lit 507,c6R P)::(nat_lit 509,c6D P)::(nat_lit 510,c5E P)::(nat_lit 511,c4y P)::(nat_lit 514,c5u P)::(nat_lit 515,c5P P)::(nat_lit 516,c6a P)::(nat_lit 518,c5t P)::(nat_lit 519,c7q P)::(nat_lit 521,c6Q P)::(nat_lit 522,c4u P)::[]
abbrev a9V:List Addr:=[2,3,15,17,18,20,22,29,30,31,32,35,42,44,45,47,48,49,50,51,54,61,63,64,66,67,68,69,70,73,76,77,78,80,81,83,84,85,87,88,90,91,92,94,95,97,98,99,102,103,104,106,107,109,110,111,113,114,116,117,118,120,121,123,124,125,127,128,130,131,139,141,142,144,145,146,148,149,151,153,155,156,158,160,162,163,165,167,170,171,172,174,175,177,179,181,182,184,186,188,189,191,192,193,194,195,196,197,200,207,209,210,212,213,214,216,217,219,220,221,223,224,226,228,230,231,233,235,237,238,240,241,242,243,244,247,254,256,257,259,260,261,263,264,266,268,270,271,273,275,276,277,280,287,289,290,292,293,294,296,297,299,301,302,303,306,313,315,316,318,319,320,322,323,325,327,329,330,332,334,335,336,339,341,342,344,345,346,348,349,351,352,353,355,356,358,359,360,362,363,365,366,367,370,371,372,374,375,377,378,386,388,389,391,392,393,395,396,398,399,400,402,403,405,406,407,409,410,412,413,414,416,417,419,420,421,423,424,426,427,428,431,432,433,435,436,438,439,440,443,444,445,447,448,450,451,452,454,455,457,458,459,462,463,464,466,467,469,470,471,473,474,476,477,478,481,482,483,485,486,488,489,490,492,493,495,496,497,499,500,502,503,504,506,507,509,510,511,514,515,516,518,519,521,522]
theorem b1Q:∀P,a9V=(a9P P).map (·.1):=fun _=>by kernel_rfl
def b5n:Program:=PySem.W.view PySem.Challenge.pw_mostwise_k13_whole_rows [0,2,3,4,6,7,8,9,10,11,12,13,14,15,16,17,18,19,21,22,23,24,25,27,28,29,30,31,32,33,34,35,37,38,39,40,41,42,43,44,45,46,47,48,49,50,51,52,53,54,55,56,57,58]
theorem b6p:∀w:World,(fencedOpening treeTable PySem.Challenge.pw_mostwise_k13_whole_rows w 7366).map (fun s=>(s.heap,s.gens,s.drawn,s.toks))=some (H0 w.params,#[],{},181):=fun w=>by kernel_rfl
theorem a6c {tb:String→Option Builtin} {p:Program} {w:World} {n₀:Nat} {ann:Option Value} {env:Env} {q:Pos} {n N a l:Nat} {s s' r:Shared} {b:List Stmt} {c:Code} {pos p':Pos} (h:segRun tb p w n₀ ann 1 n s (piecesOf ((b.drop a).take l) env c pos [topFrame q])=some (.next,s',c,p'))
  (k:topRun tb p w n₀ ann N s' (restOf (b.drop (a+l)) env c p' [topFrame q])=some r):topRun tb p w n₀ ann (n+N) s (restOf (b.drop a) env c pos [topFrame q])=some r:=by
 have e:=piece_app h k
 rwa [←List.drop_drop,List.take_append_drop] at e
def c1v (P:Params):Obj:=⟨.none,none,(.fields #[]),#[]⟩
def b6V (P:Params):Heap:=⟨⟨o0 P::o1 P::o2 P::p3 P::o4 P::o5 P::o6 P::o7 P::o8 P::o9 P::o10 P::o11 P::c1v P::o13 P::o14 P::[]⟩,{}⟩
def b4u (P:Params):Obj:=⟨.none,none,(.fields #[]),#[]⟩
def b0r (P:Params):Heap:=⟨⟨o0 P::o1 P::o2 P::p3 P::o4 P::o5 P::o6 P::o7 P::o8 P::o9 P::o10 P::o11 P::b4u P::o13 P::o14 P::[]⟩,{}⟩
def b7Q:Env:={scope:=PySem.Challenge.pw_mostwise_k13_whole_rows.main.scope,locals:=mainNs,globals:=mainNs,cells:=[],code:=(.ref 13),frame:=some 14}
def a6J:Code:=.body (behindTheImports PySem.Challenge.pw_mostwise_k13_whole_rows) b7Q
abbrev tFr:List Frame:=[topFrame ⟨0,0,0,0⟩]
abbrev c3d (i:Nat) (q:Pos):Thread:=restOf ((behindTheImports PySem.Challenge.pw_mostwise_k13_whole_rows).drop i) b7Q a6J q tFr
theorem c3A:∀(w:World) (os:OsState),topGo treeTable PySem.Challenge.pw_mostwise_k13_whole_rows w 11 (some (.ref 6)) 12 ⟨H0 w.params,#[],{},181,os⟩ (topStub PySem.Challenge.pw_mostwise_k13_whole_rows)=some (⟨b6V w.params,#[],{},187,os⟩,⟨denote treeTable a6J,a6J,⟨0,0,0,0⟩,tFr⟩):=fun w os=>by kernel_rfl
theorem b4v:∀(w:World) (os:OsState),segRun treeTable PySem.Challenge.pw_mostwise_k13_whole_rows w 11 (some (.ref 6)) 1 1 ⟨b6V w.params,#[],{},187,os⟩ (blockOf (behindTheImports PySem.Challenge.pw_mostwise_k13_whole_rows) b7Q a6J ⟨0,0,0,0⟩ tFr)=some (.next,⟨b0r w.params,#[],{},187,os⟩,a6J,⟨0,0,0,0⟩):=fun w os=>by kernel_rfl
def g13 (P:Params):Obj:=⟨(.type "dict"),none,(.dict #[kE P "__name__" 165 (.str "mostwise.rules" 342),kE P "__doc__" 166 .none,kE P "__package__" 167 .none,kE P "__loader__" 168 (.builtin "__main__.__loader__#opaque"),kE P "__spec__" 169 .none,kE P "__annotations__" 170 (.ref 6),kE P "__builtins__" 171 (.ref 4),kE P "__file__" 173 (.str "/claim/cut.py" 172),kE P "__cached__" 174 .none,kE P "_wall" 193 (.ref 21),kE P "MostError" 213 (.ref 31),kE P "NoStatement" 238 (.ref 51),kE P "NoRow" 263 (.ref 70),kE P "SMALL" 267 (.str "abcdefghijklmnopqrstuvwxyz" 266),kE P "SMALL_OR_FIGURE" 269 (.str "abcdefghijklmnopqrstuvwxyz0123456789" 268),kE P "GREAT" 271 (.str "ABCDEFGHIJKLMNOPQRSTUVWXYZ" 270),⟨PyData.keyHash P "LONGEST",(.str "LONGEST" 273),(.int (8) 272)⟩,⟨PyData.keyHash P "MOST_PLACES",(.str "MOST_PLACES" 275),(.int (2) 274)⟩,kE P "is_made_of" 281 (.ref 77),kE P "is_name" 288 (.ref 84),kE P "is_label" 295 (.ref 91),kE P "is_letter" 302 (.ref 98),kE P "places_of" 308 (.ref 103),kE P "parts_of" 318 (.ref 110),kE P "is_statement" 325 (.ref 117),kE P "letters_of" 334 (.ref 124),kE P "is_written_out" 341 (.ref 131),kE P "Rule" 428 (.ref 195)] 28),#[]⟩
def c9q (P:Params):Obj:=⟨.none,none,(.fields #[(.int (1) 0),(.int (0) 0),(.ref 20),(.int (5) 0),(.int (0) 0),(.ref 27),(.int (7) 0),(.int (0) 0),(.ref 40),(.int (11) 0),(.int (0) 0),(.ref 59),(.int (21) 0),(.int (0) 0),(.ref 76),(.int (23) 0),(.int (0) 0),(.ref 83),(.int (25) 0),(.int (0) 0),(.ref 90),(.int (27) 0),(.int (0) 0),(.ref 97),(.int (29) 0),(.int (0) 0),(.ref 102),(.int (38) 0),(.int (0) 0),(.ref 109),(.int (47) 0),(.int (0) 0),(.ref 116),(.int (53) 0),(.int (0) 0),(.ref 123),(.int (59) 0),(.int (0) 0),(.ref 130),(.int (62) 0),(.int (0) 0),(.ref 137)]),#[]⟩
def c0w (P:Params):Obj:=⟨(.type "type"),none,(.cls ⟨"Rule",[(.type "object")],[(.ref 195),(.type "object")],194,"Rule",true,[],[],false,none,false⟩),#[none,none,(some (.str "Rule" 344)),(some (.str "Rule" 352)),(some (.builtin "object.__new__")),(some (.bool true))]⟩
def c5N (P:Params):Heap:=⟨⟨o0 P::o1 P::o2 P::g13 P::o4 P::o5 P::o6 P::o7 P::o8 P::o9 P::o10 P::o11 P::c9q P::o13 P::o14 P::o15 P::o16 P::o17 P::o18 P::o19 P::o20 P::o21 P::o22 P::o23 P::o24 P::o25 P::o26 P::o27 P::o28 P::o29 P::o30 P::o31 P::o32 P::o33 P::o34 P::o35 P::o36 P::o37 P::o38 P::o39 P::o40 P::o41 P::o42 P::o43 P::o44 P::o45 P::o46 P::o47 P::o48 P::o49 P::o50 P::o51 P::o52 P::o53 P::o54 P::o55 P::o56 P::o57 P::o58 P::o59 P::o60 P::o61 P::o62 P::o63 P::o64 P::o65 P::o66 P::o67 P::o68 P::o69 P::o70 P::o71 P::o72 P::o73 P::o74 P::o75 P::o76 P::o77 P::o78 P::o79 P::o80 P::o81 P::o82 P::o83 P::o84 P::o85 P::o86 P::o87 P::o88 P::o89 P::o90 P::o91 P::o92 P::o93 P::o94 P::o95 P::o96 P::o97 P::o98 P::o99 P::c2s P::c1N P::c0m P::b9z P::b8Y P::c0Z P::b9Y P::b9x P::c3g P::b9k P::b9M P::c0l P::c0r P::b9Z P::b9U P::c2P P::b9I P::c0d P::c0j P::c3z P::b9N P::b9b P::c1O P::c0b P::b9D P::b9f P::c1u P::b9X P::b9m P::c2R P::b9V P::b9v P::c0x P::c2h P::c3i P::c3b P::c2Q P::c3j P::c3r P::c0h P::c2q P::c0f P::b9l P::c1f P::b9J P::b9R P::c0o P::c0G P::b9c P::c0p P::c3l P::b9H P::c0A P::b9q P::c0F P::b9p P::b9g P::c2B P::b9Q P::c0s P::b9t P::c0J P::c0c P::b9h P::c1t P::b9y P::c0U P::b9L P::c3y P::c1e P::b9A P::c0q P::c0g P::c2z P::b9B P::c0n P::c3o P::b9K P::c1j P::b9o P::c3u P::b9P P::b9j P::c2v P::c0k P::c1Z P::b9n P::c2C P::b9d P::b8Z P::c1X P::b9G P::b9a P::b9e P::b9S P::c0w P::c0a P::b9T P::c2y P::c0C P::[]⟩,{}⟩
theorem c8C:∀(w:World) (os:OsState),segRun treeTable PySem.Challenge.pw_mostwise_k13_whole_rows w 11 (some (.ref 6)) 1 1482 ⟨b0r w.params,#[],{},187,os⟩ (piecesOf (((behindTheImports PySem.Challenge.pw_mostwise_k13_whole_rows).drop 0).take 22) b7Q a6J ⟨0,0,0,0⟩ tFr)=some (.next,⟨c5N w.params,#[],{},429,os⟩,a6J,⟨62,0,94,50⟩):=fun w os=>by kernel_rfl
def g23 (P:Params):Obj:=⟨(.type "dict"),none,(.dict #[kE P "__name__" 165 (.str "mostwise.lines" 593),kE P "__doc__" 166 .none,kE P "__package__" 167 .none,kE P "__loader__" 168 (.builtin "__main__.__loader__#opaque"),kE P "__spec__" 169 .none,kE P "__annotations__" 170 (.ref 6),kE P "__builtins__" 171 (.ref 4),kE P "__file__" 173 (.str "/claim/cut.py" 172),kE P "__cached__" 174 .none,kE P "_wall" 193 (.ref 21),kE P "MostError" 213 (.ref 31),kE P "NoStatement" 238 (.ref 51),kE P "NoRow" 263 (.ref 70),kE P "SMALL" 267 (.str "abcdefghijklmnopqrstuvwxyz" 266),kE P "SMALL_OR_FIGURE" 269 (.str "abcdefghijklmnopqrstuvwxyz0123456789" 268),kE P "GREAT" 271 (.str "ABCDEFGHIJKLMNOPQRSTUVWXYZ" 270),⟨PyData.keyHash P "LONGEST",(.str "LONGEST" 273),(.int (8) 272)⟩,⟨PyData.keyHash P "MOST_PLACES",(.str "MOST_PLACES" 275),(.int (2) 274)⟩,kE P "is_made_of" 281 (.ref 77),kE P "is_name" 288 (.ref 84),kE P "is_label" 295 (.ref 91),kE P "is_letter" 302 (.ref 98),kE P "places_of" 308 (.ref 103),kE P "parts_of" 318 (.ref 110),kE P "is_statement" 325 (.ref 117),kE P "letters_of" 334 (.ref 124),kE P "is_written_out" 341 (.ref 131),kE P "Rule" 428 (.ref 195),kE P "Fact" 482 (.ref 244),kE P "Sure" 521 (.ref 277),kE P "Most" 553 (.ref 303),kE P "Block" 592 (.ref 336),kE P "FACT" 596 (.str "fact " 595),⟨PyData.keyHash P "MOST_PREMISES",(.str "MOST_PREMISES" 598),(.int (4) 597)⟩,⟨PyData.keyHash P "MOST_LETTERS",(.str "MOST_LETTERS" 600),(.int (3) 599)⟩,kE P "words_of" 607 (.ref 345),kE P "fact_in" 615 (.ref 352)] 37),#[]⟩
def c8R (P:Params):Obj:=⟨.none,none,(.fields #[(.int (1) 0),(.int (0) 0),(.ref 20),(.int (5) 0),(.int (0) 0),(.ref 27),(.int (7) 0),(.int (0) 0),(.ref 40),(.int (11) 0),(.int (0) 0),(.ref 59),(.int (21) 0),(.int (0) 0),(.ref 76),(.int (23) 0),(.int (0) 0),(.ref 83),(.int (25) 0),(.int (0) 0),(.ref 90),(.int (27) 0),(.int (0) 0),(.ref 97),(.int (29) 0),(.int (0) 0),(.ref 102),(.int (38) 0),(.int (0) 0),(.ref 109),(.int (47) 0),(.int (0) 0),(.ref 116),(.int (53) 0),(.int (0) 0),(.ref 123),(.int (59) 0),(.int (0) 0),(.ref 130),(.int (62) 0),(.int (0) 0),(.ref 137),(.int (95) 0),(.int (0) 0),(.ref 205),(.int (111) 0),(.int (0) 0),(.ref 252),(.int (121) 0),(.int (0) 0),(.ref 285),(.int (128) 0),(.int (0) 0),(.ref 311),(.int (142) 0),(.int (0) 0),(.ref 344),(.int (144) 0),(.int (0) 0),(.ref 351)]),#[]⟩
def c6G (P:Params):Heap:=⟨⟨o0 P::o1 P::o2 P::g23 P::o4 P::o5 P::o6 P::o7 P::o8 P::o9 P::o10 P::o11 P::c8R P::o13 P::o14 P::o15 P::o16 P::o17 P::o18 P::o19 P::o20 P::o21 P::o22 P::o23 P::o24 P::o25 P::o26 P::o27 P::o28 P::o29 P::o30 P::o31 P::o32 P::o33 P::o34 P::o35 P::o36 P::o37 P::o38 P::o39 P::o40 P::o41 P::o42 P::o43 P::o44 P::o45 P::o46 P::o47 P::o48 P::o49 P::o50 P::o51 P::o52 P::o53 P::o54 P::o55 P::o56 P::o57 P::o58 P::o59 P::o60 P::o61 P::o62 P::o63 P::o64 P::o65 P::o66 P::o67 P::o68 P::o69 P::o70 P::o71 P::o72 P::o73 P::o74 P::o75 P::o76 P::o77 P::o78 P::o79 P::o80 P::o81 P::o82 P::o83 P::o84 P::o85 P::o86 P::o87 P::o88 P::o89 P::o90 P::o91 P::o92 P::o93 P::o94 P::o95 P::o96 P::o97 P::o98 P::o99 P::c2s P::c1N P::c0m P::b9z P::b8Y P::c0Z P::b9Y P::b9x P::c3g P::b9k P::b9M P::c0l P::c0r P::b9Z P::b9U P::c2P P::b9I P::c0d P::c0j P::c3z P::b9N P::b9b P::c1O P::c0b P::b9D P::b9f P::c1u P::b9X P::b9m P::c2R P::b9V P::b9v P::c0x P::c2h P::c3i P::c3b P::c2Q P::c3j P::c3r P::c0h P::c2q P::c0f P::b9l P::c1f P::b9J P::b9R P::c0o P::c0G P::b9c P::c0p P::c3l P::b9H P::c0A P::b9q P::c0F P::b9p P::b9g P::c2B P::b9Q P::c0s P::b9t P::c0J P::c0c P::b9h P::c1t P::b9y P::c0U P::b9L P::c3y P::c1e P::b9A P::c0q P::c0g P::c2z P::b9B P::c0n P::c3o P::b9K P::c1j P::b9o P::c3u P::b9P P::b9j P::c2v P::c0k P::c1Z P::b9n P::c2C P::b9d P::b8Z P::c1X P::b9G P::b9a P::b9e P::b9S P::c1D P::c0a P::b9T P::c2y P::c0C P::c0z P::c4R P::c7w P::c4B P::c7d P::c6c P::c4b P::c0P P::c6J P::c1Y P::c3e P::c5k P::c1q P::c2k P::c1w P::c7F P::c1H P::c1p P::c7M P::c2F P::c0v P::c1W P::c6T P::c0S P::c1L P::c7D P::c2E P::c5M P::c0E P::c5R P::c0K P::c2L P::c7O P::c2Z P::c6Y P::c2x P::c4o P::c1P P::c2d P::c7J P::c1U P::c3C P::c2S P::c2K P::c1s P::c5I P::c4i P::c1T P::c6W P::c4m P::c4N P::c5e P::c4e P::c7k P::c0u P::c7n P::c2W P::c2t P::c5r P::c3a P::c0B P::c1n P::c5z P::c2e P::c2T P::c5F P::c1y P::c6C P::c1m P::c5f P::c1F P::c3f P::c7y P::c1B P::c5s P::c3x P::c2M P::c1A P::c4D P::c4r P::c0O P::c6y P::c3K P::c6u P::c6I P::c4V P::c4d P::c1b P::c7I P::c2m P::c2Y P::c6j P::c2A P::c3s P::c0N P::c6X P::c1d P::c1k P::c7b P::c1R P::c4a P::c1c P::c1M P::c2V P::c5X P::c6w P::c2H P::c5V P::c7l P::c6q P::c5Y P::c6g P::c3I P::c3m P::c4C P::c2o P::c0Y P::c5a P::c1C P::c2O P::c2f P::c6H P::c1K P::c1r P::c4X P::c0L P::c5Z P::c2g P::c6f P::c2l P::c0W P::c4c P::c1E P::c5g P::c3w P::c0H P::c3D P::c4A P::c4W P::c1I P::c5U P::c2I P::c3h P::c6P P::c1J P::c1Q P::c1a P::c6r P::c3B P::c2G P::c6v P::c2a P::c2U P::[]⟩,{}⟩
theorem c8J:∀(w:World) (os:OsState),segRun treeTable PySem.Challenge.pw_mostwise_k13_whole_rows w 11 (some (.ref 6)) 1 1356 ⟨c5N w.params,#[],{},429,os⟩ (piecesOf (((behindTheImports PySem.Challenge.pw_mostwise_k13_whole_rows).drop 22).take 10) b7Q a6J ⟨62,0,94,50⟩ tFr)=some (.next,⟨c6G w.params,#[],{},616,os⟩,a6J,⟨144,0,146,55⟩):=fun w os=>by kernel_rfl
theorem c2X:∀(w:World) (os:OsState),topRun treeTable PySem.Challenge.pw_mostwise_k13_whole_rows w 11 (some (.ref 6)) 787 ⟨c6G w.params,#[],{},616,os⟩ (c3d 32 ⟨144,0,146,55⟩)=some ⟨H1 w.params,#[],{},833,os⟩:=fun w os=>by kernel_rfl
theorem c0t:∀(w:World) (os:OsState),topRun treeTable PySem.Challenge.pw_mostwise_k13_whole_rows w 11 (some (.ref 6)) 3638 ⟨H0 w.params,#[],{},181,os⟩ (topStub PySem.Challenge.pw_mostwise_k13_whole_rows)=some ⟨H1 w.params,#[],{},833,os⟩:=fun w os=>go_top (n:=12) (c3A w os) (piece_block (n:=1) (b4v w os) (a6c (c8C w os) (a6c (c8J w os) (c2X w os))))
end
end K13
set_option maxRecDepth 100000 in
set_option maxHeartbeats 0 in
theorem PySem.Challenge.cw_mostwise_k13_whole_rows_holds : PySem.Challenge.rw_mostwise_k13_whole_rows.Holds := by
 w_on;o_law
 refine PySem.W.holds_open (q:=K13.b5n) (loose:=[]) (Xt:=fun s=>PySem.W.xlAt K13.b5n [] s && PySem.W.recOk (PySem.W.RowW.records (PySem.W.OpenRow.toRowW PySem.Challenge.rw_mostwise_k13_whole_rows.row)) s) (XP:=PySem.W.XL K13.b5n []) (Yf:=PySem.W.Hook.obs (PySem.W.kHook K13.a9P K13.a9V K13.b1Q)) (Ya:=PySem.W.Hook.val (PySem.W.kHook K13.a9P K13.a9V K13.b1Q)) (YP:=PySem.W.Hook.says (PySem.W.kHook K13.a9P K13.a9V K13.b1Q)) (N:=7366) ?hl (PySem.W.Hook.of (PySem.W.kHook K13.a9P K13.a9V K13.b1Q)) (PySem.W.Hook.keeps (PySem.W.kHook K13.a9P K13.a9V K13.b1Q)) (fun s e=>PySem.W.xl_of s (Bool.and_eq_true_iff.mp e).1) PySem.W.XL.keeps (by rfl) (by rfl) (by rfl) (fun s e=>PySem.W.recFacts_of (Bool.and_eq_true_iff.mp e).2) (by rfl) (by first | assumption | decide+kernel) (by decide+kernel) ⟨rfl,rfl,rfl,rfl,rfl,by decide+kernel⟩ ?hw ?hc
 (case hl=>refine PySem.W.LeftO.of_pieces (H₀:=K13.H0) (H₁:=K13.H1) (gs₀:=#[]) (gs₁:=#[]) (d₀:={}) (d₁:={}) (k₀:=181) (k₁:=833) (m₀:=11) (ann:=(some (.ref 6))) (M:=3638) K13.b6p ?_ K13.c0t rfl ?_<;>(intro w;kernel_rfl))
 (case hw=>w_witness2)
 k_fill
 refine L2.b2B (l:=PySem.Challenge.rw_mostwise_k13_whole_rows) (n:=63) (k:=12) (x:="_law_script") (CX:=L2.CX0) (sp:=K13.b5p) rfl (by decide) rfl ⟨rfl,by decide,by decide⟩ (fun w h Y=>PySem.W.kIn_of Y) ?F (fun K H a ns hl hO hS=>K13.b2T hl hO hS) (fun _ _ _ _ z=>z)
 case F=>
  intro w mg fa h KX G hmg
  have T:∃t:K13.Adr,K13.Txt (L2.KOf KX) mg t:=by
   dsimp only [L2.KOf]
   refine' Exists.imp (fun _ h=>h.2.2) (K13.b8o KX G ?a_MostError ?a_NoStatement ?a_NoRow ?a_Rule ?a_Fact ?a_Sure ?a_Most ?a_Block ?a_z00 ?l_z00 ?c_z00 ?p_z00 ?a_z0e ?l_z0e ?c_z0e ?p_z0e ?a_z0f ?l_z0f ?c_z0f ?p_z0f ?a_z18 ?l_z18 ?c_z18 ?p_z18 ?a_z0z ?l_z0z ?c_z0z ?p_z0z ?a_z0n ?l_z0n ?c_z0n ?p_z0n ?a_z0o ?l_z0o ?c_z0o ?p_z0o ?a_z10 ?l_z10 ?c_z10 ?p_z10 ?a_z03 ?l_z03 ?c_z03 ?p_z03 ?a_z0g ?l_z0g ?c_z0g ?p_z0g ?a_z01 ?l_z01 ?c_z01 ?p_z01 ?a_z0p ?l_z0p ?c_z0p ?p_z0p ?a_z05 ?l_z05 ?c_z05 ?p_z05 ?a_z11 ?l_z11 ?c_z11 ?p_z11 ?a_z0r ?l_z0r ?c_z0r ?p_z0r ?a_z0s ?l_z0s ?c_z0s ?p_z0s ?a_z12 ?l_z12 ?c_z12 ?p_z12 ?a_z0t ?l_z0t ?c_z0t ?p_z0t ?a_z0u ?l_z0u ?c_z0u ?p_z0u ?a_z0l ?l_z0l ?c_z0l ?p_z0l ?a_z13 ?l_z13 ?c_z13 ?p_z13 ?a_z19 ?l_z19 ?c_z19 ?p_z19 ?a_z1n ?l_z1n ?c_z1n ?p_z1n ?a_z0c ?l_z0c ?c_z0c ?p_z0c ?a_z0d ?l_z0d ?c_z0d ?p_z0d ?a_z1a ?l_z1a ?c_z1a ?p_z1a ?a_z1k ?l_z1k ?c_z1k ?p_z1k ?a_z1g ?l_z1g ?c_z1g ?p_z1g ?a_z1h ?l_z1h ?c_z1h ?p_z1h ?a_z1b ?l_z1b ?c_z1b ?p_z1b ?a_z14 ?l_z14 ?c_z14 ?p_z14 ?a_z1c ?l_z1c ?c_z1c ?p_z1c ?a_z1d ?l_z1d ?c_z1d ?p_z1d ?a_z1e ?l_z1e ?c_z1e ?p_z1e ?a_z1l ?l_z1l ?c_z1l ?p_z1l ?a_z15 ?l_z15 ?c_z15 ?p_z15 ?a_z1m ?l_z1m ?c_z1m ?p_z1m ?a_z0w ?l_z0w ?c_z0w ?p_z0w ?a_z0m ?l_z0m ?c_z0m ?p_z0m ?a_z16 ?l_z16 ?c_z16 ?p_z16 ?a_z02 ?l_z02 ?c_z02 ?p_z02 ?a_z0x ?l_z0x ?c_z0x ?p_z0x ?a_z17 ?l_z17 ?c_z17 ?p_z17 ?a_z1i ?l_z1i ?c_z1i ?p_z1i ?a_z0y ?l_z0y ?c_z0y ?p_z0y ?a_z1f ?l_z1f ?c_z1f ?p_z1f ?a_d_law ?l_d_law ?c_d_law ?p_d_law ?k_SMALL ?k_SMALL_OR_FIGURE ?k_GREAT ?k_LONGEST ?k_MOST_PLACES ?k_FACT ?k_MOST_PREMISES ?k_MOST_LETTERS ?z_NotImplementedError ?z_ValueError ?z_all ?z_bool ?z_enumerate ?z_isinstance ?z_len ?z_list ?z_range ?z_str ?z_tuple ?kc_Rule ?kt_Rule ?cg_Rule ?cr_Rule ?ca_Rule ?kc_Fact ?kt_Fact ?pg_Fact ?hd_Fact ?po_Fact ?sa_Fact ?th_Fact ?tn_Fact ?tt_Fact ?tm_Fact ?nf_Fact_label ?nf_Fact_head ?nf_Fact_body ?mm_Fact ?mi_Fact ?mf_Fact ?mq_Fact ?ma_Fact_word ?mb_Fact_word ?ma_Fact_letters ?mb_Fact_letters ?ma_Fact_row ?mb_Fact_row ?ks_Fact_Rule ?ks_Fact_Fact ?ks_Fact_Sure ?ks_Fact_Most ?ks_Fact_Block ?kc_Sure ?kt_Sure ?pg_Sure ?hd_Sure ?po_Sure ?sa_Sure ?th_Sure ?tn_Sure ?tt_Sure ?tm_Sure ?nf_Sure_label ?nf_Sure_head ?nf_Sure_body ?mm_Sure ?mi_Sure ?mf_Sure ?mq_Sure ?ma_Sure_word ?mb_Sure_word ?ma_Sure_letters ?mb_Sure_letters ?ma_Sure_row ?mb_Sure_row ?ks_Sure_Rule ?ks_Sure_Fact ?ks_Sure_Sure ?ks_Sure_Most ?ks_Sure_Block ?kc_Most ?kt_Most ?pg_Most ?hd_Most ?po_Most ?sa_Most ?th_Most ?tn_Most ?tt_Most ?tm_Most ?nf_Most_label ?nf_Most_head ?nf_Most_body ?mm_Most ?mi_Most ?mf_Most ?mq_Most ?ma_Most_word ?mb_Most_word ?ma_Most_letters ?mb_Most_letters ?ma_Most_row ?mb_Most_row ?ks_Most_Rule ?ks_Most_Fact ?ks_Most_Sure ?ks_Most_Most ?ks_Most_Block ?kc_Block ?kt_Block ?pg_Block ?hd_Block ?po_Block ?sa_Block ?th_Block ?tn_Block ?tt_Block ?tm_Block ?nf_Block_label ?nf_Block_head ?nf_Block_body ?mm_Block ?mi_Block ?mf_Block ?mq_Block ?ma_Block_word ?mb_Block_word ?ma_Block_letters ?mb_Block_letters ?ma_Block_row ?mb_Block_row ?ks_Block_Rule ?ks_Block_Fact ?ks_Block_Sure ?ks_Block_Most ?ks_Block_Block ?x_NoStatement ?x_NoRow ?xc_NoStatement ?xc_MostError ?xm_NoStatement_NoStatement ?xm_NoRow_MostError ?xt_up ?xt_no)
   (case a_MostError=>k_is);(case a_NoStatement=>k_is);(case a_NoRow=>k_is);(case a_Rule=>k_is);(case a_Fact=>k_is);(case a_Sure=>k_is);(case a_Most=>k_is);(case a_Block=>k_is);(case a_z00=>k_is);(case l_z00=>k_is);(case c_z00=>k_is);(case p_z00=>k_is);(case a_z0e=>k_is);(case l_z0e=>k_is);(case c_z0e=>k_is);(case p_z0e=>k_is);(case a_z0f=>k_is);(case l_z0f=>k_is);(case c_z0f=>k_is);(case p_z0f=>k_is)
   (case a_z18=>k_is);(case l_z18=>k_is);(case c_z18=>k_is);(case p_z18=>k_is);(case a_z0z=>k_is);(case l_z0z=>k_is);(case c_z0z=>k_is);(case p_z0z=>k_is);(case a_z0n=>k_is);(case l_z0n=>k_is);(case c_z0n=>k_is);(case p_z0n=>k_is);(case a_z0o=>k_is);(case l_z0o=>k_is);(case c_z0o=>k_is);(case p_z0o=>k_is);(case a_z10=>k_is);(case l_z10=>k_is);(case c_z10=>k_is);(case p_z10=>k_is)
   (case a_z03=>k_is);(case l_z03=>k_is);(case c_z03=>k_is);(case p_z03=>k_is);(case a_z0g=>k_is);(case l_z0g=>k_is);(case c_z0g=>k_is);(case p_z0g=>k_is);(case a_z01=>k_is);(case l_z01=>k_is);(case c_z01=>k_is);(case p_z01=>k_is);(case a_z0p=>k_is);(case l_z0p=>k_is);(case c_z0p=>k_is);(case p_z0p=>k_is);(case a_z05=>k_is);(case l_z05=>k_is);(case c_z05=>k_is);(case p_z05=>k_is)
   (case a_z11=>k_is);(case l_z11=>k_is);(case c_z11=>k_is);(case p_z11=>k_is);(case a_z0r=>k_is);(case l_z0r=>k_is);(case c_z0r=>k_is);(case p_z0r=>k_is);(case a_z0s=>k_is);(case l_z0s=>k_is);(case c_z0s=>k_is);(case p_z0s=>k_is);(case a_z12=>k_is);(case l_z12=>k_is);(case c_z12=>k_is);(case p_z12=>k_is);(case a_z0t=>k_is);(case l_z0t=>k_is);(case c_z0t=>k_is);(case p_z0t=>k_is)
   (case a_z0u=>k_is);(case l_z0u=>k_is);(case c_z0u=>k_is);(case p_z0u=>k_is);(case a_z0l=>k_is);(case l_z0l=>k_is);(case c_z0l=>k_is);(case p_z0l=>k_is);(case a_z13=>k_is);(case l_z13=>k_is);(case c_z13=>k_is);(case p_z13=>k_is);(case a_z19=>k_is);(case l_z19=>k_is);(case c_z19=>k_is);(case p_z19=>k_is);(case a_z1n=>k_is);(case l_z1n=>k_is);(case c_z1n=>k_is);(case p_z1n=>k_is)
   (case a_z0c=>k_is);(case l_z0c=>k_is);(case c_z0c=>k_is);(case p_z0c=>k_is);(case a_z0d=>k_is);(case l_z0d=>k_is);(case c_z0d=>k_is);(case p_z0d=>k_is);(case a_z1a=>k_is);(case l_z1a=>k_is);(case c_z1a=>k_is);(case p_z1a=>k_is);(case a_z1k=>k_is);(case l_z1k=>k_is);(case c_z1k=>k_is);(case p_z1k=>k_is);(case a_z1g=>k_is);(case l_z1g=>k_is);(case c_z1g=>k_is);(case p_z1g=>k_is)
   (case a_z1h=>k_is);(case l_z1h=>k_is);(case c_z1h=>k_is);(case p_z1h=>k_is);(case a_z1b=>k_is);(case l_z1b=>k_is);(case c_z1b=>k_is);(case p_z1b=>k_is);(case a_z14=>k_is);(case l_z14=>k_is);(case c_z14=>k_is);(case p_z14=>k_is);(case a_z1c=>k_is);(case l_z1c=>k_is);(case c_z1c=>k_is);(case p_z1c=>k_is);(case a_z1d=>k_is);(case l_z1d=>k_is);(case c_z1d=>k_is);(case p_z1d=>k_is)
   (case a_z1e=>k_is);(case l_z1e=>k_is);(case c_z1e=>k_is);(case p_z1e=>k_is);(case a_z1l=>k_is);(case l_z1l=>k_is);(case c_z1l=>k_is);(case p_z1l=>k_is);(case a_z15=>k_is);(case l_z15=>k_is);(case c_z15=>k_is);(case p_z15=>k_is);(case a_z1m=>k_is);(case l_z1m=>k_is);(case c_z1m=>k_is);(case p_z1m=>k_is);(case a_z0w=>k_is);(case l_z0w=>k_is);(case c_z0w=>k_is);(case p_z0w=>k_is)
   (case a_z0m=>k_is);(case l_z0m=>k_is);(case c_z0m=>k_is);(case p_z0m=>k_is);(case a_z16=>k_is);(case l_z16=>k_is);(case c_z16=>k_is);(case p_z16=>k_is);(case a_z02=>k_is);(case l_z02=>k_is);(case c_z02=>k_is);(case p_z02=>k_is);(case a_z0x=>k_is);(case l_z0x=>k_is);(case c_z0x=>k_is);(case p_z0x=>k_is);(case a_z17=>k_is);(case l_z17=>k_is);(case c_z17=>k_is);(case p_z17=>k_is)
   (case a_z1i=>k_is);(case l_z1i=>k_is);(case c_z1i=>k_is);(case p_z1i=>k_is);(case a_z0y=>k_is);(case l_z0y=>k_is);(case c_z0y=>k_is);(case p_z0y=>k_is);(case a_z1f=>k_is);(case l_z1f=>k_is);(case c_z1f=>k_is);(case p_z1f=>k_is);(case a_d_law=>k_is);(case l_d_law=>k_is);(case c_d_law=>k_is);(case p_d_law=>k_is);(case k_SMALL=>k_is);(case k_SMALL_OR_FIGURE=>k_is);(case k_GREAT=>k_is);(case k_LONGEST=>k_is)
   (case k_MOST_PLACES=>k_is);(case k_FACT=>k_is);(case k_MOST_PREMISES=>k_is);(case k_MOST_LETTERS=>k_is);(case z_NotImplementedError=>k_is);(case z_ValueError=>k_is);(case z_all=>k_is);(case z_bool=>k_is);(case z_enumerate=>k_is);(case z_isinstance=>k_is);(case z_len=>k_is);(case z_list=>k_is);(case z_range=>k_is);(case z_str=>k_is);(case z_tuple=>k_is);(case kc_Rule=>k_is);(case kt_Rule=>k_is);(case cg_Rule=>k_is);(case cr_Rule=>k_is);(case ca_Rule=>k_is)
   (case kc_Fact=>k_is);(case kt_Fact=>k_is);(case pg_Fact=>k_is);(case hd_Fact=>k_is);(case po_Fact=>k_is);(case sa_Fact=>k_is);(case th_Fact=>k_is);(case tn_Fact=>k_is);(case tt_Fact=>k_is);(case tm_Fact=>k_is);(case nf_Fact_label=>k_is);(case nf_Fact_head=>k_is);(case nf_Fact_body=>k_is);(case mm_Fact=>k_is);(case mi_Fact=>k_is);(case mf_Fact=>k_is);(case mq_Fact=>k_is);(case ma_Fact_word=>k_is);(case mb_Fact_word=>k_is);(case ma_Fact_letters=>k_is)
   (case mb_Fact_letters=>k_is);(case ma_Fact_row=>k_is);(case mb_Fact_row=>k_is);(case ks_Fact_Rule=>k_is);(case ks_Fact_Fact=>k_is);(case ks_Fact_Sure=>k_is);(case ks_Fact_Most=>k_is);(case ks_Fact_Block=>k_is);(case kc_Sure=>k_is);(case kt_Sure=>k_is);(case pg_Sure=>k_is);(case hd_Sure=>k_is);(case po_Sure=>k_is);(case sa_Sure=>k_is);(case th_Sure=>k_is);(case tn_Sure=>k_is);(case tt_Sure=>k_is);(case tm_Sure=>k_is);(case nf_Sure_label=>k_is);(case nf_Sure_head=>k_is)
   (case nf_Sure_body=>k_is);(case mm_Sure=>k_is);(case mi_Sure=>k_is);(case mf_Sure=>k_is);(case mq_Sure=>k_is);(case ma_Sure_word=>k_is);(case mb_Sure_word=>k_is);(case ma_Sure_letters=>k_is);(case mb_Sure_letters=>k_is);(case ma_Sure_row=>k_is);(case mb_Sure_row=>k_is);(case ks_Sure_Rule=>k_is);(case ks_Sure_Fact=>k_is);(case ks_Sure_Sure=>k_is);(case ks_Sure_Most=>k_is);(case ks_Sure_Block=>k_is);(case kc_Most=>k_is);(case kt_Most=>k_is);(case pg_Most=>k_is);(case hd_Most=>k_is)
   (case po_Most=>k_is);(case sa_Most=>k_is);(case th_Most=>k_is);(case tn_Most=>k_is);(case tt_Most=>k_is);(case tm_Most=>k_is);(case nf_Most_label=>k_is);(case nf_Most_head=>k_is);(case nf_Most_body=>k_is);(case mm_Most=>k_is);(case mi_Most=>k_is);(case mf_Most=>k_is);(case mq_Most=>k_is);(case ma_Most_word=>k_is);(case mb_Most_word=>k_is);(case ma_Most_letters=>k_is);(case mb_Most_letters=>k_is);(case ma_Most_row=>k_is);(case mb_Most_row=>k_is);(case ks_Most_Rule=>k_is)
   (case ks_Most_Fact=>k_is);(case ks_Most_Sure=>k_is);(case ks_Most_Most=>k_is);(case ks_Most_Block=>k_is);(case kc_Block=>k_is);(case kt_Block=>k_is);(case pg_Block=>k_is);(case hd_Block=>k_is);(case po_Block=>k_is);(case sa_Block=>k_is);(case th_Block=>k_is);(case tn_Block=>k_is);(case tt_Block=>k_is);(case tm_Block=>k_is);(case nf_Block_label=>k_is);(case nf_Block_head=>k_is);(case nf_Block_body=>k_is);(case mm_Block=>k_is);(case mi_Block=>k_is);(case mf_Block=>k_is)
   (case mq_Block=>k_is);(case ma_Block_word=>k_is);(case mb_Block_word=>k_is);(case ma_Block_letters=>k_is);(case mb_Block_letters=>k_is);(case ma_Block_row=>k_is);(case mb_Block_row=>k_is);(case ks_Block_Rule=>k_is);(case ks_Block_Fact=>k_is);(case ks_Block_Sure=>k_is);(case ks_Block_Most=>k_is);(case ks_Block_Block=>k_is)
   (case x_NoStatement=>kernel_rfl)
   (case x_NoRow=>kernel_rfl)
   (case xc_NoStatement=>kernel_rfl)
   (case xc_MostError=>kernel_rfl)
   (case xm_NoStatement_NoStatement=>kernel_rfl)
   (case xm_NoRow_MostError=>kernel_rfl)
   (case xt_up=>kernel_rfl)
   (case xt_no=>kernel_rfl)
  obtain ⟨t,T⟩:=T
  obtain ⟨_,_,_,_,_,_,_,_,_,e2,_,_⟩:=T.F_d_law.ex
  have e0:=hmg.symm.trans T.g_d_law
  cases e0
  exact ⟨t.fd_d_law,fun s u=>by rw [e2];exact .of_eq rfl,fun base kb nb=>K13.b2I T⟩
