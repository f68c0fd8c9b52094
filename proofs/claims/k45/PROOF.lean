import PyProof.Rows.All
import Wide.All
import OpenK.AllK
import Wide.FinOn
import Lean
import PyProof.EqAt
import PyProof.EqKinds
import PyProof.TupleCall
import PyProof.StrLawsChain
import PyProof.StrLawsIn
import PyProof.Rows.StrNews2
import PyProof.StrBlockL
import PyProof.Rows.StrClose3
import PyProof.Rows.StrClose5
import PyProof.Rows.StrFirst
import PyProof.WalkInts
import PyProof.StrOps
import PyProof.WalksEnum
import PyProof.EnumMake
import PyProof.NeKinds
import KE.KEqDict
import KE.KRevIter
import PyProof.DictWalks
import PyProof.DictValues
import PyProof.ListRange
import PyProof.CollectIter
import PyProof.ZipIter
import PyProof.Rows.ZipGen
import PyProof.FString5
import KE.KDictLaws
import KE.KDictSum
import KE.KSortTup
import PyProof.Rows.SortStr
import PyProof.DictItems
import KE.KPairComp
import KE.KUnpack
import PyProof.P3Eq
import PyProof.Rows.SetFrom
import PySem.Challenge.RW_mostwise_k45_whole_never_both
set_option Elab.async false
set_option linter.all false
set_option maxRecDepth 100000
set_option maxHeartbeats 4000000
open List renaming getElem?_cons_zero → Qa, getElem?_cons_succ → Qb, getElem?_eq_getElem → Qc, length_map → Qe, append_nil → Qf, set_cons_succ → Qg, set_cons_zero → Qh, mem_map → Qj, getElem?_map → Qm, length_cons → Qo, getElem?_eq_some_iff → Qp, mem_filter → Qq, mem_cons_of_mem → Qr, mem_cons_self → Qs, size_toArray → Qt, length_filter_le → Qu, take_succ_eq_append_getElem → Qv, mem_append_right → Qx, mem_cons → Qy, length_nil → Qz, mem_append → Xa, getElem_mem → Xd, mem_singleton → Xg, map_map → Xi, map_cons → Xj, Nodup → Xk, getD_eq_getElem?_getD → Xn, map_append → Xq, length_append → Xr, range → Xs, take_length → Xu, toArray → Xv, mem_append_left → Xx, getElem?_append_right → Xz, getElem?_append_left → Yb, lookup_cons → Yg, mem_filterMap → Yj, filter_cons → Yk, any_eq_true → Yl, length → Yn, length_take → Yp, getElem?_eq_none → Yr, nodup_append → Yx, nodup_cons → Yy, find?_cons → Yz, filter_eq_nil_iff → Zb, all_eq_true → Zc, mem_flatMap → Zd, filter_map → Zh, length_range → Zj, append_assoc → Zk, filterMap_cons → Zm, not_mem_nil → Zp, lookup → Zq, filter_append → Zr, filter_filter → Zs, filter_congr → Zv, flatMap_cons → Zw, foldl_append → Zx, mem_of_mem_take → Zy, mem_range → Zz, nodup_nil → Jb, any_map → Jc, getElem_of_mem → Jd, any_cons → Jf, map_nil → Jl, getElem_inj → Jn, length_drop → Jo, cons_append → Jp, getElem_map → Js, flatMap_append → Ju, range_succ → Jv, foldl_cons → Jw, length_pos_of_mem → Ua, flatMap_nil → Ue, mem_of_getElem? → Ui, nil_append → Uk, eq_nil_iff_forall_not_mem → Ul, map_congr_left → Uq, map_eq_nil_iff → Ur, filter_eq_self → Us, take_zero → Uv, find?_eq_none → Ux, all_cons → Va, ext_getElem? → Vf, pairwise_map → Vg, pairwise_iff_getElem → Vh, mem_of_find?_eq_some → Vi, exists_mem_of_ne_nil → Vj, ext_getElem → Vt, all_map → Vw, length_eq_zero_iff → Wb, of_mem_zip → Wd, getElem?_set_self → We, length_singleton → Wm, getElem?_set_ne → Wo, getElem?_append → Wp, length_take_le' → Wr, Pairwise → Ws, getElem?_range → Wv, map → Ge
open PySem.W renaming Frag → Qd, kitOne → Yo, findIn → Ys, emptyDict → Yt, fnOf → Yu, keepIn → Ze, instObj → Zg, codeIn → Jk, callWith_K → Jx, kHook → Uc, plainGet → Ud, methodCall_KW → Uf, Hook → Um, plainGet_of → Uo, lookIn → Ut, mg_of → Vb, methodObj → Vc, hasDictIn → Vd, takerIn → Wc, cellsFrom_some → Wf, typeIn → Wk, subIn → Wu, isFn → Wy, plainOver → Ga, specialIn → Gb, handedIn → Gc, makesIn → Gf
open Nat renaming le_trans → Qi, le_refl → Qk, lt_of_lt_of_le → Xb, zero_le → Xf, ne_of_lt → Xh, lt_of_le_of_lt → Xm, lt_succ_of_lt → Zi, lt_irrefl → Zl, le_succ → Ji, ne_of_gt → Uh, le_of_lt → Vl, le_of_eq → Vn, lt_succ_self → Vo, sub_self → Vs, add_comm → Wz
open PySem.Heap renaming get?_push_of_some → Ql, lt_size → Qw, get?_push_size → Xe, get?_update_ne → Zo, get?_push_ne → Jj, SameBut → Vm, size_update → Vu, size_push → Wl
open Bool renaming false_ne_true → Qn, and_eq_true → Xc, eq_iff_iff → Xl, not_eq_true' → Xy, false_eq_true → Zf, false_and → Ja, and_eq_true_iff → Jq, true_and → Jt, and_comm → Ub, or_eq_true_iff → Ww
open Option renaming getD_some → Xo, map_some → Jg, map_eq_some_iff → Jz, isSome_map → Ve, isSome_iff_exists → Vp, map_eq_none_iff → Wi, getD_none → Gd
open PySem.PyData renaming canLay0 → Xp, eqv → Xw, keyHash → Ye, strOk → Ym, depth → Yw, depthAll → Zt, canLayAll0 → Zu, str → Jh, eqvAll → Wt
open PySem.F renaming slot_list_append → Yc, type_list_append → Yd, plainAttrs_list → Yh, plainAttrs_dict → Je, slot_dict_update → Jy, slot_dict_get → Ug, slot_dict_setdefault → Uu, slot_str_startswith → Uy, type_str_startswith → Uz, args_tuple_add_2 → Vq, type_dict_update → Vx, entry_tuple_add → Vy, args_dict_get_3 → Vz, slot_tuple_add → Wg, entry_dict_get → Wh, plainAttrs_str → Wj
open PySem.SeqAt renaming EqAt → Yi, shaped → Yq
open Int renaming emod_lt_of_pos → Yv, emod_nonneg → Za
open Array renaming length_toList → Zn, getD → Jr, toList_inj → Vv, getElem?_toList → Wn, Perm → Wq, append_assoc → Wx
open PySem.Txt renaming startswith → Jm, slice → Uw, slice_le → Vr
open PySem.Str renaming ofString → Uj
open Classical renaming byContradiction → Vk
namespace L2
open PySem PySem.Spec PyProof.Rows
abbrev Key:=Sum Int Str
def a8K:Key→Value→Bool
 | .inl k,v=>Value.isInt k v
 | .inr x,v=>Value.isStrOf x v
def c5F (w:World):Key→Int
 | .inl k=>hashInt k
 | .inr x=>hashStr w x
theorem a0H:∀{k:Key} {v:Value},a8K k v=true→(∃i t,k=Sum.inl i∧v=Value.int i t)∨(∃x t,k=Sum.inr x∧v=Value.str x t)
 | .inl i,v,h=>by
  obtain ⟨t,e⟩:=Value.isInt_shape (k:=i) (v:=v) h
  exact .inl ⟨i,t,rfl,e⟩
 | .inr x,v,h=>by
  obtain ⟨t,e⟩:=Value.isStrOf_shape (x:=x) (v:=v) h
  exact .inr ⟨x,t,rfl,e⟩
theorem b0L (i:Int) (t:Tok):a8K (.inl i) (.int i t)=true:=by simp [a8K,Value.isInt]
theorem b0N (x:Str) (t:Tok):a8K (.inr x) (.str x t)=true:=by simp [a8K,Value.isStrOf]
theorem b9K (a b:Int):decide ((Sum.inl a:Key)=Sum.inl b)=(a == b):=by
 by_cases e:a=b
 ·subst e;simp
 ·have h:¬(Sum.inl a:Key)=Sum.inl b:=fun q=>e (Sum.inl.inj q)
  rw [decide_eq_false h]
  exact (beq_eq_false_iff_ne.mpr e).symm
theorem b9D (a b:Str):decide ((Sum.inr a:Key)=Sum.inr b)=decide (a=b):=by
 by_cases e:a=b
 ·subst e;simp
 ·have h:¬(Sum.inr a:Key)=Sum.inr b:=fun q=>e (Sum.inr.inj q)
  rw [decide_eq_false h,decide_eq_false e]
theorem c0l (a:Int) (b:Str):decide ((Sum.inl a:Key)=Sum.inr b)=false:=decide_eq_false (fun q=>nomatch q)
theorem b8F (a:Str) (b:Int):decide ((Sum.inr a:Key)=Sum.inl b)=false:=decide_eq_false (fun q=>nomatch q)
def a0s (prog:Program) (w:World):PySem.KeyKind prog w Key where
 is:=a8K
 hash:=c5F w
 inj:=fun v a b ha hb=>by
  rcases a0H ha with ⟨i,t,rfl,rfl⟩ | ⟨x,t,rfl,rfl⟩
  ·rcases a0H hb with ⟨j,u,rfl,e⟩ | ⟨y,u,rfl,e⟩
   ·injection e with e1 _;rw [e1]
   ·exact nomatch e
  ·rcases a0H hb with ⟨j,u,rfl,e⟩ | ⟨y,u,rfl,e⟩
   ·exact nomatch e
   ·injection e with e1 _;rw [e1]
 byValue:=fun k v h=>by
  rcases a0H h with ⟨i,t,rfl,rfl⟩ | ⟨x,t,rfl,rfl⟩<;>rfl
 pyHash:=fun hv h=>by
  rcases a0H hv with ⟨i,t,rfl,rfl⟩ | ⟨x,t,rfl,rfl⟩
  ·exact wpAny_pyHash_int h
  ·exact wpAny_pyHash_str h
 eqBool:=fun hu hv h=>by
  rcases a0H hu with ⟨i,t,rfl,rfl⟩ | ⟨x,t,rfl,rfl⟩
  ·rcases a0H hv with ⟨j,u,rfl,rfl⟩ | ⟨y,u,rfl,rfl⟩
   ·rw [b9K] at h;exact wpAny_eqBool_int h
   ·rw [c0l] at h;exact Yi.int_str i t y u _ _ _ _ h
  ·rcases a0H hv with ⟨j,u,rfl,rfl⟩ | ⟨y,u,rfl,rfl⟩
   ·rw [b8F] at h;exact Yi.str_int x t j u _ _ _ _ h
   ·rw [b9D] at h;exact wpAny_eqBool_str h
 «strs»:=fun k x t v h=>by
  rcases a0H h with ⟨i,u,rfl,e⟩ | ⟨y,u,rfl,e⟩
  ·exact nomatch e
  ·injection e with e1 _
   subst e1
   cases v<;>rfl
theorem a6M (prog:Program) (w:World) (i:Int) (t:Tok):(a0s prog w).is (.inl i) (.int i t)=true:=b0L i t
theorem a6Z (prog:Program) (w:World) (x:Str) (t:Tok):(a0s prog w).is (.inr x) (.str x t)=true:=b0N x t
end L2
namespace L2
open PySem PySem.Spec PyProof.Rows
inductive V where
 | non | bl (b:Bool) | int (i:Int) | str (x:Str) | byt (b:Array UInt8) | flt (b:UInt64) | ref (a:Addr) | ty (n:String)
 deriving DecidableEq
def a0O:V→Value→Prop
 | .non,u=>u=Value.none
 | .bl b,u=>u=Value.bool b
 | .int i,u=>∃t,u=Value.int i t
 | .str x,u=>∃t,u=Value.str x t
 | .byt b,u=>∃t,u=Value.bytes b t
 | .flt b,u=>∃t,u=Value.float b t
 | .ref a,u=>u=Value.ref a
 | .ty n,u=>u=Value.type n
abbrev a0N:List V→List Value→Prop:=Paired a0O
theorem a0N.length {xs:List V} {us:List Value} (r:a0N xs us):xs.length=us.length:=Paired.length r
theorem a0N.get:∀{xs:List V} {us:List Value} {i:Nat} {x:V},a0N xs us→xs[i]?=some x→∃u,us[i]?=some u∧a0O x u
 | _,_,_,_,.nil,e=>by simp at e
 | _,_,0,_,.cons r _,e=>by simp at e;subst e;exact ⟨_,rfl,r⟩
 | _,_,i+1,x,.cons _ t,e=>by
  obtain ⟨u,h1,h2⟩:=a0N.get (i:=i) (x:=x) t (by simpa using e)
  exact ⟨u,by simpa using h1,h2⟩
theorem a0N.append:∀{xs ys:List V} {us ws:List Value},a0N xs us→a0N ys ws→a0N (xs++ys) (us++ws)
 | _,_,_,_,.nil,s=>s
 | _,_,_,_,.cons r t,s=>.cons r (a0N.append t s)
theorem a0N.take:∀{xs:List V} {us:List Value} (n:Nat),a0N xs us→a0N (xs.take n) (us.take n)
 | _,_,0,_=>.nil
 | _,_,_+1,.nil=>.nil
 | _,_,n+1,.cons r t=>.cons r (a0N.take n t)
theorem a0N.drop:∀{xs:List V} {us:List Value} (n:Nat),a0N xs us→a0N (xs.drop n) (us.drop n)
 | _,_,0,r=>r
 | _,_,_+1,.nil=>.nil
 | _,_,n+1,.cons _ t=>a0N.drop n t
def a4k:Option V→Option Value→Prop
 | some v,some u=>a0O v u
 | none,none=>True
 | _,_=>False
def KV {κ:Type}:List (κ×V)→List (κ×Value)→Prop:=Paired fun (p:κ×V) (q:κ×Value)=>p.1=q.1∧a0O p.2 q.2
def kV:Key→V
 | .inl i=>.int i
 | .inr x=>.str x
inductive HO where
 | lst (xs:List V)
 | tup (xs:List V)
 | dK (kvs:List (Key×V)) | dT (kvs:List (List Key×V))
 | set (S:Int→Bool) (n:Nat)
 | ins (C dx:Addr) (fs:List (Str×V))
 | own (x:Addr)
 | xd (fs:List (Str×V))
 | met (f x:Addr)
 | rng (lo hi:Int)
 | frz (o:Obj) (u:HO)
 | tbl (ps:Array Value)
 | ext (φ:Heap→Prop)
abbrev Hp:=Addr→Option HO
def upd (H:Hp) (a:Addr) (o:HO):Hp:=fun b=>if b=a then some o else H b
theorem a0d {H:Hp} {a:Addr} {o:HO}:upd H a o a=some o:=by unfold upd;rw [if_pos rfl]
theorem a0a {H:Hp} {a b:Addr} {o:HO} (h:b≠a):upd H a o b=H b:=by unfold upd;rw [if_neg h]
theorem b6y {H:Hp} {a:Addr} {o u:HO}:upd (upd H a o) a u=upd H a u:=by
 funext b;unfold upd;split<;>rfl
theorem a0E {H:Hp} {a b:Addr} {o u:HO} (h:H a=some o) (h':H b=some u) (d:o≠u):a≠b:=by
 intro e;subst e;rw [h] at h';exact d (Option.some.inj h')
theorem a0c {H:Hp} {a b:Addr} {o:HO} (h:H a=some o) (h':H b=none):a≠b:=by
 intro e;subst e;rw [h] at h';cases h'
section
variable (P:Program) (w:World)
def a1h (H:Hp) (h:Heap) (a:Addr):HO→Prop
 | .lst xs=>xs.length≤sizeLine∧∃(its:List Value) (n:Nat),a0N xs its∧h.get? a=some {cls:=.type "list",data:=.seq its.toArray n}
 | .tup xs=>xs.length≤sizeLine∧∃its:List Value,a0N xs its∧IsTup h a its.toArray
 | .dK kvs=>kvs.length≤sizeLine∧(a == sysModules)=false∧∃vs,KV kvs vs∧h.DictOf (a0s P w) a vs
 | .dT kvs=>kvs.length≤sizeLine∧(a == sysModules)=false∧∃xs:List (List Key×Addr×Value),
   Paired (fun (p:List Key×V) (q:List Key×Addr×Value)=>p.1=q.1∧H q.2.1=some (.tup (p.1.map kV))∧a0O p.2 q.2.2) kvs xs∧
   ∃o es ep,h.get? a=some o∧o.ExactDict∧o.data=.dict es ep∧es.toList=xs.map (entryOfKey (tupleKind (a0s P w)))∧(xs.map (·.1)).Nodup
 | .set S n=>h.SetOf (intKind P w) a S n
 | .ins C dx fs=>H dx=some (.own a)∧fs.length≤1000∧dx≠a∧h.get? a=some (Zg C dx)∧
   ∃mA,h.Ns1 dx mA∧(∀f,a4k (fs.lookup f) (mA f))∧PySem.Within mA (fs.map (·.1))
 | .own _=>∃o,h.get? a=some o
 | .xd fs=>∃mA,h.Ns1 a mA∧∀f,a4k (fs.lookup f) (mA f)
 | .rng lo hi=>∃t u v,h.get? a=some {cls:=.type "range",data:=.fields #[.int lo t,.int hi u,.int 1 v]}
 | .frz o u=>h.get? a=some o∧a1h H h a u
 | .tbl ps=>h.get? a=some {cls:=.none,data:=.fields ps}
 | .met f x=>h.get? a=some (Vc (.ref f) (.ref x))
 | .ext φ=>φ h∧(∃o,h.get? a=some o)∧∀h1 h2:Heap,φ h1→(∀o,h1.get? a=some o→h2.get? a=some o)→φ h2
def HOk (H:Hp) (h:Heap):Prop:=∀a o,H a=some o→a1h P w H h a o
end
section
variable {P:Program} {w:World} {H H':Hp} {h h':Heap} {a:Addr} {o:HO}
theorem a1h.lt (x:a1h P w H h a o):a < h.objs.size:=by
 cases o with
 | lst xs=>obtain ⟨_,_,_,_,e⟩:=x;exact Qw e
 | tup xs=>obtain ⟨_,_,_,p⟩:=x;exact p.lt
 | dK kvs=>obtain ⟨_,_,_,_,o,_,_,e,_⟩:=x;exact Qw e
 | dT kvs=>obtain ⟨_,_,_,_,o,_,_,e,_⟩:=x;exact Qw e
 | set S n=>obtain ⟨o,_,_,_,e,_⟩:=x;exact Qw e
 | ins C dx fs=>obtain ⟨_,_,_,e,_⟩:=x;exact Qw e
 | own y=>obtain ⟨_,e⟩:=x;exact Qw e
 | xd fs=>obtain ⟨_,⟨_,_,_,e,_⟩,_⟩:=x;exact Qw e
 | rng lo hi=>obtain ⟨_,_,_,e⟩:=x;exact Qw e
 | frz ob u=>obtain ⟨e,_⟩:=x;exact Qw e
 | tbl ps=>exact Qw (show h.get? a=some _ from x)
 | met f y=>exact Qw (show h.get? a=some _ from x)
 | ext φ=>obtain ⟨_,⟨_,e⟩,_⟩:=x;exact Qw e
theorem Paired.mapP {α β:Type} {F G:α→β→Prop}:∀{l₁:List α} {l₂:List β},Paired F l₁ l₂→(∀a b,F a b→G a b)→Paired G l₁ l₂
 | _,_,.nil,_=>.nil
 | _,_,.cons r t,f=>.cons (f _ _ r) (Paired.mapP t f)
theorem a1h.stay (x:a1h P w H h a o) (k:∀b u,(b=a∨H b=some (.own a))→h.get? b=some u→h'.get? b=some u)
  (ho:∀b,H b=some (.own a)→H' b=some (.own a)) (ht:∀b xs,H b=some (.tup xs)→H' b=some (.tup xs)):a1h P w H' h' a o:=by
 induction o with
 | lst xs=>obtain ⟨z,its,n,r,e⟩:=x;exact ⟨z,its,n,r,k _ _ (.inl rfl) e⟩
 | tup xs=>obtain ⟨z,its,r,ob,e,c⟩:=x;exact ⟨z,its,r,ob,k _ _ (.inl rfl) e,c⟩
 | dK kvs=>obtain ⟨z,y,vs,r,ob,es,ep,e,c⟩:=x;exact ⟨z,y,vs,r,ob,es,ep,k _ _ (.inl rfl) e,c⟩
 | dT kvs=>
  obtain ⟨z,y,xs,r,ob,es,ep,e,c⟩:=x
  exact ⟨z,y,xs,Paired.mapP r fun p q z=>⟨z.1,ht _ _ z.2.1,z.2.2⟩,ob,es,ep,k _ _ (.inl rfl) e,c⟩
 | set S n=>obtain ⟨ob,es,ep,t,e,c⟩:=x;exact ⟨ob,es,ep,t,k _ _ (.inl rfl) e,c⟩
 | ins C dx fs=>
  obtain ⟨d,z,ne,e,mA,⟨od,es,ep,e2,c⟩,r⟩:=x
  exact ⟨ho _ d,z,ne,k _ _ (.inl rfl) e,mA,⟨od,es,ep,k _ _ (.inr d) e2,c⟩,r⟩
 | own y=>obtain ⟨ob,e⟩:=x;exact ⟨ob,k _ _ (.inl rfl) e⟩
 | xd fs=>obtain ⟨mA,⟨od,es,ep,e,c⟩,r⟩:=x;exact ⟨mA,⟨od,es,ep,k _ _ (.inl rfl) e,c⟩,r⟩
 | rng lo hi=>obtain ⟨t,u,v,e⟩:=x;exact ⟨t,u,v,k _ _ (.inl rfl) e⟩
 | frz ob u ih=>obtain ⟨e,q⟩:=x;exact ⟨k _ _ (.inl rfl) e,ih q⟩
 | tbl ps=>
  have e:h.get? a=some {cls:=.none,data:=.fields ps}:=x
  show h'.get? a=some {cls:=.none,data:=.fields ps}
  exact k a _ (.inl rfl) e
 | met f y=>
  have e:h.get? a=some (Vc (.ref f) (.ref y)):=x
  show h'.get? a=some (Vc (.ref f) (.ref y))
  exact k a _ (.inl rfl) e
 | ext φ=>obtain ⟨p,⟨o,e⟩,st⟩:=x;exact ⟨st _ _ p fun o q=>k _ _ (.inl rfl) q,⟨o,k _ _ (.inl rfl) e⟩,st⟩
theorem HOk.lt (x:HOk P w H h) (e:H a=some o):a < h.objs.size:=(x a o e).lt
theorem HOk.fresh (x:HOk P w H h) (e:h.objs.size≤a):H a=none:=by
 cases q:H a with
 | none=>rfl
 | some u=>exact absurd (Xb (x.lt q) e) (Zl _)
theorem HOk.kept (x:HOk P w H h) (k:∀b u,h.get? b=some u→h'.get? b=some u):HOk P w H h':=fun a o e=>
 (x a o e).stay (fun b u _ q=>k b u q) (fun _ q=>q) fun _ _ q=>q
theorem HOk.laid (x:HOk P w H h) (k:∀b u,h.get? b=some u→h'.get? b=some u) (hp:h.objs.size≤a) (new:a1h P w (upd H a o) h' a o):HOk P w (upd H a o) h':=fun b u e=>by
 have hn:=x.fresh hp
 by_cases hb:b=a
 ·subst hb;rw [a0d] at e;cases e;exact new
 ·rw [a0a hb] at e
  exact (x b u e).stay (fun c v _ q=>k c v q) (fun c q=>by rw [a0a (a0c q hn)];exact q) fun c xs q=>by rw [a0a (a0c q hn)];exact q
end
def Rd (H:Hp) (a:Addr) (u:HO):Prop:=H a=some u∨∃o,H a=some (.frz o u)
theorem Rd.of {H:Hp} {a:Addr} {u:HO} (h:H a=some u):Rd H a u:=.inl h
theorem Rd.ok {P:Program} {w:World} {H:Hp} {h:Heap} {a:Addr} {u:HO} (r:Rd H a u) (x:HOk P w H h):a1h P w H h a u:=by
 rcases r with r | ⟨o,r⟩
 ·exact x a u r
 ·obtain ⟨_,q⟩:=x a _ r
  exact q
def Mut:Option HO→Prop
 | some (.lst _)=>True
 | some (.dK _)=>True
 | some (.dT _)=>True
 | some (.set _ _)=>True
 | some (.ins _ _ _)=>True
 | some (.ext _)=>True
 | _=>False
section
variable {P:Program} {w:World} {H:Hp} {h h':Heap} {x e:Addr} {o':HO}
theorem HOk.write (ok:HOk P w H h) (mu:Mut (H x)) (he:e=x∨H e=some (.own x)) (k:∀b u,b≠e→h.get? b=some u→h'.get? b=some u) (heo:∃u,h'.get? e=some u)
  (new:a1h P w (upd H x o') h' x o'):HOk P w (upd H x o') h':=fun b u q=>by
 have nown:∀c y,H c=some (.own y)→c≠x:=fun c y r z=>by subst z;rw [r] at mu;exact mu
 have ntup:∀c xs,H c=some (.tup xs)→c≠x:=fun c xs r z=>by subst z;rw [r] at mu;exact mu
 by_cases hb:b=x
 ·subst hb;rw [a0d] at q;cases q;exact new
 ·rw [a0a hb] at q
  by_cases hbe:b=e
  ·have q':H b=some (.own x):=by
    rcases he with z | z
    ·exact absurd (hbe.trans z) hb
    ·rw [hbe];exact z
   rw [q] at q';cases q'
   obtain ⟨v,hv⟩:=heo
   exact ⟨v,by rw [hbe];exact hv⟩
  ·refine (ok b u q).stay (fun c v hc r=>k c v ?_ r) (fun c r=>by rw [a0a (nown c b r)];exact r) fun c xs r=>by rw [a0a (ntup c xs r)];exact r
   rcases hc with rfl | hc
   ·exact hbe
   ·rintro rfl
    rcases he with z | z
    ·exact nown c b hc z
    ·rw [hc] at z;cases z;exact hb rfl
end
structure Un (fs ex:List Addr) (H H':Hp) (h h':Heap):Prop where
 keep:∀b o,h.get? b=some o→H b=none→b∉fs→b∉ex→h'.get? b=some o
 slot:∀b o,h.get? b=some o→H b=none→b∈fs→b∉ex→∃sl,h'.get? b=some {o with slots:=sl}
 free:∀b o,h.get? b=some o→H b=none→b∉ex→H' b=none
 there:∀b o,h.get? b=some o→b∉ex→∃o',h'.get? b=some o'
 tups:∀b xs,H b=some (.tup xs)→H' b=some (.tup xs)
 frzs:∀b o u,H b=some (.frz o u)→H' b=some (.frz o u)
 tbls:∀b ps,H b=some (.tbl ps)→∃more,H' b=some (.tbl (ps++more))
section
variable {fs fs' ex ex':List Addr} {H H1 H2:Hp} {h h1 h2 h':Heap} {a x e:Addr} {o:HO}
theorem Un.any (u:Un fs ex H H1 h h1) {b:Addr} {ob:Obj} (q:h.get? b=some ob) (n:H b=none) (hx:b∉ex):∃sl,h1.get? b=some {ob with slots:=sl}:=by
 by_cases hb:b∈fs
 ·exact u.slot b ob q n hb hx
 ·exact ⟨ob.slots,u.keep b ob q n hb hx⟩
theorem Un.trans (a:Un fs ex H H1 h h1) (b:Un fs ex H1 H2 h1 h2):Un fs ex H H2 h h2 where
 keep:=fun c ob q n hc hx=>b.keep c ob (a.keep c ob q n hc hx) (a.free c ob q n hx) hc hx
 slot:=fun c ob q n hc hx=>by
  obtain ⟨sl,e1⟩:=a.slot c ob q n hc hx
  obtain ⟨sl',e2⟩:=b.slot c _ e1 (a.free c ob q n hx) hc hx
  exact ⟨sl',e2⟩
 free:=fun c ob q n hx=>by
  obtain ⟨o',e1⟩:=a.there c ob q hx
  exact b.free c o' e1 (a.free c ob q n hx) hx
 there:=fun c ob q hx=>by
  obtain ⟨o',e1⟩:=a.there c ob q hx
  exact b.there c o' e1 hx
 tups:=fun c xs q=>b.tups c xs (a.tups c xs q)
 frzs:=fun c ob xs q=>b.frzs c ob xs (a.frzs c ob xs q)
 tbls:=fun c ps q=>by
  obtain ⟨m1,e1⟩:=a.tbls c ps q
  obtain ⟨m2,e2⟩:=b.tbls c _ e1
  exact ⟨m1++m2,by rw [e2,Wx]⟩
theorem Un.kept (k:∀b u,h.get? b=some u→h'.get? b=some u):Un fs ex H H h h':=
 ⟨fun b ob q _ _ _=>k b ob q,fun b ob q _ _ _=>⟨ob.slots,k b ob q⟩,fun _ _ _ n _=>n,fun b ob q _=>⟨ob,k b ob q⟩,fun _ _ q=>q,fun _ _ _ q=>q,fun _ ps q=>⟨#[],by rw [q];simp⟩⟩
theorem Un.refl:Un fs ex H H h h:=Un.kept fun _ _ q=>q
theorem Un.laid (k:∀b u,h.get? b=some u→h'.get? b=some u) (hp:h.objs.size≤a) (hn:H a=none):Un fs ex H (upd H a o) h h' where
 keep:=fun b u q _ _ _=>k b u q
 slot:=fun b u q _ _ _=>⟨u.slots,k b u q⟩
 free:=fun b u q n _=>by rw [a0a (Xh (Xb (Qw q) hp))];exact n
 there:=fun b u q _=>⟨u,k b u q⟩
 tups:=fun b xs q=>by rw [a0a (a0c q hn)];exact q
 frzs:=fun b u xs q=>by rw [a0a (a0c q hn)];exact q
 tbls:=fun b ps q=>⟨#[],by rw [a0a (a0c q hn),q];simp⟩
theorem Un.write (mu:Mut (H x)) (he:e=x∨H e=some (.own x)) (k:∀b u,b≠e→h.get? b=some u→h'.get? b=some u) (heo:∃u,h'.get? e=some u):Un fs ex H (upd H x o) h h':=by
 have hx:∀b,H b=none→b≠x:=fun b n z=>by subst z;rw [n] at mu;exact mu
 have hb:∀b,H b=none→b≠e:=fun b n z=>by
  subst z
  rcases he with r | r
  ·exact hx b n r
  ·rw [n] at r;cases r
 have hm:∀b u,H b=some u→¬Mut (some u)→b≠x:=fun b u q nm z=>by subst z;rw [q] at mu;exact nm mu
 refine ⟨fun b u q n _ _=>k b u (hb b n) q,fun b u q n _ _=>⟨u.slots,k b u (hb b n) q⟩,fun b u q n _=>by rw [a0a (hx b n)];exact n,fun b u q _=>?_,
  fun b xs q=>by rw [a0a (hm b _ q fun z=>z)];exact q,fun b u xs q=>by rw [a0a (hm b _ q fun z=>z)];exact q,fun b ps q=>⟨#[],by rw [a0a (hm b _ q fun z=>z),q];simp⟩⟩
 by_cases hbe:b=e
 ·subst hbe;exact heo
 ·exact ⟨u,k b u hbe q⟩
end
def trk (h:Heap) (H:Hp):List Addr:=(Xs h.objs.size).filter fun a=>(H a).isSome
def b2d (h:Heap) (H:Hp):Heap:=PySem.W.hideAll h (trk h H)
theorem a9f (h:Heap) (H:Hp):(b2d h H).objs.size=h.objs.size:=PySem.W.hideAll_size _ _
theorem b2O {h:Heap} {H:Hp} {b:Addr} {o:Obj} (e:h.get? b=some o) (n:H b=none):(b2d h H).get? b=some o:=
 PySem.W.hideAll_get _ e fun hm=>by
  have q:(H b).isSome=true:=(Qq.mp hm).2
  rw [n] at q;simp at q
theorem b4S {h:Heap} {H:Hp} {b:Addr} {o:Obj} (e:(b2d h H).get? b=some o):h.get? b=some o∧H b=none:=by
 have e':h.get? b=some o:=PySem.W.of_hideAll (trk h H) e
 refine ⟨e',?_⟩
 cases q:H b with
 | none=>rfl
 | some x=>
  have hm:b∈trk h H:=Qq.mpr ⟨Zz.mpr (Qw e'),by simp [q]⟩
  have z:(b2d h H).get? b=none:=PySem.W.hideAll_none (trk h H) hm
  rw [z] at e;cases e
def b5L (g h:Heap) (L:Addr):List (Addr×Obj):=(Xs h.objs.size).filterMap fun a=>if a=L∨(g.get? a).isSome=true then none else (h.get? a).map fun o=>(a,o)
def a5Y (g h:Heap) (L d:Addr):List (Addr×Obj):=(b5L g h L).filter fun p=>decide (p.1≠d)
end L2
namespace L2
open PySem PySem.Spec PyProof.Rows
structure Mod (K:Qd) (mg:Str→Option Value) (base:Heap):Prop where
 kin:K.In base
 glob:base.Ns mainGlobals mg
 blt:∃mb,base.Ns builtinsNs mb∧∀x:Str,x≠"__name__"→mb x=bootBuiltins x
 nolimit:base.NoLimit
structure Cx where
 prog:Program
 w:World
 K:Qd
 mg:Str→Option Value
 base:Heap
 A:Around
 N:List Str
 s₀:Shared
 H₀:Hp
 env:Env
 outer:List Env
 stack:List Env
 ex:List Addr
 fn:Str→Bool
 calm:Bool
 pn:List (Addr×Obj)
 xe:Value→Shared→Prop
def frs (l:List Env):List Addr:=l.filterMap (·.frame)
abbrev Cx.fs (X:Cx):List Addr:=frs X.outer
def Vis (sc:Scope) (x:Str):Prop:=sc.names.lookup x=some .local∨sc.names.lookup x=some .cell∨sc.names.lookup x=some .free
def Loc (sc:Scope) (x:Str):Prop:=sc.names.lookup x=some .local∨sc.names.lookup x=some .cell
def c7q (env:Env) (h:Heap) (m:Str→Option Value) (x:Str) (u:Value):Prop:=
 (env.kindOf x=some .local∧m x=some u)∨((env.kindOf x=some .cell∨env.kindOf x=some .free)∧∃c,env.cells.lookup x=some c∧h.IsCell c (some u))
structure Cx.Ok (X:Cx):Prop where
 mod:Mod X.K X.mg X.base
 kind:X.env.scope.kind=.function
 glob:X.env.globals=mainGlobals
 blt:X.env.builtins=builtinsNs
 above:X.s₀.heap.objs.size≤X.env.locals
 inj:∀x y c,X.env.cells.lookup x=some c→X.env.cells.lookup y=some c→x=y
 has:∀x,(X.env.kindOf x=some .cell∨X.env.kindOf x=some .free)→∃c,X.env.cells.lookup x=some c
 cab:∀x c,X.fn x=true→X.env.cells.lookup x=some c→X.s₀.heap.objs.size≤c
 hd:X.calm=true→X.A.handled=none
 frames:X.A.frames=some X.stack
 stk:X.stack=X.outer∨(X.stack=X.env::X.outer∧X.env.frame=some X.env.locals)
 exf:∀b∈X.ex,b≠X.env.locals∧∀x c,X.env.cells.lookup x=some c→c≠b
 bs:∀b o,X.base.get? b=some o→X.s₀.heap.get? b=some o∧X.H₀ b=none
 bsz:X.base.objs.size≤X.s₀.heap.objs.size
 noex:∀b o,X.base.get? b=some o→b∉X.ex
 exfs:∀b∈X.ex,b∉X.fs
 funs:X.s₀.heap.FunFrames X.base X.outer
 frf:∀b∈X.fs,X.H₀ b=none
structure Inv (X:Cx) (pins:List (Addr×Obj)) (σ:List (Option V)) (H:Hp) (s:Shared):Prop where
 ok:X.Ok
 os:s.os=X.s₀.os
 bare:AllBare s.gens
 base:Un X.fs X.ex X.H₀ H X.s₀.heap s.heap
 loc:∃m,s.heap.Ns X.env.locals m∧∀(i:Nat) (x:Str) (v:V),X.N[i]?=some x→σ[i]?=some (some v)→Vis X.env.scope x→∃u,a0O v u∧c7q X.env s.heap m x u
 cell:∀x c,X.env.cells.lookup x=some c→∃v,s.heap.IsCell c v
 free:H X.env.locals=none
 freeC:∀x c,X.env.cells.lookup x=some c→H c=none
 pin:∀p∈X.pn++pins,s.heap.get? p.1=some p.2∧H p.1=none∧p.1≠X.env.locals∧p.1∉X.fs∧∀v,p.2.data≠.cell v
 hok:HOk X.prog X.w H s.heap
 len:σ.length=X.N.length
section
variable {X:Cx} {pins:List (Addr×Obj)} {σ:List (Option V)} {H H':Hp} {s:Shared} {h':Heap}
theorem Cx.Ok.nofr (ok:X.Ok) {b:Addr} {o:Obj} (e:X.base.get? b=some o):b∉X.fs:=fun hb=>by
 have:=(ok.funs.mem hb).1
 rw [e] at this;cases this
theorem Inv.bs (I:Inv X pins σ H s):∀b o,X.base.get? b=some o→s.heap.get? b=some o∧H b=none:=fun b o e=>
 ⟨I.base.keep b o (I.ok.bs b o e).1 (I.ok.bs b o e).2 (I.ok.nofr e) (I.ok.noex b o e),I.base.free b o (I.ok.bs b o e).1 (I.ok.bs b o e).2 (I.ok.noex b o e)⟩
theorem Inv.bk (I:Inv X pins σ H s):∀b o,X.base.get? b=some o→s.heap.get? b=some o:=fun b o e=>(I.bs b o e).1
theorem Inv.mod (I:Inv X pins σ H s):Mod X.K X.mg X.base:=I.ok.mod
theorem Inv.kIn (I:Inv X pins σ H s):X.K.In s.heap:=I.ok.mod.kin.keeps I.bk
theorem Inv.nolimit (I:Inv X pins σ H s):s.heap.NoLimit:=I.ok.mod.nolimit.keeps I.bk
theorem Inv.lt (I:Inv X pins σ H s):X.env.locals < s.heap.objs.size:=let ⟨_,hn,_⟩:=I.loc;hn.lt
theorem Inv.sz (I:Inv X pins σ H s):X.s₀.heap.objs.size≤s.heap.objs.size:=Qi I.ok.above (Vl I.lt)
theorem Inv.nofs (I:Inv X pins σ H s) {a:Addr} (h:s.heap.objs.size≤a):a∉X.fs:=fun hb=>by
 obtain ⟨_,o,ho,_⟩:=I.ok.funs.mem hb
 exact absurd (Xb (Qw ho) (Qi I.sz h)) (Zl _)
theorem Inv.cne (I:Inv X pins σ H s):∀x c,X.env.cells.lookup x=some c→c≠X.env.locals:=fun x c e z=>by
 obtain ⟨v,o,ho,hd⟩:=I.cell x c e
 obtain ⟨m,⟨o',es,ep,ho',hd',_⟩,_⟩:=I.loc
 rw [z,ho'] at ho;cases ho;rw [hd'] at hd;cases hd
theorem Inv.funs (I:Inv X pins σ H s):s.heap.FunFrames X.base X.outer:=by
 have all:∀(l:List Env),(∀b∈frs l,b∈X.fs)→X.s₀.heap.FunFrames X.base l→s.heap.FunFrames X.base l:=by
  intro l
  induction l with
  | nil=>intro _ _;trivial
  | cons env r ih=>
   intro hs hl
   obtain ⟨hk,⟨L,o,hf,hn,ho,hd⟩,hr⟩:=hl
   have hL:L∈X.fs:=hs L (by unfold frs;rw [Zm,hf];exact Qs)
   obtain ⟨sl,e⟩:=I.base.slot L o ho (I.ok.frf L hL) hL fun z=>I.ok.exfs L z hL
   exact ⟨hk,⟨L,_,hf,hn,e,hd⟩,ih (fun b hb=>hs b (by unfold frs;rw [Zm,hf];exact Qr _ hb)) hr⟩
 exact all X.outer (fun _ hb=>hb) I.ok.funs
theorem Inv.stack (I:Inv X pins σ H s):s.heap.FunFrames X.base X.stack:=by
 rcases I.ok.stk with e | ⟨e,hf⟩
 ·rw [e];exact I.funs
 ·rw [e]
  obtain ⟨m,hn,_⟩:=I.loc
  refine .cons (by rw [I.ok.kind];decide) hf hn ?_ I.funs
  exact Heap.get?_none_of_le (Qi I.ok.bsz I.ok.above)
theorem Inv.stkSub (I:Inv X pins σ H s):∀b∈frs X.stack,b∈X.env.locals::X.fs:=fun b hb=>by
 rcases I.ok.stk with e | ⟨e,hf⟩
 ·rw [e] at hb;exact Qr _ hb
 ·rw [e] at hb
  unfold frs at hb
  rw [Zm,hf] at hb
  exact hb
theorem Inv.stkFree (I:Inv X pins σ H s):∀b∈frs X.stack,H b=none:=fun b hb=>by
 rcases Qy.mp (I.stkSub b hb) with e | hb
 ·rw [e];exact I.free
 ·obtain ⟨_,o,ho,_⟩:=I.ok.funs.mem hb
  exact I.base.free b o ho (I.ok.frf b hb) fun z=>I.ok.exfs b z hb
theorem Inv.step {g':Array GenState} {t':Nat} {d':Drawn} {ch:List Addr} (I:Inv X pins σ H s)
  (hch:∀b∈ch,(b∈X.ex∨X.s₀.heap.objs.size≤b)∧b≠X.env.locals∧(∀x c,X.env.cells.lookup x=some c→c≠b)∧∀p∈X.pn++pins,p.1≠b)
  (keep:∀b o,b≠X.env.locals→b∉X.fs→b∉ch→s.heap.get? b=some o→H b=none→h'.get? b=some o)
  (slot:∀b o,b≠X.env.locals→b∈X.fs→b∉ch→s.heap.get? b=some o→H b=none→∃sl,h'.get? b=some {o with slots:=sl}) (free:∀b o,b∉ch→s.heap.get? b=some o→H b=none→H' b=none)
  (there:∀b o,b∉ch→s.heap.get? b=some o→∃o',h'.get? b=some o')
  (tups:∀b xs,H b=some (.tup xs)→H' b=some (.tup xs)) (frzs:∀b o u,H b=some (.frz o u)→H' b=some (.frz o u)) (tbls:∀b ps,H b=some (.tbl ps)→∃more,H' b=some (.tbl (ps++more)))
  (ns:∀m,s.heap.Ns X.env.locals m→h'.Ns X.env.locals m) (hok:HOk X.prog X.w H' h') (hg:AllBare g'):
  Inv X pins σ H' {s with heap:=h',gens:=g',drawn:=d',toks:=t'}:=by
 have neL:∀b o,X.s₀.heap.get? b=some o→b≠X.env.locals:=fun b o e=>Xh (Xb (Qw e) I.ok.above)
 have neC:∀b o,X.s₀.heap.get? b=some o→b∉X.ex→b∉ch:=fun b o e hx hb=>by
  rcases (hch b hb).1 with z | z
  ·exact hx z
  ·exact absurd (Xb (Qw e) z) (Zl _)
 have cellK:∀x c,X.env.cells.lookup x=some c→∀v,s.heap.IsCell c v→h'.IsCell c v:=fun x c e v ⟨o,ho,hd⟩=>by
  have nch:c∉ch:=fun z=>(hch c z).2.2.1 x c e rfl
  by_cases hc:c∈X.fs
  ·obtain ⟨sl,q⟩:=slot c o (I.cne x c e) hc nch ho (I.freeC x c e)
   exact ⟨_,q,hd⟩
  ·exact ⟨o,keep c o (I.cne x c e) hc nch ho (I.freeC x c e),hd⟩
 refine ⟨I.ok,I.os,hg,⟨fun b o e n hb hx=>?_,fun b o e n hb hx=>?_,fun b o e n hx=>?_,fun b o e hx=>?_,fun b xs e=>tups b xs (I.base.tups b xs e),fun b o xs e=>frzs b o xs (I.base.frzs b o xs e),fun b ps e=>?_⟩,?_,fun x c e=>?_,?_,fun x c e=>?_,fun p hp=>?_,hok,I.len⟩
 ·exact keep b o (neL b o e) hb (neC b o e hx) (I.base.keep b o e n hb hx) (I.base.free b o e n hx)
 ·obtain ⟨sl,e1⟩:=I.base.slot b o e n hb hx
  obtain ⟨sl',e2⟩:=slot b _ (neL b o e) hb (neC b o e hx) e1 (I.base.free b o e n hx)
  exact ⟨sl',e2⟩
 ·obtain ⟨o',e1⟩:=I.base.there b o e hx
  exact free b o' (neC b o e hx) e1 (I.base.free b o e n hx)
 ·obtain ⟨o',e1⟩:=I.base.there b o e hx
  exact there b o' (neC b o e hx) e1
 ·obtain ⟨m1,e1⟩:=I.base.tbls b ps e
  obtain ⟨m2,e2⟩:=tbls b _ e1
  exact ⟨m1++m2,by rw [e2,Wx]⟩
 ·obtain ⟨m,hn,hl⟩:=I.loc
  refine ⟨m,ns m hn,fun i x v e1 e2 e3=>?_⟩
  obtain ⟨u,r,l⟩:=hl i x v e1 e2 e3
  refine ⟨u,r,?_⟩
  rcases l with l | ⟨k,c,e,z⟩
  ·exact .inl l
  ·exact .inr ⟨k,c,e,cellK x c e _ z⟩
 ·obtain ⟨v,z⟩:=I.cell x c e
  exact ⟨v,cellK x c e v z⟩
 ·obtain ⟨m,⟨o,_,_,ho,_⟩,_⟩:=I.loc
  exact free _ o (fun z=>(hch _ z).2.1 rfl) ho I.free
 ·obtain ⟨v,o,ho,hd⟩:=I.cell x c e
  exact free c o (fun z=>(hch c z).2.2.1 x c e rfl) ho (I.freeC x c e)
 ·obtain ⟨e,n,ne,nf,d⟩:=I.pin p hp
  have nch:p.1∉ch:=fun z=>(hch p.1 z).2.2.2 p hp rfl
  exact ⟨keep p.1 p.2 ne nf nch e n,free p.1 p.2 nch e n,ne,nf,d⟩
theorem Inv.un {t':Nat} (I:Inv X pins σ H s) (u:Un X.fs [] H H' s.heap h') (hok:HOk X.prog X.w H' h'):Inv X pins σ H' {s with heap:=h',toks:=t'}:=by
 obtain ⟨m,⟨o,es,ep,ho,r⟩,_⟩:=id I.loc
 obtain ⟨sl,hL⟩:=u.any ho I.free (by simp)
 exact I.step (g':=s.gens) (d':=s.drawn) (ch:=[]) (fun _ z=>nomatch z) (fun b o _ hb _ e n=>u.keep b o e n hb (by simp)) (fun b o _ hb _ e n=>u.slot b o e n hb (by simp)) (fun b o _ e n=>u.free b o e n (by simp)) (fun b o _ e=>u.there b o e (by simp)) u.tups u.frzs u.tbls (fun m' hm=>by
  obtain ⟨o',es',ep',ho',r'⟩:=hm
  rw [ho] at ho';cases ho'
  exact ⟨_,es',ep',hL,r'⟩) hok I.bare
theorem Inv.call {g':Array GenState} {t':Nat} {d':Drawn} {ch:List Addr} (I:Inv X pins σ H s) (u:Un (frs X.stack) ch H H' s.heap h') (hok:HOk X.prog X.w H' h') (hg:AllBare g')
  (hch:∀b∈ch,(b∈X.ex∨X.s₀.heap.objs.size≤b)∧b≠X.env.locals∧(∀x c,X.env.cells.lookup x=some c→c≠b)∧∀p∈X.pn++pins,p.1≠b):
  Inv X pins σ H' {s with heap:=h',gens:=g',drawn:=d',toks:=t'}:=by
 obtain ⟨m,⟨o,es,ep,ho,r⟩,_⟩:=id I.loc
 obtain ⟨sl,hL⟩:=u.any ho I.free fun z=>(hch _ z).2.1 rfl
 exact I.step (ch:=ch) hch (fun b o hL hb hc e n=>u.keep b o e n (fun z=>(Qy.mp (I.stkSub b z)).elim hL hb) hc) (fun b o _ _ hc e n=>u.any e n hc) (fun b o hc e n=>u.free b o e n hc) (fun b o hc e=>u.there b o e hc) u.tups u.frzs u.tbls (fun m' hm=>by
  obtain ⟨o',es',ep',ho',r'⟩:=hm
  rw [ho] at ho';cases ho'
  exact ⟨_,es',ep',hL,r'⟩) hok hg
theorem Inv.turned {t':Nat} {it:Addr} (I:Inv X pins σ H s) (k:∀b o,b≠it→s.heap.get? b=some o→h'.get? b=some o) (hn:H it=none) (hL:it≠X.env.locals)
  (h1:it∈X.ex∨X.s₀.heap.objs.size≤it) (h2:∀x c,X.env.cells.lookup x=some c→c≠it) (h3:∀p∈X.pn++pins,p.1≠it):Inv X pins σ H {s with heap:=h',toks:=t'}:=by
 have nit:∀b u,H b=some u→b≠it:=fun b u e z=>by rw [z,hn] at e;cases e
 refine I.step (g':=s.gens) (d':=s.drawn) (ch:=[it]) (fun b hb=>?_) (fun b o _ _ hc e _=>k b o (fun z=>hc (by simp [z])) e) (fun b o _ _ hc e _=>⟨o.slots,k b o (fun z=>hc (by simp [z])) e⟩) (fun _ _ _ _ n=>n)
  (fun b o hc e=>⟨o,k b o (fun z=>hc (by simp [z])) e⟩) (fun _ _ e=>e) (fun _ _ _ e=>e) (fun b ps e=>⟨#[],by rw [e];simp⟩) (fun m hm=>?_) (fun b u e=>?_) I.bare
 ·have e:b=it:=by simpa using hb
  subst e
  exact ⟨h1,hL,h2,h3⟩
 ·obtain ⟨o,es,ep,ho,r⟩:=hm
  exact ⟨o,es,ep,k _ o (Ne.symm hL) ho,r⟩
 ·refine (I.hok b u e).stay (fun c v hc q=>k c v ?_ q) (fun _ q=>q) fun _ _ q=>q
  rcases hc with z | z
  ·rw [z];exact nit b u e
  ·exact nit c _ z
theorem Inv.tok (I:Inv X pins σ H s) (t:Nat):Inv X pins σ H {s with toks:=t}:=I.un (h':=s.heap) (t':=t) Un.refl I.hok
theorem Inv.kept {t':Nat} (I:Inv X pins σ H s) (k:∀b u,s.heap.get? b=some u→h'.get? b=some u):Inv X pins σ H {s with heap:=h',toks:=t'}:=I.un (Un.kept k) (I.hok.kept k)
theorem Inv.laid {a:Addr} {o:HO} {t':Nat} (I:Inv X pins σ H s) (k:∀b u,s.heap.get? b=some u→h'.get? b=some u) (hp:s.heap.objs.size≤a) (new:a1h X.prog X.w (upd H a o) h' a o):
  Inv X pins σ (upd H a o) {s with heap:=h',toks:=t'}:=I.un (Un.laid k hp (I.hok.fresh hp)) (I.hok.laid k hp new)
theorem Inv.write {x e:Addr} {o:HO} {t':Nat} (I:Inv X pins σ H s) (mu:Mut (H x)) (he:e=x∨H e=some (.own x)) (k:∀b u,b≠e→s.heap.get? b=some u→h'.get? b=some u) (heo:∃u,h'.get? e=some u)
  (new:a1h X.prog X.w (upd H x o) h' x o):Inv X pins σ (upd H x o) {s with heap:=h',toks:=t'}:=I.un (Un.write mu he k heo) (I.hok.write mu he k heo new)
theorem Inv.pins_of {pins':List (Addr×Obj)} (I:Inv X pins σ H s) (h:∀p∈pins',s.heap.get? p.1=some p.2∧H p.1=none∧p.1≠X.env.locals∧p.1∉X.fs∧∀v,p.2.data≠.cell v):Inv X pins' σ H s:=
 ⟨I.ok,I.os,I.bare,I.base,I.loc,I.cell,I.free,I.freeC,fun p hp=>(Xa.mp hp).elim (fun z=>I.pin p (Xx _ z)) (h p),I.hok,I.len⟩
theorem a7I {N:List Str} (hN:N.Nodup) {i j:Nat} {x:Str} (a:N[i]?=some x) (b:N[j]?=some x):i=j:=by
 obtain ⟨h1,e1⟩:=Qp.mp a
 obtain ⟨h2,e2⟩:=Qp.mp b
 exact (Jn hN).mp (e1.trans e2.symm)
theorem a5I {M:Model} {A:Around} {E:Value→Shared→Prop} {i:Nat} {x:Str} {v:V} {u:Value} {Q:Unit→Shared→Prop} (I:Inv X pins σ H s) (hN:X.N.Nodup) (hi:X.N[i]?=some x) (hx:Loc X.env.scope x) (r:a0O v u)
  (h:∀s',Inv X pins (σ.set i (some v)) H s'→(∃a,Vm a s.heap s'.heap∧(a=X.env.locals∨X.env.cells.lookup x=some a))→Q () s') (hf:X.fn x=true∨X.env.scope.names.lookup x=some .local:=by first | exact .inl rfl | exact .inr rfl | assumption):wpAny M A (storeName X.env x u) Q E s:=by
 obtain ⟨m,hn,hl⟩:=id I.loc
 have hcls:(X.env.scope.kind == .class || (X.env.scope.kind == .module && X.env.locals != X.env.globals))=false:=by rw [I.ok.kind];rfl
 have hiσ:i < σ.length:=by rw [I.len];exact (Qp.mp hi).1
 have cne:=I.cne
 have tracked:∀{a:Addr} {h':Heap},(∃o,s.heap.get? a=some o∧H a=none)→Vm a s.heap h'→HOk X.prog X.w H h':=fun {a h'} ha hs b ob e=>by
  obtain ⟨_,_,hfree⟩:=ha
  refine (I.hok b ob e).stay (fun c w' hc q=>(hs.2 c ?_).trans q) (fun _ q=>q) fun _ _ q=>q
  rintro rfl
  rcases hc with rfl | hc
  ·rw [hfree] at e;cases e
  ·rw [hfree] at hc;cases hc
 rcases hx with hk | hk
 ·refine wpAny_storeName_local hk hn (fun h' hn' hs=>?_) hcls
  obtain ⟨oL,_,_,hoL,_⟩:=id hn
  refine h _ ⟨I.ok,I.os,I.bare,⟨fun b o e n hb hx=>?_,fun b o e n hb hx=>?_,I.base.free,fun b o e hx=>?_,I.base.tups,I.base.frzs,I.base.tbls⟩,⟨_,hn',fun j y v' e1 e2 e3=>?_⟩,fun y c e=>?_,I.free,I.freeC,fun p hp=>?_,tracked ⟨oL,hoL,I.free⟩ hs,by simpa using I.len⟩ ⟨_,hs,.inl rfl⟩
  ·exact (hs.2 b (Xh (Xb (Qw e) I.ok.above))).trans (I.base.keep b o e n hb hx)
  ·obtain ⟨sl,e1⟩:=I.base.slot b o e n hb hx
   exact ⟨sl,(hs.2 b (Xh (Xb (Qw e) I.ok.above))).trans e1⟩
  ·obtain ⟨o',e1⟩:=I.base.there b o e hx
   exact ⟨o',(hs.2 b (Xh (Xb (Qw e) I.ok.above))).trans e1⟩
  ·by_cases hj:j=i
   ·subst hj
    rw [hi] at e1;cases e1
    rw [We hiσ] at e2
    cases e2
    exact ⟨u,r,.inl ⟨hk,by simp⟩⟩
   ·rw [Wo (Ne.symm hj)] at e2
    obtain ⟨u',r',q⟩:=hl j y v' e1 e2 e3
    refine ⟨u',r',?_⟩
    rcases q with ⟨k,e⟩ | ⟨k,c,e,z⟩
    ·refine .inl ⟨k,?_⟩
     have:y≠x:=fun e=>hj (a7I hN e1 (e ▸ hi))
     simp [this,e]
    ·exact .inr ⟨k,c,e,z.sameBut hs (cne y c e)⟩
  ·obtain ⟨w',z⟩:=I.cell y c e
   exact ⟨w',z.sameBut hs (cne y c e)⟩
  ·obtain ⟨e,n,ne,nf,d⟩:=I.pin p hp
   exact ⟨(hs.2 p.1 ne).trans e,n,ne,nf,d⟩
 ·have hfn:X.fn x=true:=by
   rcases hf with z | z
   ·exact z
   ·rw [z] at hk;cases hk
  obtain ⟨c,hc⟩:=I.ok.has x (.inl hk)
  obtain ⟨w',z⟩:=I.cell x c hc
  refine wpAny_storeName_cell I.ok.kind hk hc z (fun h' hc' hs=>?_)
  obtain ⟨oc,hoc,hocd⟩:=id z
  refine h {s with heap:=h'} ⟨I.ok,I.os,I.bare,⟨fun b o e n hb hx=>?_,fun b o e n hb hx=>?_,I.base.free,fun b o e hx=>?_,I.base.tups,I.base.frzs,I.base.tbls⟩,⟨m,hn.sameBut hs (Ne.symm (cne x c hc)),fun j y v' e1 e2 e3=>?_⟩,fun y c' e=>?_,I.free,I.freeC,fun p hp=>?_,tracked ⟨oc,hoc,I.freeC x c hc⟩ hs,by simpa using I.len⟩ ⟨c,hs,.inr hc⟩
  ·exact (hs.2 b (Xh (Xb (Qw e) (I.ok.cab x c hfn hc)))).trans (I.base.keep b o e n hb hx)
  ·obtain ⟨sl,e1⟩:=I.base.slot b o e n hb hx
   exact ⟨sl,(hs.2 b (Xh (Xb (Qw e) (I.ok.cab x c hfn hc)))).trans e1⟩
  ·obtain ⟨o',e1⟩:=I.base.there b o e hx
   exact ⟨o',(hs.2 b (Xh (Xb (Qw e) (I.ok.cab x c hfn hc)))).trans e1⟩
  ·by_cases hj:j=i
   ·subst hj
    rw [hi] at e1;cases e1
    rw [We hiσ] at e2
    cases e2
    exact ⟨u,r,.inr ⟨.inl hk,c,hc,hc'⟩⟩
   ·rw [Wo (Ne.symm hj)] at e2
    obtain ⟨u',r',q⟩:=hl j y v' e1 e2 e3
    refine ⟨u',r',?_⟩
    rcases q with q | ⟨k,c',e,z'⟩
    ·exact .inl q
    ·refine .inr ⟨k,c',e,z'.sameBut hs ?_⟩
     rintro rfl
     exact hj (a7I hN e1 (I.ok.inj _ _ _ e hc ▸ hi))
  ·by_cases hcc:c'=c
   ·subst hcc;exact ⟨_,hc'⟩
   ·obtain ⟨w2,z2⟩:=I.cell y c' e
    exact ⟨w2,z2.sameBut hs hcc⟩
  ·obtain ⟨e,n,ne,nf,d⟩:=I.pin p hp
   refine ⟨(hs.2 p.1 ?_).trans e,n,ne,nf,d⟩
   intro q
   rw [q,hoc] at e
   have q':oc=p.2:=Option.some.inj e
   exact d w' (by rw [←q'];exact hocd)
theorem a7z {M:Model} {A:Around} {E:Value→Shared→Prop} {i:Nat} {x:Str} {v:V} {u:Value} {Q:Unit→Shared→Prop} (I:Inv X pins σ H s) (hN:X.N.Nodup) (hi:X.N[i]?=some x) (hx:Loc X.env.scope x) (r:a0O v u)
  (h:∀s',Inv X pins (σ.set i (some v)) H s'→Q () s') (hf:X.fn x=true∨X.env.scope.names.lookup x=some .local:=by first | exact .inl rfl | exact .inr rfl | assumption):wpAny M A (storeName X.env x u) Q E s:=
 a5I I hN hi hx r (fun s' I' _=>h s' I') hf
theorem Inv.call' {s':Shared} {ch:List Addr} (I:Inv X pins σ H s) (ho:s'.os=s.os) (u:Un (frs X.stack) ch H H' s.heap s'.heap) (hok:HOk X.prog X.w H' s'.heap) (hg:AllBare s'.gens)
  (hch:∀b∈ch,(b∈X.ex∨X.s₀.heap.objs.size≤b)∧b≠X.env.locals∧(∀x c,X.env.cells.lookup x=some c→c≠b)∧∀p∈X.pn++pins,p.1≠b):Inv X pins σ H' s':=by
 obtain ⟨h',g',d',t',o'⟩:=s'
 have e:o'=s.os:=ho
 subst e
 exact I.call (g':=g') (t':=t') (d':=d') u hok hg hch
end
abbrev XK:=Value→Option Addr→Hp→Prop
abbrev St:=List (Option V)
abbrev VK:=V→Hp→Prop
abbrev TE:=St→Hp→VK→Prop
abbrev TT:=St→Hp→(Bool→Hp→Prop)→Prop
abbrev TA:=St→Hp→(List V→Hp→Prop)→Prop
structure a8b where
 nx:St→Hp→Prop
 rt:VK
 bk:St→Hp→Prop:=fun _ _=>False
 ct:St→Hp→Prop:=fun _ _=>False
abbrev TS:=a8b→St→Hp→Prop
def EP (X:Cx) (pins:List (Addr×Obj)) (σ:St) (Q:VK) (u:Value) (s':Shared):Prop:=∃v H',Inv X pins σ H' s'∧a0O v u∧Q v H'
def TP (X:Cx) (pins:List (Addr×Obj)) (σ:St) (Q:Bool→Hp→Prop) (b:Bool) (s':Shared):Prop:=∃H',Inv X pins σ H' s'∧Q b H'
def AP (X:Cx) (pins:List (Addr×Obj)) (σ:St) (Q:List V→Hp→Prop) (us:List Value) (s':Shared):Prop:=∃vs H',Inv X pins σ H' s'∧a0N vs us∧Q vs H'
def SP (X:Cx) (pins:List (Addr×Obj)) (D:a8b) (f:Flow) (s':Shared):Prop:=
 match f with
 | .next=>∃σ' H',Inv X pins σ' H' s'∧D.nx σ' H'
 | .brk=>∃σ' H',Inv X pins σ' H' s'∧D.bk σ' H'
 | .cont=>∃σ' H',Inv X pins σ' H' s'∧D.ct σ' H'
 | .ret u=>∃v σ' H',Inv X pins σ' H' s'∧a0O v u∧D.rt v H'
def PE (X:Cx) (e:Expr) (t:TE):Prop:=
 ∀(pins:List (Addr×Obj)) (s:Shared) (σ:St) (H:Hp) (Q:VK),Inv X pins σ H s→t σ H Q→wpAny (model X.prog X.w) X.A (eval e X.env) (EP X pins σ Q) X.xe s
def PT (X:Cx) (e:Expr) (t:TT):Prop:=
 ∀(pins:List (Addr×Obj)) (s:Shared) (σ:St) (H:Hp) (Q:Bool→Hp→Prop),Inv X pins σ H s→t σ H Q→wpAny (model X.prog X.w) X.A (isTrue e X.env (eval e X.env)) (TP X pins σ Q) X.xe s
def PW (X:Cx) (e:Expr) (t:TT):Prop:=
 ∀(whole:Sem Value) (pins:List (Addr×Obj)) (s:Shared) (σ:St) (H:Hp) (Q:Bool→Hp→Prop),Inv X pins σ H s→t σ H Q→wpAny (model X.prog X.w) X.A (isTrue e X.env whole) (TP X pins σ Q) X.xe s
theorem PW.pt {X:Cx} {e:Expr} {t:TT} (h:PW X e t):PT X e t:=h _
def PA (X:Cx) (es:List Expr) (t:TA):Prop:=
 ∀(pos:Pos) (pins:List (Addr×Obj)) (s:Shared) (σ:St) (H:Hp) (Q:List V→Hp→Prop),Inv X pins σ H s→t σ H Q→wpAny (model X.prog X.w) X.A (spliced (backTo pos (starEach es X.env))) (AP X pins σ Q) X.xe s
def PS (X:Cx) (st:Stmt) (t:TS):Prop:=
 ∀(pins:List (Addr×Obj)) (s:Shared) (σ:St) (H:Hp) (D:a8b),Inv X pins σ H s→t D σ H→wpAny (model X.prog X.w) X.A (exec st X.env) (SP X pins D) X.xe s
def PSs (X:Cx) (st:List Stmt) (t:TS):Prop:=
 ∀(pins:List (Addr×Obj)) (s:Shared) (σ:St) (H:Hp) (D:a8b),Inv X pins σ H s→t D σ H→wpAny (model X.prog X.w) X.A (execs st X.env) (SP X pins D) X.xe s
theorem thn {α:Type} {t:Sem α} {Q Q':α→Shared→Prop} {M:Model} {A:Around} {E:Value→Shared→Prop} {s:Shared} (h:wpAny M A t Q E s) (hQ:∀a s,Q a s→Q' a s):wpAny M A t Q' E s:=wpAny_mono h hQ fun _ _ x=>x
end L2
namespace L2
open PySem PySem.Spec PyProof.Rows
section
variable {X:Cx}
theorem bin {a b:Expr} {ta tb:TE} (ha:PE X a ta) (hb:PE X b tb) {pins:List (Addr×Obj)} {s:Shared} {σ:St} {H:Hp} {R:V→V→Hp→Prop} (I:Inv X pins σ H s) (h:ta σ H fun x H1=>tb σ H1 fun y H2=>R x y H2)
  {α:Type} {Q:α→Shared→Prop} {f:Value→Value→Sem α}
  (hf:∀v u s2 x y H2,Inv X pins σ H2 s2→a0O x v→a0O y u→R x y H2→wpAny (model X.prog X.w) X.A (f v u) Q X.xe s2):
  wpAny (model X.prog X.w) X.A (eval a X.env) (fun v s₁=>wpAny (model X.prog X.w) X.A (eval b X.env) (fun u s₂=>wpAny (model X.prog X.w) X.A (f v u) Q X.xe s₂) X.xe s₁) X.xe s:=by
 refine thn (ha pins s σ H _ I h) fun v s1 ⟨x,H1,I1,r1,q1⟩=>?_
 refine thn (hb pins s1 σ H1 _ I1 q1) fun u s2 ⟨y,H2,I2,r2,q2⟩=>?_
 exact hf v u s2 x y H2 I2 r1 r2 q2
def a0k (i:Nat):TE:=fun σ H Q=>∃v,σ[i]?=some (some v)∧Q v H
def tC (v:V):TE:=fun _ H Q=>Q v H
theorem b7y {i:Nat} {x:Str} {pos:Pos} (hN:X.N[i]?=some x) (hv:Vis X.env.scope x) (hd:(x == ("__debug__":Str))=false:=by decide) (hcd:(x == ("__classdict__":Str))=false:=by decide):PE X (.Name x pos) (a0k i):=by
 intro pins s σ H Q I h
 obtain ⟨v,e,h⟩:=h
 obtain ⟨m,hn,hl⟩:=I.loc
 obtain ⟨u,r,l⟩:=hl i x v hN e hv
 have fin:EP X pins σ Q u s:=⟨v,H,I,r,h⟩
 rcases l with ⟨hk,hm⟩ | ⟨hk,c,hc,hcell⟩
 ·exact wpAny_Name (wpAny_loadName_local I.ok.kind hk hn hm fin) hd
 ·rcases hk with hk | hk
  ·exact wpAny_Name (wpAny_loadName_cell I.ok.kind hk hc hcell fin) hd
  ·exact wpAny_Name (wpAny_loadName_free I.ok.kind hk hc hcell fin hcd) hd
theorem b9V {i j pos}:PE X (.Constant (.int i) j pos) (tC (.int i)):=fun _ _ _ H _ I h=>wpAny_Constant_int ⟨.int i,H,I.tok _,⟨_,rfl⟩,h⟩
theorem c0z {b j pos}:PE X (.Constant (.bool b) j pos) (tC (.bl b)):=fun _ _ _ H _ I h=>Constant_bool ⟨.bl b,H,I,rfl,h⟩
theorem b8L {j pos}:PE X (.Constant .none j pos) (tC .non):=fun _ _ _ H _ I h=>Constant_none ⟨.non,H,I,rfl,h⟩
theorem b9b {x j pos}:PE X (.Constant (.str x) j pos) (tC (.str x)):=fun _ _ _ H _ I h=>Calls.Constant_str ⟨.str x,H,I.tok _,⟨_,rfl⟩,h⟩
def Gl (X:Cx) (x:Str):Prop:=X.env.kindOf x=some .globalImplicit
theorem a6H {E:Value→Shared→Prop} {pins:List (Addr×Obj)} {s:Shared} {σ:St} {H:Hp} {x:Str} {u:Value} {pos:Pos} {Q:Value→Shared→Prop} (I:Inv X pins σ H s) (hg:Gl X x) (hm:X.mg x=some u) (h:Q u s)
  (hd:(x == ("__debug__":Str))=false:=by decide):wpAny (model X.prog X.w) X.A (eval (.Name x pos) X.env) Q E s:=
 Calls.Name_function_global I.ok.kind hg (Calls.loadGlobal_global (by rw [I.ok.glob];exact I.mod.glob.keeps I.bk) hm h) hd
theorem a5R {E:Value→Shared→Prop} {pins:List (Addr×Obj)} {s:Shared} {σ:St} {H:Hp} {x:Str} {u:Value} {pos:Pos} {Q:Value→Shared→Prop} (I:Inv X pins σ H s) (hg:Gl X x) (hm:X.mg x=none) (hv:bootBuiltins x=some u) (h:Q u s)
  (hn:x≠"__name__":=by decide) (hd:(x == ("__debug__":Str))=false:=by decide):wpAny (model X.prog X.w) X.A (eval (.Name x pos) X.env) Q E s:=by
 obtain ⟨mb,h1,h2⟩:=I.mod.blt
 exact Calls.Name_function_global I.ok.kind hg (Calls.loadGlobal_builtin (by rw [I.ok.glob];exact I.mod.glob.keeps I.bk) hm (by rw [I.ok.blt];exact h1.keeps I.bk) ((h2 x hn).trans hv) h) hd
theorem b5G {x:Str} {v:V} {u:Value} {pos:Pos} (hg:Gl X x) (hm:X.mg x=some u) (r:a0O v u) (hd:(x == ("__debug__":Str))=false:=by decide):PE X (.Name x pos) (tC v):=
 fun _ _ _ H _ I h=>a6H I hg hm ⟨v,H,I,r,h⟩ hd
variable {a b:Expr} {ta tb:TE} {pos:Pos}
def PC (X:Cx) (op:CmpOp) (a b:Expr) (t:TE):Prop:=
 ∀(pins:List (Addr×Obj)) (s:Shared) (σ:St) (H:Hp) (Q:VK),Inv X pins σ H s→t σ H Q→
  wpAny (model X.prog X.w) X.A (eval a X.env) (fun v s₁=>wpAny (model X.prog X.w) X.A (eval b X.env) (fun u s₂=>wpAny (model X.prog X.w) X.A (compareOp op v u) (EP X pins σ Q) X.xe s₂) X.xe s₁) X.xe s
theorem a7k (b:Expr) {op:CmpOp} (h:op≠.In) (h2:op≠.NotIn):behindInMarks op b=false:=by
 have e1:(op == CmpOp.In)=false:=by cases op<;>first | rfl | exact absurd rfl h
 have e2:(op == CmpOp.NotIn)=false:=by cases op<;>first | rfl | exact absurd rfl h2
 cases b<;>simp [behindInMarks,e1,e2]
def tB (t:TE):TT:=fun σ H Q=>t σ H fun x H1=>∃c,x=.bl c∧Q c H1
theorem b7q {op:CmpOp} {t:TE} (h:PC X op a b t) (h1:behindInMarks op b=false:=by first | exact a7k _ (by decide) (by decide) | rfl):PE X (.Compare a [op] [b] pos) t:=fun pins s σ H Q I hw=>wpAny_Compare1 (h pins s σ H Q I hw) h1
theorem b6C {op:CmpOp} {t:TE} (h:PC X op a b t) (h1:behindInMarks op b=false:=by first | exact a7k _ (by decide) (by decide) | rfl):PT X (.Compare a [op] [b] pos) (tB t):=by
 intro pins s σ H Q I hw
 refine wpAny_isTrue_Compare1 (thn (h pins s σ H _ I hw) fun v s1 h1=>thn h1 fun u s2 h2=>thn h2 fun c s3 ⟨x,H1,I1,r1,q1⟩=>?_) h1
 obtain ⟨d,rfl,q⟩:=q1
 cases r1
 exact wpAny_truthy_bool ⟨H1,I1,q⟩
theorem b9N {e:Expr} {t:TE} (h:PE X e t) (he:∀whole,isTrue e X.env whole=(do let v ←whole;standAt e.pos;holding [v] (truthy v)):=by intro _;rfl):PT X e (tB t):=by
 intro pins s σ H Q I hw
 refine isTrue_plain (thn (h pins s σ H _ I hw) fun v s1 ⟨x,H1,I1,r1,q1⟩=>?_) (he _)
 obtain ⟨d,rfl,q⟩:=q1
 cases r1
 exact wpAny_truthy_bool ⟨H1,I1,q⟩
variable {tA tB':TT} {a5Y:List Expr}
def b1K (t u:TT):TT:=fun σ H Q=>t σ H fun c H1=>if c=true then u σ H1 Q else Q false H1
def tOr (t u:TT):TT:=fun σ H Q=>t σ H fun c H1=>if c=true then Q true H1 else u σ H1 Q
def b2E (t:TT):TT:=fun σ H Q=>t σ H fun c H1=>Q (!c) H1
theorem b5T (ha:PT X a tA):PW X (.BoolOp .And [a] pos) tA:=by
 intro wh pins s σ H Q I h
 refine isTrue_and (thn (ha pins s σ H Q I h) fun c s1 e=>?_)
 cases c with
 | true=>exact isTrue_and_nil e
 | false=>exact e
theorem b9E (ha:PT X a tA):PW X (.BoolOp .Or [a] pos) tA:=by
 intro wh pins s σ H Q I h
 refine isTrue_or (thn (ha pins s σ H Q I h) fun c s1 e=>?_)
 cases c with
 | false=>exact isTrue_or_nil e
 | true=>exact e
theorem b7M (ha:PT X a tA) (hb:PW X (.BoolOp .And (b::a5Y) pos) tB'):PW X (.BoolOp .And (a::b::a5Y) pos) (b1K tA tB'):=by
 intro wh pins s σ H Q I h
 refine isTrue_and (thn (ha pins s σ H _ I h) fun c s1 ⟨H1,I1,q1⟩=>?_)
 cases c with
 | true=>exact hb wh pins s1 σ H1 Q I1 q1
 | false=>exact ⟨H1,I1,q1⟩
theorem c1b (ha:PT X a tA) (hb:PW X (.BoolOp .Or (b::a5Y) pos) tB'):PW X (.BoolOp .Or (a::b::a5Y) pos) (tOr tA tB'):=by
 intro wh pins s σ H Q I h
 refine isTrue_or (thn (ha pins s σ H _ I h) fun c s1 ⟨H1,I1,q1⟩=>?_)
 cases c with
 | true=>exact ⟨H1,I1,q1⟩
 | false=>exact hb wh pins s1 σ H1 Q I1 q1
theorem b8q (ha:PT X a tA):PT X (.UnaryOp .Not a pos) (b2E tA):=by
 intro pins s σ H Q I h
 exact isTrue_not (ha pins s σ H (fun c H1=>Q (!c) H1) I h)
def b5v (ta tb:TE):TE:=fun σ H Q=>ta σ H fun x H1=>∃c,x=.bl c∧if c=true then tb σ H1 Q else Q (.bl false) H1
def c0s (ta tb:TE):TE:=fun σ H Q=>ta σ H fun x H1=>∃c,x=.bl c∧if c=true then Q (.bl true) H1 else tb σ H1 Q
def b6P (ta:TE):TE:=fun σ H Q=>ta σ H fun x H1=>∃c,x=.bl c∧Q (.bl (!c)) H1
theorem b8d {op} {t:TE} (h:PE X a t):PE X (.BoolOp op [a] pos) t:=fun pins s σ H Q I hw=>BoolOp_one (h pins s σ H Q I hw)
theorem b9u (ha:PE X a ta) (hb:PE X (.BoolOp .And (b::a5Y) pos) tb):PE X (.BoolOp .And (a::b::a5Y) pos) (b5v ta tb):=by
 intro pins s σ H Q I h
 refine BoolOp_and (thn (ha pins s σ H _ I h) fun v s1 ⟨x,H1,I1,r1,q1⟩=>?_)
 obtain ⟨c,rfl,q1⟩:=q1
 cases r1
 refine wpAny_truthy_bool ?_
 cases c with
 | true=>exact hb pins s1 σ H1 Q I1 q1
 | false=>exact ⟨.bl false,H1,I1,rfl,q1⟩
theorem c1h (ha:PE X a ta) (hb:PE X (.BoolOp .Or (b::a5Y) pos) tb):PE X (.BoolOp .Or (a::b::a5Y) pos) (c0s ta tb):=by
 intro pins s σ H Q I h
 refine BoolOp_or (thn (ha pins s σ H _ I h) fun v s1 ⟨x,H1,I1,r1,q1⟩=>?_)
 obtain ⟨c,rfl,q1⟩:=q1
 cases r1
 refine wpAny_truthy_bool ?_
 cases c with
 | false=>exact hb pins s1 σ H1 Q I1 q1
 | true=>exact ⟨.bl true,H1,I1,rfl,q1⟩
theorem b7E (ha:PE X a ta):PE X (.UnaryOp .Not a pos) (b6P ta):=by
 intro pins s σ H Q I h
 refine UnaryOp_ (thn (ha pins s σ H _ I h) fun v s1 ⟨x,H1,I1,r1,q1⟩=>?_)
 obtain ⟨c,rfl,q1⟩:=q1
 cases r1
 exact not_of (wpAny_truthy_bool ⟨.bl (!c),H1,I1,rfl,q1⟩)
def tIf (t:TT) (ta tb:TE):TE:=fun σ H Q=>t σ H fun c H1=>if c=true then ta σ H1 Q else tb σ H1 Q
theorem b2q {c:Expr} (hc:PT X c tA) (ha:PE X a ta) (hb:PE X b tb):PE X (.IfExp c a b pos) (tIf tA ta tb):=by
 intro pins s σ H Q I h
 refine wpAny_IfExp (thn (hc pins s σ H _ I h) fun d s1 ⟨H1,I1,q1⟩=>?_)
 cases d with
 | true=>exact ha pins s1 σ H1 Q I1 q1
 | false=>exact hb pins s1 σ H1 Q I1 q1
end
end L2
namespace L2
open PySem PySem.Spec PyProof.Rows
def SqL (K:Qd) (H:Hp) (a:Addr) (xs:List V):Prop:=
 Rd H a (.lst xs)∨
  ∃(o:Obj) (its:Array Value) (n:Nat),K.lookup a=some o∧o.cls=.type "list"∧o.dict=none∧o.data=.seq its n∧its.size≤sizeLine∧a0N xs its.toList
def SqT (K:Qd) (H:Hp) (a:Addr) (xs:List V):Prop:=
 Rd H a (.tup xs)∨
  ∃(o:Obj) (its:Array Value) (n:Nat),K.lookup a=some o∧o.cls=.type "tuple"∧o.data=.seq its n∧its.size≤sizeLine∧a0N xs its.toList
def c7K:Value→Option V
 | .none=>some .non
 | .bool b=>some (.bl b)
 | .int i _=>some (.int i)
 | .str x _=>some (.str x)
 | .bytes b _=>some (.byt b)
 | .float b _=>some (.flt b)
 | .ref a=>some (.ref a)
 | .type n=>some (.ty n)
 | _=>none
theorem a0O.abs {x:V} {u:Value} (r:a0O x u):c7K u=some x:=by
 cases x with
 | non=>cases r;rfl
 | bl _=>cases r;rfl
 | int _=>obtain ⟨t,rfl⟩:=r;rfl
 | str _=>obtain ⟨t,rfl⟩:=r;rfl
 | byt _=>obtain ⟨t,rfl⟩:=r;rfl
 | flt _=>obtain ⟨t,rfl⟩:=r;rfl
 | ref _=>cases r;rfl
 | ty _=>cases r;rfl
theorem a0O.inj {x y:V} {u:Value} (r:a0O x u) (q:a0O y u):x=y:=Option.some.inj (r.abs.symm.trans q.abs)
theorem a0N.inj:∀{xs ys:List V} {us:List Value},a0N xs us→a0N ys us→xs=ys
 | _,_,_,.nil,.nil=>rfl
 | _,_,_,.cons r t,.cons r' t'=>by rw [r.inj r',a0N.inj t t']
section
variable {X:Cx} {pins:List (Addr×Obj)} {σ:St} {H:Hp} {s:Shared} {a:Addr} {xs ys:List V}
theorem SqL.of {K:Qd} (h:H a=some (.lst xs)):SqL K H a xs:=.inl (.inl h)
theorem SqT.of {K:Qd} (h:H a=some (.tup xs)):SqT K H a xs:=.inl (.inl h)
theorem Inv.list (I:Inv X pins σ H s) (h:SqL X.K H a xs):∃its:List Value,a0N xs its∧PlainL s.heap a its.toArray∧xs.length≤sizeLine:=by
 rcases h with h | ⟨o,its,n,hk,hc,hd,hs,hz,r⟩
 ·obtain ⟨z,its,n,r,e⟩:=h.ok I.hok
  exact ⟨its,r,⟨_,n,e,rfl,rfl,rfl⟩,z⟩
 ·refine ⟨its.toList,r,⟨o,n,I.kIn a o hk,hc,hd,by simpa using hs⟩,?_⟩
  have e:=r.length
  simp only [Zn] at e
  omega
theorem Inv.tuple (I:Inv X pins σ H s) (h:SqT X.K H a xs):∃its:List Value,a0N xs its∧IsTup s.heap a its.toArray∧xs.length≤sizeLine:=by
 rcases h with h | ⟨o,its,n,hk,hc,hs,hz,r⟩
 ·obtain ⟨z,its,r,p⟩:=h.ok I.hok
  exact ⟨its,r,p,z⟩
 ·refine ⟨its.toList,r,⟨o,I.kIn a o hk,hc,n,by simpa using hs⟩,?_⟩
  have e:=r.length
  simp only [Zn] at e
  omega
theorem Inv.list_inj (I:Inv X pins σ H s) (h:SqL X.K H a xs) (h':SqL X.K H a ys):xs=ys:=by
 obtain ⟨its,r,⟨o,n,e,_,_,d⟩,_⟩:=I.list h
 obtain ⟨its',r',⟨o',n',e',_,_,d'⟩,_⟩:=I.list h'
 rw [e] at e';cases e'
 rw [d] at d'
 injection d' with d1 _
 have:its=its':=by simpa using congrArg Array.toList d1
 subst this
 exact r.inj r'
theorem Inv.tuple_inj (I:Inv X pins σ H s) (h:SqT X.K H a xs) (h':SqT X.K H a ys):xs=ys:=by
 obtain ⟨its,r,⟨o,e,_,n,d⟩,_⟩:=I.tuple h
 obtain ⟨its',r',⟨o',e',_,n',d'⟩,_⟩:=I.tuple h'
 rw [e] at e';cases e'
 rw [d] at d'
 injection d' with d1 _
 have:its=its':=by simpa using congrArg Array.toList d1
 subst this
 exact r.inj r'
end
abbrev Cx.wish (X:Cx) (E:Value→Shared→Prop):Cx:={X with xe:=E}
abbrev Cx.nox (X:Cx):Cx:=X.wish fun _ _=>False
theorem Cx.Ok.wish {X:Cx} (ok:X.Ok) (E:Value→Shared→Prop):(X.wish E).Ok:=
 ⟨ok.mod,ok.kind,ok.glob,ok.blt,ok.above,ok.inj,ok.has,ok.cab,ok.hd,ok.frames,ok.stk,ok.exf,ok.bs,ok.bsz,ok.noex,ok.exfs,ok.funs,ok.frf⟩
theorem Cx.Ok.unwish {X:Cx} {E:Value→Shared→Prop} (ok:(X.wish E).Ok):X.Ok:=
 ⟨ok.mod,ok.kind,ok.glob,ok.blt,ok.above,ok.inj,ok.has,ok.cab,ok.hd,ok.frames,ok.stk,ok.exf,ok.bs,ok.bsz,ok.noex,ok.exfs,ok.funs,ok.frf⟩
section
variable {X:Cx} {pins:List (Addr×Obj)} {σ:St} {H:Hp} {s:Shared} {E:Value→Shared→Prop}
theorem Inv.wish (I:Inv X pins σ H s) (E:Value→Shared→Prop):Inv (X.wish E) pins σ H s:=⟨I.ok.wish E,I.os,I.bare,I.base,I.loc,I.cell,I.free,I.freeC,I.pin,I.hok,I.len⟩
theorem Inv.unwish (I:Inv (X.wish E) pins σ H s):Inv X pins σ H s:=⟨I.ok.unwish,I.os,I.bare,I.base,I.loc,I.cell,I.free,I.freeC,I.pin,I.hok,I.len⟩
theorem SP.unwish {D:a8b} {f:Flow} {s':Shared} (h:SP (X.wish E) pins D f s'):SP X pins D f s':=by
 cases f with
 | next=>obtain ⟨σ',H',I,q⟩:=h;exact ⟨σ',H',I.unwish,q⟩
 | brk=>obtain ⟨σ',H',I,q⟩:=h;exact ⟨σ',H',I.unwish,q⟩
 | cont=>obtain ⟨σ',H',I,q⟩:=h;exact ⟨σ',H',I.unwish,q⟩
 | ret u=>obtain ⟨v,σ',H',I,r,q⟩:=h;exact ⟨v,σ',H',I.unwish,r,q⟩
theorem PSs.nox {st:List Stmt} {t:TS} (h:PSs X.nox st t):PSs X st t:=fun pins s σ H D I hw=>
 wpAny_mono (h pins s σ H D (I.wish _) hw) (fun _ _ q=>q.unwish) fun _ _ z=>False.elim z
end
section
variable {X:Cx} {st:Stmt} {a5Y:List Stmt} {t u:TS} {e:Expr} {te:TE} {pos:Pos}
def a1o:TS:=fun D σ H=>D.nx σ H
def a1p (t u:TS):TS:=fun D σ H=>t {D with nx:=u D} σ H
theorem b5i:PSs X [] a1o:=fun _ _ σ H _ I h=>wpAny_execs_nil ⟨σ,H,I,h⟩
theorem b2z (h1:PS X st t) (h2:PSs X a5Y u):PSs X (st::a5Y) (a1p t u):=by
 intro pins s σ H D I h
 refine wpAny_execs_cons (thn (h1 pins s σ H {D with nx:=u D} I h) fun f s1 q=>?_)
 cases f with
 | next=>
  obtain ⟨σ',H',I',q⟩:=q
  exact h2 pins s1 σ' H' D I' q
 | ret v=>exact q
 | brk=>exact q
 | cont=>exact q
theorem b6w (h1:PS X st t):PSs X [st] t:=by
 intro pins s σ H D I h
 refine wpAny_execs_cons (thn (h1 pins s σ H D I h) fun f s1 q=>?_)
 cases f with
 | next=>exact wpAny_execs_nil q
 | ret v=>exact q
 | brk=>exact q
 | cont=>exact q
theorem Inv.quiet {pins:List (Addr×Obj)} {σ:St} {H:Hp} {s:Shared} (I:Inv X pins σ H s):interactive X.env=false:=by simp [interactive,I.ok.kind]
def a4m (te:TE):TS:=fun D σ H=>te σ H fun _ H1=>D.nx σ H1
theorem b6i (he:PE X e te) (hs:swapsWith e none pos.line X.env=pure false:=by rfl):PS X (.Expr e pos) (a4m te):=by
 intro pins s σ H D I h
 exact wpAny_Expr_any (thn (he pins s σ H _ I h) fun v s1 ⟨x,H1,I1,r1,q1⟩=>⟨σ,H1,I1,q1⟩) I.quiet hs
def a1a (te:TE):TS:=fun D σ H=>te σ H D.rt
theorem c0f (he:PE X e te):PS X (.Return (some e) pos) (a1a te):=by
 intro pins s σ H D I h
 exact wpAny_Return_some (thn (he pins s σ H _ I h) fun v s1 ⟨x,H1,I1,r1,q1⟩=>⟨x,σ,H1,I1,r1,q1⟩)
def a3b (c:TT) (t u:TS):TS:=fun D σ H=>c σ H fun b H1=>if b=true then t D σ H1 else u D σ H1
theorem c0B {c:Expr} {a b:List Stmt} {tc:TT} (hc:PT X c tc) (ha:PSs X a t) (hb:PSs X b u):PS X (.If c a b pos) (a3b tc t u):=by
 intro pins s σ H D I h
 refine wpAny_If (thn (hc pins s σ H _ I h) fun d s1 ⟨H1,I1,q1⟩=>?_)
 cases d with
 | true=>exact ha pins s1 σ H1 D I1 q1
 | false=>exact hb pins s1 σ H1 D I1 q1
end
abbrev TG:=V→St→Hp→(St→Hp→Prop)→Prop
abbrev TGs:=List V→St→Hp→(St→Hp→Prop)→Prop
def PG (X:Cx) (target:Expr) (t:TG):Prop:=
 ∀(pins:List (Addr×Obj)) (s:Shared) (σ:St) (H:Hp) (v:V) (u:Value) (Q:St→Hp→Prop),Inv X pins σ H s→a0O v u→t v σ H Q→
  wpAny (model X.prog X.w) X.A (assign target X.env u) (fun _ s'=>∃σ' H',Inv X pins σ' H' s'∧Q σ' H') X.xe s
def PGs (X:Cx) (ts:List Expr) (t:TGs):Prop:=
 ∀(pins:List (Addr×Obj)) (s:Shared) (σ:St) (H:Hp) (vs:List V) (us:List Value) (Q:St→Hp→Prop),Inv X pins σ H s→a0N vs us→t vs σ H Q→
  wpAny (model X.prog X.w) X.A (assignInOrder ((assignEach ts X.env).map (·.2)) us) (fun _ s'=>∃σ' H',Inv X pins σ' H' s'∧Q σ' H') X.xe s
section
variable {X:Cx} {pos:Pos}
def a0l (i:Nat):TG:=fun v σ H Q=>Q (σ.set i (some v)) H
theorem b4X {i:Nat} {x:Str} (hN:X.N.Nodup) (hi:X.N[i]?=some x) (hx:Loc X.env.scope x) (hf:X.fn x=true∨X.env.scope.names.lookup x=some .local:=by first | exact .inl rfl | exact .inr rfl | assumption):PG X (.Name x pos) (a0l i):=by
 intro pins s σ H v u Q I r h
 exact wpAny_assign_Name (a7z I hN hi hx r (fun s' I'=>⟨_,H,I',h⟩) hf)
def c0y:TGs:=fun vs σ H Q=>vs=[]∧Q σ H
def b1m (t:TG) (u:TGs):TGs:=fun vs σ H Q=>∃v r,vs=v::r∧t v σ H fun σ' H'=>u r σ' H' Q
theorem b5a:PGs X [] c0y:=by
 intro pins s σ H vs us Q I r h
 obtain ⟨e,h⟩:=h
 subst e
 cases r
 exact assignInOrder_nil ⟨σ,H,I,h⟩
theorem b1Y {e:Expr} {es:List Expr} {t:TG} {u:TGs} (h1:PG X e t) (h2:PGs X es u)
  (hs:(assignEach (e::es) X.env).map (·.2)=assign e X.env::(assignEach es X.env).map (·.2):=by rfl):PGs X (e::es) (b1m t u):=by
 intro pins s σ H vs us Q I r h
 obtain ⟨v,vr,e1,h⟩:=h
 subst e1
 cases r with
 | cons r rr=>
  rw [hs]
  refine assignInOrder_cons (thn (h1 pins s σ H _ _ _ I r h) fun _ s1 ⟨σ1,H1,I1,q1⟩=>?_)
  exact h2 pins s1 σ1 H1 _ _ Q I1 rr q1
def b6V (K:Qd) (n:Nat) (t:TGs):TG:=fun v σ H Q=>∃a xs,v=.ref a∧SqT K H a xs∧xs.length=n∧t xs σ H Q
theorem b3v {es:List Expr} {k:Nat} {t:TGs} {n:Nat} (hc:X.calm=true) (h:PGs X es t)
  (hn:(assignEach es X.env).length=n:=by rfl) (hst:(assignEach es X.env).findIdx? (·.1)=none:=by rfl):PG X (.Tuple es k pos) (b6V X.K n t):=by
 intro pins s σ H v u Q I r hw
 obtain ⟨a,xs,e1,hq,hl,hw⟩:=hw
 subst e1
 cases r
 obtain ⟨its,rv,ht,hz⟩:=I.tuple hq
 refine assign_Tuple_tuple (I.ok.hd hc) ht (by simp [hn,←hl,rv.length]) hst fun h' hx=>?_
 have I1:Inv X pins σ H {s with heap:=h'}:=I.kept (t':=s.toks) fun b o e=>hx b o (Xh (Qw e)) e
 exact h pins _ σ H xs _ Q I1 (by simpa using rv) hw
def a1J (te:TE) (g:TG):TS:=fun D σ H=>te σ H fun x H1=>g x σ H1 D.nx
theorem c0n {tg e:Expr} {te:TE} {g:TG} (he:PE X e te) (hg:PG X tg g) (hs:swapsWithSole [tg] e pos.line X.env=pure false:=by rfl) (hw:swappedStores [tg] e X.env=pure none:=by rfl)
  (h1:(assignEach [tg] X.env).map (·.2)=[assign tg X.env]:=by rfl):PS X (.Assign [tg] e pos) (a1J te g):=by
 intro pins s σ H D I h
 refine wpAny_Assign_stores (thn (he pins s σ H _ I h) fun v s1 ⟨x,H1,I1,r1,q1⟩=>?_) hs hw
 rw [h1]
 exact thn (hg pins s1 σ H1 x v _ I1 r1 q1) fun _ s2 q=>q
theorem b8P {i:Nat} {x:Str} {e:Expr} {te:TE} {pos':Pos} (hN:X.N.Nodup) (hi:X.N[i]?=some x) (hx:Loc X.env.scope x) (he:PE X e te) (hs:swapsWith e (some (.Name x pos')) pos.line X.env=pure false:=by rfl) (hf:X.fn x=true∨X.env.scope.names.lookup x=some .local:=by first | exact .inl rfl | exact .inr rfl | assumption):
  PS X (.Assign [.Name x pos'] e pos) (a1J te (a0l i)):=by
 intro pins s σ H D I h
 refine wpAny_Assign_Name (thn (he pins s σ H _ I h) fun v s1 ⟨y,H1,I1,r1,q1⟩=>?_) hs
 exact a7z I1 hN hi hx r1 (fun s2 I2=>⟨_,H1,I2,q1⟩) hf
end
section
variable {X:Cx} {pos:Pos}
def b3P (c:TT) (tb:TS):TS:=fun D σ H=>∃W:Nat→St→Hp→Prop,(∃m,W m σ H)∧∀m σ H,W m σ H→
 c σ H fun b H1=>if b=true then ∃N:St→Hp→Prop,(∀σ' H',N σ' H'→∃m',m' < m∧W m' σ' H')∧tb {D with nx:=N,ct:=N,bk:=D.nx} σ H1 else D.nx σ H1
theorem b2M {c:Expr} {body:List Stmt} {tc:TT} {tb:TS} (hp:PassesOwn (model X.prog X.w) X.A X.env X.xe) (hc:PT X c tc) (hb:PSs X body tb):PS X (.While c body [] pos) (b3P tc tb):=by
 intro pins s σ H D I h
 obtain ⟨W,⟨m0,w0⟩,turn⟩:=h
 refine wpAny_While (codeAny_whileLoop (fun n s'=>∃σ' H',Inv X pins σ' H' s'∧W n σ' H') ?_ m0 ⟨σ,H,I,w0⟩)
 rintro n s1 ⟨σ1,H1,I1,w1⟩
 refine wpAny_passesOwn hp (thn (hc pins s1 σ1 H1 _ I1 (turn n σ1 H1 w1)) fun b s2 ⟨H2,I2,q2⟩=>?_)
 cases b with
 | true=>
  obtain ⟨N,hN,q2⟩:=q2
  rw [if_pos rfl]
  refine wpAny_passesOwn hp (thn (hb pins s2 σ1 H2 _ I2 q2) fun f s3 q3=>?_)
  cases f with
  | next=>
   obtain ⟨σ3,H3,I3,n3⟩:=q3
   obtain ⟨m',hm,w3⟩:=hN σ3 H3 n3
   exact ⟨m',hm,σ3,H3,I3,w3⟩
  | cont=>
   obtain ⟨σ3,H3,I3,n3⟩:=q3
   obtain ⟨m',hm,w3⟩:=hN σ3 H3 n3
   exact ⟨m',hm,σ3,H3,I3,w3⟩
  | brk=>exact q3
  | ret v=>exact q3
 | false=>
  rw [if_neg Qn]
  exact wpAny_execs_nil ⟨σ1,H2,I2,q2⟩
end
structure It where
 go:Nat→Hp→Prop
 yld:Nat→Hp→V→Hp→Prop
 stop:Nat→Hp→Prop
def a8A (X:Cx) (pins:List (Addr×Obj)) (H:Hp) (b:Addr):Prop:=
 H b=none∧b≠X.env.locals∧b∉X.fs∧(b∈X.ex∨X.s₀.heap.objs.size≤b)∧(∀x c,X.env.cells.lookup x=some c→c≠b)∧∀p∈X.pn++pins,p.1≠b
theorem Inv.fpOk {X:Cx} {pins:List (Addr×Obj)} {σ:St} {H H':Hp} {s:Shared} {b:Addr} (I:Inv X pins σ H s) (hb:s.heap.objs.size≤b) (hn:H' b=none):a8A X pins H' b:=by
 refine ⟨hn,Uh (Xb I.lt hb),I.nofs hb,.inr (Qi I.sz hb),fun x c e z=>?_,fun p hp z=>?_⟩
 ·obtain ⟨v,q⟩:=I.cell x c e
  exact absurd (Xb q.lt (by rw [z];exact hb)) (Zl _)
 ·exact absurd (Xb (Qw (I.pin p hp).1) (by rw [z];exact hb)) (Zl _)
structure b5z (P:Program) (w:World) (K:Qd) (tg:Expr) (J:It) (fp:List Addr) (it:Addr) (tn:Nat→Heap→Prop):Prop where
 mem:it∈fp
 obj:∀i h,tn i h→∀b∈fp,∃o,h.get? b=some o∧∀v,o.data≠.cell v
 keep:∀i h h',tn i h→(∀b∈fp,∀o,h.get? b=some o→h'.get? b=some o)→tn i h'
 item:∀(X:Cx),X.prog=P→X.w=w→X.K=K→X.calm=true→∀(i:Nat) (pins:List (Addr×Obj)) (s:Shared) (σ:St) (H:Hp) (E:Value→Shared→Prop),Inv X pins σ H s→(∀b∈fp,a8A X pins H b)→tn i s.heap→J.go i H→
  wpAny (model P w) X.A (pyNext (.ref it)) (fun r s1=>∃u,r=some u∧
   wpAny (model P w) X.A (letOwnedTupleGo tg (.ref it) u) (fun _ s2=>∃x H',Inv X pins σ H' s2∧a0O x u∧J.yld i H x H'∧tn (i+1) s2.heap∧∀b∈fp,H' b=none) E s1) E s
 done:∀(X:Cx),X.prog=P→X.w=w→X.K=K→X.calm=true→∀(i:Nat) (pins:List (Addr×Obj)) (s:Shared) (σ:St) (H:Hp) (E:Value→Shared→Prop),Inv X pins σ H s→(∀b∈fp,a8A X pins H b)→tn i s.heap→J.stop i H→
  wpAny (model P w) X.A (pyNext (.ref it)) (fun r s1=>r=none∧Inv X pins σ H s1) E s
 self:∀(A:Around) (i:Nat) (s:Shared) (Q:Value→Shared→Prop) (E:Value→Shared→Prop),tn i s.heap→Q (.ref it) s→wpAny (model P w) A (pyIter (.ref it)) Q E s
abbrev TI:=St→Hp→(It→Hp→Prop)→Prop
def PIE (X:Cx) (pins:List (Addr×Obj)) (σ:St) (tg:Expr) (R:It→Hp→Prop) (itv:Value) (s2:Shared):Prop:=
 ∃(it:Addr) (fp:List Addr) (tn:Nat→Heap→Prop) (J:It) (H':Hp),itv=.ref it∧Inv X pins σ H' s2∧b5z X.prog X.w X.K tg J fp it tn∧tn 0 s2.heap∧(∀b∈fp,a8A X pins H' b)∧R J H'
def PI (X:Cx) (tg iter:Expr) (wi:TI):Prop:=
 ∀(pins:List (Addr×Obj)) (s:Shared) (σ:St) (H:Hp) (R:It→Hp→Prop),Inv X pins σ H s→wi σ H R→
  wpAny (model X.prog X.w) X.A (eval iter X.env) (fun v s1=>wpAny (model X.prog X.w) X.A (pyIter v) (PIE X pins σ tg R) X.xe s1) X.xe s
theorem b2w {M:Model} {A:Around} {E:Value→Shared→Prop} {s:Shared} {tg:Expr} {it:Addr} {u:Value} {o:Obj} {n:String} {vs:Array Value} {Q:Unit→Shared→Prop} (ho:s.heap.get? it=some o) (hc:o.cls=.type n) (hd:o.data=.fields vs)
  (hn:["enumerate","zip","dict_itemiterator","dict_reverseitemiterator","odict_iterator","itertools.zip_longest","itertools.pairwise"].contains n=false) (hQ:Q () s):wpAny M A (letOwnedTupleGo tg (.ref it) u) Q E s:=by
 unfold letOwnedTupleGo
 cases tg<;>first
  | exact wpAny_pure hQ
  | (cases u<;>first
    | exact wpAny_pure hQ
    | (refine wpAny_bind (wpAny_load ho ?_);rw [hc,hd];show wpAny M A (if (["enumerate","zip","dict_itemiterator","dict_reverseitemiterator","odict_iterator","itertools.zip_longest","itertools.pairwise"].contains n && vs[0]? == some (rawInt _))=true then _ else _) Q E s;rw [if_neg (by intro h;rw [hn,Ja] at h;cases h)];exact wpAny_pure hQ))
def Itl (K:Qd) (a:Addr):It:=
 ⟨fun i H=>∃xs x,SqL K H a xs∧xs[i]?=some x,fun i H x H'=>H'=H∧∀xs,SqL K H a xs→xs[i]?=some x,fun i H=>∃xs,SqL K H a xs∧xs.length≤i⟩
def Itt (K:Qd) (a:Addr):It:=
 ⟨fun i H=>∃xs x,SqT K H a xs∧xs[i]?=some x,fun i H x H'=>H'=H∧∀xs,SqT K H a xs→xs[i]?=some x,fun i H=>∃xs,SqT K H a xs∧xs.length≤i⟩
def Itr (lo:Int) (n:Nat):It:=⟨fun i _=>i < n,fun i H x H'=>H'=H∧x=.int (lo+i),fun i _=>n≤i⟩
theorem b0X {P:Program} {w:World} {K:Qd} {tg:Expr} (a it:Addr):b5z P w K tg (Itl K a) [it] it (fun i h=>h.IsListIter it a i) where
 mem:=by simp
 obj:=fun i h st b hb=>by
  have e:b=it:=by simpa using hb
  subst e
  obtain ⟨o,e,c,d⟩:=st
  exact ⟨o,e,fun v z=>by rw [d] at z;cases z⟩
 keep:=fun i h h' st k=>st.at fun o e=>k it (by simp) o e
 item:=by
  intro X hP hw hK hc i pins s σ H E I hf st hg
  subst hP hw hK
  obtain ⟨xs,x,hq,hx⟩:=hg
  obtain ⟨its,rv,p,hz⟩:=I.list hq
  obtain ⟨u,hu,ru⟩:=rv.get hx
  obtain ⟨f0,f1,f2,f3,f4,f5⟩:=hf it (by simp)
  refine wpAny_pyNext_list_item st p.isList (x:=u) (by simpa using hu) fun h' st' sb=>?_
  have I1:Inv X pins σ H {s with heap:=h'}:=I.turned (t':=s.toks) (fun b o hb e=>(sb.2 b hb).trans e) f0 f1 f3 f4 f5
  obtain ⟨o,e,c,d⟩:=id st'
  exact ⟨u,rfl,b2w (s:={s with heap:=h'}) e c d (by decide) ⟨x,H,I1,ru,⟨rfl,fun ys hy=>by rw [I.list_inj hy hq];exact hx⟩,st',fun b hb=>(hf b hb).1⟩⟩
 done:=by
  intro X hP hw hK hc i pins s σ H E I hf st hg
  subst hP hw hK
  obtain ⟨xs,hq,hx⟩:=hg
  obtain ⟨its,rv,p,hz⟩:=I.list hq
  obtain ⟨f0,f1,f2,f3,f4,f5⟩:=hf it (by simp)
  have hl:=rv.length
  exact wpAny_pyNext_list_end (I.ok.hd hc) st p.isList (by simp;omega) fun h' eb=>⟨rfl,I.turned (t':=s.toks) (fun b o hb e=>eb b o hb e) f0 f1 f3 f4 f5⟩
 self:=fun _ _ _ _ _ st h=>wpAny_pyIter_listiter st h
theorem a8r {P:Program} {w:World} {K:Qd} {tg:Expr} (a it:Addr):b5z P w K tg (Itt K a) [it] it (fun i h=>h.IsTupleIter it a i) where
 mem:=by simp
 obj:=fun i h st b hb=>by
  have e:b=it:=by simpa using hb
  subst e
  obtain ⟨o,e,c,d⟩:=st
  exact ⟨o,e,fun v z=>by rw [d] at z;cases z⟩
 keep:=fun i h h' st k=>st.at fun o e=>k it (by simp) o e
 item:=by
  intro X hP hw hK hc i pins s σ H E I hf st hg
  subst hP hw hK
  obtain ⟨xs,x,hq,hx⟩:=hg
  obtain ⟨its,rv,p,hz⟩:=I.tuple hq
  obtain ⟨u,hu,ru⟩:=rv.get hx
  obtain ⟨f0,f1,f2,f3,f4,f5⟩:=hf it (by simp)
  refine wpAny_pyNext_tuple_item st (show s.heap.IsTuple a its.toArray from p) (x:=u) (by simpa using hu) fun h' st' sb=>?_
  have I1:Inv X pins σ H {s with heap:=h'}:=I.turned (t':=s.toks) (fun b o hb e=>(sb.2 b hb).trans e) f0 f1 f3 f4 f5
  obtain ⟨o,e,c,d⟩:=id st'
  exact ⟨u,rfl,b2w (s:={s with heap:=h'}) e c d (by decide) ⟨x,H,I1,ru,⟨rfl,fun ys hy=>by rw [I.tuple_inj hy hq];exact hx⟩,st',fun b hb=>(hf b hb).1⟩⟩
 done:=by
  intro X hP hw hK hc i pins s σ H E I hf st hg
  subst hP hw hK
  obtain ⟨xs,hq,hx⟩:=hg
  obtain ⟨its,rv,p,hz⟩:=I.tuple hq
  obtain ⟨f0,f1,f2,f3,f4,f5⟩:=hf it (by simp)
  have hl:=rv.length
  exact wpAny_pyNext_tuple_end (I.ok.hd hc) st (show s.heap.IsTuple a its.toArray from p) (by simp;omega) fun h' eb=>⟨rfl,I.turned (t':=s.toks) (fun b o hb e=>eb b o hb e) f0 f1 f3 f4 f5⟩
 self:=fun _ _ _ _ _ st h=>wpAny_pyIter_tupleiter st h
theorem a8Q {P:Program} {w:World} {K:Qd} {tg:Expr} (it:Addr) (lo:Int) (n:Nat):b5z P w K tg (Itr lo n) [it] it (fun i h=>IsRangeIter h it (lo+(i:Nat) * 1) ((n:Int) - (i:Nat)) 1) where
 mem:=by simp
 obj:=fun i h st b hb=>by
  have e:b=it:=by simpa using hb
  subst e
  exact ⟨_,st,fun v z=>by
   have z':Data.fields _=Data.cell v:=z
   cases z'⟩
 keep:=fun i h h' st k=>k it (by simp) _ st
 item:=by
  intro X hP hw hK hc i pins s σ H E I hf st hg
  subst hP hw hK
  obtain ⟨f0,f1,f2,f3,f4,f5⟩:=hf it (by simp)
  have W:=Walks.range (prog:=X.prog) (w:=X.w) (I.ok.hd hc) it lo 1 n
  refine W.item i s _ _ hg st fun v h' tk hv st' kk=>?_
  obtain ⟨t,rfl⟩:=hv
  have I1:Inv X pins σ H {s with heap:=h',toks:=tk}:=I.turned (fun b o hb e=>kk b o (by simpa using hb) e) f0 f1 f3 f4 f5
  refine ⟨_,rfl,b2w (s:={s with heap:=h',toks:=tk}) (n:="range_iterator") st' rfl rfl (by decide) ⟨.int (lo+i),H,I1,⟨t,?_⟩,⟨rfl,rfl⟩,st',fun b hb=>(hf b hb).1⟩⟩
  rw [Int.mul_one]
 done:=by
  intro X hP hw hK hc i pins s σ H E I hf st hg
  subst hP hw hK
  obtain ⟨f0,f1,f2,f3,f4,f5⟩:=hf it (by simp)
  exact wpAny_pyNext_range_end (I.ok.hd hc) st (by have:n≤i:=hg;omega) fun h' eb=>⟨rfl,I.turned (t':=s.toks) (fun b o hb e=>eb b o hb e) f0 f1 f3 f4 f5⟩
 self:=fun _ _ _ _ _ st h=>wpAny_pyIter_rangeiter st h
end L2
namespace L2
open PySem PySem.Spec PyProof.Rows
section
variable {X:Cx} {tg:Expr}
def a1y (K:Qd) (tl:TE):TI:=fun σ H R=>tl σ H fun x H1=>∃a,x=.ref a∧(∃xs,SqL K H1 a xs)∧R (Itl K a) H1
def b2L (K:Qd) (tl:TE):TI:=fun σ H R=>tl σ H fun x H1=>∃a,x=.ref a∧(∃xs,SqT K H1 a xs)∧R (Itt K a) H1
theorem b5B {l:Expr} {tl:TE} (hl:PE X l tl):PI X tg l (a1y X.K tl):=by
 intro pins s σ H R I h
 refine thn (hl pins s σ H _ I h) fun v s1 ⟨x,H1,I1,r1,q1⟩=>?_
 obtain ⟨a,e,⟨xs,hq⟩,q⟩:=q1
 subst e
 cases r1
 obtain ⟨its,rv,p,hz⟩:=I1.list hq
 refine wpAny_pyIter_list p.isList ?_
 refine ⟨s1.heap.objs.size,[s1.heap.objs.size],_,_,H1,rfl,I1.kept (t':=s1.toks) fun b o e=>Ql _ e,b0X a _,⟨_,Xe _ rfl,rfl,rfl⟩,fun b hb=>?_,q⟩
 have e:b=s1.heap.objs.size:=by simpa using hb
 subst e
 exact I1.fpOk (Qk _) (I1.hok.fresh (Qk _))
theorem b8M {l:Expr} {tl:TE} (hl:PE X l tl):PI X tg l (b2L X.K tl):=by
 intro pins s σ H R I h
 refine thn (hl pins s σ H _ I h) fun v s1 ⟨x,H1,I1,r1,q1⟩=>?_
 obtain ⟨a,e,⟨xs,hq⟩,q⟩:=q1
 subst e
 cases r1
 obtain ⟨its,rv,p,hz⟩:=I1.tuple hq
 refine wpAny_pyIter_tuple (show s1.heap.IsTuple a its.toArray from p) ?_
 refine ⟨s1.heap.objs.size,[s1.heap.objs.size],_,_,H1,rfl,I1.kept (t':=s1.toks) fun b o e=>Ql _ e,a8r a _,⟨_,Xe _ rfl,rfl,rfl⟩,fun b hb=>?_,q⟩
 have e:b=s1.heap.objs.size:=by simpa using hb
 subst e
 exact I1.fpOk (Qk _) (I1.hok.fresh (Qk _))
theorem b1T {pins:List (Addr×Obj)} {σ:St} {H:Hp} {s:Shared} {R:It→Hp→Prop} {E:Value→Shared→Prop} {lo hi:Int} {t u v:Tok} {tk:Nat} (I:Inv X pins σ H s) (h1:-(2 ^ 62)≤lo) (h2:lo < 2 ^ 62) (h3:-(2 ^ 62)≤hi) (h4:hi < 2 ^ 62)
  (q:R (Itr lo (hi - lo).toNat) H):wpAny (model X.prog X.w) X.A (pyIter (.ref s.heap.objs.size)) (PIE X pins σ tg R) E {s with heap:=s.heap.push {cls:=.type "range",data:=.fields #[.int lo t,.int hi u,.int 1 v]},toks:=tk}:=by
 refine wpAny_pyIter_range (IsRange.new ..) (small_one h1 h2 h3 h4) ?_
 have I1:Inv X pins σ H {s with heap:=s.heap.push {cls:=.type "range",data:=.fields #[.int lo t,.int hi u,.int 1 v]},toks:=tk}:=I.kept fun b o e=>Ql _ e
 refine ⟨(s.heap.push {cls:=.type "range",data:=.fields #[.int lo t,.int hi u,.int 1 v]}).objs.size,[(s.heap.push {cls:=.type "range",data:=.fields #[.int lo t,.int hi u,.int 1 v]}).objs.size],_,_,H,rfl,
  I1.kept (t':=tk) fun b o e=>Ql _ e,a8Q _ lo (hi - lo).toNat,?_,fun b hb=>?_,q⟩
 ·have e1:lo+((0:Nat):Int) * 1=lo:=by simp
  have e2:(((hi - lo).toNat:Nat):Int) - ((0:Nat):Int)=Builtin.Range.rangeSize lo hi 1:=by rw [rangeSize_one];split<;>omega
  show IsRangeIter _ _ (lo+((0:Nat):Int) * 1) ((((hi - lo).toNat:Nat):Int) - ((0:Nat):Int)) 1
  rw [e1,e2]
  exact Xe _ rfl
 ·have e:b=(s.heap.push {cls:=.type "range",data:=.fields #[.int lo t,.int hi u,.int 1 v]}).objs.size:=by simpa using hb
  subst e
  exact I1.fpOk (Qk _) (I1.hok.fresh (Qk _))
def a6Q (ta:TA):TI:=fun σ H R=>ta σ H fun vs H1=>∃j:Int,vs=[.int j]∧-(2 ^ 62)≤j∧j < 2 ^ 62∧R (Itr 0 j.toNat) H1
theorem b0d {a:Expr} {ta:TA} {p pos:Pos} (hg:Gl X "range") (hm:X.mg "range"=none) (ha:PA X [a] ta) (hs:starEach [a] X.env=[(false,eval a X.env)]:=by rfl):PI X tg (.Call (.Name "range" p) [a] [] pos) (a6Q ta):=by
 intro pins s σ H R I h
 refine Call_ (a5R I hg hm boot_range (PyProof.Rows.callWith_type1 (thn (ha pos pins s σ H _ I h) fun us s1 ⟨vs,H1,I1,r1,q1⟩=>?_) hs rfl))
 obtain ⟨j,e,q1,q2,q⟩:=q1
 subst e
 cases r1 with
 | cons r rr=>
  cases rr
  obtain ⟨t,rfl⟩:=r
  exact call_range_1 (b1T I1 (by omega) (by omega) q1 q2 (by simpa using q))
def b9s (wi:TI) (g:TG) (tb:TS):TS:=fun D σ H=>wi σ H fun J H1=>∃W:Nat→Nat→St→Hp→Prop,(∃m,W 0 m σ H1)∧∀i m σ H,W i m σ H→
 (J.stop i H∧D.nx σ H)∨(J.go i H∧∃N:St→Hp→Prop,(∀σ' H',N σ' H'→∃m',m' < m∧W (i+1) m' σ' H')∧∀x H',J.yld i H x H'→g x σ H' fun σ2 H2=>tb {D with nx:=N,ct:=N,bk:=D.nx} σ2 H2)
def a5S (fp:List Addr) (h:Heap):List (Addr×Obj):=fp.filterMap fun b=>(h.get? b).map fun o=>(b,o)
theorem a2z {fp:List Addr} {h:Heap} {b:Addr} {o:Obj} (hb:b∈fp) (e:h.get? b=some o):(b,o)∈a5S fp h:=Yj.mpr ⟨b,hb,by rw [e];rfl⟩
theorem b0M {fp:List Addr} {h:Heap} {p:Addr×Obj} (hp:p∈a5S fp h):p.1∈fp∧h.get? p.1=some p.2:=by
 obtain ⟨b,hb,e⟩:=Yj.mp hp
 cases q:h.get? b with
 | none=>rw [q] at e;cases e
 | some o=>
  rw [q] at e
  have e':(b,o)=p:=Option.some.inj e
  subst e'
  exact ⟨hb,q⟩
theorem Inv.pinned {pins:List (Addr×Obj)} {σ:St} {H:Hp} {s:Shared} {fp:List Addr} (I:Inv X pins σ H s) (hf:∀b∈fp,a8A X pins H b) (ho:∀b∈fp,∃o,s.heap.get? b=some o∧∀v,o.data≠.cell v):Inv X (pins++a5S fp s.heap) σ H s:=
 I.pins_of fun p hp=>(Xa.mp hp).elim (fun z=>I.pin p (Qx _ z)) fun z=>by
  obtain ⟨hb,e⟩:=b0M z
  obtain ⟨f0,f1,f2,_⟩:=hf p.1 hb
  obtain ⟨o,e',d⟩:=ho p.1 hb
  rw [e] at e';cases e'
  exact ⟨e,f0,f1,f2,d⟩
theorem Inv.unpinned {pins pl:List (Addr×Obj)} {σ:St} {H:Hp} {s:Shared} (I:Inv X (pins++pl) σ H s):Inv X pins σ H s:=I.pins_of fun p hp=>I.pin p (Qx _ (Xx _ hp))
theorem b8S {iter:Expr} {body:List Stmt} {wi:TI} {g:TG} {tb:TS} {pos:Pos} (hp:PassesOwn (model X.prog X.w) X.A X.env X.xe) (hc:X.calm=true) (hi:PI X tg iter wi) (hg:PG X tg g) (hb:PSs X body tb)
  (hs:∀x,foldedSetIterable iter X.env x=pure x:=by intro _;rfl):PS X (.For tg iter body [] pos) (b9s wi g tb):=by
 intro pins s σ H D I h
 refine wpAny_For (thn (hi pins s σ H _ I h) fun v s1 h1=>thn h1 fun itv s2 h2=>?_) hs
 obtain ⟨it,fp,tn,J,H2,e,I2,T,st2,f2,W,⟨m0,w0⟩,turn⟩:=h2
 subst e
 have stat:∀{H':Hp},(∀b∈fp,H' b=none)→∀b∈fp,a8A X pins H' b:=fun hn b hb=>⟨hn b hb,(f2 b hb).2⟩
 refine codeAny_forLoop_any (fun n s'=>∃i σ' H',Inv X pins σ' H' s'∧tn i s'.heap∧(∀b∈fp,H' b=none)∧W i n σ' H') ?_ m0 ⟨0,σ,H2,I2,st2,fun b hb=>(f2 b hb).1,w0⟩
 rintro n s3 ⟨i,σ3,H3,I3,st3,fr3,w3⟩
 rcases turn i n σ3 H3 w3 with ⟨stop,qn⟩ | ⟨go,N,hN,step⟩
 ·refine wpAny_passesOwn hp (thn (T.done X rfl rfl rfl hc i pins s3 σ3 H3 X.xe I3 (stat fr3) st3 stop) fun r s4 ⟨hr,I4⟩=>?_)
  subst hr
  exact wpAny_execs_nil ⟨σ3,H3,I4,qn⟩
 ·refine wpAny_passesOwn hp (thn (T.item X rfl rfl rfl hc i pins s3 σ3 H3 X.xe I3 (stat fr3) st3 go) fun r s4 ⟨u,hr,h4⟩=>?_)
  subst hr
  refine wpAny_passesOwn hp (thn h4 fun _ s5 ⟨x,H5,I5,r5,y5,st5,fr5⟩=>?_)
  have I5':=I5.pinned (stat fr5) (T.obj _ _ st5)
  refine wpAny_passesOwn hp (thn (hg _ s5 σ3 H5 x u _ I5' r5 (step x H5 y5)) fun _ s6 ⟨σ6,H6,I6,q6⟩=>?_)
  refine wpAny_passesOwn hp (thn (hb _ s6 σ6 H6 _ I6 q6) fun f s7 q7=>?_)
  have again:∀{σ7:St} {H7:Hp},Inv X (pins++a5S fp s5.heap) σ7 H7 s7→N σ7 H7→∃m,m < n∧∃i σ' H',Inv X pins σ' H' s7∧tn i s7.heap∧(∀b∈fp,H' b=none)∧W i m σ' H':=fun {σ7 H7} I7 n7=>by
   obtain ⟨m',hm,w7⟩:=hN σ7 H7 n7
   refine ⟨m',hm,i+1,σ7,H7,I7.unpinned,T.keep _ _ _ st5 fun b hb o e=>(I7.pin (b,o) (Qx _ (Qx _ (a2z hb e)))).1,fun b hb=>?_,w7⟩
   obtain ⟨o,e,d⟩:=T.obj _ _ st5 b hb
   exact (I7.pin (b,o) (Qx _ (Qx _ (a2z hb e)))).2.1
  cases f with
  | next=>obtain ⟨σ7,H7,I7,n7⟩:=q7;exact again I7 n7
  | cont=>obtain ⟨σ7,H7,I7,n7⟩:=q7;exact again I7 n7
  | brk=>obtain ⟨σ7,H7,I7,q7⟩:=q7;exact ⟨σ7,H7,I7.unpinned,q7⟩
  | ret v=>obtain ⟨x7,σ7,H7,I7,r7,q7⟩:=q7;exact ⟨x7,σ7,H7,I7.unpinned,r7,q7⟩
end
theorem a1v {K:Qd} {a:Addr} {xs:List V} {g:TG} {tb:TS} {D:a8b} {σ:St} {H:Hp} (Pv:Nat→St→Hp→Prop) (h0:Pv 0 σ H) (hl:∀i σ H,i≤xs.length→Pv i σ H→SqL K H a xs)
  (hs:∀i x σ H,xs[i]?=some x→Pv i σ H→g x σ H fun σ2 H2=>tb {D with nx:=Pv (i+1),ct:=Pv (i+1),bk:=D.nx} σ2 H2) (hd:∀σ H,Pv xs.length σ H→D.nx σ H):
  ∃W:Nat→Nat→St→Hp→Prop,(∃m,W 0 m σ H)∧∀i m σ H,W i m σ H→
   ((Itl K a).stop i H∧D.nx σ H)∨((Itl K a).go i H∧∃N:St→Hp→Prop,(∀σ' H',N σ' H'→∃m',m' < m∧W (i+1) m' σ' H')∧∀x H',(Itl K a).yld i H x H'→g x σ H' fun σ2 H2=>tb {D with nx:=N,ct:=N,bk:=D.nx} σ2 H2):=by
 refine ⟨fun i m σ H=>m=xs.length - i∧i≤xs.length∧Pv i σ H,⟨xs.length,by simp,Xf _,h0⟩,?_⟩
 rintro i m σ H ⟨rfl,hi,p⟩
 have q:=hl i σ H hi p
 by_cases hlt:i < xs.length
 ·refine .inr ⟨⟨xs,xs[i],q,by simp [hlt]⟩,Pv (i+1),fun σ' H' p'=>⟨xs.length - (i+1),by omega,rfl,hlt,p'⟩,fun x H' y=>?_⟩
  obtain ⟨e,y⟩:=y
  subst e
  exact hs i x σ _ (y xs q) p
 ·have e:i=xs.length:=by omega
  subst e
  exact .inl ⟨⟨xs,q,Qk _⟩,hd σ H p⟩
theorem a4Z {K:Qd} {a:Addr} {xs:List V} {g:TG} {tb:TS} {D:a8b} {σ:St} {H:Hp} (Pv:Nat→St→Hp→Prop) (h0:Pv 0 σ H) (hl:∀i σ H,i≤xs.length→Pv i σ H→SqT K H a xs)
  (hs:∀i x σ H,xs[i]?=some x→Pv i σ H→g x σ H fun σ2 H2=>tb {D with nx:=Pv (i+1),ct:=Pv (i+1),bk:=D.nx} σ2 H2) (hd:∀σ H,Pv xs.length σ H→D.nx σ H):
  ∃W:Nat→Nat→St→Hp→Prop,(∃m,W 0 m σ H)∧∀i m σ H,W i m σ H→
   ((Itt K a).stop i H∧D.nx σ H)∨((Itt K a).go i H∧∃N:St→Hp→Prop,(∀σ' H',N σ' H'→∃m',m' < m∧W (i+1) m' σ' H')∧∀x H',(Itt K a).yld i H x H'→g x σ H' fun σ2 H2=>tb {D with nx:=N,ct:=N,bk:=D.nx} σ2 H2):=by
 refine ⟨fun i m σ H=>m=xs.length - i∧i≤xs.length∧Pv i σ H,⟨xs.length,by simp,Xf _,h0⟩,?_⟩
 rintro i m σ H ⟨rfl,hi,p⟩
 have q:=hl i σ H hi p
 by_cases hlt:i < xs.length
 ·refine .inr ⟨⟨xs,xs[i],q,by simp [hlt]⟩,Pv (i+1),fun σ' H' p'=>⟨xs.length - (i+1),by omega,rfl,hlt,p'⟩,fun x H' y=>?_⟩
  obtain ⟨e,y⟩:=y
  subst e
  exact hs i x σ _ (y xs q) p
 ·have e:i=xs.length:=by omega
  subst e
  exact .inl ⟨⟨xs,q,Qk _⟩,hd σ H p⟩
theorem a2T {lo:Int} {n:Nat} {g:TG} {tb:TS} {D:a8b} {σ:St} {H:Hp} (Pv:Nat→St→Hp→Prop) (h0:Pv 0 σ H)
  (hs:∀i σ H,i < n→Pv i σ H→g (.int (lo+i)) σ H fun σ2 H2=>tb {D with nx:=Pv (i+1),ct:=Pv (i+1),bk:=D.nx} σ2 H2) (hd:∀σ H,Pv n σ H→D.nx σ H):
  ∃W:Nat→Nat→St→Hp→Prop,(∃m,W 0 m σ H)∧∀i m σ H,W i m σ H→
   ((Itr lo n).stop i H∧D.nx σ H)∨((Itr lo n).go i H∧∃N:St→Hp→Prop,(∀σ' H',N σ' H'→∃m',m' < m∧W (i+1) m' σ' H')∧∀x H',(Itr lo n).yld i H x H'→g x σ H' fun σ2 H2=>tb {D with nx:=N,ct:=N,bk:=D.nx} σ2 H2):=by
 refine ⟨fun i m σ H=>m=n - i∧i≤n∧Pv i σ H,⟨n,by simp,Xf _,h0⟩,?_⟩
 rintro i m σ H ⟨rfl,hi,p⟩
 by_cases hlt:i < n
 ·refine .inr ⟨hlt,Pv (i+1),fun σ' H' p'=>⟨n - (i+1),by omega,rfl,hlt,p'⟩,fun x H' y=>?_⟩
  obtain ⟨e,y⟩:=y
  subst e y
  exact hs i σ _ hlt p
 ·have e:i=n:=by omega
  subst e
  exact .inl ⟨Qk _,hd σ H p⟩
end L2
namespace L2
open PySem PySem.Spec PyProof.Rows
abbrev R2:=V→V→Hp→VK→Prop
def OpR (X:Cx) (f:Value→Value→Sem Value) (r:R2):Prop:=
 ∀(pins:List (Addr×Obj)) (s:Shared) (σ:St) (H:Hp) (x y:V) (v u:Value) (Q:VK),Inv X pins σ H s→a0O x v→a0O y u→r x y H Q→
  wpAny (model X.prog X.w) X.A (f v u) (EP X pins σ Q) X.xe s
def a1U (X:Cx) (f:Value) (r:List V→Hp→VK→Prop):Prop:=
 ∀(pins:List (Addr×Obj)) (s:Shared) (σ:St) (H:Hp) (xs:List V) (us:List Value) (Q:VK),Inv X pins σ H s→a0N xs us→r xs H Q→
  wpAny (model X.prog X.w) X.A (call f us) (EP X pins σ Q) X.xe s
def tOp (r:R2) (ta tb:TE):TE:=fun σ H Q=>ta σ H fun x H1=>tb σ H1 fun y H2=>r x y H2 Q
def rI (C:Int→Int→Prop) (g:Int→Int→V):R2:=fun x y H Q=>∃i j,x=.int i∧y=.int j∧C i j∧Q (g i j) H
def rI0 (g:Int→Int→V):R2:=fun x y H Q=>∃i j,x=.int i∧y=.int j∧Q (g i j) H
section
variable {X:Cx} {a b c:Expr} {ta tb tc:TE} {pos:Pos}
theorem c0E (ha:PE X a ta) (hb:PE X b tb) {pins:List (Addr×Obj)} {s:Shared} {σ:St} {H:Hp} {R:V→V→Hp→Prop} (I:Inv X pins σ H s)
  (h:ta σ H fun x H1=>tb σ H1 fun y H2=>R x y H2) {Q:Value→Shared→Prop} {f:Value→Value→Sem Value}
  (hf:∀v u s2 x y H2,Inv X pins σ H2 s2→a0O x v→a0O y u→R x y H2→wpAny (model X.prog X.w) X.A (f v u) Q X.xe s2):
  wpAny (model X.prog X.w) X.A (eval a X.env) (fun v s₁=>wpAny (model X.prog X.w) X.A (eval b X.env) (fun u s₂=>wpAny (model X.prog X.w) X.A (f v u) Q X.xe s₂) X.xe s₁) X.xe s:=by
 refine thn (ha pins s σ H _ I h) fun v s1 ⟨x,H1,I1,r1,q1⟩=>?_
 refine thn (hb pins s1 σ H1 _ I1 q1) fun u s2 ⟨y,H2,I2,r2,q2⟩=>?_
 exact hf v u s2 x y H2 I2 r1 r2 q2
theorem c0P {op:Operator} {r:R2} (ho:OpR X (binaryOp op) r) (ha:PE X a ta) (hb:PE X b tb):PE X (.BinOp a op b pos) (tOp r ta tb):=by
 intro pins s σ H Q I h
 exact wpAny_BinOp (c0E ha hb I h fun v u s2 x y H2 I2 rx ry q=>ho pins s2 σ H2 x y v u Q I2 rx ry q)
theorem opI {f:Value→Value→Sem Value} {C:Int→Int→Prop} {g:Int→Int→Int}
  (rule:∀(i j:Int) (t u:Tok) (s:Shared) (Q:Value→Shared→Prop) (E:Value→Shared→Prop),C i j→Q (.int (g i j) s.toks) {s with toks:=s.toks+1}→wpAny (model X.prog X.w) X.A (f (.int i t) (.int j u)) Q E s):
  OpR X f (rI C fun i j=>.int (g i j)):=by
 intro pins s σ H x y v u Q I rx ry h
 obtain ⟨i,j,rfl,rfl,hc,q⟩:=h
 obtain ⟨t,rfl⟩:=rx
 obtain ⟨t',rfl⟩:=ry
 exact rule i j t t' s _ _ hc ⟨.int (g i j),H,I.tok _,⟨_,rfl⟩,q⟩
theorem c2G {f:Value→Value→Sem Value} {g:Int→Int→Int}
  (rule:∀(i j:Int) (t u:Tok) (s:Shared) (Q:Value→Shared→Prop) (E:Value→Shared→Prop),Q (.int (g i j) s.toks) {s with toks:=s.toks+1}→wpAny (model X.prog X.w) X.A (f (.int i t) (.int j u)) Q E s):
  OpR X f (rI0 fun i j=>.int (g i j)):=by
 intro pins s σ H x y v u Q I rx ry h
 obtain ⟨i,j,rfl,rfl,q⟩:=h
 obtain ⟨t,rfl⟩:=rx
 obtain ⟨t',rfl⟩:=ry
 exact rule i j t t' s _ _ ⟨.int (g i j),H,I.tok _,⟨_,rfl⟩,q⟩
theorem c3q {f:Value→Value→Sem Value} {g:Int→Int→Bool}
  (rule:∀(i j:Int) (t u:Tok) (s:Shared) (Q:Value→Shared→Prop) (E:Value→Shared→Prop),Q (.bool (g i j)) s→wpAny (model X.prog X.w) X.A (f (.int i t) (.int j u)) Q E s):
  OpR X f (rI0 fun i j=>.bl (g i j)):=by
 intro pins s σ H x y v u Q I rx ry h
 obtain ⟨i,j,rfl,rfl,q⟩:=h
 obtain ⟨t,rfl⟩:=rx
 obtain ⟨t',rfl⟩:=ry
 exact rule i j t t' s _ _ ⟨.bl (g i j),H,I,rfl,q⟩
def a8N (i j:Int):Prop:=0 < j∧j < 1073741824
def b5h (i j:Int):Prop:=(-(2 ^ 64) < i∧i < 2 ^ 64)∨(-(2 ^ 64) < j∧j < 2 ^ 64)
theorem b5h.ok {i j:Int} (h:b5h i j):IntMulOk i j:=by
 rcases h with ⟨h1,h2⟩ | ⟨h1,h2⟩
 ·exact .of_left (intBits_le_64 h1 h2)
 ·exact .of_right (intBits_le_64 h1 h2)
theorem b7R:OpR X (binaryOp .Add) (rI0 fun i j=>.int (i+j)):=c2G fun _ _ _ _ _ _ _ q=>add_int q
theorem a9D:OpR X (binaryOp .Sub) (rI0 fun i j=>.int (i - j)):=c2G fun _ _ _ _ _ _ _ q=>sub_int q
theorem a4a:OpR X (binaryOp .Mult) (rI b5h fun i j=>.int (i * j)):=opI fun _ _ _ _ _ _ _ hc q=>mul_int q hc.ok
theorem a0M:OpR X (binaryOp .FloorDiv) (rI a8N fun i j=>.int (i / j)):=opI fun i j _ _ _ _ _ hc q=>by
 have h1:(0:Int) < j:=hc.1
 have h2:j < 1073741824:=hc.2
 exact floordiv_int (by omega) (by rw [Int.fdiv_eq_ediv_of_nonneg i (by omega)];exact q) (.inl (PyProof.noPylong_small (by omega)))
theorem a0G:OpR X (binaryOp .Mod) (rI (fun _ j=>0 < j) fun i j=>.int (i % j)):=opI fun i j _ _ _ _ _ hc q=>by
 have h1:(0:Int) < j:=hc
 exact mod_int' (by omega) (by rw [Int.fmod_eq_emod_of_nonneg i (by omega)];exact q)
end
def c4e:V→V→Bool
 | .non,.non=>true | .non,.int _=>true | .int _,.non=>true | .non,.bl _=>true | .bl _,.non=>true | .non,.str _=>true | .str _,.non=>true
 | .int _,.int _=>true | .bl _,.bl _=>true | .str _,.str _=>true | .byt _,.byt _=>true
 | .int _,.str _=>true | .str _,.int _=>true | .bl _,.str _=>true | .str _,.bl _=>true
 | _,_=>false
def rEq:R2:=fun x y H Q=>c4e x y=true∧Q (.bl (decide (x=y))) H
def rNe:R2:=fun x y H Q=>c4e x y=true∧Q (.bl (!decide (x=y))) H
theorem b0w {i j:Int}:decide (V.int i=V.int j)=(i == j):=by
 rw [Xl]
 simp
theorem b4q {i j:Bool}:decide (V.bl i=V.bl j)=(i == j):=by
 rw [Xl]
 simp
theorem b0b {i j:Str}:decide (V.str i=V.str j)=(i == j):=by
 rw [Xl]
 simp
theorem a9q {i j:Array UInt8}:decide (V.byt i=V.byt j)=(i.toList == j.toList):=by
 rw [Xl]
 cases i
 cases j
 simp
section
variable {X:Cx} {a b c:Expr} {ta tb tc:TE} {pos:Pos}
theorem a0w {pins:List (Addr×Obj)} {σ:St} {H:Hp} {s:Shared} {Q:VK} {k k':Bool} (I:Inv X pins σ H s) (q:Q (.bl k) H) (e:k=k'):EP X pins σ Q (.bool k') s:=by
 subst e
 exact ⟨.bl k,H,I,rfl,q⟩
theorem c0X:OpR X (compareOp .Eq) rEq:=by
 intro pins s σ H x y v u Q I rx ry h
 obtain ⟨hs,q⟩:=h
 cases x with
 | non=>
  cases rx
  cases y with
  | non=>cases ry;exact PySem.EqNone.eq_none_none (a0w I q (by simp))
  | bl j=>cases ry;exact PySem.EqNone.eq_none_bool (a0w I q (by simp))
  | int j=>obtain ⟨t',rfl⟩:=ry;exact PySem.EqNone.eq_none_int (a0w I q (by simp))
  | str j=>obtain ⟨t',rfl⟩:=ry;exact PySem.EqNone.eq_none_str (a0w I q (by simp))
  | _=>exact absurd (show false=true from hs) Qn
 | bl i=>
  cases rx
  cases y with
  | non=>cases ry;exact PySem.EqNone.eq_bool_none (a0w I q (by simp))
  | bl j=>cases ry;exact eq_bool (a0w I q b4q)
  | str j=>obtain ⟨t',rfl⟩:=ry;exact PySem.EqMixed.eq_bool_str (a0w I q (by simp))
  | _=>exact absurd (show false=true from hs) Qn
 | int i=>
  obtain ⟨t,rfl⟩:=rx
  cases y with
  | non=>cases ry;exact PySem.EqNone.eq_int_none (a0w I q (by simp))
  | int j=>obtain ⟨t',rfl⟩:=ry;exact eq_int (a0w I q b0w)
  | str j=>obtain ⟨t',rfl⟩:=ry;exact PySem.EqMixed.eq_int_str (a0w I q (by simp))
  | _=>exact absurd (show false=true from hs) Qn
 | str i=>
  obtain ⟨t,rfl⟩:=rx
  cases y with
  | non=>cases ry;exact PySem.EqNone.eq_str_none (a0w I q (by simp))
  | bl j=>cases ry;exact PySem.EqMixed.eq_str_bool (a0w I q (by simp))
  | int j=>obtain ⟨t',rfl⟩:=ry;exact PySem.EqMixed.eq_str_int (a0w I q (by simp))
  | str j=>obtain ⟨t',rfl⟩:=ry;exact eq_str (a0w I q b0b)
  | _=>exact absurd (show false=true from hs) Qn
 | byt i=>
  obtain ⟨t,rfl⟩:=rx
  cases y with
  | byt j=>obtain ⟨t',rfl⟩:=ry;exact PySem.W.eq_bytes (a0w I q a9q)
  | _=>exact absurd (show false=true from hs) Qn
 | _=>cases y<;>exact absurd (show false=true from hs) Qn
theorem c0D:OpR X (compareOp .NotEq) rNe:=by
 intro pins s σ H x y v u Q I rx ry h
 obtain ⟨hs,q⟩:=h
 cases x with
 | non=>
  cases rx
  cases y with
  | non=>cases ry;exact PySem.EqNone.ne_none_none (a0w I q (by simp))
  | bl j=>cases ry;exact PySem.EqNone.ne_none_bool (a0w I q (by simp))
  | int j=>obtain ⟨t',rfl⟩:=ry;exact PySem.EqNone.ne_none_int (a0w I q (by simp))
  | str j=>obtain ⟨t',rfl⟩:=ry;exact PySem.EqNone.ne_none_str (a0w I q (by simp))
  | _=>exact absurd (show false=true from hs) Qn
 | bl i=>
  cases rx
  cases y with
  | non=>cases ry;exact PySem.EqNone.ne_bool_none (a0w I q (by simp))
  | bl j=>cases ry;exact ne_bool (a0w I q (congrArg not b4q))
  | str j=>obtain ⟨t',rfl⟩:=ry;exact PySem.EqMixed.ne_bool_str (a0w I q (by simp))
  | _=>exact absurd (show false=true from hs) Qn
 | int i=>
  obtain ⟨t,rfl⟩:=rx
  cases y with
  | non=>cases ry;exact PySem.EqNone.ne_int_none (a0w I q (by simp))
  | int j=>obtain ⟨t',rfl⟩:=ry;exact ne_int (a0w I q (congrArg not b0w))
  | str j=>obtain ⟨t',rfl⟩:=ry;exact PySem.EqMixed.ne_int_str (a0w I q (by simp))
  | _=>exact absurd (show false=true from hs) Qn
 | str i=>
  obtain ⟨t,rfl⟩:=rx
  cases y with
  | non=>cases ry;exact PySem.EqNone.ne_str_none (a0w I q (by simp))
  | bl j=>cases ry;exact PySem.EqMixed.ne_str_bool (a0w I q (by simp))
  | int j=>obtain ⟨t',rfl⟩:=ry;exact PySem.EqMixed.ne_str_int (a0w I q (by simp))
  | str j=>obtain ⟨t',rfl⟩:=ry;exact ne_str (a0w I q (congrArg not b0b))
  | _=>exact absurd (show false=true from hs) Qn
 | byt i=>
  obtain ⟨t,rfl⟩:=rx
  cases y with
  | byt j=>obtain ⟨t',rfl⟩:=ry;exact PySem.W.ne_bytes (a0w I q (congrArg not a9q))
  | _=>exact absurd (show false=true from hs) Qn
 | _=>cases y<;>exact absurd (show false=true from hs) Qn
theorem c0K:OpR X (compareOp .Lt) (rI0 fun i j=>.bl (decide (i < j))):=c3q fun _ _ _ _ _ _ _ q=>lt_int q
theorem a9Y:OpR X (compareOp .Gt) (rI0 fun i j=>.bl (decide (j < i))):=c3q fun _ _ _ _ _ _ _ q=>gt_int q
theorem a9N:OpR X (compareOp .Lt) (fun x y H Q=>∃i j,x=.str i∧y=.str j∧Q (.bl (decide (i.cps.toList < j.cps.toList))) H):=by
 intro pins s σ H x y v u Q I rx ry h
 obtain ⟨i,j,rfl,rfl,q⟩:=h
 obtain ⟨t,rfl⟩:=rx
 obtain ⟨t',rfl⟩:=ry
 exact lt_str (a0w I q rfl)
theorem a9g:OpR X (compareOp .In) (fun x y H Q=>∃i j,x=.str i∧y=.str j∧Q (.bl (!(Builtin.Str.occurrences j i 0 j.length 1).isEmpty)) H):=by
 intro pins s σ H x y v u Q I rx ry h
 obtain ⟨i,j,rfl,rfl,q⟩:=h
 obtain ⟨t,rfl⟩:=rx
 obtain ⟨t',rfl⟩:=ry
 exact in_str (a0w I q rfl)
theorem b6R:OpR X (compareOp .Is) (fun x y H Q=>y=.non∧Q (.bl (decide (x=.non))) H):=by
 intro pins s σ H x y v u Q I rx ry h
 obtain ⟨rfl,q⟩:=h
 cases ry
 refine is_none_gen (a0w I q ?_)
 cases x<;>first
  | (cases rx;rfl)
  | (obtain ⟨t,rfl⟩:=rx;rfl)
theorem OpR.or {f:Value→Value→Sem Value} {r r':R2} (h:OpR X f r) (h':OpR X f r'):OpR X f (fun x y H Q=>r x y H Q∨r' x y H Q):=by
 intro pins s σ H x y v u Q I rx ry q
 rcases q with q | q
 ·exact h pins s σ H x y v u Q I rx ry q
 ·exact h' pins s σ H x y v u Q I rx ry q
theorem a0r (b:Expr) {op:CmpOp} (h:op≠.In:=by decide) (h2:op≠.NotIn:=by decide):behindInMarks op b=false:=by
 have e1:(op == CmpOp.In)=false:=by cases op<;>first | rfl | exact absurd rfl h
 have e2:(op == CmpOp.NotIn)=false:=by cases op<;>first | rfl | exact absurd rfl h2
 cases b<;>simp [behindInMarks,e1,e2]
theorem b5X {op:CmpOp} {r:R2} (ho:OpR X (compareOp op) r) (ha:PE X a ta) (hb:PE X b tb) (hm:behindInMarks op b=false):PE X (.Compare a [op] [b] pos) (tOp r ta tb):=by
 intro pins s σ H Q I h
 exact wpAny_Compare1 (c0E ha hb I h fun v u s2 x y H2 I2 rx ry q=>ho pins s2 σ H2 x y v u Q I2 rx ry q) hm
def a1f (t:TE):TT:=fun σ H Q=>t σ H fun x H'=>∃k,x=.bl k∧Q k H'
theorem b6m {op:CmpOp} {r:R2} (ho:OpR X (compareOp op) r) (ha:PE X a ta) (hb:PE X b tb) (hm:behindInMarks op b=false):PT X (.Compare a [op] [b] pos) (a1f (tOp r ta tb)):=by
 intro pins s σ H Q I h
 refine wpAny_isTrue_Compare1 (thn (ha pins s σ H _ I h) fun v s1 ⟨x,H1,I1,r1,q1⟩=>thn (hb pins s1 σ H1 _ I1 q1) fun u s2 ⟨y,H2,I2,r2,q2⟩=>
  thn (ho pins s2 σ H2 x y v u _ I2 r1 r2 q2) fun c s3 ⟨z,H3,I3,r3,k,e,q3⟩=>?_) hm
 subst e
 cases r3
 exact wpAny_truthy_bool ⟨H3,I3,q3⟩
def b4m (r r':R2) (ta tb tc:TE):TE:=fun σ H Q=>ta σ H fun x H1=>tb σ H1 fun y H2=>r x y H2 fun z H3=>∃k,z=.bl k∧
 (if k=true then tc σ H3 fun w' H4=>r' y w' H4 Q else Q (.bl false) H3)
theorem b2g {op op':CmpOp} {r r':R2} (ho:OpR X (compareOp op) r) (ho':OpR X (compareOp op') r') (ha:PE X a ta) (hb:PE X b tb) (hc:PE X c tc)
  (hm:lastMarks [op,op'] [b,c]=false:=by with_unfolding_all rfl):PT X (.Compare a [op,op'] [b,c] pos) (a1f (b4m r r' ta tb tc)):=by
 intro pins s σ H Q I h
 refine isTrue_chain (thn (ha pins s σ H _ I h) fun v s1 ⟨x,H1,I1,r1,q1⟩=>test_link (thn (hb pins s1 σ H1 _ I1 q1) fun u s2 ⟨y,H2,I2,r2,q2⟩=>
  thn (ho pins s2 σ H2 x y v u _ I2 r1 r2 q2) fun d s3 ⟨z,H3,I3,r3,k,e,q3⟩=>?_)) hm
 subst e
 cases r3
 refine wpAny_truthy_bool ?_
 cases k with
 | false=>
  obtain ⟨k',e',q'⟩:=q3
  cases e'
  exact ite_ff ⟨H3,I3,q'⟩
 | true=>
  refine ite_tt (test_last (thn (hc pins s3 σ H3 _ I3 q3) fun w' s4 ⟨z',H4,I4,r4,q4⟩=>thn (ho' pins s4 σ H4 y z' u w' _ I4 r2 r4 q4) fun d' s5 ⟨z2,H5,I5,r5,k2,e2,q5⟩=>?_))
  subst e2
  cases r5
  exact wpAny_truthy_bool ⟨H5,I5,q5⟩
theorem a7l:(sizeLine:Nat) < 2 ^ 63:=by rw [sizeLine_eq];decide
theorem a8I:OpR X (binaryOp .Add) (fun x y H Q=>∃i j,x=.str i∧y=.str j∧i.length+j.length≤sizeLine∧Q (.str (i++j)) H):=by
 intro pins s σ H x y v u Q I rx ry h
 obtain ⟨i,j,rfl,rfl,hz,q⟩:=h
 obtain ⟨t,rfl⟩:=rx
 obtain ⟨t',rfl⟩:=ry
 exact add_str (fun t' tk=>⟨.str (i++j),H,I.tok _,⟨_,rfl⟩,q⟩) hz
theorem a3y {x:V} {us:List Value} (r:a0N [x] us):∃u,us=[u]∧a0O x u:=by
 cases r with
 | cons r1 r2=>cases r2;exact ⟨_,rfl,r1⟩
def c3w (K:Qd) (x:V) (H:Hp) (n:Nat):Prop:=
 match x with
 | .str y=>y.length≤sizeLine∧n=y.length
 | .byt y=>y.size≤sizeLine∧n=y.size
 | .ref p=>(∃xs,SqL K H p xs∧n=xs.length)∨∃xs,SqT K H p xs∧n=xs.length
 | _=>False
theorem b2t:a1U X (.builtin "len") (fun xs H Q=>∃x n,xs=[x]∧c3w X.K x H n∧Q (.int n) H):=by
 intro pins s σ H xs us Q I r h
 obtain ⟨x,n,rfl,e,q⟩:=h
 obtain ⟨u,rfl,rx⟩:=a3y r
 have hl:=a7l
 have hs:sizeLine=16777216:=sizeLine_eq
 cases x with
 | str y=>
  obtain ⟨t,rfl⟩:=rx
  obtain ⟨hy,e'⟩:y.length≤sizeLine∧n=y.length:=e
  subst e'
  exact len_str (by omega) ⟨.int _,H,I.tok _,⟨_,rfl⟩,q⟩
 | byt y=>
  obtain ⟨t,rfl⟩:=rx
  obtain ⟨hy,e'⟩:y.size≤sizeLine∧n=y.size:=e
  subst e'
  exact PySem.W.len_bytes (by omega) ⟨.int _,H,I.tok _,⟨_,rfl⟩,q⟩
 | ref p=>
  cases rx
  have e':(∃xs,SqL X.K H p xs∧n=xs.length)∨∃xs,SqT X.K H p xs∧n=xs.length:=e
  rcases e' with ⟨xs,hx,e'⟩ | ⟨xs,hx,e'⟩
  ·subst e'
   obtain ⟨its,r',pl,hz⟩:=I.list hx
   have hlen:=r'.length
   exact Calls.call_len_list pl.isList (by simp only [Qt];omega) ⟨.int xs.length,H,I.tok _,⟨_,by simp only [Qt];rw [hlen]⟩,q⟩
  ·subst e'
   obtain ⟨its,r',pl,hz⟩:=I.tuple hx
   have hlen:=r'.length
   exact len_tuple pl (by simp only [Qt];omega) ⟨.int xs.length,H,I.tok _,⟨_,by simp only [Qt];rw [hlen]⟩,q⟩
 | _=>exact (show False from e).elim
end
end L2
namespace L2
open PySem PySem.Spec PyProof.Rows
structure b6g (h:Heap) (x dx C:Addr) (mA:Str→Option Value):Prop where
 obj:h.get? x=some (Zg C dx)
 ns:h.Ns1 dx mA
 ne:dx≠x
theorem b0D {h:Heap} {dx:Addr} {mA:Str→Option Value} (n:h.Ns1 dx mA):∃od,h.get? dx=some od∧∀name,Ut name od=some (mA name):=by
 obtain ⟨o,es,ep,ho,hd,hk,_,hm⟩:=n
 refine ⟨o,ho,fun name=>?_⟩
 have e:=hm name
 unfold nsFind findBy at e
 rw [←Array.find?_toList] at e
 unfold Ut
 rw [hd]
 dsimp only
 split
 ·rename_i y q
  rw [q] at e
  exact congrArg some e
 ·rename_i q
  rw [q] at e
  have a:es.toList.any (·.refKey)=false:=by
   rw [List.any_eq_false]
   intro y hy
   obtain ⟨z,t,hkey⟩:=hk y (Array.mem_toList_iff.mp hy)
   simp [DictEntry.refKey,hkey]
  have a':¬es.toList.any (·.refKey)=true:=by rw [a];exact Qn
  rw [if_neg a']
  exact congrArg some e
theorem b6g.look {h:Heap} {x dx C:Addr} {mA:Str→Option Value} (I:b6g h x dx C mA):∃od,PySem.W.InstAt h x (Zg C dx) C (some od)∧∀name,Ut name od=some (mA name):=
 let ⟨od,ho,hl⟩:=b0D I.ns
 ⟨od,⟨I.obj,rfl,rfl,ho⟩,hl⟩
section
variable {prog:Program} {w:World} {A:Around} {E:Value→Shared→Prop} {s:Shared} {K:Qd} {x dx C f:Addr} {mA:Str→Option Value} {name:Str} {v:Value}
theorem b6f {expr:Bool} {Q:Value→Shared→Prop} (X:K.In s.heap) (I:b6g s.heap x dx C mA) (hg:Ud K C name=true) (hh:Vd K C=true)
  (ha:Ys K (.ref C) name=some none) (hv:mA name=some v) (hv':Gc v=true) (h:Q v {s with toks:=s.toks+1}):
  wpAny (model prog w) A (getAttr (.ref x) name expr) Q E s:=by
 obtain ⟨od,J,hl⟩:=I.look
 exact PySem.W.get_value X J (Uo hg).1 (PySem.W.findObj_own hh ha rfl (by rw [hl,hv])) hv' h
theorem b2B {pl:Sem Bool} {Q:Value×List Value→Shared→Prop} (X:K.In s.heap) (I:b6g s.heap x dx C mA) (hg:Ud K C name=true)
  (hf:Ys K (.ref C) name=some (some (.ref f))) (ht:Wy K (.ref f)=true) (hv:mA name=none) (h:Q (.ref f,[.ref x]) s):
  wpAny (model prog w) A (getMethod (.ref x) name pl) Q E s:=by
 obtain ⟨od,J,hl⟩:=I.look
 exact PySem.W.method_fn X J (Uo hg).1 (Uo hg).2 hf (beq_iff_eq.mp ht) (by show (Ut name od).map (·.isSome)=some false;rw [hl,hv];rfl) h
theorem b6k {ns:List Str} {Q:Unit→Shared→Prop} (X:K.In s.heap) (I:b6g s.heap x dx C mA)
  (hs:Ys K (.ref C) "__setattr__"=some (some (.builtin "object.__setattr__"))) (hp:Ga K C=true) (ht:Wc K C name=some none) (hh:Vd K C=true)
  (hw:PySem.Within mA ns) (hsz:ns.length≤sizeLine)
  (h:∀h',b6g h' x dx C (fun y=>if y=name then some v else mA y)→Vm dx s.heap h'→Q () {s with heap:=h',toks:=s.toks+2}):
  wpAny (model prog w) A (setAttr (.ref x) name v) Q E s:=by
 obtain ⟨od,J,hl⟩:=I.look
 refine PySem.W.set_plain X J hs (PySem.W.osa_open (s:={s with toks:=s.toks+1}) (r:=none) X J hp ht fun b=>?_)
 obtain ⟨cd,hc,hd'⟩:=PySem.W.any_some hh
 have hx:s.heap.get? x=some ⟨.ref C,some dx,.plain,#[]⟩:=I.obj
 refine wpAny_bind (wpAny_pure (wpAny_bind (wpAny_bind (wpAny_loadPart hx (wpAny_bind (PySem.W.Looks.here (s:={s with toks:=s.toks+1}) (PySem.W.looks_clsIn X hc) ?_))))))
 rw [hd']
 refine wpAny_pure (a:=some dx) (wpAny_bind (wpAny_pure (wpAny_bind ?_)))
 refine wpAny_nsSet1 (s:={s with toks:=s.toks+1}) I.ns fun h' hn2 hs2=>?_
 obtain ⟨oD,esD,epD,hoD,hdD,hcD⟩:=hn2.count (PySem.Within.cons name v hw)
 refine wpAny_bind (wpAny_lookBehind hoD (by rw [hdD];exact pastItsLine_dict (Qi hcD (by rw [Qo];omega))) ?_)
 exact wpAny_pure (h _ ⟨(hs2.2 _ (Ne.symm I.ne)).trans I.obj,hn2,I.ne⟩ hs2)
theorem b2h {R:Result→Shared→Prop} {vs:List Value} {kw:List (Str×Value)} (X:K.In s.heap) (hm:Gf K C=true)
  (hi:Ys K (.ref C) "__init__"=some (some (.ref f))) (hf:Wk K (.ref f)=some (.type "function"))
  (h:codeAny (model prog w) (A.under (.builtin "type.__call__" ⟨.ref C::vs,kw⟩)) (.call (.ref f) ⟨.ref (s.heap.objs.size+1)::vs,kw⟩) (PySem.W.InitBack (s.heap.objs.size+1) R)
   {s with heap:=(s.heap.push Yt).push (Zg C s.heap.objs.size)}):
  codeAny (model prog w) A (.call (.ref C) ⟨vs,kw⟩) R s:=by
 obtain ⟨hh,g,d,t,os⟩:=s
 exact PySem.W.make_core (PySem.W.makes_of X hm) (PySem.W.looks_findIn X hi) (fun self=>PySem.W.bind_fn X self hf) (.inl rfl) h
end
def a1n (f:Str) (v:V):List (Str×V)→List (Str×V)
 | []=>[(f,v)]
 | (g,x)::r=>if g=f then (g,v)::r else (g,x)::a1n f v r
theorem a0f (f g:Str) (v:V):∀fs:List (Str×V),(a1n f v fs).lookup g=if g=f then some v else fs.lookup g
 | []=>by
  show Zq g [(f,v)]=_
  by_cases h:g=f
  ·have hb:(g == f)=true:=beq_iff_eq.mpr h
   simp only [Zq,hb,if_pos h]
  ·have hb:(g == f)=false:=beq_eq_false_iff_ne.mpr h
   simp only [Zq,hb,if_neg h]
 | (k,x)::r=>by
  have ih:=a0f f g v r
  rw [show a1n f v ((k,x)::r)=(if k=f then (k,v)::r else (k,x)::a1n f v r) from rfl]
  by_cases hk:k=f
  ·rw [if_pos hk]
   by_cases h:g=k
   ·have hb:(g == k)=true:=beq_iff_eq.mpr h
    simp only [Zq,hb,if_pos (h.trans hk)]
   ·have hb:(g == k)=false:=beq_eq_false_iff_ne.mpr h
    simp only [Zq,hb,if_neg (fun e:g=f=>h (e.trans hk.symm))]
  ·rw [if_neg hk]
   by_cases h:g=k
   ·have hb:(g == k)=true:=beq_iff_eq.mpr h
    simp only [Zq,hb,if_neg (fun e:g=f=>hk (h.symm.trans e))]
   ·have hb:(g == k)=false:=beq_eq_false_iff_ne.mpr h
    simp only [Zq,hb]
    exact ih
theorem a3T (f:Str) (v:V):∀fs:List (Str×V),f∈(a1n f v fs).map (·.1)∧∀g,g∈fs.map (·.1)→g∈(a1n f v fs).map (·.1)
 | []=>⟨by simp [a1n],fun g h=>by simp at h⟩
 | (k,x)::r=>by
  obtain ⟨i1,i2⟩:=a3T f v r
  rw [show a1n f v ((k,x)::r)=(if k=f then (k,v)::r else (k,x)::a1n f v r) from rfl]
  by_cases hk:k=f
  ·rw [if_pos hk]
   subst hk
   exact ⟨by simp,fun g h=>by simpa using h⟩
  ·rw [if_neg hk]
   refine ⟨?_,fun g h=>?_⟩
   ·rw [Xj]
    exact Qr _ i1
   ·rw [Xj] at h ⊢
    rcases Qy.mp h with e | e
    ·exact Qy.mpr (.inl e)
    ·exact Qr _ (i2 g e)
theorem a3N (f:Str) (v:V):∀fs:List (Str×V),(a1n f v fs).length≤fs.length+1
 | []=>by simp [a1n]
 | (k,x)::r=>by
  have ih:=a3N f v r
  rw [show a1n f v ((k,x)::r)=(if k=f then (k,v)::r else (k,x)::a1n f v r) from rfl]
  by_cases hk:k=f
  ·rw [if_pos hk,Qo,Qo];omega
  ·rw [if_neg hk,Qo,Qo];omega
theorem a4k.some_of {v:V} {o:Option Value} (r:a4k (some v) o):∃u,o=some u∧a0O v u:=by
 cases o with
 | none=>exact (show False from r).elim
 | some u=>exact ⟨u,rfl,r⟩
theorem a4k.none_of {o:Option Value} (r:a4k none o):o=none:=by
 cases o with
 | none=>rfl
 | some u=>exact (show False from r).elim
theorem a9w {v:V} {u:Value} (r:a0O v u):Gc u=true:=by
 cases v with
 | non=>cases (show u=Value.none from r);rfl
 | bl b=>cases (show u=Value.bool b from r);rfl
 | int i=>obtain ⟨t,e⟩:=(show ∃t,u=Value.int i t from r);cases e;rfl
 | str x=>obtain ⟨t,e⟩:=(show ∃t,u=Value.str x t from r);cases e;rfl
 | byt b=>obtain ⟨t,e⟩:=(show ∃t,u=Value.bytes b t from r);cases e;rfl
 | flt b=>obtain ⟨t,e⟩:=(show ∃t,u=Value.float b t from r);cases e;rfl
 | ref a=>cases (show u=Value.ref a from r);rfl
 | ty n=>cases (show u=Value.type n from r);rfl
section
variable {P:Program} {w:World} {H H':Hp} {h h':Heap} {a C dx:Addr} {fs fs':List (Str×V)}
theorem a6v (hok:HOk P w H h) (e:H a=some (.ins C dx fs)):∃mA,b6g h a dx C mA∧(∀f,a4k (fs.lookup f) (mA f))∧PySem.Within mA (fs.map (·.1))∧fs.length≤1000∧H dx=some (.own a):=by
 obtain ⟨d,z,ne,ob,mA,n,r,q⟩:=(show a1h P w H h a (.ins C dx fs) from hok a _ e)
 exact ⟨mA,⟨ob,n,ne⟩,r,q,z,d⟩
end
structure Cls (K:Qd) (C:Addr):Prop where
 pg:Ud K C Str.empty=true
 hd:Vd K C=true
 po:Ga K C=true
 sa:Ys K (.ref C) "__setattr__"=some (some (.builtin "object.__setattr__"))
theorem Cls.get {K:Qd} {C:Addr} (c:Cls K C) (f:Str):Ud K C f=true:=c.pg
def a0D (K:Qd) (C:Addr) (f:Str):Prop:=Ys K (.ref C) f=some none
theorem a0D.taker {K:Qd} {C:Addr} {f:Str} (n:a0D K C f):Wc K C f=some none:=by
 unfold Wc
 rw [show Ys K (.ref C) f=some none from n]
 rfl
structure a3W (K:Qd) (C:Addr) (m:Str) (f:Addr):Prop where
 at_:Ys K (.ref C) m=some (some (.ref f))
 fn:Wy K (.ref f)=true
 kp:Ze K (.ref f)=true
section
variable {X:Cx} {pins:List (Addr×Obj)} {σ:St} {H:Hp} {s:Shared} {a C dx:Addr} {fs:List (Str×V)} {f:Str} {v:V} {A:Around} {E:Value→Shared→Prop}
theorem a8O {b:Bool} {Q:Value→Shared→Prop} (I:Inv X pins σ H s) (e:H a=some (.ins C dx fs)) (c:Cls X.K C) (n:a0D X.K C f) (l:fs.lookup f=some v)
  (h:∀u s',Inv X pins σ H s'→a0O v u→Q u s'):wpAny (model X.prog X.w) A (getAttr (.ref a) f b) Q E s:=by
 obtain ⟨mA,O,r,_,_,_⟩:=a6v I.hok e
 obtain ⟨u,hu,ru⟩:=a4k.some_of (v:=v) (o:=mA f) (by rw [←l];exact r f)
 exact b6f I.kIn O (c.get f) c.hd n hu (a9w ru) (h u _ (I.tok _) ru)
theorem a4E {m:Str} {g:Addr} {pl:Sem Bool} {Q:Value×List Value→Shared→Prop} (I:Inv X pins σ H s) (e:H a=some (.ins C dx fs)) (c:Cls X.K C) (k:a3W X.K C m g) (l:fs.lookup m=none)
  (h:Q (.ref g,[.ref a]) s):wpAny (model X.prog X.w) A (getMethod (.ref a) m pl) Q E s:=by
 obtain ⟨mA,O,r,_,_,_⟩:=a6v I.hok e
 have hn:mA m=none:=a4k.none_of (by rw [←l];exact r m)
 exact b2B I.kIn O (c.get m) k.at_ k.fn hn h
theorem a8j {y:V} {u:Value} {Q:Unit→Shared→Prop} (I:Inv X pins σ H s) (e:H a=some (.ins C dx fs)) (c:Cls X.K C) (n:a0D X.K C f) (hl:fs.length < 1000) (ry:a0O y u)
  (h:∀s',Inv X pins σ (upd H a (.ins C dx (a1n f y fs))) s'→Q () s'):wpAny (model X.prog X.w) A (setAttr (.ref a) f u) Q E s:=by
 obtain ⟨mA,O,r,wi,_,ho⟩:=a6v I.hok e
 have hz:(fs.map (·.1)).length≤sizeLine:=by rw [Qe,sizeLine_eq];omega
 refine b6k I.kIn O c.sa c.po n.taker c.hd wi hz fun h' O' sb=>h _ ?_
 have hd:∃o,h'.get? dx=some o:=let ⟨o,_,_,e',_⟩:=O'.ns;⟨o,e'⟩
 refine I.write (x:=a) (e:=dx) (by rw [e];exact True.intro) (.inr ho) (fun b q hb z=>(sb.2 b hb).trans z) hd ?_
 refine ⟨by rw [a0a O.ne];exact ho,?_,O.ne,O'.obj,_,O'.ns,fun g=>?_,fun g hg=>?_⟩
 ·have:=a3N f y fs;omega
 ·show a4k ((a1n f y fs).lookup g) (if g=f then some u else mA g)
  rw [a0f]
  by_cases q:g=f
  ·rw [if_pos q,if_pos q];exact ry
  ·rw [if_neg q,if_neg q];exact r g
 ·by_cases q:g=f
  ·rw [q];exact (a3T f y fs).1
  ·refine (a3T f y fs).2 g (wi g fun z=>hg ?_)
   show (if g=f then some u else mA g)=none
   rw [if_neg q];exact z
theorem Inv.made (I:Inv X pins σ H s):Inv X pins σ (upd (upd H s.heap.objs.size (.own (s.heap.objs.size+1))) (s.heap.objs.size+1) (.ins C s.heap.objs.size []))
  {s with heap:=(s.heap.push Yt).push (Zg C s.heap.objs.size)}:=by
 have e1:(s.heap.push Yt).get? s.heap.objs.size=some Yt:=Xe s.heap rfl
 have e2:((s.heap.push Yt).push (Zg C s.heap.objs.size)).get? (s.heap.objs.size+1)=some (Zg C s.heap.objs.size):=by
  have:=Xe (s.heap.push Yt) (o:=Zg C s.heap.objs.size) rfl
  rwa [Wl] at this
 have e3:(s.heap.push Yt).Ns s.heap.objs.size (fun _=>none):=⟨Yt,#[],_,e1,rfl,(fun e he=>absurd he (by simp)),fun _=>rfl⟩
 have I1:=I.laid (a:=s.heap.objs.size) (o:=.own (s.heap.objs.size+1)) (h':=s.heap.push Yt) (t':=s.toks) (fun b u q=>Ql _ q) (Qk _) ⟨_,e1⟩
 refine I1.laid (a:=s.heap.objs.size+1) (o:=.ins C s.heap.objs.size []) (t':=s.toks) (fun b u q=>Ql _ q) (Vn (Wl _ _)) ?_
 have ne:s.heap.objs.size≠s.heap.objs.size+1:=Xh (Vo _)
 refine ⟨by rw [a0a ne,a0d],Xf _,ne,e2,fun _=>none,(Heap.Ns1.of_empty e3).at fun o q=>Ql _ q,fun _=>True.intro,fun y hy=>absurd rfl hy⟩
theorem b6d {prog:Program} {w:World} {env:Env} {e:Expr} {f:Str} {pos:Pos} {s:Shared} {Q:Value→Shared→Prop} (hb:attributeBase e f env (eval e env)=eval e env)
  (h:wpAny (model prog w) A (eval e env) (fun o s₁=>wpAny (model prog w) A (getAttr o f true) Q E s₁) E s):wpAny (model prog w) A (eval (.Attribute e f pos) env) Q E s:=
 Attribute_any_ h (by rw [arm_eval_Attribute,hb])
end
def a3w (K:Qd) (ta:TE) (f:Str):TE:=fun σ H Q=>ta σ H fun x H1=>∃a C dx fs v,x=.ref a∧H1 a=some (.ins C dx fs)∧Cls K C∧a0D K C f∧fs.lookup f=some v∧Q v H1
def b9d (K:Qd) (ta tv:TE) (f:Str):TS:=fun D σ H=>tv σ H fun y H1=>ta σ H1 fun x H2=>∃a C dx fs,x=.ref a∧H2 a=some (.ins C dx fs)∧Cls K C∧a0D K C f∧fs.length < 1000∧
 D.nx σ (upd H2 a (.ins C dx (a1n f y fs)))
section
variable {X:Cx} {o e value:Expr} {f:Str} {pos pos' tpos:Pos} {ta tv:TE}
theorem b4b (he:PE X e ta) (hb:attributeBase e f X.env (eval e X.env)=eval e X.env):PE X (.Attribute e f pos) (a3w X.K ta f):=by
 intro pins s σ H Q I h
 refine b6d hb (thn (he pins s σ H _ I h) fun u s1 ⟨x,H1,I1,rx,a,C,dx,fs,v,ex,ea,c,n,l,q⟩=>?_)
 subst ex
 obtain rfl:u=Value.ref a:=rx
 exact a8O I1 ea c n l fun u' s2 I2 ru=>⟨v,H1,I2,ru,q⟩
theorem b9p (ha:PE X o ta) (hv:PE X value tv) (hs:swapsWith value (some (.Attribute o f pos')) pos.line X.env=pure false):PS X (.Assign [.Attribute o f pos'] value pos) (b9d X.K ta tv f):=by
 intro pins s σ H D I h
 refine plainObj_wpAny_Assign_Attribute (thn (hv pins s σ H _ I h) fun u s1 ⟨y,H1,I1,ry,q⟩=>thn (ha pins s1 σ H1 _ I1 q) fun ov s2 ⟨x,H2,I2,rx,a,C,dx,fs,ex,ea,c,n,l,q2⟩=>?_) hs
 subst ex
 obtain rfl:ov=Value.ref a:=rx
 exact a8j I2 ea c n l ry fun s3 I3=>⟨σ,_,I3,q2⟩
end
end L2
namespace L2
open PySem PySem.Spec PyProof.Rows
structure a2h (k:Nat) (A:Around):Prop where
 hd:A.handled=none
 dp:A.depth+3 * k+5 < recursionLimit
 un:A.units+16 * k+200 < cLine
theorem a2h.mono {j k:Nat} {A:Around} (r:a2h k A) (h:j≤k):a2h j A:=⟨r.hd,by have:=r.dp;omega,by have:=r.un;omega⟩
theorem a2h.deeper {k:Nat} {A:Around} (r:a2h (k+1) A) (env:Env):a2h k (A.deeper env):=
 ⟨r.hd,by have:=r.dp;show A.depth+1+3 * k+5 < _;omega,by have:=r.un;show A.units+3+16 * k+200 < _;omega⟩
theorem a2h.in1 {k:Nat} {A:Around} (r:a2h (k+1) A):a2h k A.in1:=
 ⟨r.hd,by have:=r.dp;show A.depth+3 * k+5 < _;omega,by have:=r.un;show A.units+1+16 * k+200 < _;omega⟩
theorem a8H {A:Around} {C:Addr} {us:List Value} {kw:List (Str×Value)}:(A.under (.builtin "type.__call__" ⟨.ref C::us,kw⟩)).depth=A.depth+1:=by
 first | rfl | simp [Around.under,Code.weight,Code.isCreation,Code.isGuard,Code.isCaller,Code.frames,Code.isFrame,guardIds]
theorem a8S {A:Around} {C:Addr} {us:List Value} {kw:List (Str×Value)}:(A.under (.builtin "type.__call__" ⟨.ref C::us,kw⟩)).units=A.units+1:=by
 first | rfl | simp [Around.under,Code.cUnits,Code.frames,Code.isFrame]
theorem a2h.make {k:Nat} {A:Around} (r:a2h (k+1) A) (C:Addr) (us:List Value) (kw:List (Str×Value)):a2h k (A.under (.builtin "type.__call__" ⟨.ref C::us,kw⟩)):=
 ⟨r.hd,by have:=r.dp;rw [a8H];omega,by have:=r.un;rw [a8S];omega⟩
theorem a2h.depth {k:Nat} {A:Around} (r:a2h k A):A.depth < recursionLimit:=by have:=r.dp;omega
theorem a2h.units {k:Nat} {A:Around} (r:a2h k A):A.units+64 < cLine:=by have:=r.un;omega
def a0t:TA:=fun _ H Q=>Q [] H
def a0j (ta:TE) (tr:TA):TA:=fun σ H Q=>ta σ H fun x H1=>tr σ H1 fun xs H2=>Q (x::xs) H2
section
variable {X:Cx} {e:Expr} {es:List Expr} {te:TE} {t:TA} {pos:Pos}
theorem b4i:PA X [] a0t:=fun _ _ _ _ H Q I h=>Calls.spliced_nil ⟨[],H,I,.nil,h⟩
theorem b0k (ha:PE X e te) (hr:PA X es t) (hs:starEach (e::es) X.env=(false,eval e X.env)::starEach es X.env:=by rfl):PA X (e::es) (a0j te t):=by
 intro pos pins s σ H Q I h
 rw [hs]
 show wpAny _ _ (spliced ((false,eval e X.env)::backTo pos (starEach es X.env))) _ _ s
 refine Calls.spliced_cons (thn (ha pins s σ H _ I h) fun u s1 ⟨x,H1,I1,r1,q1⟩=>?_)
 exact thn (hr pos pins s1 σ H1 _ I1 q1) fun us s2 ⟨xs,H2,I2,r2,q2⟩=>⟨x::xs,H2,I2,.cons r1 r2,q2⟩
def a6S (t:TA):TE:=fun σ H Q=>t σ H fun xs H1=>xs.length≤sizeLine∧∀p,H1 p=none→Q (.ref p) (upd H1 p (.tup xs))
def a3c (t:TA):TE:=fun σ H Q=>t σ H fun xs H1=>xs.length≤sizeLine∧∀p,H1 p=none→Q (.ref p) (upd H1 p (.lst xs))
theorem b7S {x1} (h:PA X es t):PE X (.Tuple es x1 pos) (a6S t):=by
 intro pins s σ H Q I hq
 refine wpAny_Tuple_spliced (thn (h pos pins s σ H _ I hq) fun us s1 ⟨xs,H1,I1,r,z,q⟩=>⟨by rw [←r.length];exact z,?_⟩)
 have hf:H1 s1.heap.objs.size=none:=I1.hok.fresh (Qk _)
 refine ⟨.ref s1.heap.objs.size,upd H1 s1.heap.objs.size (.tup xs),I1.laid (t':=s1.toks) (fun b u e=>Ql _ e) (Qk _) ?_,rfl,q _ hf⟩
 exact ⟨z,us,r,⟨_,Xe _ rfl,rfl,_,rfl⟩⟩
theorem b7h (h:PA X es t):PE X (.List es pos) (a3c t):=by
 intro pins s σ H Q I hq
 refine wpAny_List_spliced (thn (h pos pins s σ H _ I hq) fun us s1 ⟨xs,H1,I1,r,z,q⟩=>⟨by rw [←r.length];exact z,?_⟩)
 have hf:H1 s1.heap.objs.size=none:=I1.hok.fresh (Qk _)
 refine ⟨.ref s1.heap.objs.size,upd H1 s1.heap.objs.size (.lst xs),I1.laid (t':=s1.toks) (fun b u e=>Ql _ e) (Qk _) ?_,rfl,q _ hf⟩
 exact ⟨z,us,0,r,Xe _ rfl⟩
end
abbrev Sp:=List V→Hp→VK→XK→Prop
abbrev CXT:=List Env→Hp→Shared→XK→Value→Shared→Prop
structure b5c (P:Program) (w:World) (K:Qd) (mg:Str→Option Value) (base:Heap) (A:Around) (outer:List Env) (s:Shared) (H:Hp):Prop where
 frames:A.frames=some outer
 mod:Mod K mg base
 bs:∀b o,base.get? b=some o→s.heap.get? b=some o∧H b=none
 bsz:base.objs.size≤s.heap.objs.size
 funs:s.heap.FunFrames base outer
 frf:∀b∈frs outer,H b=none
 hok:HOk P w H s.heap
 bare:AllBare s.gens
def CE (outer:List Env) (P:Program) (w:World) (H:Hp) (s:Shared) (Q:VK) (u:Value) (s':Shared):Prop:=
 ∃v H',s'.os=s.os∧AllBare s'.gens∧Un (frs outer) [] H H' s.heap s'.heap∧HOk P w H' s'.heap∧a0O v u∧Q v H'
def CR (CX:CXT) (outer:List Env) (P:Program) (w:World) (H:Hp) (s:Shared) (Q:VK) (E:XK) (r:Result) (s':Shared):Prop:=
 match r with
 | .ok (.ret u)=>CE outer P w H s Q u s'
 | .ok _=>False
 | .error e=>CX outer H s E e s'
structure a0S (P:Program) (w:World) (K:Qd) (mg:Str→Option Value) (base:Heap) (CX:CXT) (k:Nat) (f:Addr) (fd:FuncData) (ps:List Str) (sp:Sp):Prop where
 len:∀vs H Q E,sp vs H Q E→vs.length=ps.length
 run:∀(A:Around) (outer:List Env) (s:Shared) (H:Hp) (args:Args) (us:List Value) (vs:List V) (Q:VK) (E:XK),a2h k A→b5c P w K mg base A outer s H→BindsTo s fd args (ps.zip us)→a0N vs us→sp vs H Q E→
  codeAny (model P w) A (.call (.ref f) args) (CR CX outer P w H s Q E) s
theorem a0S.imp {P:Program} {w:World} {K:Qd} {mg:Str→Option Value} {base:Heap} {CX:CXT} {k:Nat} {f:Addr} {fd:FuncData} {ps:List Str} {sp sp':Sp} (F:a0S P w K mg base CX k f fd ps sp)
  (h:∀vs H Q E,sp' vs H Q E→sp vs H Q E):a0S P w K mg base CX k f fd ps sp':=
 ⟨fun vs H Q E q=>F.len vs H Q E (h _ _ _ _ q),fun A outer s H args us vs Q E hr he hb hv hs=>F.run A outer s H args us vs Q E hr he hb hv (h _ _ _ _ hs)⟩
theorem b5c.make {P:Program} {w:World} {K:Qd} {mg:Str→Option Value} {base:Heap} {A:Around} {outer:List Env} {s:Shared} {H:Hp} (e:b5c P w K mg base A outer s H) (C:Addr) (us:List Value) (kw:List (Str×Value)):
  b5c P w K mg base (A.under (.builtin "type.__call__" ⟨.ref C::us,kw⟩)) outer s H:=⟨by first | exact e.frames | (simpa [Around.under,Code.envs,Code.isFrame,pushEnvs] using e.frames),e.mod,e.bs,e.bsz,e.funs,e.frf,e.hok,e.bare⟩
section
variable {X:Cx} {pins:List (Addr×Obj)} {σ:St} {H:Hp} {s s':Shared}
theorem Inv.env0 (I:Inv X pins σ H s):b5c X.prog X.w X.K X.mg X.base X.A X.stack s H:=
 ⟨I.ok.frames,I.ok.mod,I.bs,Qi I.ok.bsz I.sz,I.stack,I.stkFree,I.hok,I.bare⟩
theorem Inv.after {Q:VK} {u:Value} (I:Inv X pins σ H s) (h:CE X.stack X.prog X.w H s Q u s'):EP X pins σ Q u s':=by
 obtain ⟨v,H',os,bare,un,hok,r,q⟩:=h
 obtain ⟨hh,g,d,t,os'⟩:=s'
 obtain rfl:os'=s.os:=os
 exact ⟨v,H',I.call (h':=hh) (g':=g) (d':=d) (t':=t) (ch:=[]) un hok bare (fun b z=>absurd z (by simp)),r,q⟩
end
def a0B (sp:Sp) (dvs:List V) (E:XK) (t:TA):TE:=fun σ H Q=>t σ H fun vs H1=>sp (vs++dvs) H1 Q E
def a1u (C:Addr) (m:Str) (sp:Sp) (dvs:List V) (E:XK) (ta:TE) (t:TA):TE:=fun σ H Q=>ta σ H fun x H1=>∃a dx fs,x=.ref a∧H1 a=some (.ins C dx fs)∧fs.lookup m=none∧
 t σ H1 fun vs H2=>sp (x::(vs++dvs)) H2 Q E
def b5W (C:Addr) (sp:Sp) (dvs:List V) (E:XK) (t:TA):TE:=fun σ H Q=>t σ H fun vs H1=>∀x dx,H1 x=none→H1 dx=none→dx≠x→
 sp (.ref x::(vs++dvs)) (upd (upd H1 dx (.own x)) x (.ins C dx [])) (fun v H2=>v=.non∧Q (.ref x) H2) E
def a0m (K:Qd) (fd:FuncData) (ps:List Str) (ds:List Value):Prop:=
 ∀(s:Shared) (us:List Value),K.In s.heap→(us++ds).length=ps.length→BindsTo s fd ⟨us,[]⟩ (ps.zip (us++ds))
theorem a0m.all {K:Qd} {fd:FuncData} {ps:List Str} (h:∀us:List Value,us.length=ps.length→bindArgs fd ⟨us,[]⟩=pure (ps.zip us)):a0m K fd ps []:=fun s us _ hl=>by
 rw [Qf] at hl ⊢
 exact .of_eq (h us hl)
def a3r (CX:CXT) (X:Cx) (E:XK):Prop:=∀(pins:List (Addr×Obj)) (σ:St) (H:Hp) (s:Shared) (e:Value) (s':Shared),Inv X pins σ H s→CX X.stack H s E e s'→X.xe e s'
section
variable {X:Cx} {CX:CXT} {k:Nat} {f C:Addr} {fd:FuncData} {ps:List Str} {sp:Sp} {dvs:List V} {ds:List Value} {E:XK} {x m:Str} {p pos apos:Pos} {e o:Expr} {es:List Expr} {ta:TE} {t:TA}
theorem a7O {pins:List (Addr×Obj)} {σ:St} {H:Hp} {s:Shared} {Q:VK} {us:List Value} {vs:List V} (F:a0S X.prog X.w X.K X.mg X.base CX k f fd ps sp) (hr:a2h k X.A) (hb:a0m X.K fd ps ds) (hd:a0N dvs ds) (hx:a3r CX X E)
  (I:Inv X pins σ H s) (r:a0N vs us) (h:sp (vs++dvs) H Q E):wpAny (model X.prog X.w) X.A (call (.ref f) us) (EP X pins σ Q) X.xe s:=by
 have r2:a0N (vs++dvs) (us++ds):=r.append hd
 have hl:(us++ds).length=ps.length:=by rw [←r2.length];exact F.len _ _ _ _ h
 refine wpAny_call (codeAny_mono (F.run X.A X.stack s H ⟨us,[]⟩ (us++ds) (vs++dvs) Q E hr I.env0 (hb s us I.kIn hl) r2 h) fun r s' hq=>?_)
 cases r with
 | error e=>exact hx pins σ H s e s' I hq
 | ok fl=>
  cases fl with
  | ret u=>exact I.after hq
  | next=>exact False.elim hq
  | brk=>exact False.elim hq
  | cont=>exact False.elim hq
theorem b4N (F:a0S X.prog X.w X.K X.mg X.base CX k f fd ps sp) (hr:a2h k X.A) (hg:Gl X x) (hm:X.mg x=some (.ref f)) (hk:Ze X.K (.ref f)=true) (hb:a0m X.K fd ps ds) (hd:a0N dvs ds) (hx:a3r CX X E)
  (ha:PA X (e::es) t) (hdb:(x == ("__debug__":Str))=false:=by decide) (he:starEach (e::es) X.env=(false,eval e X.env)::starEach es X.env:=by rfl) (hpl:(backTo pos (starEach es X.env)).any (·.1)=false:=by rfl):
  PE X (.Call (.Name x p) (e::es) [] pos) (a0B sp dvs E t):=by
 intro pins s σ H Q I h
 refine wpAny_Call_Name_kw (a6H I hg hm ?_ hdb)
 refine Jx (h₀:=X.base) I.ok.mod.kin hk (thn (ha pos pins s σ H _ I h) fun us s1 ⟨vs,H1,I1,r,q⟩=>⟨I1.kIn,?_⟩) he hpl
 exact a7O F hr hb hd hx I1 r q
theorem b5n {pl:Sem Bool} (he:PE X o ta) (c:Cls X.K C) (hm:a3W X.K C m f) (F:a0S X.prog X.w X.K X.mg X.base CX k f fd ps sp) (hr:a2h k X.A) (hb:a0m X.K fd ps ds) (hd:a0N dvs ds) (hx:a3r CX X E) (ha:PA X (e::es) t)
  (hst:starEach (e::es) X.env=(false,eval e X.env)::starEach es X.env:=by rfl) (hpl:(backTo pos (starEach es X.env)).any (·.1)=false:=by rfl)
  (ht:eval (.Call (.Attribute o m apos) (e::es) [] pos) X.env=(do
   let ov ←eval o X.env
   standAt apos.atName
   let (f,first) ←holding [ov] (getMethod ov m pl)
   callWith pos f first (backTo pos (starEach (e::es) X.env)) (backToKw pos (keywordEach [] X.env))):=by rfl):
  PE X (.Call (.Attribute o m apos) (e::es) [] pos) (a1u C m sp dvs E ta t):=by
 intro pins s σ H Q I h
 refine Uf (pl:=pl) (thn (he pins s σ H _ I h) fun u s1 ⟨x,H1,I1,rx,a,dx,fs,ex,ea,l,q⟩=>?_) ht
 subst ex
 obtain rfl:u=Value.ref a:=rx
 refine a4E I1 ea c hm l ?_
 refine Jx (first:=[.ref a]) (h₀:=X.base) I.ok.mod.kin hm.kp (thn (ha pos pins s1 σ H1 _ I1 q) fun us s2 ⟨vs,H2,I2,r,q2⟩=>⟨I2.kIn,?_⟩) hst hpl
 exact a7O (us:=.ref a::us) (vs:=.ref a::vs) F hr hb hd hx I2 (.cons rfl r) q2
theorem b2s {pl:Sem Bool} (he:PE X o ta) (c:Cls X.K C) (hm:a3W X.K C m f) (F:a0S X.prog X.w X.K X.mg X.base CX k f fd ps sp) (hr:a2h k X.A) (hb:a0m X.K fd ps ds) (hd:a0N dvs ds) (hx:a3r CX X E)
  (ht:eval (.Call (.Attribute o m apos) [] [] pos) X.env=(do
   let ov ←eval o X.env
   standAt apos.atName
   let (f,first) ←holding [ov] (getMethod ov m pl)
   callWith pos f first (backTo pos (starEach [] X.env)) (backToKw pos (keywordEach [] X.env))):=by rfl):
  PE X (.Call (.Attribute o m apos) [] [] pos) (a1u C m sp dvs E ta a0t):=by
 intro pins s σ H Q I h
 refine Uf (pl:=pl) (thn (he pins s σ H _ I h) fun u s1 ⟨x,H1,I1,rx,a,dx,fs,ex,ea,l,q⟩=>?_) ht
 subst ex
 obtain rfl:u=Value.ref a:=rx
 refine a4E I1 ea c hm l ?_
 exact PySem.W.callWith_K0 (first:=[.ref a]) I1.kIn hm.kp (a7O (us:=[.ref a]) (vs:=[.ref a]) F hr hb hd hx I1 (.cons rfl .nil) q)
structure Mk (K:Qd) (C f:Addr):Prop where
 makes:Gf K C=true
 init:Ys K (.ref C) "__init__"=some (some (.ref f))
 fn:Wy K (.ref f)=true
 kp:Ze K (.ref C)=true
theorem b3b {pins:List (Addr×Obj)} {σ:St} {H:Hp} {s:Shared} {Q:VK} {us:List Value} {vs:List V} (M:Mk X.K C f) (F:a0S X.prog X.w X.K X.mg X.base CX k f fd ps sp) (hr:a2h (k+1) X.A) (hb:a0m X.K fd ps ds) (hd:a0N dvs ds)
  (hx:a3r CX X E) (I:Inv X pins σ H s) (r:a0N vs us)
  (h:∀x dx,H x=none→H dx=none→dx≠x→sp (.ref x::(vs++dvs)) (upd (upd H dx (.own x)) x (.ins C dx [])) (fun v H2=>v=.non∧Q (.ref x) H2) E):
  wpAny (model X.prog X.w) X.A (call (.ref C) us) (EP X pins σ Q) X.xe s:=by
 have hq:=h (s.heap.objs.size+1) s.heap.objs.size (I.hok.fresh (Ji _)) (I.hok.fresh (Qk _)) (Xh (Vo _))
 have I2:=Inv.made (C:=C) I
 have r2:a0N (V.ref (s.heap.objs.size+1)::(vs++dvs)) (Value.ref (s.heap.objs.size+1)::(us++ds)):=.cons rfl (r.append hd)
 have hl:(Value.ref (s.heap.objs.size+1)::us++ds).length=ps.length:=by
  have e:=r2.length
  rw [F.len _ _ _ _ hq] at e
  exact e.symm
 refine wpAny_call (b2h (f:=f) I.kIn M.makes M.init (beq_iff_eq.mp M.fn) (codeAny_mono (F.run _ X.stack _ _ ⟨Value.ref (s.heap.objs.size+1)::us,[]⟩ (Value.ref (s.heap.objs.size+1)::(us++ds)) _ _ E (hr.make C us [])
  (I2.env0.make C us []) (hb _ (Value.ref (s.heap.objs.size+1)::us) I2.kIn hl) r2 hq) fun r s' hq'=>?_))
 cases r with
 | error e=>exact hx pins σ _ _ e s' I2 hq'
 | ok fl=>
  cases fl with
  | ret u=>
   obtain ⟨v,H',I3,rv,ev,q3⟩:=I2.after hq'
   subst ev
   exact ⟨rv,⟨V.ref (s.heap.objs.size+1),H',I3,rfl,q3⟩⟩
  | next=>exact False.elim hq'
  | brk=>exact False.elim hq'
  | cont=>exact False.elim hq'
theorem b4E (M:Mk X.K C f) (F:a0S X.prog X.w X.K X.mg X.base CX k f fd ps sp) (hr:a2h (k+1) X.A) (hg:Gl X x) (hm:X.mg x=some (.ref C)) (hb:a0m X.K fd ps ds) (hd:a0N dvs ds) (hx:a3r CX X E)
  (ha:PA X (e::es) t) (hdb:(x == ("__debug__":Str))=false:=by decide) (he:starEach (e::es) X.env=(false,eval e X.env)::starEach es X.env:=by rfl) (hpl:(backTo pos (starEach es X.env)).any (·.1)=false:=by rfl):
  PE X (.Call (.Name x p) (e::es) [] pos) (b5W C sp dvs E t):=by
 intro pins s σ H Q I h
 refine wpAny_Call_Name_kw (a6H I hg hm ?_ hdb)
 refine Jx (h₀:=X.base) I.ok.mod.kin M.kp (thn (ha pos pins s σ H _ I h) fun us s1 ⟨vs,H1,I1,r,q⟩=>⟨I1.kIn,?_⟩) he hpl
 exact b3b M F hr hb hd hx I1 r q
end
structure a0g (N P:List Str) (sc:Scope):Prop where
 kind:sc.kind=.function
 co:sc.isCoroutine=false
 gen:sc.isGenerator=false
 nd:N.Nodup
 pre:N.take P.length=P
 par:∀x∈P,sc.names.lookup x=some .local∨sc.names.lookup x=some .cell
 nofree:∀y∈sc.names,y.2≠.free
theorem a5H {kindOf:Str→Option NameKind} {x:Str}:∀{binds:List (Str×Value)} {m:Str→Option Value},(∀v,(x,v)∉binds)→bindL kindOf binds m x=m x
 | [],_,_=>rfl
 | (n,v)::r,m,h=>by
  unfold bindL
  rw [a5H fun w hw=>h w (Qr _ hw)]
  split
  ·have:x≠n:=by rintro rfl;exact h v Qs
   simp [this]
  ·rfl
theorem a5B {kindOf:Str→Option NameKind} {x:Str}:∀{binds:List (Str×Value)} {m:Str→Option Value},(∀v,(x,v)∉binds)→bindC kindOf binds m x=m x
 | [],_,_=>rfl
 | (n,v)::r,m,h=>by
  unfold bindC
  rw [a5B fun w hw=>h w (Qr _ hw)]
  split
  ·rfl
  ·have:x≠n:=by rintro rfl;exact h v Qs
   simp [this]
theorem a6b {kindOf:Str→Option NameKind} {x:Str} {v:Value}:∀{P:List Str} {vs:List Value} {i:Nat} {m:Str→Option Value},P.Nodup→P[i]?=some x→vs[i]?=some v→kindOf x=some .local→
  bindL kindOf (P.zip vs) m x=some v
 | [],_,_,_,_,h,_,_=>by simp at h
 | _::_,[],_,_,_,_,h,_=>by simp at h
 | p::P,w::vs,0,m,nd,h1,h2,hk=>by
  simp at h1 h2;subst h1;subst h2
  show bindL kindOf ((p,w)::P.zip vs) m p=_
  unfold bindL
  rw [a5H fun v hv=>(Yy.mp nd).1 (Wd hv).1,if_pos hk]
  simp
 | p::P,w::vs,i+1,m,nd,h1,h2,hk=>by
  show bindL kindOf ((p,w)::P.zip vs) m x=_
  unfold bindL
  exact a6b (i:=i) (Yy.mp nd).2 (by simpa using h1) (by simpa using h2) hk
theorem a6n {kindOf:Str→Option NameKind} {x:Str} {v:Value}:∀{P:List Str} {vs:List Value} {i:Nat} {m:Str→Option Value},P.Nodup→P[i]?=some x→vs[i]?=some v→kindOf x≠some .local→
  bindC kindOf (P.zip vs) m x=some v
 | [],_,_,_,_,h,_,_=>by simp at h
 | _::_,[],_,_,_,_,h,_=>by simp at h
 | p::P,w::vs,0,m,nd,h1,h2,hk=>by
  simp at h1 h2;subst h1;subst h2
  show bindC kindOf ((p,w)::P.zip vs) m p=_
  unfold bindC
  rw [a5B fun v hv=>(Yy.mp nd).1 (Wd hv).1,if_neg hk]
  simp
 | p::P,w::vs,i+1,m,nd,h1,h2,hk=>by
  show bindC kindOf ((p,w)::P.zip vs) m x=_
  unfold bindC
  exact a6n (i:=i) (Yy.mp nd).2 (by simpa using h1) (by simpa using h2) hk
def start (N:List Str) (vs:List V):St:=vs.map some++List.replicate (N.length - vs.length) none
def b3D (CX:CXT) (P:Program) (w:World) (K:Qd) (mg:Str→Option Value) (base:Heap) (N:List Str) (qual:Str) (scope:Scope) (f:Addr) (cd:Value) (A:Around) (outer:List Env) (s:Shared) (H:Hp) (E:XK):Cx where
 prog:=P
 w:=w
 K:=K
 mg:=mg
 base:=base
 A:=A.deeper (envOfC qual scope s.heap.objs.size f cd)
 N:=N
 s₀:=s
 H₀:=H
 env:=envOfC qual scope s.heap.objs.size f cd
 outer:=outer
 stack:=envOfC qual scope s.heap.objs.size f cd::outer
 ex:=[]
 calm:=true
 fn:=fun _=>true
 pn:=[]
 xe:=fun e s'=>wpAny (model P w) (A.deeper (envOfC qual scope s.heap.objs.size f cd)) (leaving (envOfC qual scope s.heap.objs.size f cd) e) (fun _ s''=>CX outer H s E e s'') (fun e' s''=>CX outer H s E e' s'') s'
theorem a7F {sc:Scope} {n:Nat} {x:Str} (h:sc.names.lookup x=some .cell):∃c,(cellsFrom n sc.names []).lookup x=some c:=by
 have q:=Wf sc.names n [] (.inl h)
 exact Vp.mp q
theorem a9I {CX:CXT} {P:Program} {w:World} {K:Qd} {mg:Str→Option Value} {base:Heap} {N ps:List Str} {qual:Str} {scope:Scope} {f:Addr} {cd:Value} {A:Around} {outer:List Env} {s s1:Shared} {H:Hp} {E:XK} {us:List Value} {vs:List V}
  (S:a0g N ps scope) (hd:A.handled=none) (e0:b5c P w K mg base A outer s H) (hl:vs.length=ps.length) (r:a0N vs us)
  (x:InCallC s s.heap.objs.size (bindL (envOfC qual scope s.heap.objs.size f cd).kindOf (ps.zip us) fun _=>none) (cellsFrom (s.heap.objs.size+1) scope.names []) (bindC (envOfC qual scope s.heap.objs.size f cd).kindOf (ps.zip us) fun _=>none) s1):
  Inv (b3D CX P w K mg base N qual scope f cd A outer s H E) [] (start N vs) H s1:=by
 have hpl:ps.length≤N.length:=by have:=congrArg Yn S.pre;rw [Yp] at this;omega
 obtain ⟨h1,tk,rfl,hk⟩:=x.done
 have noA:∀b:Addr,b∉(b3D CX P w K mg base N qual scope f cd A outer s H E).ex:=fun b z=>absurd (show b∈([]:List Addr) from z) (by simp)
 refine ⟨⟨e0.mod,S.kind,rfl,rfl,Qk _,fun y z c h1 h2=>?_,fun y hy=>?_,fun y c _ h=>?_,fun _=>hd,Around.frames_deeper e0.frames,.inr ⟨rfl,rfl⟩,fun b z=>absurd z (noA b),e0.bs,e0.bsz,fun b _ _=>noA b,fun b z=>absurd z (noA b),e0.funs,e0.frf⟩,
  rfl,e0.bare,Un.kept hk,⟨_,x.toInCall.ns,fun i y v h1 h2 h3=>?_⟩,fun y c h=>⟨_,x.cell y c h⟩,e0.hok.fresh (Qk _),fun y c h=>?_,fun p hp=>absurd (show p∈([]:List (Addr×Obj)) from hp) (by simp),e0.hok.kept hk,?_⟩
 ·exact name_of_addr x.apart (PySem.mem_of_lookup h1) (PySem.mem_of_lookup h2)
 ·have hy:scope.names.lookup y=some .cell∨scope.names.lookup y=some .free:=hy
  rcases hy with hy | hy
  ·exact a7F hy
  ·exact absurd rfl (S.nofree _ (PySem.mem_of_lookup hy))
 ·exact Vl (x.above y c (PySem.mem_of_lookup h))
 ·have hi:i < vs.length:=by
   unfold start at h2
   by_cases hi:i < vs.length
   ·exact hi
   ·rw [Xz (by simpa using hi)] at h2
    rw [List.getElem?_replicate] at h2
    split at h2<;>cases h2
  have ha:vs[i]?=some v:=by
   unfold start at h2
   rw [Yb (by simpa using hi),Qm] at h2
   cases e:vs[i]? with
   | none=>rw [e] at h2;cases h2
   | some a=>rw [e] at h2;cases h2;rfl
  obtain ⟨u,hu,rv⟩:=r.get ha
  have hp:ps[i]?=some y:=by
   rw [←S.pre,List.getElem?_take_of_lt (by omega)];exact h1
  have ndP:ps.Nodup:=by rw [←S.pre];exact S.nd.sublist (List.take_sublist _ _)
  refine ⟨u,rv,?_⟩
  rcases S.par y (Ui hp) with k | k
  ·exact .inl ⟨k,a6b ndP hp hu k⟩
  ·obtain ⟨c,e⟩:=a7F (n:=s.heap.objs.size+1) k
   refine .inr ⟨.inl k,c,e,?_⟩
   have q:=x.cell y c e
   rw [a6n ndP hp hu (by show scope.names.lookup y≠_;rw [k];decide)] at q
   exact q
 ·exact e0.hok.fresh (Vl (x.above y c (PySem.mem_of_lookup h)))
 ·unfold start
  show _=N.length
  rw [Xr,Qe,List.length_replicate]
  omega
theorem b4s {CX:CXT} {P:Program} {w:World} {K:Qd} {mg:Str→Option Value} {base:Heap} {k:Nat} {f:Addr} {name qual:Str} {params:Arguments} {body:List Stmt} {scope:Scope} {dV kV doc pm cdv ct oc:Value} {an od:Option Addr}
  {osl:Array (Option Value)} {N ps:List Str} {sp:Sp} (lk:K.lookup f=some ⟨oc,od,.func (Yu name qual params body scope dV kV doc pm an cdv ct),osl⟩) (hcd:Jk K cdv qual=true) (S:a0g N ps scope)
  (len:∀vs H Q E,sp vs H Q E→vs.length=ps.length)
  (hbody:∀(A:Around) (outer:List Env) (s:Shared) (H:Hp) (vs:List V) (Q:VK) (E:XK),a2h k (A.deeper (envOfC qual scope s.heap.objs.size f cdv))→sp vs H Q E→
   ∃t,PSs (b3D CX P w K mg base N qual scope f cdv A outer s H E) body t∧t {nx:=fun _ H'=>Q .non H',rt:=Q} (start N vs) H):
  a0S P w K mg base CX (k+1) f (Yu name qual params body scope dV kV doc pm an cdv ct) ps sp:=by
 refine ⟨len,fun A outer s H args us vs Q E hr e0 hb r hsp=>?_⟩
 have hl:=len _ _ _ _ hsp
 have KX:K.In s.heap:=e0.mod.kin.keeps fun b o e=>(e0.bs b o e).1
 have lim:s.heap.NoLimit:=e0.mod.nolimit.keeps fun b o e=>(e0.bs b o e).1
 have hkind:∀y∈ps.zip us,scope.names.lookup y.1=some .local∨(scope.names.lookup y.1=some .cell∧((cellsFrom (s.heap.objs.size+1) scope.names []).lookup y.1).isSome=true):=fun ⟨n,v⟩ hy=>by
  rcases S.par n (Wd hy).1 with q | q
  ·exact .inl q
  ·exact .inr ⟨q,Wf _ _ _ (.inl q)⟩
 refine codeAny_call_function hr.depth (KX _ _ lk) rfl S.co S.gen rfl (PySem.W.codeRec_of KX hcd) (hb _ _ _ _ ?_)
 refine wpAny_newFunctionEnv_cells S.kind hkind fun env he s1 x=>?_
 subst he
 refine ⟨lim.keeps x.toInCall.keep,codeAny_func ?_⟩
 obtain ⟨t,ht,hq⟩:=hbody A outer s H vs Q E (hr.deeper _) hsp
 have I:Inv (b3D CX P w K mg base N qual scope f cdv A outer s H E) [] (start N vs) H s1:=a9I S hr.hd e0 hl r x
 refine wpAny_mono (ht [] s1 (start N vs) H _ I hq) (fun fl s' hs=>?_) fun e s' hs=>hs
 have fin:∀{σ':St} {H':Hp} {v:V} {u:Value},Inv (b3D CX P w K mg base N qual scope f cdv A outer s H E) [] σ' H' s'→a0O v u→Q v H'→CE outer P w H s Q u s':=
  fun {σ' H' v u} J rv q=>⟨v,H',J.os,J.bare,J.base,J.hok,rv,q⟩
 cases fl with
 | ret u=>
  obtain ⟨v,σ',H',J,rv,q⟩:=hs
  exact fin J rv q
 | next=>
  obtain ⟨σ',H',J,q⟩:=hs
  exact fin (v:=V.non) (u:=Value.none) J rfl q
 | brk=>
  obtain ⟨_,_,_,q⟩:=hs
  exact False.elim q
 | cont=>
  obtain ⟨_,_,_,q⟩:=hs
  exact False.elim q
end L2
namespace L2
open PySem PySem.Spec PyProof.Rows
section
variable {X:Cx} {x:Str} {p pos:Pos} {e:Expr} {es:List Expr} {t:TA} {id T:String} {r:List V→Hp→VK→Prop}
def tCB (r:List V→Hp→VK→Prop) (t:TA):TE:=fun σ H Q=>t σ H fun vs H1=>r vs H1 Q
theorem b2F (hc:a1U X (.builtin id) r) (hg:Gl X x) (hm:X.mg x=none) (hv:bootBuiltins x=some (.builtin id)) (ha:PA X (e::es) t) (hn:x≠"__name__":=by decide) (hdb:(x == ("__debug__":Str))=false:=by decide)
  (he:starEach (e::es) X.env=(false,eval e X.env)::starEach es X.env:=by rfl) (hpl:(backTo pos (starEach es X.env)).any (·.1)=false:=by rfl):PE X (.Call (.Name x p) (e::es) [] pos) (tCB r t):=by
 intro pins s σ H Q I h
 refine wpAny_Call_Name_kw (a5R I hg hm hv ?_ hn hdb)
 exact PyProof.Rows.callWith_builtin1 (thn (ha pos pins s σ H _ I h) fun us s1 ⟨vs,H1,I1,r1,q1⟩=>hc pins s1 σ H1 vs us Q I1 r1 q1) he hpl
theorem b1E (hc:a1U X (.type T) r) (hg:Gl X x) (hm:X.mg x=none) (hv:bootBuiltins x=some (.type T)) (ha:PA X (e::es) t) (hn:x≠"__name__":=by decide) (hdb:(x == ("__debug__":Str))=false:=by decide)
  (he:starEach (e::es) X.env=(false,eval e X.env)::starEach es X.env:=by rfl) (hpl:(backTo pos (starEach es X.env)).any (·.1)=false:=by rfl):PE X (.Call (.Name x p) (e::es) [] pos) (tCB r t):=by
 intro pins s σ H Q I h
 refine wpAny_Call_Name_kw (a5R I hg hm hv ?_ hn hdb)
 exact PyProof.Rows.callWith_type1 (thn (ha pos pins s σ H _ I h) fun us s1 ⟨vs,H1,I1,r1,q1⟩=>hc pins s1 σ H1 vs us Q I1 r1 q1) he hpl
end
end L2
namespace HT
open PySem PyProof.Rows
section
variable {prog:Program} {w:World} {A:Around} {E:Value→Shared→Prop} {s:Shared}
theorem cat_tup {t b:Addr} {vs ws:List Value} {Q:Value→Shared→Prop} (ht:IsTup s.heap t vs.toArray) (hb:IsTup s.heap b ws.toArray) (hv:vs≠[])
  (h1:ws=[]→Q (.ref t) s) (h2:ws≠[]→Q (.ref s.heap.objs.size) {s with heap:=s.heap.push {cls:=.type "tuple",data:=.seq (vs++ws).toArray}})
  (hsz:vs.length+ws.length≤sizeLine):wpAny (model prog w) A (binaryOp .Add (.ref t) (.ref b)) Q E s:=by
 obtain ⟨⟨cls,dd,data,sl⟩,ho,hc,n,hd⟩:=id ht
 obtain ⟨⟨cls2,dd2,data2,sl2⟩,ho2,hc2,n2,hd2⟩:=id hb
 simp only at hc hd hc2 hd2
 subst hc hd hc2 hd2
 have e:vs.toArray++ws.toArray=(vs++ws).toArray:=by simp
 by_cases hw:ws=[]
 ·exact concat_meets ⟨_,ho,rfl⟩ ⟨_,ho2,rfl⟩ noFill_tuple_add seq_tuple_add Wg Vy (Vq _ _)
   (tuple_addW1 t b vs.toArray ws.toArray n n2 dd dd2 sl sl2 (by simpa using hv) (by simp [hw])) ⟨ho,ho2,h1 hw⟩
 ·refine concat_meets ⟨_,ho,rfl⟩ ⟨_,ho2,rfl⟩ noFill_tuple_add seq_tuple_add Wg Vy (Vq _ _)
   (tuple_addW2 t b vs.toArray ws.toArray n n2 dd dd2 sl sl2 (by simpa using hv) (by simpa using hw) (by rw [Qt,Qt];exact hsz)) ⟨ho,ho2,?_⟩
  rw [e]
  exact h2 hw
def sIx (n d:Nat):Option Int→Nat
 | none=>d
 | some v=>if v < 0 then (v+(n:Int)).toNat else min v.toNat n
theorem b9a (n d:Nat) (hd:d≤n) (o:Option Int):sIx n d o≤n:=by
 cases o with
 | none=>exact hd
 | some v=>
  show (if v < 0 then (v+(n:Int)).toNat else min v.toNat n)≤n
  by_cases hv:v < 0
  ·rw [if_pos hv];omega
  ·rw [if_neg hv];exact Nat.min_le_right _ _
theorem b1H (v:Int) (n d:Nat):(if v < 0 then max (v+(n:Int)) 0 else min v (n:Int))=((sIx n d (some v):Nat):Int):=by
 show (if v < 0 then max (v+(n:Int)) 0 else min v (n:Int))=(((if v < 0 then (v+(n:Int)).toNat else min v.toNat n):Nat):Int)
 by_cases hv:v < 0
 ·simp only [if_pos hv];omega
 ·simp only [if_neg hv];omega
theorem a8q (lo hi:Option Int) (n:Nat):Builtin.Slice.sliceAdjust lo hi 1 (n:Int)=(((sIx n 0 lo:Nat):Int),((sIx n n hi:Nat):Int)):=by
 have h1:¬((1:Int) < 0):=by omega
 unfold Builtin.Slice.sliceAdjust
 simp only [h1,if_false]
 refine Prod.ext ?_ ?_
 ·cases lo with
  | none=>rfl
  | some v=>exact b1H v n 0
 ·cases hi with
  | none=>rfl
  | some v=>exact b1H v n n
theorem a8h (i j:Nat):Builtin.Slice.slicePlaces (i:Int) (j:Int) 1=j - i:=by
 unfold Builtin.Slice.slicePlaces
 have h1:(1:Int) > 0:=by omega
 simp only [h1,if_true,Int.ediv_one]
 split<;>omega
theorem a4A {v:Value} {o:Option Int} {Q:Option Int→Shared→Prop} (p:IsPart v o) (h:Q o s):wpAny (model prog w) A (Builtin.Slice.slicePartIndex v) Q E s:=by
 cases p with
 | none=>exact slicePart_none h
 | int i t=>exact slicePart_int h
theorem a3x {sl:Addr} {vl vu:Value} {lo hi:Option Int} {n:Nat} {Q:Int×Int×Nat→Shared→Prop} (hs:s.heap.IsSliceOf sl vl vu .none) (pl:IsPart vl lo) (pu:IsPart vu hi)
  (h:Q (((sIx n 0 lo:Nat):Int),1,sIx n n hi - sIx n 0 lo) s):wpAny (model prog w) A (Builtin.Slice.sliceApplied (.ref sl) (pure (n:Int))) Q E s:=by
 obtain ⟨os,hos,hcs,hds⟩:=id hs
 unfold Builtin.Slice.sliceApplied Builtin.Slice.sliceFields
 refine wpAny_bind (wpAny_bind (wpAny_field hos hds (x:=vl) rfl (wpAny_bind (wpAny_field hos hds (x:=vu) rfl (wpAny_bind (wpAny_field hos hds (x:=.none) rfl (wpAny_pure ?_)))))))
 refine wpAny_bind (slicePart_none ?_)
 show wpAny _ _ (if ((1:Int) == 0)=true then _ else _) _ _ s
 rw [if_neg (by decide)]
 refine wpAny_bind (a4A pl (wpAny_bind (a4A pu (wpAny_bind (wpAny_pure ?_)))))
 show wpAny _ _ (match Builtin.Slice.sliceAdjust lo hi 1 (n:Int) with | (lo,hi)=>pure (lo,(1:Int),Builtin.Slice.slicePlaces lo hi 1)) _ _ s
 rw [a8q lo hi n]
 show wpAny _ _ (pure (((sIx n 0 lo:Nat):Int),(1:Int),Builtin.Slice.slicePlaces ((sIx n 0 lo:Nat):Int) ((sIx n n hi:Nat):Int) 1)) _ _ s
 rw [a8h]
 exact wpAny_pure h
theorem b2k (xs:Array Value) (i k:Nat):((Xs k).filterMap fun (m:Nat)=>xs[((i:Int)+(m:Int) * 1).toNat]?).toArray=((xs.toList.drop i).take k).toArray:=by
 have e:(fun (m:Nat)=>xs[((i:Int)+(m:Int) * 1).toNat]?)=fun m=>xs[i+m]?:=by
  funext m
  have:((i:Int)+(m:Int) * 1).toNat=i+m:=by omega
  rw [this]
 rw [e]
 have:=pick_run xs i k
 rw [List.filterMap_map] at this
 have e2:((fun x=>xs[x]?)∘fun x=>i+x)=fun m=>xs[i+m]?:=rfl
 rw [e2] at this
 rw [this]
theorem getItem_tuple_cut {t sl:Addr} {items:Array Value} {vl vu:Value} {lo hi:Option Int} {Q:Value→Shared→Prop} (ht:IsTup s.heap t items) (hs:s.heap.IsSliceOf sl vl vu .none) (pl:IsPart vl lo) (pu:IsPart vu hi)
  (hw:¬(sIx items.size 0 lo=0∧sIx items.size items.size hi=items.size))
  (h:Q (.ref s.heap.objs.size) {s with heap:=s.heap.push {cls:=.type "tuple",data:=.seq ((items.toList.drop (sIx items.size 0 lo)).take (sIx items.size items.size hi - sIx items.size 0 lo)).toArray}})
  (hsz:items.size≤sizeLine):wpAny (model prog w) A (getItem (.ref t) (.ref sl)) Q E s:=by
 have htake:sizeOk (.seq ((items.toList.drop (sIx items.size 0 lo)).take (sIx items.size items.size hi - sIx items.size 0 lo)).toArray):=by
  show ((items.toList.drop (sIx items.size 0 lo)).take (sIx items.size items.size hi - sIx items.size 0 lo)).toArray.size≤sizeLine
  rw [Qt,Yp,Jo,Zn]
  omega
 have hj:sIx items.size items.size hi≤items.size:=b9a _ _ (Qk _) hi
 obtain ⟨os,hos,hcs,hds⟩:=id hs
 have hTs:s.TypeIs (.ref sl) "slice":=⟨os,hos,hcs⟩
 unfold getItem
 try with_reducible refine wpAny_holding ?_
 first | refine wpAny_bind (wpAny_pure ?_) | skip
 refine wpAny_bind (wpAny_sequenceKey ht.typeIs (by decide) ?_)
 refine wpAny_bind (wpAny_callSpecial?_slot (name:=Uj "__getitem__") ht.typeIs PyProof.Rows.slot_tuple_getitem
  (wpAny_call_entry PyProof.Rows.slot_tuple_getitem ht.typeIs entry_tuple_getitem ?_ (args_tuple_getitem _ _)))
 show wpAny _ _ (Builtin.Tuple.tupleItemsOf (.ref t) >>= _) _ _ s
 refine wpAny_bind (tupleItemsOf_ ht ?_)
 refine wpAny_bind (wpAny_typeOf hTs ?_)
 rw [if_pos (by decide)]
 refine wpAny_bind (a3x hs pl pu ?_)
 have hno:¬((((sIx items.size 0 lo:Nat):Int) == 0 && (1:Int) == 1 && (sIx items.size items.size hi - sIx items.size 0 lo) == items.size)=true):=by
  intro q
  rw [Xc,Xc] at q
  have q1:((sIx items.size 0 lo:Nat):Int)=0:=eq_of_beq q.1.1
  have q2:sIx items.size items.size hi - sIx items.size 0 lo=items.size:=eq_of_beq q.2
  exact hw ⟨by omega,by omega⟩
 show wpAny _ _ (if (((sIx items.size 0 lo:Nat):Int) == 0 && (1:Int) == 1 && (sIx items.size items.size hi - sIx items.size 0 lo) == items.size)=true then _ else _) _ _ s
 rw [if_neg hno,b2k]
 first
  | exact wpAny_bind (m:=Builtin.Tuple.tupleExact _) (wpAny_newObj_type (wpAny_pure ⟨_,rfl,wpAny_pure h⟩) htake)
  | exact wpAny_bind (m:=Builtin.Tuple.tupleExact _) (wpAny_newObj_type (wpAny_bind (wpAny_pure (wpAny_pure ⟨_,rfl,wpAny_pure h⟩))) htake)
  | exact wpAny_bind (wpAny_bind (m:=Builtin.Tuple.tupleExact _) (wpAny_newObj_type (wpAny_pure (wpAny_pure ⟨_,rfl,wpAny_pure h⟩)) htake))
  | exact wpAny_bind (wpAny_bind (m:=Builtin.Tuple.tupleExact _) (wpAny_newObj_type (wpAny_pure ⟨_,rfl,wpAny_pure h⟩) htake))
end
end HT
namespace L2
open PySem PySem.Spec PyProof.Rows
abbrev TO:=St→Hp→(Option Int→Hp→Prop)→Prop
def PO (X:Cx) (e:Option Expr) (t:TO):Prop:=
 ∀(pins:List (Addr×Obj)) (s:Shared) (σ:St) (H:Hp) (Q:Option Int→Hp→Prop),Inv X pins σ H s→t σ H Q→
  wpAny (model X.prog X.w) X.A (evalPart e X.env) (fun u s'=>∃o H',Inv X pins σ H' s'∧IsPart u o∧Q o H') X.xe s
def a4Y:TO:=fun _ H Q=>Q none H
def a9m (t:TE):TO:=fun σ H Q=>t σ H fun x H1=>∃i,x=.int i∧Q (some i) H1
section
variable {X:Cx} {e:Expr} {te:TE} {lo hi:Option Expr} {tl th:TO} {pos p2:Pos}
theorem b6v:PO X none a4Y:=by
 intro pins s σ H Q I h
 rw [evalPart_none]
 exact wpAny_pure ⟨none,H,I,.none,h⟩
theorem b4J (h:PE X e te):PO X (some e) (a9m te):=by
 intro pins s σ H Q I hw
 rw [evalPart_some]
 refine thn (h pins s σ H _ I hw) fun u s1 ⟨x,H1,I1,r1,q1⟩=>?_
 obtain ⟨i,rfl,q⟩:=q1
 obtain ⟨t,rfl⟩:=r1
 exact ⟨some i,H1,I1,.int i t,q⟩
def SlR (X:Cx) (r:V→Option Int→Option Int→Hp→VK→Prop):Prop:=
 ∀(pins:List (Addr×Obj)) (s:Shared) (σ:St) (H:Hp) (x:V) (v vl vu:Value) (lo hi:Option Int) (sl:Addr) (Q:VK),Inv X pins σ H s→a0O x v→s.heap.IsSliceOf sl vl vu .none→IsPart vl lo→IsPart vu hi→r x lo hi H Q→
  ∃T id,typeLookup (.type T) "__getitem__"=pure (some (.builtin id))∧s.TypeIs v T∧wpAny (model X.prog X.w) X.A (getItem v (.ref sl)) (EP X pins σ Q) X.xe s
theorem SlR.or {r r':V→Option Int→Option Int→Hp→VK→Prop} (h:SlR X r) (h':SlR X r'):SlR X (fun x lo hi H Q=>r x lo hi H Q∨r' x lo hi H Q):=by
 intro pins s σ H x v vl vu lo hi sl Q I rx hs pl pu q
 rcases q with q | q
 ·exact h pins s σ H x v vl vu lo hi sl Q I rx hs pl pu q
 ·exact h' pins s σ H x v vl vu lo hi sl Q I rx hs pl pu q
def tSl (r:V→Option Int→Option Int→Hp→VK→Prop) (te:TE) (tl th:TO):TE:=fun σ H Q=>te σ H fun x H1=>tl σ H1 fun l H2=>th σ H2 fun u H3=>r x l u H3 Q
theorem b2r {r:V→Option Int→Option Int→Hp→VK→Prop} (hr:SlR X r) (he:PE X e te) (hl:PO X lo tl) (hu:PO X hi th):PE X (.Subscript e (.Slice lo hi none p2) pos) (tSl r te tl th):=by
 intro pins s σ H Q I h
 refine Subscript_ (thn (he pins s σ H _ I h) fun v s1 ⟨x,H1,I1,r1,q1⟩=>?_)
 refine wpAny_Slice (thn (hl pins s1 σ H1 _ I1 q1) fun vl s2 ⟨l,H2,I2,pl,q2⟩=>thn (hu pins s2 σ H2 _ I2 q2) fun vu s3 ⟨u,H3,I3,pu,q3⟩=>?_)
 rw [evalPart_none]
 refine wpAny_pure ?_
 have I4:Inv X pins σ H3 {s3 with heap:=s3.heap.push {cls:=.type "slice",data:=.fields #[vl,vu,.none]}}:=I3.kept (t':=s3.toks) fun b ob q=>Ql _ q
 obtain ⟨T,id,hT,ht,hg⟩:=hr pins {s3 with heap:=s3.heap.push {cls:=.type "slice",data:=.fields #[vl,vu,.none]}} σ H3 x v vl vu l u s3.heap.objs.size Q I4 r1 (Heap.IsSliceOf.new ..) pl pu q3
 show wpAny (model X.prog X.w) X.A (subscriptTail e (.Slice lo hi none p2) v (.ref s3.heap.objs.size)) (EP X pins σ Q) X.xe {s3 with heap:=s3.heap.push {cls:=.type "slice",data:=.fields #[vl,vu,.none]}}
 exact tail_any (ops:=[.ref s3.heap.objs.size,v]) ht hT hg (by with_unfolding_all rfl)
def a8F (xs:List V) (lo hi:Option Int):List V:=(xs.drop (HT.sIx xs.length 0 lo)).take (HT.sIx xs.length xs.length hi - HT.sIx xs.length 0 lo)
theorem a3O (xs:List V) (lo hi:Option Int):(a8F xs lo hi).length≤xs.length:=by
 unfold a8F
 rw [Yp,Jo]
 omega
def c2r (K:Qd):V→Option Int→Option Int→Hp→VK→Prop:=fun x lo hi H Q=>∃a xs,x=.ref a∧SqT K H a xs∧
 ¬(HT.sIx xs.length 0 lo=0∧HT.sIx xs.length xs.length hi=xs.length)∧∀p,H p=none→Q (.ref p) (upd H p (.tup (a8F xs lo hi)))
theorem b7P:SlR X (c2r X.K):=by
 intro pins s σ H x v vl vu lo hi sl Q I rx hs pl pu h
 obtain ⟨a,xs,rfl,hx,hw,q⟩:=h
 cases rx
 obtain ⟨its,r,ht,hz⟩:=I.tuple hx
 have hlen:its.toArray.size=xs.length:=by rw [Qt];exact r.length.symm
 refine ⟨"tuple",_,PyProof.Rows.slot_tuple_getitem.lookup,ht.typeIs,?_⟩
 refine HT.getItem_tuple_cut ht hs pl pu (by rw [hlen];exact hw) ?_ (by rw [hlen];exact hz)
 rw [hlen]
 refine ⟨.ref s.heap.objs.size,_,I.laid (t':=s.toks) (o:=.tup (a8F xs lo hi)) (fun b ob q=>Ql _ q) (Qk _) ?_,rfl,q _ (I.hok.fresh (Qk _))⟩
 exact ⟨Qi (a3O xs lo hi) hz,_,(r.drop (HT.sIx xs.length 0 lo)).take (HT.sIx xs.length xs.length hi - HT.sIx xs.length 0 lo),IsTup.new _ _⟩
def b7r (K:Qd):R2:=fun x y H Q=>∃a b xs ys,x=.ref a∧y=.ref b∧SqT K H a xs∧SqT K H b ys∧xs≠[]∧xs.length+ys.length≤sizeLine∧
 (ys=[]→Q (.ref a) H)∧(ys≠[]→∀p,H p=none→Q (.ref p) (upd H p (.tup (xs++ys))))
theorem a0N.nil_iff {xs:List V} {us:List Value} (r:a0N xs us):us=[]↔xs=[]:=by
 cases r with
 | nil=>simp
 | cons _ _=>simp
theorem b5C:OpR X (binaryOp .Add) (b7r X.K):=by
 intro pins s σ H x y v u Q I rx ry h
 obtain ⟨a,b,xs,ys,rfl,rfl,ha,hb,hx,hz,q1,q2⟩:=h
 cases rx
 cases ry
 obtain ⟨its,r1,p1,_⟩:=I.tuple ha
 obtain ⟨its2,r2,p2,_⟩:=I.tuple hb
 refine HT.cat_tup p1 p2 (fun z=>hx (r1.nil_iff.mp z)) (fun z=>⟨.ref a,H,I,rfl,q1 (r2.nil_iff.mp z)⟩) (fun z=>?_) (by rw [←r1.length,←r2.length];exact hz)
 refine ⟨.ref s.heap.objs.size,_,I.laid (t':=s.toks) (o:=.tup (xs++ys)) (fun b ob q=>Ql _ q) (Qk _) ?_,rfl,q2 (fun w=>z (r2.nil_iff.mpr w)) _ (I.hok.fresh (Qk _))⟩
 exact ⟨by rw [Xr];exact hz,_,r1.append r2,IsTup.new _ _⟩
end
end L2
namespace L2
open PySem PySem.Spec PyProof.Rows
def ixN (n:Nat) (i:Int):Option Nat:=if 0≤i then (if i < n then some i.toNat else none) else if -(n:Int)≤i then some (i+n).toNat else none
def atI {α:Type} (xs:List α) (i:Int):Option α:=(ixN xs.length i).bind fun j=>xs[j]?
theorem b4w {n:Nat} {i:Int} {j:Nat} (h:ixN n i=some j):seqIndex? i n=some j∧j < n∧-(n:Int)≤i∧i < n:=by
 unfold ixN at h
 by_cases h0:0≤i
 ·rw [if_pos h0] at h
  by_cases h1:i < n
  ·rw [if_pos h1] at h
   have e:i.toNat=j:=Option.some.inj h
   exact ⟨by rw [seqIndex_of h0 h1,e],by omega,by omega,h1⟩
  ·rw [if_neg h1] at h;cases h
 ·rw [if_neg h0] at h
  by_cases h1:-(n:Int)≤i
  ·rw [if_pos h1] at h
   have e:(i+n).toNat=j:=Option.some.inj h
   exact ⟨by rw [seqIndex_neg (by omega) h1,e],by omega,h1,by omega⟩
  ·rw [if_neg h1] at h;cases h
theorem a6T {α:Type} {xs:List α} {i:Int} {v:α} (h:atI xs i=some v):∃j,seqIndex? i xs.length=some j∧xs[j]?=some v∧j < xs.length∧-(xs.length:Int)≤i∧i < xs.length:=by
 unfold atI at h
 cases e:ixN xs.length i with
 | none=>rw [e] at h;cases h
 | some j=>
  rw [e] at h
  obtain ⟨h1,h2,h3,h4⟩:=b4w e
  exact ⟨j,h1,h,h2,h3,h4⟩
def b6p (b:Expr):Prop:=∀o i,subscripted b false o i=operate [o,i] (getItem o i)
def IxR (X:Cx) (r:R2):Prop:=
 ∀(value slice:Expr) (pins:List (Addr×Obj)) (s:Shared) (σ:St) (H:Hp) (x y:V) (v u:Value) (Q:VK),Inv X pins σ H s→a0O x v→a0O y u→r x y H Q→
  subscripted slice false v u=operate [v,u] (getItem v u)→wpAny (model X.prog X.w) X.A (subscriptTail value slice v u) (EP X pins σ Q) X.xe s
def MtR (X:Cx) (id:String) (r:V→List V→Hp→VK→Prop):Prop:=
 ∀(pins:List (Addr×Obj)) (s:Shared) (σ:St) (H:Hp) (x:V) (xs:List V) (v:Value) (us:List Value) (Q:VK),Inv X pins σ H s→a0O x v→a0N xs us→r x xs H Q→
  wpAny (model X.prog X.w) X.A (call (.builtin id) (v::us)) (EP X pins σ Q) X.xe s
section
variable {X:Cx} {a b:Expr} {ta tb:TE} {pos:Pos}
theorem IxR.or {r r':R2} (h:IxR X r) (h':IxR X r'):IxR X (fun x y H Q=>r x y H Q∨r' x y H Q):=by
 intro value slice pins s σ H x y v u Q I rx ry q hs
 rcases q with q | q
 ·exact h value slice pins s σ H x y v u Q I rx ry q hs
 ·exact h' value slice pins s σ H x y v u Q I rx ry q hs
theorem c1f {r:R2} (hr:IxR X r) (ha:PE X a ta) (hb:PE X b tb) (hs:b6p b):PE X (.Subscript a b pos) (tOp r ta tb):=by
 intro pins s σ H Q I h
 exact Subscript_ (c0E ha hb I h fun v u s2 x y H2 I2 rx ry q=>hr a b pins s2 σ H2 x y v u Q I2 rx ry q (hs _ _))
def c1k (K:Qd):R2:=fun x y H Q=>∃p xs i v,x=.ref p∧y=.int i∧SqL K H p xs∧atI xs i=some v∧Q v H
def c2I (K:Qd):R2:=fun x y H Q=>∃p xs i v,x=.ref p∧y=.int i∧SqT K H p xs∧atI xs i=some v∧Q v H
def c3e:R2:=fun x y H Q=>∃z i c,x=.str z∧y=.int i∧z.length≤sizeLine∧atI z.cps.toList i=some c∧Q (.str ⟨#[c]⟩) H
theorem b4D:IxR X (c1k X.K):=by
 intro value slice pins s σ H x y v u Q I rx ry h hs
 obtain ⟨p,xs,i,z,rfl,rfl,hq,he,q⟩:=h
 cases rx
 obtain ⟨t,rfl⟩:=ry
 obtain ⟨its,r,pl,hz⟩:=I.list hq
 obtain ⟨j,h1,h2,h3,h4,h5⟩:=a6T he
 obtain ⟨w,ew,rw'⟩:=r.get h2
 have hl:=r.length
 have hn:=a7l
 have fin:EP X pins σ Q w s:=⟨z,H,I,rw',q⟩
 by_cases h0:0≤i
 ·have hj:i.toNat=j:=by
   rw [seqIndex_of h0 h5] at h1
   exact Option.some.inj h1
  exact item_listR pl.isList h0 (by omega) (by rw [hj];simpa using ew) fin hs
 ·have hj:(i+(its.toArray.size:Int)).toNat=j:=by
   rw [seqIndex_neg (by omega) h4] at h1
   rw [Qt,←hl]
   exact Option.some.inj h1
  exact subscriptTail_builtinR (x:=w) pl.isList.typeIs slot_list_getitem.lookup
   (wpAny_getItem_list_neg (Q:=fun r s'=>r=w∧EP X pins σ Q r s') pl.isList (by omega) (by rw [Qt]<;>omega) (by omega) (by rw [hj];simpa using ew) ⟨rfl,fin⟩) hs
theorem b8E:IxR X (c2I X.K):=by
 intro value slice pins s σ H x y v u Q I rx ry h hs
 obtain ⟨p,xs,i,z,rfl,rfl,hq,he,q⟩:=h
 cases rx
 obtain ⟨t,rfl⟩:=ry
 obtain ⟨its,r,pl,hz⟩:=I.tuple hq
 obtain ⟨j,h1,h2,h3,h4,h5⟩:=a6T he
 obtain ⟨w,ew,rw'⟩:=r.get h2
 have hl:=r.length
 have hn:=a7l
 have fin:EP X pins σ Q w s:=⟨z,H,I,rw',q⟩
 exact subscriptTail_builtinR (x:=w) pl.typeIs slot_tuple_getitem.lookup
  (getItem_tuple (j:=j) (Q:=fun r s'=>r=w∧EP X pins σ Q r s') pl (by omega) (by omega) (by rw [Qt,←hl];exact h1) (by simpa using ew) ⟨rfl,fin⟩) hs
theorem b7p:IxR X c3e:=by
 intro value slice pins s σ H x y v u Q I rx ry h hs
 obtain ⟨z,i,c,rfl,rfl,hz,he,q⟩:=h
 obtain ⟨t,rfl⟩:=rx
 obtain ⟨t',rfl⟩:=ry
 obtain ⟨j,h1,h2,h3,h4,h5⟩:=a6T he
 have hl:z.cps.toList.length=z.length:=by simp [Str.length]
 rw [hl] at h1 h4 h5
 have hn:=a7l
 exact tail_any (typeIs_str s z t) slot_str_getitem.lookup (getItem_str (c:=c) (by
  have e1:decide (i < -(2 ^ 63:Int))=false:=decide_eq_false (by omega)
  have e2:decide (i≥2 ^ 63)=false:=decide_eq_false (by omega)
  rw [e1,e2,Bool.or_false]) (by rw [h1];simpa using h2) ⟨.str ⟨#[c]⟩,H,I.tok _,⟨_,rfl⟩,q⟩) hs
def rIx (K:Qd):R2:=fun x y H Q=>c1k K x y H Q∨c2I K x y H Q∨c3e x y H Q
theorem a0n:IxR X (rIx X.K):=b4D.or (b8E.or b7p)
theorem Inv.lst {pins:List (Addr×Obj)} {σ:St} {H:Hp} {s:Shared} {p:Addr} {xs:List V} (I:Inv X pins σ H s) (h:H p=some (.lst xs)):
  ∃(its:List Value) (n:Nat),a0N xs its∧s.heap.get? p=some {cls:=.type "list",data:=.seq its.toArray n}∧xs.length≤sizeLine:=by
 obtain ⟨z,its,n,r,e⟩:=I.hok p _ h
 exact ⟨its,n,r,e,z⟩
theorem a5C (lo hi:Option Int) (n:Nat):(sliceBounds lo hi none n).1=((HT.sIx n 0 lo:Nat):Int)∧(sliceBounds lo hi none n).2.1=((HT.sIx n n hi:Nat):Int)∧(sliceBounds lo hi none n).2.2=1:=by
 refine ⟨?_,?_,rfl⟩
 ·cases lo with
  | none=>simp [sliceBounds,HT.sIx]
  | some i=>
   simp only [sliceBounds,HT.sIx,Gd,show (1:Int) > 0 by decide,if_true]
   by_cases h:i < 0
   ·simp only [h,if_true]<;>omega
   ·simp only [h,if_false]<;>omega
 ·cases hi with
  | none=>simp [sliceBounds,HT.sIx]
  | some i=>
   simp only [sliceBounds,HT.sIx,Gd,show (1:Int) > 0 by decide,if_true]
   by_cases h:i < 0
   ·simp only [h,if_true]<;>omega
   ·simp only [h,if_false]<;>omega
theorem a4U (its:List Value) (lo hi:Option Int):slicePick its.toArray lo hi none=((its.drop (HT.sIx its.length 0 lo)).take (HT.sIx its.length its.length hi - HT.sIx its.length 0 lo)).toArray:=by
 obtain ⟨h1,h2,h3⟩:=a5C lo hi its.toArray.size
 unfold slicePick
 rw [h1,h2,h3]
 simp only [sliceRange_one,pick_run,Qt]<;>rfl
def c4z (K:Qd):V→Option Int→Option Int→Hp→VK→Prop:=fun x lo hi H Q=>∃a xs,x=.ref a∧SqL K H a xs∧∀p,H p=none→Q (.ref p) (upd H p (.lst (a8F xs lo hi)))
theorem b5U:SlR X (c4z X.K):=by
 intro pins s σ H x v vl vu lo hi sl Q I rx hs pl pu h
 obtain ⟨a,xs,rfl,hx,q⟩:=h
 cases rx
 obtain ⟨its,r,ht,hz⟩:=I.list hx
 have hlen:=r.length
 refine ⟨"list",_,slot_list_getitem.lookup,ht.isList.typeIs,?_⟩
 refine wpAny_getItem_list_slice ht.isList hs pl pu .none (by simp) ?_ (by rw [Qt]<;>omega)
 rw [a4U,←hlen]
 refine ⟨.ref s.heap.objs.size,_,I.laid (t':=s.toks) (o:=.lst (a8F xs lo hi)) (fun b ob q=>Ql _ q) (Qk _) ?_,rfl,q _ (I.hok.fresh (Qk _))⟩
 exact ⟨Qi (a3O xs lo hi) hz,_,0,(r.drop (HT.sIx xs.length 0 lo)).take (HT.sIx xs.length xs.length hi - HT.sIx xs.length 0 lo),Xe _ rfl⟩
def a5p:V→Bool
 | .non=>true
 | .bl _=>true
 | .int _=>true
 | .str _=>true
 | _=>false
def eqV:V→V→Bool
 | .non,.non=>true
 | .bl a,.bl b=>a == b
 | .bl a,.int b=>(if a then 1 else 0) == b
 | .int a,.bl b=>a == (if b then 1 else 0)
 | .int a,.int b=>a == b
 | .str a,.str b=>a == b
 | _,_=>false
theorem c0g {A:Around} {s:Shared} {y x:V} {u v:Value} (ry:a0O y u) (rx:a0O x v) (fy:a5p y=true) (fx:a5p x=true):Yi A s u v (eqV y x):=by
 cases y with
 | non=>
  cases ry
  cases x with
  | non=>cases rx;exact Yi.same _
  | bl b=>cases rx;exact Yi.none_bool b
  | int b=>obtain ⟨t,rfl⟩:=rx;exact Yi.none_int b t
  | str b=>obtain ⟨t,rfl⟩:=rx;exact Yi.none_str b t
  | _=>exact absurd (show false=true from fx) Qn
 | bl a=>
  cases ry
  cases x with
  | non=>cases rx;exact Yi.bool_none a
  | bl b=>cases rx;exact Yi.bool_bool a b
  | int b=>obtain ⟨t,rfl⟩:=rx;exact Yi.bool_int a b t
  | str b=>obtain ⟨t,rfl⟩:=rx;exact Yi.bool_str a b t
  | _=>exact absurd (show false=true from fx) Qn
 | int a=>
  obtain ⟨t',rfl⟩:=ry
  cases x with
  | non=>cases rx;exact Yi.int_none a t'
  | bl b=>cases rx;exact Yi.int_bool a t' b
  | int b=>obtain ⟨t,rfl⟩:=rx;exact Yi.int_int a t' b t
  | str b=>obtain ⟨t,rfl⟩:=rx;exact Yi.int_str a t' b t
  | _=>exact absurd (show false=true from fx) Qn
 | str a=>
  obtain ⟨t',rfl⟩:=ry
  cases x with
  | non=>cases rx;exact Yi.str_none a t'
  | bl b=>cases rx;exact Yi.str_bool a t' b
  | int b=>obtain ⟨t,rfl⟩:=rx;exact Yi.str_int a t' b t
  | str b=>obtain ⟨t,rfl⟩:=rx;exact Yi.str_str a t' b t
  | _=>exact absurd (show false=true from fx) Qn
 | _=>exact absurd (show false=true from fy) Qn
def eqU (x:V) (u:Value):Bool:=match u with
 | .none=>eqV .non x
 | .bool b=>eqV (.bl b) x
 | .int i _=>eqV (.int i) x
 | .str z _=>eqV (.str z) x
 | _=>false
theorem b4n {x y:V} {u:Value} (r:a0O y u) (f:a5p y=true):eqU x u=eqV y x:=by
 cases y with
 | non=>cases r;rfl
 | bl b=>cases r;rfl
 | int i=>obtain ⟨t,rfl⟩:=r;rfl
 | str z=>obtain ⟨t,rfl⟩:=r;rfl
 | _=>exact absurd (show false=true from f) Qn
theorem a6x {x:V}:∀{xs:List V} {us:List Value},a0N xs us→xs.all a5p=true→us.any (eqU x)=xs.any fun y=>eqV y x
 | _,_,.nil,_=>rfl
 | y::xs,u::us,.cons r t,f=>by
  rw [Va,Xc] at f
  rw [Jf,Jf,b4n r f.1,a6x t f.2]
theorem a5n {A:Around} {s:Shared} {x:V} {v:Value} (rx:a0O x v) (fx:a5p x=true):∀{xs:List V} {us:List Value},a0N xs us→xs.all a5p=true→∀u∈us,Yi A s u v (eqU x u)
 | _,_,.nil,_=>fun u hu=>by cases hu
 | y::xs,u::us,.cons r t,f=>fun u' hu=>by
  rw [Va,Xc] at f
  rcases Qy.mp hu with rfl | hu
  ·rw [b4n r f.1];exact c0g r rx f.1 fx
  ·exact a5n rx fx t f.2 u' hu
def inV (x:V) (xs:List V):Bool:=xs.any fun y=>eqV y x
def rIn (K:Qd) (neg:Bool):R2:=fun x y H Q=>∃p xs,y=.ref p∧(SqL K H p xs∨SqT K H p xs)∧a5p x=true∧xs.all a5p=true∧Q (.bl (if neg then !inV x xs else inV x xs)) H
theorem b0u:OpR X (compareOp .In) (rIn X.K false):=by
 intro pins s σ H x y v u Q I rx ry h
 obtain ⟨p,xs,rfl,hq,fx,fs,q⟩:=h
 cases ry
 rcases hq with hq | hq
 ·obtain ⟨its,r,pl,hz⟩:=I.list hq
  refine SeqAt.in_listAt (eqU x) pl.isList (fun w hw=>a5n rx fx r fs w (by simpa using hw)) ⟨.bl _,H,I,rfl,?_⟩
  rw [show its.toArray.any (eqU x)=its.any (eqU x) by simp,a6x r fs]
  exact q
 ·obtain ⟨its,r,pl,hz⟩:=I.tuple hq
  refine SeqAt.in_tupleAt (eqU x) pl (fun w hw=>a5n rx fx r fs w (by simpa using hw)) ⟨.bl _,H,I,rfl,?_⟩
  rw [show its.toArray.any (eqU x)=its.any (eqU x) by simp,a6x r fs]
  exact q
theorem a1U.or {f:Value} {r r':List V→Hp→VK→Prop} (h:a1U X f r) (h':a1U X f r'):a1U X f (fun xs H Q=>r xs H Q∨r' xs H Q):=by
 intro pins s σ H xs us Q I rs q
 rcases q with q | q
 ·exact h pins s σ H xs us Q I rs q
 ·exact h' pins s σ H xs us Q I rs q
theorem a5L:a1U X (.type "list") (fun xs H Q=>∃p ys,xs=[.ref p]∧(SqL X.K H p ys∨SqT X.K H p ys)∧∀l,H l=none→Q (.ref l) (upd H l (.lst ys))):=by
 intro pins s σ H xs us Q I r h
 obtain ⟨p,ys,rfl,hq,q⟩:=h
 obtain ⟨u,rfl,rx⟩:=a3y r
 cases rx
 have fin:∀(its:List Value),a0N ys its→ys.length≤sizeLine→∀(h':Heap) (c':Nat),(∀b o',s.heap.get? b=some o'→h'.get? b=some o')→
   h'.get? s.heap.objs.size=some {cls:=.type "list",dict:=none,data:=.seq its.toArray c',slots:=#[]}→EP X pins σ Q (.ref s.heap.objs.size) {s with heap:=h'}:=fun its r' hz h' c' kp e=>
  ⟨.ref s.heap.objs.size,_,I.laid (t':=s.toks) kp (Qk _) (show a1h X.prog X.w _ h' _ (.lst ys) from ⟨hz,its,c',r',e⟩),rfl,q _ (I.hok.fresh (Qk _))⟩
 rcases hq with hq | hq
 ·obtain ⟨its,r',pl,hz⟩:=I.list hq
  have hlen:=r'.length
  obtain ⟨o,ho,hc,n,hd⟩:=pl.isList
  exact call_list_seq p (.inl rfl) ho hc hd (fun h' c' kp e=>fin its r' hz h' c' kp e) (by simp only [Qt]<;>omega)
 ·obtain ⟨its,r',pl,hz⟩:=I.tuple hq
  have hlen:=r'.length
  obtain ⟨o,ho,hc,n,hd⟩:=pl
  exact call_list_seq p (.inr rfl) ho hc hd (fun h' c' kp e=>fin its r' hz h' c' kp e) (by simp only [Qt]<;>omega)
theorem a4T:a1U X (.type "tuple") (fun xs H Q=>∃p ys,xs=[.ref p]∧((SqL X.K H p ys∧∀l,H l=none→Q (.ref l) (upd H l (.tup ys)))∨(SqT X.K H p ys∧Q (.ref p) H))):=by
 intro pins s σ H xs us Q I r h
 obtain ⟨p,ys,rfl,h⟩:=h
 obtain ⟨u,rfl,rx⟩:=a3y r
 cases rx
 rcases h with ⟨hq,q⟩ | ⟨hq,q⟩
 ·obtain ⟨its,r',pl,hz⟩:=I.list hq
  have hlen:=r'.length
  refine call_tuple_list pl.isList (fun h' kp=>?_) (by simp only [Qt]<;>omega)
  have I1:Inv X pins σ H {s with heap:=h'}:=I.kept (t':=s.toks) kp
  have I2:Inv X pins σ (upd H h'.objs.size (.tup ys)) {s with heap:=h'.push {cls:=.type "tuple",data:=.seq its.toArray}}:=
   I1.laid (t':=s.toks) (fun b o e=>Ql _ e) (Qk _) (show a1h X.prog X.w _ _ _ (.tup ys) from ⟨hz,its,r',IsTup.new _ _⟩)
  exact ⟨.ref h'.objs.size,_,I2,rfl,q _ (I1.hok.fresh (Qk _))⟩
 ·obtain ⟨its,r',pl,hz⟩:=I.tuple hq
  exact call_tuple_same pl ⟨.ref p,H,I,rfl,q⟩
def tyV (K:Qd) (T:String) (x:V) (H:Hp):Prop:=match x with
 | .str _=>T="str"
 | .int _=>T="int"
 | .ref p=>(T="list"∧∃xs,SqL K H p xs)∨(T="tuple"∧∃o,K.lookup p=some o∧o.cls=.type "tuple"∧o.dict=none)∨
   (T="dict"∧((∃kvs,H p=some (.dK kvs))∨∃kvs,H p=some (.dT kvs)))∨(T="set"∧∃S n,H p=some (.set S n))
 | _=>False
theorem b7j {pins:List (Addr×Obj)} {σ:St} {H:Hp} {s:Shared} {T:String} {x:V} {v:Value} (I:Inv X pins σ H s) (r:a0O x v) (ty:tyV X.K T x H):
  s.TypeIs v T∧∀a,v=.ref a→∃ob,s.heap.get? a=some ob∧ob.dict=none:=by
 cases x with
 | str z=>
  obtain ⟨t,rfl⟩:=r
  cases (show T="str" from ty)
  exact ⟨typeIs_str s z t,fun _ e=>nomatch e⟩
 | int i=>
  obtain ⟨t,rfl⟩:=r
  cases (show T="int" from ty)
  exact ⟨typeIs_int s i t,fun _ e=>nomatch e⟩
 | ref p=>
  cases r
  rcases ty with ⟨rfl,xs,hq⟩ | ⟨rfl,o,hk,hc,hd⟩ | ⟨rfl,hk⟩ | ⟨rfl,S,n,hk⟩
  ·obtain ⟨its,_,pl,_⟩:=I.list hq
   refine ⟨pl.isList.typeIs,fun a e=>?_⟩
   cases e
   obtain ⟨o,n,e,c,hd,_⟩:=pl
   exact ⟨o,e,hd⟩
  ·refine ⟨⟨o,I.kIn p o hk,hc⟩,fun a e=>?_⟩
   cases e
   exact ⟨o,I.kIn _ o hk,hd⟩
  ·have z:∃o,s.heap.get? p=some o∧o.ExactDict:=by
    rcases hk with ⟨kvs,hk⟩ | ⟨kvs,hk⟩
    ·obtain ⟨_,_,_,_,o,_,_,e,ex,_⟩:=I.hok p _ hk
     exact ⟨o,e,ex⟩
    ·obtain ⟨_,_,_,_,o,_,_,e,ex,_⟩:=I.hok p _ hk
     exact ⟨o,e,ex⟩
   obtain ⟨o,e,ex⟩:=z
   refine ⟨⟨o,e,ex.1⟩,fun a e2=>?_⟩
   cases e2
   exact ⟨o,e,ex.2.1⟩
  ·obtain ⟨o,_,_,_,e,ex,_⟩:=I.hok p _ hk
   refine ⟨⟨o,e,ex.1⟩,fun a e2=>?_⟩
   cases e2
   exact ⟨o,e,ex.2.1⟩
 | _=>exact False.elim ty
def tBM (K:Qd) (T:String) (r:V→List V→Hp→VK→Prop) (to:TE) (t:TA):TE:=fun σ H Q=>to σ H fun x H1=>tyV K T x H1∧t σ H1 fun xs H2=>r x xs H2 Q
variable {o e:Expr} {es:List Expr} {to:TE} {t:TA} {name:Str} {apos cpos:Pos} {T id:String} {r:V→List V→Hp→VK→Prop}
theorem c0R (pa:PlainAttrs T) (slot:Slot T name id) (hty:typeOf (.builtin id)=pure (.type "method_descriptor")) (hm:MtR X id r) (ho:PE X o to) (ha:PA X (e::es) t)
  (hbase:attributeBase o name X.env (eval o X.env)=eval o X.env:=by rfl)
  (hfew:((backTo cpos (starEach (e::es) X.env)).all (fun x=>!x.1) && (backToKw cpos (keywordEach [] X.env)).all (fun x=>x.1.isSome)
   && decide ((e::es).length+([]:List Keyword).length+(if ([]:List Keyword).isEmpty then 0 else 1) < 30))=true:=by rfl)
  (hline:(apos.endLine == cpos.line)=true:=by rfl) (hs:starEach (e::es) X.env=(false,eval e X.env)::starEach es X.env:=by rfl) (hplain:(backTo cpos (starEach es X.env)).any (·.1)=false:=by rfl):
  PE X (.Call (.Attribute o name apos) (e::es) [] cpos) (tBM X.K T r to t):=by
 intro pins s σ H Q I h
 refine wpAny_Call_method_late hbase hfew hline rfl (thn (ho pins s σ H _ I h) fun v s1 ⟨x,H1,I1,r1,ty,q1⟩=>?_)
 obtain ⟨h1,h2⟩:=b7j I1 r1 ty
 refine ⟨T,id,pa,slot,hty,h1,h2,?_⟩
 have hA:=ha cpos pins s1 σ H1 _ I1 q1
 rw [hs] at hA ⊢
 refine Calls.callWith_builtin (by show (false || (backTo cpos (starEach es X.env)).any (·.1))=false;rw [hplain]<;>rfl) (Calls.evalArgs_plain ?_)
 exact thn hA fun us s2 ⟨vs,H2,I2,r2,q2⟩=>hm pins s2 σ H2 x vs v us Q I2 r1 r2 q2
end
end L2
namespace L2
open PySem PySem.Spec PyProof.Rows
def MtM (X:Cx) (id:String) (r:V→List V→Hp→VK→Prop):Prop:=
 ∀(pins:List (Addr×Obj)) (s:Shared) (σ:St) (H:Hp) (x:V) (xs:List V) (v:Value) (us:List Value) (Q:VK),Inv X pins σ H s→a0O x v→a0N xs us→r x xs H Q→
  wpAny (model X.prog X.w) X.A (call (.builtin id) (v::us)) (EP X pins σ Q) X.xe s
theorem a0N.one:∀{x:V} {us:List Value},a0N [x] us→∃u,us=[u]∧a0O x u
 | _,_,.cons r .nil=>⟨_,rfl,r⟩
section
variable {X:Cx} {pins:List (Addr×Obj)} {σ:St} {H:Hp} {s:Shared} {l b:Addr} {xs ys zs:List V}
theorem Inv.lset {its its':List Value} {n:Nat} {f:Array Value→Array Value} {t':Nat} (I:Inv X pins σ H s) (hH:H l=some (.lst xs))
  (e:s.heap.get? l=some {cls:=.type "list",data:=.seq its.toArray n}) (hf:f its.toArray=its'.toArray) (hv:a0N ys its') (hz:ys.length≤sizeLine):
  Inv X pins σ (upd H l (.lst ys)) {s with heap:=s.heap.update l (Obj.mapSeq f),toks:=t'}:=by
 have q:=PySem.IsL.update e f
 rw [hf] at q
 refine I.write (x:=l) (e:=l) (by rw [hH];exact trivial) (.inl rfl) (fun b' u hb hu=>(Heap.get?_update_other s.heap (Obj.mapSeq f) (Ne.symm hb)).trans hu) ⟨_,q⟩ ?_
 exact ⟨hz,its',_,hv,q⟩
theorem Inv.lnew {its:List Value} {t':Nat} (I:Inv X pins σ H s) (hv:a0N ys its) (hz:ys.length≤sizeLine):
  Inv X pins σ (upd H s.heap.objs.size (.lst ys)) {s with heap:=s.heap.push {cls:=.type "list",data:=.seq its.toArray},toks:=t'}:=
 I.laid (fun _ _ q=>Ql _ q) (Qk _) ⟨hz,its,0,hv,Xe _ rfl⟩
theorem Inv.fresh (I:Inv X pins σ H s):H s.heap.objs.size=none:=I.hok.fresh (Qk _)
theorem Inv.lstM (I:Inv X pins σ H s) (hH:H l=some (.lst xs)):xs.length≤sizeLine∧∃(its:List Value) (n:Nat),a0N xs its∧xs.length=its.length∧s.heap.get? l=some {cls:=.type "list",data:=.seq its.toArray n}:=by
 obtain ⟨z,its,n,r,e⟩:=I.hok l _ hH
 exact ⟨z,its,n,r,r.length,e⟩
end
section
variable {X:Cx}
def b4Q:V→List V→Hp→VK→Prop:=fun x vs H Q=>∃l xs y,x=.ref l∧vs=[y]∧H l=some (.lst xs)∧xs.length < sizeLine∧Q .non (upd H l (.lst (xs++[y])))
theorem a0Z:MtM X "list.append" b4Q:=by
 intro pins s σ H x vs v us Q I rx rv h
 obtain ⟨l,xs,y,rfl,rfl,hH,hz,q⟩:=h
 cases rx
 obtain ⟨u,rfl,ru⟩:=rv.one
 obtain ⟨z,its,n,r,hl,e⟩:=I.lstM hH
 refine call_meets F.slot_list_append ⟨_,e,rfl⟩ F.entry_list_append (F.args_list_append_2 _ _) (PySem.list_append l its.toArray n u (by rw [Qt];omega)) ⟨e,?_⟩
 refine ⟨.non,_,I.lset (its':=its++[u]) hH e (by simp) (r.append (.cons ru .nil)) ?_,rfl,q⟩
 rw [Xr,Wm]
 omega
def c4c:R2:=fun x y H Q=>∃l b xs zs,x=.ref l∧y=.ref b∧H l=some (.lst xs)∧H b=some (.lst zs)∧xs.length+zs.length≤sizeLine∧∀p,H p=none→Q (.ref p) (upd H p (.lst (xs++zs)))
theorem b7g:OpR X (binaryOp .Add) c4c:=by
 intro pins s σ H x y v u Q I rx ry h
 obtain ⟨l,b,xs,zs,rfl,rfl,hH,hB,hz,q⟩:=h
 cases rx
 cases ry
 obtain ⟨z,its,n,r,hl,e⟩:=I.lstM hH
 obtain ⟨z2,its2,n2,r2,hl2,e2⟩:=I.lstM hB
 refine PySem.P.add_list e e2 ?_ (by rw [Qt,Qt];omega)
 have ea:its.toArray++its2.toArray=(its++its2).toArray:=by simp
 rw [ea]
 exact ⟨.ref _,_,I.lnew (t':=s.toks) (r.append r2) (by rw [Xr];omega),rfl,q _ I.fresh⟩
end
section
variable {prog:Program} {w:World} {A:Around} {E:Value→Shared→Prop} {s:Shared}
set_option maxRecDepth 100000 in
end
end L2
namespace L2
open PySem PySem.Spec PyProof.Rows
section
variable {κ:Type} [DecidableEq κ]
def a0P (kvs:List (κ×V)) (k:κ):Option V:=(kvs.find? fun kv=>decide (kv.1=k)).map (·.2)
def a2u (kvs:List (κ×V)) (k:κ) (v:V):List (κ×V):=
 if (kvs.any fun kv=>decide (kv.1=k))=true then kvs.map (fun kv=>if kv.1=k then (kv.1,v) else kv) else kvs++[(k,v)]
def b9G (kvs:List (κ×V)) (k:κ):List (κ×V):=kvs.filter fun kv=>decide (kv.1≠k)
theorem a0F {p:κ×V} {r:List (κ×V)} {k:κ} (e:p.1=k):a0P (p::r) k=some p.2:=by simp [a0P,Yz,e]
theorem a0x {p:κ×V} {r:List (κ×V)} {k:κ} (e:¬p.1=k):a0P (p::r) k=a0P r k:=by simp [a0P,Yz,e]
theorem a1Q (k:κ):∀kvs:List (κ×V),(kvs.any fun kv=>decide (kv.1=k))=(a0P kvs k).isSome
 | []=>rfl
 | p::r=>by
  rw [Jf]
  by_cases e:p.1=k
  ·simp only [a0F e,decide_eq_true e,Bool.true_or,Option.isSome_some]
  ·rw [a0x e,decide_eq_false e,Bool.false_or];exact a1Q k r
theorem a7d (k j:κ) (y:V):∀kvs:List (κ×V),a0P (kvs.map fun kv=>if kv.1=k then (kv.1,y) else kv) j=(a0P kvs j).map fun x=>if j=k then y else x
 | []=>rfl
 | p::r=>by
  have ih:=a7d k j y r
  rw [Xj]
  by_cases h:p.1=k
  ·rw [if_pos h]
   by_cases e:p.1=j
   ·rw [a0F (p:=(p.1,y)) e,a0F e,Jg,if_pos (e.symm.trans h)]
   ·rw [a0x (p:=(p.1,y)) e,a0x e,ih]
  ·rw [if_neg h]
   by_cases e:p.1=j
   ·rw [a0F (p:=p) e,a0F e,Jg,if_neg (fun z=>h (e.trans z))]
   ·rw [a0x (p:=p) e,a0x e,ih]
theorem a5T (k j:κ) (y:V):∀kvs:List (κ×V),a0P kvs k=none→a0P (kvs++[(k,y)]) j=if j=k then some y else a0P kvs j
 | [],_=>by
  by_cases e:k=j
  ·rw [if_pos e.symm];exact a0F (p:=(k,y)) e
  ·rw [if_neg (fun z=>e z.symm)];exact a0x (p:=(k,y)) e
 | p::r,hn=>by
  rw [Jp]
  have hk:¬p.1=k:=fun z=>by rw [a0F z] at hn;cases hn
  rw [a0x hk] at hn
  have ih:=a5T k j y r hn
  by_cases e:p.1=j
  ·rw [a0F e,a0F e,if_neg (fun z=>hk (e.trans z))]
  ·rw [a0x e,a0x e,ih]
theorem a1E (kvs:List (κ×V)) (k j:κ) (y:V):a0P (a2u kvs k y) j=if j=k then some y else a0P kvs j:=by
 unfold a2u
 by_cases a:(kvs.any fun kv=>decide (kv.1=k))=true
 ·rw [if_pos a,a7d]
  rw [a1Q] at a
  by_cases e:j=k
  ·obtain ⟨x,hx⟩:=Vp.mp a
   rw [if_pos e,e,hx,Jg,if_pos rfl]
  ·rw [if_neg e]
   cases a0P kvs j with
   | none=>rfl
   | some x=>rw [Jg,if_neg e]
 ·rw [if_neg a]
  refine a5T k j y kvs ?_
  rw [a1Q] at a
  cases q:a0P kvs k with
  | none=>rfl
  | some x=>rw [q] at a;exact (a rfl).elim
theorem a0K (kvs:List (κ×V)) (k:κ) (v:V):(a2u kvs k v).length≤kvs.length+1:=by
 unfold a2u
 split
 ·rw [Qe];omega
 ·rw [Xr,Qo,Qz];omega
theorem a5v {kvs:List (κ×V)} {k:κ} (v:V) (h:a0P kvs k=none):a2u kvs k v=kvs++[(k,v)]:=by
 unfold a2u
 rw [a1Q,h]
 exact if_neg (by decide)
theorem a4k.isSome_eq {o:Option V} {u:Option Value} (r:a4k o u):o.isSome=u.isSome:=by
 cases o with
 | none=>cases u with
  | none=>rfl
  | some _=>exact (show False from r).elim
 | some _=>cases u with
  | none=>exact (show False from r).elim
  | some _=>rfl
theorem a4k.getD {o:Option V} {u:Option Value} {d:V} {d':Value} (r:a4k o u) (rd:a0O d d'):a0O (o.getD d) (u.getD d'):=by
 cases o with
 | none=>cases u with
  | none=>exact rd
  | some _=>exact (show False from r).elim
 | some _=>cases u with
  | none=>exact (show False from r).elim
  | some _=>exact r
theorem KV.val {kvs:List (κ×V)} {vs:List (κ×Value)} (r:KV kvs vs) (k:κ):a4k (a0P kvs k) (valueAt vs k):=by
 unfold KV at r
 induction r with
 | nil=>exact True.intro
 | @cons p q ps qs h t ih=>
  obtain ⟨h1,h2⟩:=h
  by_cases e:p.1=k
  ·have e':q.1=k:=h1.symm.trans e
   have b:valueAt (q::qs) k=some q.2:=by simp [valueAt,Yz,e']
   rw [a0F e,b];exact h2
  ·have e':¬q.1=k:=fun z=>e (h1.trans z)
   have b:valueAt (q::qs) k=valueAt qs k:=by simp [valueAt,Yz,e']
   rw [a0x e,b];exact ih
theorem KV.any {kvs:List (κ×V)} {vs:List (κ×Value)} (r:KV kvs vs) (k:κ):(kvs.any fun kv=>decide (kv.1=k))=vs.any fun kv=>decide (kv.1=k):=by
 unfold KV at r
 induction r with
 | nil=>rfl
 | cons h t ih=>rw [Jf,Jf,ih,h.1]
theorem KV.repl {kvs:List (κ×V)} {vs:List (κ×Value)} (r:KV kvs vs) (k:κ) {y:V} {u:Value} (ry:a0O y u):
  KV (kvs.map fun kv=>if kv.1=k then (kv.1,y) else kv) (vs.map fun kv=>if kv.1=k then (kv.1,u) else kv):=by
 unfold KV at r ⊢
 induction r with
 | nil=>exact .nil
 | @cons p q ps qs h t ih=>
  rw [Xj,Xj]
  refine .cons ?_ ih
  obtain ⟨h1,h2⟩:=h
  by_cases e:p.1=k
  ·rw [if_pos e,if_pos (h1.symm.trans e)];exact ⟨h1,ry⟩
  ·rw [if_neg e,if_neg (fun z=>e (h1.trans z))];exact ⟨h1,h2⟩
theorem KV.put {kvs:List (κ×V)} {vs:List (κ×Value)} (r:KV kvs vs) (k:κ) {y:V} {u:Value} (ry:a0O y u):KV (a2u kvs k y) (stored vs k u):=by
 unfold a2u stored
 rw [r.any k]
 by_cases e:(vs.any fun kv=>decide (kv.1=k))=true
 ·rw [if_pos e,if_pos e];exact r.repl k ry
 ·rw [if_neg e,if_neg e];exact Paired.snoc r ⟨rfl,ry⟩
theorem KV.drop {kvs:List (κ×V)} {vs:List (κ×Value)} (r:KV kvs vs) (k:κ):KV (b9G kvs k) (without vs k):=by
 unfold KV at r ⊢
 unfold b9G without
 induction r with
 | nil=>exact .nil
 | @cons p q ps qs h t ih=>
  obtain ⟨h1,h2⟩:=h
  rw [Yk,Yk]
  by_cases e:p.1=k
  ·have a:¬decide (p.1≠k)=true:=by simp [e]
   have b:¬decide (q.1≠k)=true:=by simp [h1.symm.trans e]
   rw [if_neg a,if_neg b];exact ih
  ·have e':¬q.1=k:=fun z=>e (h1.trans z)
   have a:decide (p.1≠k)=true:=by simp [e]
   have b:decide (q.1≠k)=true:=by simp [e']
   rw [if_pos a,if_pos b];exact .cons ⟨h1,h2⟩ ih
theorem KV.length {kvs:List (κ×V)} {vs:List (κ×Value)} (r:KV kvs vs):kvs.length=vs.length:=Paired.length r
end
theorem a5Q {P:Program} {w:World} {k:Key} {u:Value} (r:a0O (kV k) u):(a0s P w).is k u=true:=by
 cases k with
 | inl i=>obtain ⟨t,e⟩:=(show ∃t,u=Value.int i t from r);subst e;exact a6M P w i t
 | inr x=>obtain ⟨t,e⟩:=(show ∃t,u=Value.str x t from r);subst e;exact a6Z P w x t
theorem a6q {P:Program} {w:World}:∀{ks:List Key} {us:List Value},a0N (ks.map kV) us→ItemsAre (a0s P w) ks us
 | [],_,r=>by rw [Jl] at r;cases r;exact .nil
 | k::ks,_,r=>by
  rw [Xj] at r
  cases r with
  | cons h t=>exact .cons (a5Q h) (a6q t)
abbrev KT (H:Hp):List (List Key×V)→List (List Key×Addr×Value)→Prop:=Paired fun p q=>p.1=q.1∧H q.2.1=some (.tup (p.1.map kV))∧a0O p.2 q.2.2
theorem KT.val {H:Hp} {kvs:List (List Key×V)} {xs:List (List Key×Addr×Value)} (r:KT H kvs xs) (k:List Key):a4k (a0P kvs k) ((atKey xs k).map (·.2)):=by
 induction r with
 | nil=>exact True.intro
 | @cons p q ps qs h t ih=>
  obtain ⟨h1,_,h2⟩:=h
  by_cases e:p.1=k
  ·have e':q.1=k:=h1.symm.trans e
   have b:atKey (q::qs) k=some q.2:=by simp [atKey,Yz,e']
   rw [a0F e,b];exact h2
  ·have e':¬q.1=k:=fun z=>e (h1.trans z)
   have b:atKey (q::qs) k=atKey qs k:=by simp [atKey,Yz,e']
   rw [a0x e,b];exact ih
theorem KT.repl {H:Hp} {kvs:List (List Key×V)} {xs:List (List Key×Addr×Value)} (r:KT H kvs xs) (k:List Key) {y:V} {u:Value} (ry:a0O y u):
  KT H (kvs.map fun kv=>if kv.1=k then (kv.1,y) else kv) (xs.map (putAt k u)):=by
 induction r with
 | nil=>exact .nil
 | @cons p q ps qs h t ih=>
  rw [Xj,Xj]
  refine .cons ?_ ih
  obtain ⟨h1,h2,h3⟩:=h
  unfold putAt
  by_cases e:p.1=k
  ·rw [if_pos e,if_pos (h1.symm.trans e)];exact ⟨h1,h2,ry⟩
  ·rw [if_neg e,if_neg (fun z=>e (h1.trans z))];exact ⟨h1,h2,h3⟩
theorem KT.put {H:Hp} {kvs:List (List Key×V)} {xs:List (List Key×Addr×Value)} (r:KT H kvs xs) (k:List Key) {b:Addr} {y:V} {u:Value} (hb:H b=some (.tup (k.map kV))) (ry:a0O y u):
  KT H (a2u kvs k y) (storedH xs k b u):=by
 have e:(kvs.any fun kv=>decide (kv.1=k))=(atKey xs k).isSome:=by
  rw [a1Q,(r.val k).isSome_eq,Ve]
 unfold a2u storedH
 rw [e]
 by_cases q:(atKey xs k).isSome=true
 ·rw [if_pos q,if_pos q];exact r.repl k ry
 ·rw [if_neg q,if_neg q];exact Paired.snoc r ⟨rfl,hb,ry⟩
theorem KT.keeps {H H':Hp} {kvs:List (List Key×V)} {xs:List (List Key×Addr×Value)} (r:KT H kvs xs) (ht:∀b ys,H b=some (.tup ys)→H' b=some (.tup ys)):KT H' kvs xs:=
 Paired.mapP r fun _ _ z=>⟨z.1,ht _ _ z.2.1,z.2.2⟩
section
variable {P:Program} {w:World} {H:Hp} {h:Heap} {a:Addr}
theorem b6T {u:HO} (ok:HOk P w H h) (e:Rd H a u):a1h P w H h a u:=e.ok ok
theorem a4l {kvs:List (Key×V)} (ok:HOk P w H h) (e:Rd H a (.dK kvs)):kvs.length≤sizeLine∧(a == sysModules)=false∧∃vs,KV kvs vs∧h.DictOf (a0s P w) a vs:=
 show a1h P w H h a (.dK kvs) from b6T ok e
theorem a6K {kvs:List (Key×V)} (ok:HOk P w H h) (e:H a=some (.dK kvs)):kvs.length≤sizeLine∧(a == sysModules)=false∧∃vs,KV kvs vs∧h.DictOf (a0s P w) a vs:=a4l ok (.inl e)
theorem a4P {ks:List Key} (ok:HOk P w H h) (e:H a=some (.tup (ks.map kV))):(tupleKind (a0s P w)).is h ks a:=by
 obtain ⟨_,its,r,o,h1,h2,n,h3⟩:=(show a1h P w H h a (.tup (ks.map kV)) from ok a _ e)
 exact ⟨o,its.toArray,n,h1,h2,h3,by simpa using a6q r⟩
theorem a7a {kvs:List (List Key×V)} (ok:HOk P w H h) (e:Rd H a (.dT kvs)):kvs.length≤sizeLine∧(a == sysModules)=false∧
  ∃xs,KT H kvs xs∧h.DictOfH (tupleKind (a0s P w)) a xs:=by
 obtain ⟨z,y,xs,r,o,es,ep,h1,h2,h3,h4,h5⟩:=(show a1h P w H h a (.dT kvs) from b6T ok e)
 refine ⟨z,y,xs,r,o,es,ep,h1,h2,h3,h4,fun x hx=>?_,h5⟩
 have all:∀{l:List (List Key×V)} {m:List (List Key×Addr×Value)},KT H l m→∀x∈m,(tupleKind (a0s P w)).is h x.1 x.2.1:=by
  intro l m q
  induction q with
  | nil=>intro x hx;exact nomatch hx
  | @cons p q ps qs hq t ih=>
   intro x hx
   rcases Qy.mp hx with e | hx
   ·subst e
    exact a4P ok (by rw [←hq.1];exact hq.2.1)
   ·exact ih x hx
 exact all r x hx
theorem c0G {kvs:List (List Key×V)} (ok:HOk P w H h) (e:H a=some (.dT kvs)):kvs.length≤sizeLine∧(a == sysModules)=false∧
  ∃xs,KT H kvs xs∧h.DictOfH (tupleKind (a0s P w)) a xs:=a7a ok (.inl e)
end
def a2n (H:Hp) (a:Addr) (y:V) (r:Option V):Prop:=
 (∃kvs k,Rd H a (.dK kvs)∧y=kV k∧r=a0P kvs k)∨∃kvs k b,Rd H a (.dT kvs)∧y=.ref b∧H b=some (.tup (k.map kV))∧r=a0P kvs k
def a5A (H:Hp) (a:Addr) (y v:V) (H':Hp):Prop:=
 (∃kvs k,H a=some (.dK kvs)∧y=kV k∧kvs.length < sizeLine∧H'=upd H a (.dK (a2u kvs k v)))∨
 ∃kvs k b,H a=some (.dT kvs)∧y=.ref b∧H b=some (.tup (k.map kV))∧kvs.length < sizeLine∧H'=upd H a (.dT (a2u kvs k v))
theorem a2n.k {H:Hp} {a:Addr} {kvs:List (Key×V)} {k:Key} (e:H a=some (.dK kvs)):a2n H a (kV k) (a0P kvs k):=.inl ⟨kvs,k,.inl e,rfl,rfl⟩
theorem a2n.t {H:Hp} {a b:Addr} {kvs:List (List Key×V)} {k:List Key} (e:H a=some (.dT kvs)) (eb:H b=some (.tup (k.map kV))):a2n H a (.ref b) (a0P kvs k):=.inr ⟨kvs,k,b,.inl e,rfl,eb,rfl⟩
theorem a5A.k {H:Hp} {a:Addr} {kvs:List (Key×V)} {k:Key} {v:V} (e:H a=some (.dK kvs)) (hl:kvs.length < sizeLine):a5A H a (kV k) v (upd H a (.dK (a2u kvs k v))):=.inl ⟨kvs,k,e,rfl,hl,rfl⟩
theorem a5A.t {H:Hp} {a b:Addr} {kvs:List (List Key×V)} {k:List Key} {v:V} (e:H a=some (.dT kvs)) (eb:H b=some (.tup (k.map kV))) (hl:kvs.length < sizeLine):
  a5A H a (.ref b) v (upd H a (.dT (a2u kvs k v))):=.inr ⟨kvs,k,b,e,rfl,eb,hl,rfl⟩
section
variable {X:Cx} {pins:List (Addr×Obj)} {σ:St} {H:Hp} {s:Shared} {a:Addr} {y v:V} {u r:Value} {o:Option V} {A:Around} {E:Value→Shared→Prop}
theorem Inv.big (I:Inv X pins σ H s):sysModules < s.heap.objs.size:=by
 have h:mainGlobals < s.heap.objs.size:=(I.mod.glob.keeps I.bk).lt
 exact Nat.lt_trans (by decide) h
theorem b1w {Q:Value→Shared→Prop} (hu:A.units+1 < cLine) (I:Inv X pins σ H s) (g:a2n H a y (some v)) (ry:a0O y u) (h:∀w' s',Inv X pins σ H s'→a0O v w'→Q w' s'):
  wpAny (model X.prog X.w) A (getItem (.ref a) u) Q E s:=by
 rcases g with ⟨kvs,k,e,ey,l⟩ | ⟨kvs,k,b,e,ey,eb,l⟩
 ·subst ey
  obtain ⟨z,hd,vs,rel,dd⟩:=a4l I.hok e
  obtain ⟨w',hw,rw'⟩:=a4k.some_of (v:=v) (o:=valueAt vs k) (by rw [l];exact rel.val k)
  exact wpAny_getItem_of (a5Q ry) dd.mapOf hw (h w' _ (I.tok _) rw')
 ·subst ey
  cases (show u=Value.ref b from ry)
  obtain ⟨z,hd,xs,rel,dd⟩:=a7a I.hok e
  obtain ⟨w',hw,rw'⟩:=a4k.some_of (v:=v) (o:=(atKey xs k).map (·.2)) (by rw [l];exact rel.val k)
  obtain ⟨p,hp,hp2⟩:=Jz.mp hw
  refine wpAny_getItem_heap (tupleKind_room_in1 hu) (a4P I.hok eb) dd hp ?_
  rw [hp2]
  exact h w' _ (I.tok _) rw'
theorem c7w {Q:Value→Shared→Prop} (hu:A.units+1 < cLine) (I:Inv X pins σ H s) (g:a2n H a y o) (ry:a0O y u) (h:∀s',Inv X pins σ H s'→Q (.bool o.isSome) s'):
  wpAny (model X.prog X.w) A (compareOp .In u (.ref a)) Q E s:=by
 rcases g with ⟨kvs,k,e,ey,l⟩ | ⟨kvs,k,b,e,ey,eb,l⟩
 ·subst ey
  obtain ⟨z,hd,vs,rel,dd⟩:=a4l I.hok e
  refine wpAny_in_of (a5Q ry) hd dd.mapOf ?_
  rw [←(rel.val k).isSome_eq,←l]
  exact h _ (I.tok _)
 ·subst ey
  cases (show u=Value.ref b from ry)
  obtain ⟨z,hd,xs,rel,dd⟩:=a7a I.hok e
  refine wpAny_in_heap (tupleKind_room_in1 hu) (a4P I.hok eb) hd dd ?_
  have q:=(rel.val k).isSome_eq
  rw [Ve] at q
  rw [←q,←l]
  exact h _ (I.tok _)
theorem b6j {Q:Value→Shared→Prop} (hu:A.units+1 < cLine) (I:Inv X pins σ H s) (g:a2n H a y o) (ry:a0O y u) (h:∀s',Inv X pins σ H s'→Q (.bool (!o.isSome)) s'):
  wpAny (model X.prog X.w) A (compareOp .NotIn u (.ref a)) Q E s:=by
 rcases g with ⟨kvs,k,e,ey,l⟩ | ⟨kvs,k,b,e,ey,eb,l⟩
 ·subst ey
  obtain ⟨z,hd,vs,rel,dd⟩:=a4l I.hok e
  refine wpAny_notIn_of (a5Q ry) hd dd.mapOf ?_
  rw [←(rel.val k).isSome_eq,←l]
  exact h _ (I.tok _)
 ·subst ey
  cases (show u=Value.ref b from ry)
  obtain ⟨z,hd,xs,rel,dd⟩:=a7a I.hok e
  refine wpAny_notIn_heap (tupleKind_room_in1 hu) (a4P I.hok eb) hd dd ?_
  have q:=(rel.val k).isSome_eq
  rw [Ve] at q
  rw [←q,←l]
  exact h _ (I.tok _)
theorem a4e {h':Heap} {t':Nat} {ob:HO} (I:Inv X pins σ H s) (mu:Mut (H a)) (hs:Vm a s.heap h') (he:∃q,h'.get? a=some q) (new:a1h X.prog X.w (upd H a ob) h' a ob):
  Inv X pins σ (upd H a ob) {s with heap:=h',toks:=t'}:=
 I.write (x:=a) (e:=a) mu (.inl rfl) (fun b q hb z=>(hs.2 b hb).trans z) he new
theorem a7u {P:Program} {w:World} {H':Hp} {h':Heap} {kvs:List (Key×V)} {vs:List (Key×Value)} (z:kvs.length≤sizeLine) (hd:(a == sysModules)=false) (rel:KV kvs vs) (dd:h'.DictOf (a0s P w) a vs):
  a1h P w H' h' a (.dK kvs):=⟨z,hd,vs,rel,dd⟩
theorem a9n {H':Hp} {Q:Unit→Shared→Prop} (hu:A.units+1 < cLine) (I:Inv X pins σ H s) (g:a5A H a y v H') (ry:a0O y u) (rv:a0O v r) (h:∀s',Inv X pins σ H' s'→Q () s'):
  wpAny (model X.prog X.w) A (setItem (.ref a) u r) Q E s:=by
 rcases g with ⟨kvs,k,e,ey,l,eH⟩ | ⟨kvs,k,b,e,ey,eb,l,eH⟩
 ·subst ey eH
  obtain ⟨z,hd,vs,rel,dd⟩:=a6K I.hok e
  have hz:vs.length≤sizeLine:=by rw [←rel.length];exact z
  have hl:(a2u kvs k v).length≤sizeLine:=by have:=a0K kvs k v;omega
  refine wpAny_setItem_pairs (hsz:=hz) (a5Q ry) dd fun h' dd' hs=>h _ ?_
  have he:∃q,h'.get? a=some q:=let ⟨q,_,_,hq,_⟩:=dd';⟨q,hq⟩
  exact a4e I (by rw [e];exact True.intro) hs he (a7u hl hd (rel.put k rv) dd')
 ·subst ey eH
  cases (show u=Value.ref b from ry)
  obtain ⟨z,hd,xs,rel,dd⟩:=c0G I.hok e
  have hz:xs.length≤sizeLine:=by rw [←Paired.length rel];exact z
  have hl:(a2u kvs k v).length≤sizeLine:=by have:=a0K kvs k v;omega
  refine wpAny_setItem_heap (hsz:=hz) (tupleKind_room_in1 hu) (a4P I.hok eb) dd fun h' dd' hs=>h _ ?_
  obtain ⟨q,es,ep,hq,h2,h3,h4,_,h5⟩:=dd'
  refine a4e I (by rw [e];exact True.intro) hs ⟨q,hq⟩ ⟨hl,hd,_,(rel.put k eb rv).keeps fun c ys ec=>?_,q,es,ep,hq,h2,h3,h4,h5⟩
  rw [a0a (a0E ec e (fun z=>nomatch z))]
  exact ec
end
section
variable {X:Cx} {pins:List (Addr×Obj)} {σ:St} {H:Hp} {s:Shared} {a:Addr} {kvs:List (Key×V)} {k:Key} {u:Value} {A:Around} {E:Value→Shared→Prop}
theorem c1d {Q:Value→Shared→Prop} (I:Inv X pins σ H s) (e:Rd H a (.dK kvs)) (h:∀t s',Inv X pins σ H s'→Q (.int kvs.length t) s'):wpAny (model X.prog X.w) A (call (.builtin "len") [.ref a]) Q E s:=by
 obtain ⟨z,hd,vs,rel,dd⟩:=a4l I.hok e
 refine call_len_dict hd dd (by rw [←rel.length];rw [sizeLine_eq] at z;omega) ?_
 rw [←rel.length]
 exact h _ _ (I.tok _)
end
def c4k (i:Expr):Prop:=∀ov iv,subscripted i false ov iv=operate [ov,iv] (getItem ov iv)
theorem b5b {prog:Program} {w:World} {A:Around} {E:Value→Shared→Prop} {s:Shared} {env:Env} {value slice:Expr} {pos:Pos} {T id:String} {Q:Value→Shared→Prop}
  (hl:typeLookup (.type T) "__getitem__"=pure (some (.builtin id))) (hs:c4k slice)
  (h:wpAny (model prog w) A (eval value env) (fun o s₁=>wpAny (model prog w) A (eval slice env) (fun i s₂=>s₂.TypeIs o T∧wpAny (model prog w) A (getItem o i) Q E s₂) E s₁) E s):
  wpAny (model prog w) A (eval (.Subscript value slice pos) env) Q E s:=by
 refine Subscript_ (wpAny_mono h (fun o s₁ h₁=>wpAny_mono h₁ (fun i s₂ h₂=>?_) fun _ _ x=>x) fun _ _ x=>x)
 obtain ⟨hT,h₂⟩:=h₂
 unfold subscriptTail
 refine wpAny_bind ?_
 rw [getitemInPython_of_ne hT.not_modules]
 refine wpAny_bind (wpAny_specialOf hT hl ?_)
 have fin:wpAny (model prog w) A (subscripted slice false o i) (fun r s₃=>wpAny (model prog w) A (letTemporaryGo value o r >>= fun _=>pure r) Q E s₃) E s₂:=by
  rw [hs o i]
  exact wpAny_operating (wpAny_mono h₂ (fun r s₃ h₃=>wpAny_bind (wpAny_letTemporaryGo (wpAny_pure h₃))) fun _ _ x=>x)
 first
  | exact wpAny_pure (wpAny_bind fin)
  | exact wpAny_bind (wpAny_pure (wpAny_bind fin))
  | exact wpAny_bind fin
theorem a6F {X:Cx} {pins:List (Addr×Obj)} {σ:St} {H:Hp} {s:Shared} {a:Addr} {y:V} {o:Option V} (I:Inv X pins σ H s) (g:a2n H a y o):s.TypeIs (.ref a) "dict":=by
 rcases g with ⟨kvs,k,e,_,_⟩ | ⟨kvs,k,b,e,_,_,_⟩
 ·obtain ⟨_,_,vs,_,dd⟩:=a4l I.hok e
  exact dd.typeIs
 ·obtain ⟨_,_,xs,_,dd⟩:=a7a I.hok e
  exact dd.typeIs
def b2H (td ty:TE):TE:=fun σ H Q=>td σ H fun x H1=>ty σ H1 fun y H2=>∃a v,x=.ref a∧a2n H2 a y (some v)∧Q v H2
def b2c (ty td:TE):TE:=fun σ H Q=>ty σ H fun y H1=>td σ H1 fun x H2=>∃a o,x=.ref a∧a2n H2 a y o∧Q (.bl o.isSome) H2
def a2r (ty td:TE):TE:=fun σ H Q=>ty σ H fun y H1=>td σ H1 fun x H2=>∃a o,x=.ref a∧a2n H2 a y o∧Q (.bl (!o.isSome)) H2
def a3u (td ty tv:TE):TS:=fun D σ H=>tv σ H fun v H1=>td σ H1 fun x H2=>ty σ H2 fun y H3=>∃a H4,x=.ref a∧a5A H3 a y v H4∧D.nx σ H4
section
variable {X:Cx} {o i e value:Expr} {pos pos' tpos:Pos} {td ty tv:TE}
theorem b4Z (hu:X.A.units+1 < cLine) (ho:PE X o td) (hi:PE X i ty) (hs:c4k i):PE X (.Subscript o i pos) (b2H td ty):=by
 intro pins s σ H Q I h
 refine b5b PySem.F.slot_dict_getitem.lookup hs (thn (ho pins s σ H _ I h) fun u s1 ⟨x,H1,I1,rx,q1⟩=>thn (hi pins s1 σ H1 _ I1 q1) fun iv s2 ⟨y,H2,I2,ry,a,v,ex,g,q2⟩=>?_)
 subst ex
 obtain rfl:u=Value.ref a:=rx
 exact ⟨a6F I2 g,b1w hu I2 g ry fun w' s3 I3 rw'=>⟨v,H2,I3,rw',q2⟩⟩
theorem a2g (hu:X.A.units+1 < cLine) (hi:PE X i ty) (ho:PE X o td):PC X .In i o (b2c ty td):=by
 intro pins s σ H Q I h
 refine thn (hi pins s σ H _ I h) fun iv s1 ⟨y,H1,I1,ry,q1⟩=>thn (ho pins s1 σ H1 _ I1 q1) fun u s2 ⟨x,H2,I2,rx,a,ov,ex,g,q2⟩=>?_
 subst ex
 obtain rfl:u=Value.ref a:=rx
 exact c7w hu I2 g ry fun s3 I3=>⟨.bl ov.isSome,H2,I3,rfl,q2⟩
theorem b1o (hu:X.A.units+1 < cLine) (hi:PE X i ty) (ho:PE X o td):PC X .NotIn i o (a2r ty td):=by
 intro pins s σ H Q I h
 refine thn (hi pins s σ H _ I h) fun iv s1 ⟨y,H1,I1,ry,q1⟩=>thn (ho pins s1 σ H1 _ I1 q1) fun u s2 ⟨x,H2,I2,rx,a,ov,ex,g,q2⟩=>?_
 subst ex
 obtain rfl:u=Value.ref a:=rx
 exact b6j hu I2 g ry fun s3 I3=>⟨.bl (!ov.isSome),H2,I3,rfl,q2⟩
theorem b6q (hu:X.A.units+1 < cLine) (ho:PE X o td) (hi:PE X i ty) (hv:PE X value tv) (hs:swapsWith value (some (.Subscript o i pos')) pos.line X.env=pure false):
  PS X (.Assign [.Subscript o i pos'] value pos) (a3u td ty tv):=by
 intro pins s σ H D I h
 refine wpAny_Assign_Subscript (thn (hv pins s σ H _ I h) fun r s1 ⟨v,H1,I1,rv,q1⟩=>thn (ho pins s1 σ H1 _ I1 q1) fun u s2 ⟨x,H2,I2,rx,q2⟩=>thn (hi pins s2 σ H2 _ I2 q2) fun iv s3 ⟨y,H3,I3,ry,a,H4,ex,g,q3⟩=>?_) hs
 subst ex
 obtain rfl:u=Value.ref a:=rx
 exact a9n hu I3 g ry rv fun s4 I4=>⟨σ,H4,I4,q3⟩
end
theorem a7L {P:Program} {w:World} {H:Hp} (h:Heap) (hb:sysModules < h.objs.size):a1h P w H (h.push {cls:=.type "dict",data:=.dict #[]}) h.objs.size (.dK []):=
 ⟨Xf _,beq_eq_false_iff_ne.mpr (Ne.symm (Xh hb)),[],.nil,Heap.DictOf.new h⟩
theorem b1W {P:Program} {w:World} {H:Hp} (h:Heap) (hb:sysModules < h.objs.size):a1h P w H (h.push {cls:=.type "dict",data:=.dict #[]}) h.objs.size (.dT []):=
 ⟨Xf _,beq_eq_false_iff_ne.mpr (Ne.symm (Xh hb)),[],.nil,_,#[],0,Xe _ rfl,⟨rfl,rfl,rfl⟩,rfl,rfl,Jb⟩
def a2f:TE:=fun _ H Q=>∀p,H p=none→Q (.ref p) (upd H p (.dK []))
def b6S:TE:=fun _ H Q=>∀p,H p=none→Q (.ref p) (upd H p (.dT []))
section
variable {X:Cx} {pos:Pos}
theorem b3l:PE X (.Dict [] [] pos) a2f:=fun pins s σ H Q I h=>
 wpAny_Dict_empty ⟨.ref s.heap.objs.size,_,I.laid (a:=s.heap.objs.size) (o:=.dK []) (t':=s.toks) (fun _ _ q=>Ql _ q) (Qk _) (a7L s.heap I.big),rfl,h _ (I.hok.fresh (Qk _))⟩
theorem b1U:PE X (.Dict [] [] pos) b6S:=fun pins s σ H Q I h=>
 wpAny_Dict_empty ⟨.ref s.heap.objs.size,_,I.laid (a:=s.heap.objs.size) (o:=.dT []) (t':=s.toks) (fun _ _ q=>Ql _ q) (Qk _) (b1W s.heap I.big),rfl,h _ (I.hok.fresh (Qk _))⟩
end
def a7i:List (TE×TE)→St→Hp→(List (V×V)→Hp→Prop)→Prop
 | [],_,H,Q=>Q [] H
 | (tk,tv)::r,σ,H,Q=>tk σ H fun x H1=>tv σ H1 fun y H2=>a7i r σ H2 fun ps H3=>Q ((x,y)::ps) H3
abbrev VV:List (V×V)→List (Value×Value)→Prop:=Paired fun p q=>a0O p.1 q.1∧a0O p.2 q.2
def PPs (X:Cx) (pos:Pos) (keys:List (Option Expr)) (values:List Expr) (trs:List (TE×TE)):Prop:=
 ∀(pins:List (Addr×Obj)) (s:Shared) (σ:St) (H:Hp) (Q:List (V×V)→Hp→Prop),Inv X pins σ H s→a7i trs σ H Q→
  wpAny (model X.prog X.w) X.A (evalPairs (pairTrees keys values X.env pos)) (fun vs s'=>∃ps H',Inv X pins σ H' s'∧VV ps vs∧Q ps H') X.xe s
theorem b5S {X:Cx} {pos:Pos}:PPs X pos [] [] []:=fun pins s σ H Q I h=>pairTrees_nil_walk ⟨[],H,I,.nil,h⟩
theorem b2a {X:Cx} {pos:Pos} {k v:Expr} {ks:List (Option Expr)} {vs:List Expr} {tk tv:TE} {trs:List (TE×TE)} (hk:PE X k tk) (hv:PE X v tv) (hr:PPs X pos ks vs trs):
  PPs X pos (some k::ks) (v::vs) ((tk,tv)::trs):=fun pins s σ H Q I h=>
 pairTrees_cons_walk (thn (hk pins s σ H _ I h) fun u s1 ⟨x,H1,I1,rx,q1⟩=>thn (hv pins s1 σ H1 _ I1 q1) fun w2 s2 ⟨y,H2,I2,ry,q2⟩=>
  thn (hr pins s2 σ H2 _ I2 q2) fun ws s3 ⟨ps,H3,I3,rel,q3⟩=>⟨(x,y)::ps,H3,I3,.cons ⟨rx,ry⟩ rel,q3⟩)
def a1r (kvs more:List (Key×V)):List (Key×V):=more.foldl (fun acc kv=>a2u acc kv.1 kv.2) kvs
theorem KV.merge:∀{more:List (Key×V)} {rs:List (Key×Value)} {kvs:List (Key×V)} {vs:List (Key×Value)},KV more rs→KV kvs vs→KV (a1r kvs more) (merged vs rs):=by
 intro more rs kvs vs r
 unfold KV at r
 induction r generalizing kvs vs with
 | nil=>intro q;exact q
 | @cons p q ps qs h t ih=>
  intro r0
  have e:KV (a2u kvs p.1 p.2) (stored vs q.1 q.2):=by
   have:=r0.put p.1 h.2
   rw [←h.1];exact this
  exact ih e
theorem a1j:∀(more kvs:List (Key×V)),(a1r kvs more).length≤kvs.length+more.length
 | [],kvs=>by show kvs.length≤kvs.length+0;omega
 | p::r,kvs=>by
  have h1:=a1j r (a2u kvs p.1 p.2)
  have h2:=a0K kvs p.1 p.2
  show (a1r (a2u kvs p.1 p.2) r).length≤_
  rw [Qo];omega
theorem a4q {P:Program} {w:World}:∀{kvs:List (Key×V)} {ws:List (Value×Value)},VV (kvs.map fun kv=>(kV kv.1,kv.2)) ws→∃rs,Carries (a0s P w) ws rs∧KV kvs rs
 | [],_,r=>by rw [Jl] at r;cases r;exact ⟨[],True.intro,.nil⟩
 | p::kvs,_,r=>by
  rw [Xj] at r
  cases r with
  | @cons a b as bs h t=>
   obtain ⟨rs,c,q⟩:=a4q (P:=P) (w:=w) t
   obtain ⟨b1,b2⟩:=b
   exact ⟨(p.1,b2)::rs,⟨a5Q h.1,rfl,c⟩,.cons ⟨rfl,h.2⟩ q⟩
def b9T (trs:List (TE×TE)):TE:=fun σ H Q=>∀p,H p=none→a7i trs σ (upd H p (.dK [])) fun ps H2=>H2 p=some (.dK [])∧∃kvs:List (Key×V),ps=kvs.map (fun kv=>(kV kv.1,kv.2))∧kvs.length≤15∧Q (.ref p) (upd H2 p (.dK (a1r [] kvs)))
theorem b4K {X:Cx} {pos:Pos} {keys:List (Option Expr)} {values:List Expr} {trs:List (TE×TE)} (h:PPs X pos keys values trs) (hall:keys.all (·.isSome)=true) (hl:keys.length=values.length) (h0:keys≠[])
  (h15:keys.length≤15):PE X (.Dict keys values pos) (b9T trs):=by
 intro pins s σ H Q I q
 have hn:=I.hok.fresh (Qk s.heap.objs.size)
 have I1:=I.laid (a:=s.heap.objs.size) (o:=.dK []) (h':=s.heap.push {cls:=.type "dict",data:=.dict #[]}) (t':=s.toks) (fun _ _ q=>Ql _ q) (Qk _) (a7L s.heap I.big)
 refine wpAny_Dict_walk (knd:=a0s X.prog X.w) hall hl h0 h15 (thn (h pins _ σ _ _ I1 (q _ hn)) fun ws s2 ⟨ps,H2,I2,rel,e,kvs,ep,lk,q2⟩=>?_)
 subst ep
 obtain ⟨rs,c,rk⟩:=a4q (P:=X.prog) (w:=X.w) rel
 obtain ⟨z,hd,vs0,r0,dd⟩:=a6K I2.hok e
 cases r0
 refine ⟨rs,c,dd,fun h' dd' hs=>⟨.ref s.heap.objs.size,_,?_,rfl,q2⟩⟩
 have hz:(a1r [] kvs).length≤sizeLine:=by
  have h1:=a1j kvs []
  rw [Qz] at h1
  rw [sizeLine_eq];omega
 have he:∃q,h'.get? s.heap.objs.size=some q:=let ⟨q,_,_,hq,_⟩:=dd';⟨q,hq⟩
 exact a4e I2 (by rw [e];exact True.intro) hs he (a7u hz hd (rk.merge .nil) dd')
structure M2 (X:Cx) (o:Expr) (m:Str) (apos:Pos) (e f:Expr) (cpos:Pos):Prop where
 base:attributeBase o m X.env (eval o X.env)=eval o X.env
 few:((backTo cpos (starEach [e,f] X.env)).all (fun x=>!x.1) && (backToKw cpos (keywordEach [] X.env)).all (fun x=>x.1.isSome)
  && decide (([e,f]:List Expr).length+([]:List Keyword).length+(if ([]:List Keyword).isEmpty then 0 else 1) < 30))=true
 line:(apos.endLine == cpos.line)=true
 trees:backTo cpos (starEach [e,f] X.env)=[(false,eval e X.env),(false,eval f X.env)]
def IsD (H:Hp) (a:Addr):Prop:=(∃kvs,Rd H a (.dK kvs))∨∃kvs,Rd H a (.dT kvs)
theorem b3V {X:Cx} {pins:List (Addr×Obj)} {σ:St} {H:Hp} {s:Shared} {a:Addr} (I:Inv X pins σ H s) (d:IsD H a):
  s.TypeIs (.ref a) "dict"∧(∀b,Value.ref a=.ref b→∃ob,s.heap.get? b=some ob∧ob.dict=none)∧(a == sysModules)=false:=by
 rcases d with ⟨kvs,e⟩ | ⟨kvs,e⟩
 ·obtain ⟨_,hd,vs,_,dd⟩:=a4l I.hok e
  refine ⟨dd.typeIs,fun b q=>?_,hd⟩
  cases q
  obtain ⟨ob,_,_,h1,h2,_⟩:=dd
  exact ⟨ob,h1,h2.2.1⟩
 ·obtain ⟨_,hd,xs,_,dd⟩:=a7a I.hok e
  refine ⟨dd.typeIs,fun b q=>?_,hd⟩
  cases q
  obtain ⟨ob,_,_,h1,h2,_⟩:=dd
  exact ⟨ob,h1,h2.2.1⟩
section
variable {X:Cx} {pins:List (Addr×Obj)} {σ:St} {H:Hp} {s:Shared} {a:Addr} {y d:V} {u r:Value} {o:Option V} {A:Around} {E:Value→Shared→Prop}
theorem b7m {Q:Value→Shared→Prop} (hu:A.units+1 < cLine) (I:Inv X pins σ H s) (g:a2n H a y o) (ry:a0O y u) (rd:a0O d r) (h:∀w' s',Inv X pins σ H s'→a0O (o.getD d) w'→Q w' s'):
  wpAny (model X.prog X.w) A (call (.builtin "dict.get") [.ref a,u,r]) Q E s:=by
 rcases g with ⟨kvs,k,e,ey,l⟩ | ⟨kvs,k,b,e,ey,eb,l⟩
 ·subst ey
  obtain ⟨z,hd,vs,rel,dd⟩:=a4l I.hok e
  refine call_meetsIn Ug dd.typeIs Wh (Vz _ _ _) (meets_dict_get_default (a0s X.prog X.w) a (a5Q ry) hd r) ⟨_,dd.mapOf,h _ _ (I.tok _) ?_⟩
  rw [l]
  exact (rel.val k).getD rd
 ·subst ey
  cases (show u=Value.ref b from ry)
  obtain ⟨z,hd,xs,rel,dd⟩:=a7a I.hok e
  refine call_meetsIn Ug dd.typeIs Wh (Vz _ _ _) (meetsH_dict_get_default (tupleKind (a0s X.prog X.w)) a b hd r) ⟨tupleKind_room_in1 hu,k,xs,a4P I.hok eb,dd,h _ _ (I.tok _) ?_⟩
  rw [l]
  exact (rel.val k).getD rd
end
def a4Q (td ty tx:TE):TE:=fun σ H Q=>td σ H fun x H1=>∃a,x=.ref a∧IsD H1 a∧ty σ H1 fun y H2=>tx σ H2 fun z H3=>∃o,a2n H3 a y o∧Q (o.getD z) H3
section
variable {X:Cx} {o e f:Expr} {apos cpos:Pos} {td ty tx:TE}
theorem b2P (hu:X.A.units+1 < cLine) (ho:PE X o td) (he:PE X e ty) (hf:PE X f tx) (m:M2 X o "get" apos e f cpos):PE X (.Call (.Attribute o "get" apos) [e,f] [] cpos) (a4Q td ty tx):=by
 intro pins s σ H Q I h
 refine wpAny_Call_method m.base m.few m.line Je Ug PySem.F.type_dict_get (thn (ho pins s σ H _ I h) fun u s1 ⟨x,H1,I1,rx,a,ex,d,q1⟩=>?_)
 subst ex
 obtain rfl:u=Value.ref a:=rx
 obtain ⟨t1,t2,_⟩:=b3V I1 d
 refine ⟨t1,t2,?_⟩
 rw [m.trees]
 refine Calls.callWith_builtin rfl (Calls.evalArgs_plain (Calls.spliced_cons (thn (he pins s1 σ H1 _ I1 q1) fun iv s2 ⟨y,H2,I2,ry,q2⟩=>
  Calls.spliced_cons (thn (hf pins s2 σ H2 _ I2 q2) fun fv s3 ⟨z,H3,I3,rz,ov,g,q3⟩=>Calls.spliced_nil ?_))))
 exact b7m hu I3 g ry rz fun w' s4 I4 rw'=>⟨_,H3,I4,rw',q3⟩
end
end L2
namespace Att
open PySem PySem.W PySem.Calls PyProof.Rows
theorem a3P {P:Params} {h:Heap}:∀(ns:List Int) (vs:List Value),WellAll P h vs (ns.map WData.int)→IntsAre vs ns:=by
 intro ns
 induction ns with
 | nil=>
  intro vs w
  rw [Jl] at w
  cases w
  exact .nil
 | cons n ns ih=>
  intro vs w
  rw [Xj] at w
  cases w with
  | cons a b=>
   cases a
   exact .cons _ _ (ih _ b)
theorem b0I {l:OpenLaw} {n:Nat} (hn:l.most=some n) {P:Params} {h:Heap} {args:List WData} {vals:List Value}
  (hpre:l.row.toRowW.claim.pre args=true) (hwl:WellAll P h vals args):
  ∃a vs ns,vals=[Value.ref a]∧args=[WData.list (ns.map WData.int)]∧h.get? a=some {cls:=.type "list",data:=.seq vs.toArray}∧IntsAre vs ns∧ns.length≤n:=by
 have hsh:WShape.hasAll [] args [.list .int]=true:=(pre_splitW hpre).1
 have hc:l.pre.holds [] {args:=args}=true:=(pre_splitW hpre).2
 obtain ⟨d,r,rfl,h1,h2⟩:=hasAllW_cons hsh
 obtain rfl:=hasAllW_nil h2
 obtain ⟨xs,rfl,h3⟩:=hasW_list h1
 obtain ⟨ns,rfl⟩:=items_int h3
 have hlen:ns.length≤n:=by
  unfold OpenLaw.pre at hc
  have h4:(WTm.not (.lt (.lit (.int (n:Int))) (.len (.arg 0)))).holds [] {args:=[.list (ns.map .int)]}=true:=by
   have h4:=(holds_andW hc).1
   rw [hn] at h4
   exact h4
  have h5:=condW_of h4 (w_not (w_lt w_lit (w_len_list (w_arg rfl))))
  rw [Qe] at h5
  refine Nat.le_of_not_lt fun q=>?_
  have q':(n:Int) < ((ns.length:Nat):Int):=by omega
  first
   | (rw [decide_eq_true q'] at h5;exact absurd h5 (by decide))
   | (simp at h5;omega)
 cases hwl with
 | cons w1 w2=>
  cases w2
  cases w1 with
  | list ho hall=>exact ⟨_,_,ns,rfl,rfl,ho,a3P ns _ hall,hlen⟩
theorem a9C (l:OpenLaw) (args:List WData):l.row.toRowW.claim.post args (.bool true) args=true:=
 postW_of (r:=l.row.toRowW) (X:=(true == true))
  (show WShape.has [] (.bool true) .bool=true by first | rfl | decide | simp [WShape.has,WShape.arms,WShape.armsAll])
  (show (WTm.eq .res (.lit (.bool true))).value [] {args:=args,res:=some (.bool true),after:=args}=some (.bool (true == true)) from w_eq_bool (w_res rfl) w_lit) rfl
theorem attach_call {l:OpenLaw} {n:Nat} {q:Program} {loose:List Str} {XP:(Str→Option Value)→Heap→Prop} {YP:World→Heap→Prop} {d:DefRec}
  (hn:l.most=some n) (hdf:d.params.defaults=[])
  (call:∀(w:World) (s₀ s₁:Shared) (mg mb:Str→Option Value) (fa:Addr) (o:Obj) (pm cd doc:Value) (a:Addr) (vs:List Value) (ns:List Int),
   Ground q loose [] XP w s₀ mg mb s₁.heap→YP w s₁.heap→
   s₁.heap.get? fa=some o→o.data=.func (docDef d.name d.params d.body d.scope pm cd doc)→s₁.heap.CodeRec cd d.name→mg d.name=some (.ref fa)→
   s₁.heap.get? a=some {cls:=.type "list",data:=.seq vs.toArray}→IntsAre vs ns→ns.length≤n→s₁.gens=#[]→
   codeAny (model l.prog w) callerA (.call (.ref fa) ⟨[.ref a],[]⟩) (fun r s'=>r=.ok (.ret (.bool true))∧OldK s₁.heap s'.heap∧s'.os=s₁.os∧AllBare s'.gens) s₁):
  WalkO q loose XP YP l.row.toRowW d [] (fun f vs=>PySem.call f vs):=by
 intro w s₀ s₁ mg mb G Y fa o pm cd doc dV kV ho hd hcd hD hmg hg args vals as hpre hlay hrd hwl hlo
 obtain rfl:dV=.none:=Dflts.none hD hdf
 obtain rfl:kV=.none:=Dflts.noKw hD
 obtain ⟨a,vs,ns,rfl,rfl,hobj,hints,hlen⟩:=b0I hn hpre hwl
 refine enter_call (codeAny_mono (call w s₀ s₁ mg mb fa o pm cd doc a vs ns G Y ho (fd_plain hd) hcd hmg hobj hints hlen hg) fun r s' hq=>?_)
 obtain ⟨rfl,h2,h3,h4⟩:=hq
 exact ⟨.inl ⟨.bool true,.bool true,[],rfl,fun _=>rfl,.bool true,a9C l _,fun _=>⟨Ws.nil,fun _ hm=>(nomatch hm)⟩⟩,h2,h3,h4⟩
end Att
namespace L2
open PySem PySem.Spec PyProof.Rows
theorem a6k:∀{vs:List Value} {ns:List Int},IntsAre vs ns→a0N (ns.map V.int) vs
 | _,_,.nil=>.nil
 | _,_,.cons n t h=>.cons ⟨t,rfl⟩ (a6k h)
end L2
namespace L2
open PySem PySem.Spec PyProof.Rows
abbrev KOf {K:Qd} {h:Heap} (_:K.In h):Qd:=K
end L2
namespace L2
open PySem PySem.Spec PyProof.Rows
def a0h (s:Stmt) (j:Nat):Stmt:=match s with
 | .ClassDef _ _ _ body _ _ _ _ _ _ _=>body.getD j (.Pass ⟨0,0,0,0⟩)
 | _=>.Pass ⟨0,0,0,0⟩
def a1N (s:Stmt):Arguments:=match s with
 | .FunctionDef _ a _ _ _ _ _ _ _ _=>a
 | _=>{posonlyargs:=[],args:=[],vararg:=none,kwonlyargs:=[],kw_defaults:=[],kwarg:=none,defaults:=[]}
def a1g (s:Stmt):List Stmt:=match s with
 | .FunctionDef _ _ b _ _ _ _ _ _ _=>b
 | _=>[]
def a0b (s:Stmt):Scope:=match s with
 | .FunctionDef _ _ _ _ _ _ sc _ _ _=>sc
 | _=>{kind:=.function,names:=[],isGenerator:=false,isCoroutine:=false}
abbrev CX0:CXT:=fun _ _ _ _ _ _=>False
abbrev E0:XK:=fun _ _ _=>False
theorem b1p {X:Cx}:a3r CX0 X E0:=fun _ _ _ _ _ _ _ h=>h.elim
structure Fun (K:Qd) (x qual:Str) (st:Stmt) (f:Addr) (fd:FuncData):Prop where
 ex:∃(oc:Value) (od:Option Addr) (kV doc pm:Value) (an:Option Addr) (cdv ct:Value) (osl:Array (Option Value)),
  fd=Yu x qual (a1N st) (a1g st) (a0b st) .none kV doc pm an cdv ct∧K.lookup f=some ⟨oc,od,.func fd,osl⟩∧Jk K cdv qual=true
 kp:Ze K (.ref f)=true
section
variable {P:Program} {w:World} {K:Qd} {mg:Str→Option Value} {base:Heap}
theorem Fun.ok {x qual:Str} {st:Stmt} {f:Addr} {fd:FuncData} {N ps:List Str} {k:Nat} {sp:Sp} (F:Fun K x qual st f fd) (S:a0g N ps (a0b st)) (len:∀vs H Q E,sp vs H Q E→vs.length=ps.length)
  (hbody:∀(cdv:Value) (A:Around) (outer:List Env) (s:Shared) (H:Hp) (vs:List V) (Q:VK) (E:XK),a2h k (A.deeper (envOfC qual (a0b st) s.heap.objs.size f cdv))→sp vs H Q E→
   ∃t,PSs (b3D CX0 P w K mg base N qual (a0b st) f cdv A outer s H E).nox (a1g st) t∧t {nx:=fun _ H'=>Q .non H',rt:=Q} (start N vs) H):a0S P w K mg base CX0 (k+1) f fd ps sp:=by
 obtain ⟨oc,od,kV,doc,pm,an,cdv,ct,osl,rfl,lk,hcd⟩:=F.ex
 refine b4s lk hcd S len fun A outer s H vs Q E hr hsp=>?_
 obtain ⟨t,h,q⟩:=hbody cdv A outer s H vs Q E hr hsp
 exact ⟨t,h.nox,q⟩
theorem b8j {x qual:Str} {st:Stmt} {f:Addr} {oc:Value} {od an:Option Addr} {osl:Array (Option Value)} {kV doc pm cdv ct:Value} (l:K.lookup f=some ⟨oc,od,.func (Yu x qual (a1N st) (a1g st) (a0b st) .none kV doc pm an cdv ct),osl⟩)
  (c:Jk K cdv qual=true) (k:Ze K (.ref f)=true):Fun K x qual st f (Yu x qual (a1N st) (a1g st) (a0b st) .none kV doc pm an cdv ct):=⟨⟨oc,od,kV,doc,pm,an,cdv,ct,osl,rfl,l,c⟩,k⟩
end
theorem a2C {A:Around} {k:Nat} (hr:a2h k A):A.units+1 < cLine:=Xm (Nat.add_le_add_left (by decide:1≤64) _) hr.units
section
variable {X:Cx}
theorem pv (i:Nat) {x:Str} {pos:Pos} (hN:X.N[i]?=some x:=by rfl) (hv:Vis X.env.scope x:=by first | exact Or.inl rfl | exact Or.inr (Or.inl rfl) | exact Or.inr (Or.inr rfl)) (hd:(x == ("__debug__":Str))=false:=by decide)
  (hcd:(x == ("__classdict__":Str))=false:=by decide):PE X (.Name x pos) (a0k i):=b7y hN hv hd hcd
end
theorem a2c {c A B:Prop} [Decidable c] (h1:c→A) (h2:¬c→B):if c then A else B:=by
 by_cases h:c
 ·rw [if_pos h]
  exact h1 h
 ·rw [if_neg h]
  exact h2 h
def a0i (H H':Hp):Prop:=∀b o,H b=some o→H' b=some o
theorem a0i.refl (H:Hp):a0i H H:=fun _ _ h=>h
theorem a0i.trans {H H1 H2:Hp} (a:a0i H H1) (b:a0i H1 H2):a0i H H2:=fun c o h=>b c o (a c o h)
theorem a0i.free {H H':Hp} (e:a0i H H') {l:Addr} (h:H' l=Option.none):H l=Option.none:=by
 cases q:H l with
 | none=>rfl
 | some o=>
  rw [e l o q] at h
  cases h
theorem a0i.seq {K:Qd} {H H':Hp} {a:Addr} {xs:List V} (e:a0i H H') (h:SqL K H a xs):SqL K H' a xs:=by
 rcases h with (h | ⟨o,h⟩) | h
 ·exact .inl (.inl (e _ _ h))
 ·exact .inl (.inr ⟨o,e _ _ h⟩)
 ·exact .inr h
section
variable {X:Cx}
theorem b1g:a1U X (.builtin "len") (fun xs H Q=>∃a kvs,xs=[V.ref a]∧H a=some (.dK kvs)∧Q (.int kvs.length) H):=by
 intro pins s σ H xs us Q I r h
 obtain ⟨a,kvs,rfl,ha,q⟩:=h
 obtain ⟨u,rfl,ru⟩:=a3y r
 cases ru
 exact c1d I (.inl ha) fun t s' I'=>⟨.int kvs.length,H,I',⟨t,rfl⟩,q⟩
end
end L2
namespace Tx
open PySem PySem.Builtin PySem.Builtin.Str PySem.StrLaws PyProof.Rows
abbrev mk (l:List Nat):Str:=⟨l.toArray⟩
theorem c0a (x:Str):mk x.cps.toList=x:=by obtain ⟨⟨l⟩⟩:=x;rfl
theorem a0y (l:List Nat):(mk l).length=l.length:=by show l.toArray.size=_;simp
theorem a2v (a b:List Nat):mk a++mk b=mk (a++b):=by
 show (⟨a.toArray++b.toArray⟩:Str)=_
 simp
theorem a5U {a b:List Nat} (h:mk a=mk b):a=b:=by simpa [mk] using h
theorem b0W (l:List Nat) (c i:Nat):subAt (mk l) (mk [c]) i=decide (l[i]?=some c):=by
 rw [subAt_eq]
 show ((l.drop i).take 1 == [c])=_
 cases e:l[i]? with
 | none=>
  have:l.drop i=[]:=List.drop_eq_nil_of_le (by simpa using e)
  rw [this];simp
 | some d=>
  have hi:=(Qp.mp e)
  obtain ⟨h1,h2⟩:=hi
  rw [List.drop_eq_getElem_cons h1,h2]
  show (d == c && true)=decide (some d=some c)
  by_cases z:d=c
  ·subst z;simp
  ·simp [z]
theorem b7W (l:List Nat) (i j:Nat):strSub (mk l) i j=mk ((l.drop i).take (j - i)):=by
 rw [←c0a (strSub (mk l) i j),strSub_toList]
theorem a8D (c:Nat) (l:List Nat):Jm (mk l) (mk [c])=decide (l[0]?=some c):=by
 unfold Jm
 rw [b0W,a0y,a0y]
 cases l with
 | nil=>rfl
 | cons d r=>simp
theorem a8o (l:List Nat) {i:Int} (h0:0≤i) (h1:i≤l.length):Uw (mk l) (some i) none=mk (l.drop i.toNat):=by
 have:=slice_closes_fromL (x:=mk l) (b:=l.length) h0 (by rw [a0y];exact h1) (by rw [a0y])
 have e:=eq_of_beq this
 rw [e]
 simp
 rw [List.take_of_length_le]
 rw [Jo];omega
end Tx
namespace L2
open PySem PySem.Spec PyProof.Rows
abbrev NoE:Value→Shared→Prop:=fun _ _=>False
section
variable {prog:Program} {w:World} {A:Around} {R:Result→Shared→Prop} {s:Shared}
theorem a6l {elt target iter:Expr} {ifs:List Expr} {scope:Scope} {pos:Pos} {it acc:Value} {env:Env} (I:Nat→Shared→Prop)
  (turn:∀n s,I n s→wpAny (model prog w) A (pyNext it) (fun r s₁=>match r with
   | none=>R (.ok .next) s₁
   | some v=>wpAny (model prog w) A (letOwnedTupleGo target it v) (fun _ s₂=>wpAny (model prog w) A (assign target env v) (fun _ s₃=>
     wpAny (model prog w) A (forIn ifs true fun c r=>if r=true then do let ok ←isTrue c env (eval c env);pure (ForInStep.yield ok) else pure (ForInStep.yield r)) (fun ok s₄=>
      if ok=true then wpAny (model prog w) A (eval elt env) (fun x s₅=>wpAny (model prog w) A (call (.builtin "list.append") [acc,x]) (fun _ s₆=>∃m,m < n∧I m s₆) NoE s₅) NoE s₄
      else ∃m,m < n∧I m s₄) NoE s₃) NoE s₂) NoE s₁) NoE s)
  (n:Nat) (h:I n s):codeAny (model prog w) A (.compLoop (.ListComp elt [⟨target,iter,ifs,0⟩] scope pos) 0 it acc env) R s:=by
 refine codeAny_loop rfl I (fun n s hI=>?_) n h
 show wpAny _ A ((compTurn (.ListComp elt [⟨target,iter,ifs,0⟩] scope pos) 0 it acc env).onRaise (fun x=>do noteFrame x env;theTreesLotGoes x)) _ _ s
 refine wpAny_noted ?_
 rw [compTurn_list]
 refine wpAny_noRaise ?_
 refine wpAny_bind (wpAny_standAt (wpAny_bind (wpAny_mono (turn n s hI) (fun r s₁ h₁=>?_) fun _ _ h'=>h')))
 cases r with
 | none=>exact wpAny_pure h₁
 | some v=>
  refine wpAny_bind (wpAny_mono h₁ (fun _ s₂ h₂=>wpAny_bind (wpAny_mono h₂ (fun _ s₃ h₃=>wpAny_bind (wpAny_mono h₃ (fun ok s₄ h₄=>?_) fun _ _ h'=>h')) fun _ _ h'=>h')) fun _ _ h'=>h')
  cases ok with
  | false=>exact wpAny_pure ⟨rfl,h₄⟩
  | true=>exact wpAny_bind (wpAny_bind (wpAny_mono h₄ (fun x s₅ h₅=>wpAny_bind (wpAny_mono h₅ (fun _ s₆ h₆=>wpAny_pure (wpAny_pure ⟨rfl,h₆⟩)) fun _ _ h'=>h')) fun _ _ h'=>h'))
end
def a2e (env:Env):List (Str×NameKind)→List (Str×Addr)→List (Str×Addr)
 | [],cs=>cs
 | (n,k)::r,cs=>a2e env r (if (k == NameKind.free)=true then (n,(env.cells.lookup n).getD 0)::cs else cs)
theorem a1I {scope:Scope} {env:Env} (h:∀y∈scope.names,y.2=NameKind.free→∃c,env.cells.lookup y.1=some c):closureFor scope env=pure (a2e env scope.names []):=by
 have all:∀(l:List (Str×NameKind)) (cs:List (Str×Addr)),(∀y∈l,y.2=NameKind.free→∃c,env.cells.lookup y.1=some c)→
   (forIn l cs fun (x:Str×NameKind) (cs:List (Str×Addr))=>(if (x.2 == NameKind.free)=true then do let a ←cellOf env x.1;pure (ForInStep.yield ((x.1,a)::cs)) else pure (ForInStep.yield cs):Sem (ForInStep (List (Str×Addr)))))=pure (a2e env l cs):=by
  intro l
  induction l with
  | nil=>intro cs _;rfl
  | cons y l ih=>
   intro cs hy
   obtain ⟨n,k⟩:=y
   rw [List.forIn_cons]
   by_cases hk:(k == NameKind.free)=true
   ·obtain ⟨c,hc⟩:=hy (n,k) Qs (by simpa using hk)
    have e1:cellOf env n=pure c:=by unfold cellOf;rw [hc]
    have e2:a2e env ((n,k)::l) cs=a2e env l ((n,c)::cs):=by
     show a2e env l (if (k == NameKind.free)=true then (n,(env.cells.lookup n).getD 0)::cs else cs)=_
     rw [if_pos hk,hc];rfl
    rw [e2,←ih ((n,c)::cs) fun z hz=>hy z (Qr _ hz)]
    simp only [hk,if_true,e1,pure_bind]
   ·have e2:a2e env ((n,k)::l) cs=a2e env l cs:=by
     show a2e env l (if (k == NameKind.free)=true then (n,(env.cells.lookup n).getD 0)::cs else cs)=_
     rw [if_neg hk]
    rw [e2,←ih cs fun z hz=>hy z (Qr _ hz)]
    have hk':(k == NameKind.free)=false:=by simpa using hk
    simp only [hk',Zf,if_false,pure_bind]
 have e:=all scope.names [] h
 unfold closureFor
 first
  | (rw [show (pure (a2e env scope.names []):Sem (List (Str×Addr)))=(pure (a2e env scope.names []) >>= fun cs=>pure cs) from rfl,←e];rfl)
  | (simp only [bind_pure];exact e)
  | (simpa using e)
theorem a4h {env:Env} {x:Str} {c:Addr}:∀{l:List (Str×NameKind)} {cs:List (Str×Addr)},(∀y∈l,y.2=NameKind.free→∃c,env.cells.lookup y.1=some c)→
  (∀y d,cs.lookup y=some d→env.cells.lookup y=some d)→(a2e env l cs).lookup x=some c→env.cells.lookup x=some c
 | [],_,_,hc,h=>hc x c h
 | (n,k)::r,cs,hy,hc,h=>by
  refine a4h (l:=r) (cs:=if (k == NameKind.free)=true then (n,(env.cells.lookup n).getD 0)::cs else cs) (fun z hz=>hy z (Qr _ hz)) (fun y d q=>?_) h
  by_cases hk:(k == NameKind.free)=true
  ·rw [if_pos hk] at q
   obtain ⟨c',hc'⟩:=hy (n,k) Qs (by simpa using hk)
   rw [hc',Yg] at q
   by_cases e:(y == n)=true
   ·rw [e] at q
    have e':y=n:=by simpa using e
    rw [e',hc'];exact q
   ·have e':(y == n)=false:=by simpa using e
    rw [e'] at q
    exact hc y d q
  ·rw [if_neg hk] at q
   exact hc y d q
theorem a2O {env:Env} {x:Str}:∀{l:List (Str×NameKind)} {cs:List (Str×Addr)},((x,NameKind.free)∈l∨∃c,cs.lookup x=some c)→∃c,(a2e env l cs).lookup x=some c
 | [],_,h=>by
  rcases h with h | h
  ·cases h
  ·exact h
 | (n,k)::r,cs,h=>by
  refine a2O (l:=r) (cs:=if (k == NameKind.free)=true then (n,(env.cells.lookup n).getD 0)::cs else cs) ?_
  rcases h with h | ⟨c,h⟩
  ·rcases Qy.mp h with e | e
   ·cases e
    refine .inr ?_
    rw [if_pos (by rfl),Yg,beq_self_eq_true]
    exact ⟨_,rfl⟩
   ·exact .inl e
  ·refine .inr ?_
   by_cases hk:(k == NameKind.free)=true
   ·rw [if_pos hk,Yg]
    by_cases e:(x == n)=true
    ·rw [e];exact ⟨_,rfl⟩
    ·have e':(x == n)=false:=by simpa using e
     rw [e'];exact ⟨c,h⟩
   ·rw [if_neg hk];exact ⟨c,h⟩
theorem a1M {env:Env}:∀{names:List (Str×NameKind)} {x:Str},names.lookup x=some .free→
  (names.map fun (n,k)=>if (k == NameKind.free && env.scope.kind == .function && env.kindOf n == some .cell) then (n,NameKind.cell) else (n,k)).lookup x=some .cell∨
  (names.map fun (n,k)=>if (k == NameKind.free && env.scope.kind == .function && env.kindOf n == some .cell) then (n,NameKind.cell) else (n,k)).lookup x=some .free
 | [],_,h=>by simp at h
 | (n,k)::r,x,h=>by
  have ih:=@a1M env r x
  rw [Xj]
  show Zq x ((if (k == NameKind.free && env.scope.kind == .function && env.kindOf n == some .cell)=true then (n,NameKind.cell) else (n,k))::_)=_∨Zq x ((if (k == NameKind.free && env.scope.kind == .function && env.kindOf n == some .cell)=true then (n,NameKind.cell) else (n,k))::_)=_
  cases hx:x == n with
  | true=>
   simp only [Yg,hx] at h
   cases h
   by_cases hc:(NameKind.free == NameKind.free && env.scope.kind == .function && env.kindOf n == some .cell)=true
   ·rw [if_pos hc];exact .inl (by simp only [Yg,hx])
   ·rw [if_neg hc];exact .inr (by simp only [Yg,hx])
  | false=>
   simp only [Yg,hx] at h
   by_cases hc:(k == NameKind.free && env.scope.kind == .function && env.kindOf n == some .cell)=true
   ·rw [if_pos hc];simp only [Yg,hx];exact ih h
   ·rw [if_neg hc];simp only [Yg,hx];exact ih h
theorem a4L {env:Env}:∀{names:List (Str×NameKind)} {x:Str},(∀y∈names,y.2≠NameKind.cell)→
  ((names.map fun (n,k)=>if (k == NameKind.free && env.scope.kind == .function && env.kindOf n == some .cell) then (n,NameKind.cell) else (n,k)).lookup x=some .cell∨
  (names.map fun (n,k)=>if (k == NameKind.free && env.scope.kind == .function && env.kindOf n == some .cell) then (n,NameKind.cell) else (n,k)).lookup x=some .free)→(x,NameKind.free)∈names
 | [],_,_,h=>by rcases h with h | h<;>simp at h
 | (n,k)::r,x,hn,h=>by
  have ih:=@a4L env r x fun y hy=>hn y (Qr _ hy)
  have hk:=hn (n,k) Qs
  rw [Xj] at h
  by_cases hc:(k == NameKind.free && env.scope.kind == .function && env.kindOf n == some .cell)=true
  ·have hk1:k=NameKind.free:=by
    rw [Xc,Xc] at hc
    simpa using hc.1.1
   simp only [hc,if_true,Yg] at h
   cases hx:x == n with
   | true=>have e:x=n:=(by simpa using hx);rw [e,hk1];exact Qs
   | false=>rw [hx] at h;exact Qr _ (ih h)
  ·have hc':(k == NameKind.free && env.scope.kind == .function && env.kindOf n == some .cell)=false:=by simpa using hc
   simp only [hc',Zf,if_false,Yg] at h
   cases hx:x == n with
   | true=>
    rw [hx] at h
    have e:x=n:=by simpa using hx
    rcases h with h | h
    ·exact absurd (Option.some.inj h) hk
    ·rw [e,Option.some.inj h];exact Qs
   | false=>rw [hx] at h;exact Qr _ (ih h)
def a1s (X:Cx) (Nc:List Str) (scope:Scope) (cl:List (Str×Addr)) (C:Addr) (s:Shared) (H:Hp) (ex:List Addr):Cx where
 prog:=X.prog
 w:=X.w
 K:=X.K
 mg:=X.mg
 base:=X.base
 A:=X.A
 N:=Nc
 s₀:=s
 H₀:=H
 env:=compEnvC scope cl C X.env
 outer:=X.stack
 stack:=X.stack
 ex:=ex
 fn:=fun _=>false
 calm:=X.calm
 pn:=[]
 xe:=NoE
def a1G (js:List (Option Nat)) (σ:St):St:=js.map fun o=>match o with
 | none=>none
 | some j=>(σ[j]?).getD none
structure a3q (X:Cx) (Nc:List Str) (js:List (Option Nat)) (scope:Scope):Prop where
 kind:scope.kind=.function
 nocell:∀y∈scope.names,y.2≠NameKind.cell
 names:∀y∈scope.names,y.2=NameKind.local→scope.names.lookup y.1=some NameKind.local
 free:∀y∈scope.names,y.2=NameKind.free→X.env.kindOf y.1=some NameKind.cell∨X.env.kindOf y.1=some NameKind.free
 len:js.length=Nc.length
 map:∀(i:Nat) (y:Str) (j:Nat),Nc[i]?=some y→js[i]?=some (some j)→X.N[j]?=some y∧scope.names.lookup y=some NameKind.free
def b8W (sc:Scope) (N Nc:List Str) (js:List (Option Nat)) (scope:Scope):Bool:=
 scope.kind == .function && scope.names.all (fun y=>y.2 != NameKind.cell) && scope.names.all (fun y=>y.2 != NameKind.local || scope.names.lookup y.1 == some NameKind.local) &&
 scope.names.all (fun y=>y.2 != NameKind.free || sc.names.lookup y.1 == some NameKind.cell || sc.names.lookup y.1 == some NameKind.free) && js.length == Nc.length &&
 (Nc.zip js).all (fun p=>match p.2 with | none=>true | some j=>N[j]? == some p.1 && scope.names.lookup p.1 == some NameKind.free)
theorem b0x {X:Cx} {sc:Scope} {N Nc:List Str} {js:List (Option Nat)} {scope:Scope} (hsc:X.env.scope=sc) (hN:X.N=N) (h:b8W sc N Nc js scope=true):a3q X Nc js scope:=by
 unfold b8W at h
 rw [Xc,Xc,Xc,Xc,Xc] at h
 obtain ⟨⟨⟨⟨⟨h1,h2⟩,h3⟩,h4⟩,h5⟩,h6⟩:=h
 rw [Zc] at h2 h3 h4 h6
 have h5':js.length=Nc.length:=by simpa using h5
 refine ⟨by simpa using h1,fun y hy=>by simpa using h2 y hy,fun y hy e=>?_,fun y hy e=>?_,h5',fun i y j e1 e2=>?_⟩
 ·have q:=h3 y hy
  rw [e] at q
  simpa using q
 ·have q:=h4 y hy
  rw [e] at q
  show X.env.scope.names.lookup y.1=_∨X.env.scope.names.lookup y.1=_
  rw [hsc]
  simpa using q
 ·have hm:(y,some j)∈Nc.zip js:=by
   refine Ui (i:=i) ?_
   rw [List.getElem?_zip_eq_some]
   exact ⟨e1,e2⟩
  have q:=h6 _ hm
  simp only [Xc,beq_iff_eq] at q
  rw [hN]
  exact q
def PTs (X:Cx) (ifs:List Expr) (t:TT):Prop:=
 ∀(pins:List (Addr×Obj)) (s:Shared) (σ:St) (H:Hp) (Q:Bool→Hp→Prop),Inv X pins σ H s→t σ H Q→
  wpAny (model X.prog X.w) X.A (forIn ifs true fun c r=>if r=true then do let ok ←isTrue c X.env (eval c X.env);pure (ForInStep.yield ok) else pure (ForInStep.yield r)) (TP X pins σ Q) X.xe s
def b9U:TT:=fun _ H Q=>Q true H
theorem b5d {X:Cx}:PTs X [] b9U:=fun pins s σ H Q I h=>wpAny_tests_nil ⟨H,I,h⟩
theorem b5w {X:Cx} {c:Expr} {t:TT} (hc:PT X c t):PTs X [c] t:=fun pins s σ H Q I h=>wpAny_tests_one (hc pins s σ H Q I h)
def b2N (js:List (Option Nat)) (wi:TI) (g:TG) (tt:TT) (te:TE):TE:=fun σ H Q=>wi σ H fun J H1=>∀D,H1 D=none→∃W:Nat→Nat→St→Hp→List V→Prop,(∃m,W 0 m (a1G js σ) (upd H1 D (.lst [])) [])∧
 ∀i m σ' H' ys,W i m σ' H' ys→H' D=some (.lst ys)∧((J.stop i H'∧Q (.ref D) H')∨(J.go i H'∧ys.length < sizeLine∧∀x H2,J.yld i H' x H2→g x σ' H2 fun σ2 H3=>tt σ2 H3 fun b H4=>
  if b=true then te σ2 H4 fun v H5=>H5 D=some (.lst ys)∧∃m',m' < m∧W (i+1) m' σ2 (upd H5 D (.lst (ys++[v]))) (ys++[v]) else ∃m',m' < m∧W (i+1) m' σ2 H4 ys))
section
variable {X:Cx} {elt target iter:Expr} {ifs:List Expr} {scope:Scope} {pos:Pos} {Nc:List Str} {js:List (Option Nat)} {wi:TI} {g:TG} {tt:TT} {te:TE}
theorem a4N {pins:List (Addr×Obj)} {σ:St} {H2:Hp} {s₂:Shared} {E:Value→Shared→Prop} {it:Addr} {fp:List Addr} {tn:Nat→Heap→Prop} {J:It} {Q:VK} {RR:Value→Addr→Result→Shared→Prop} (ok:a3q X Nc js scope) (hc:X.calm=true)
  (hg:∀C cl s H ex,PG (a1s X Nc scope cl C s H ex) target g) (ht:∀C cl s H ex,PTs (a1s X Nc scope cl C s H ex) ifs tt) (he:∀C cl s H ex,PE (a1s X Nc scope cl C s H ex) elt te)
  (I2:Inv X pins σ H2 s₂) (T:b5z X.prog X.w X.K target J fp it tn) (st2:tn 0 s₂.heap) (f2:∀b∈fp,a8A X pins H2 b)
  (h:∀D,H2 D=none→∃W:Nat→Nat→St→Hp→List V→Prop,(∃m,W 0 m (a1G js σ) (upd H2 D (.lst [])) [])∧
   ∀i m σ' H' ys,W i m σ' H' ys→H' D=some (.lst ys)∧((J.stop i H'∧Q (.ref D) H')∨(J.go i H'∧ys.length < sizeLine∧∀x H2,J.yld i H' x H2→g x σ' H2 fun σ2 H3=>tt σ2 H3 fun b H4=>
    if b=true then te σ2 H4 fun v H5=>H5 D=some (.lst ys)∧∃m',m' < m∧W (i+1) m' σ2 (upd H5 D (.lst (ys++[v]))) (ys++[v]) else ∃m',m' < m∧W (i+1) m' σ2 H4 ys)))
  (hRR:∀(D C:Addr) (s':Shared) (H':Hp) (m:Str→Option Value),Inv X pins σ H' s'→s'.heap.Ns C m→a8A X pins H' C→Q (.ref D) H'→RR (.ref D) C (.ok .next) s'):
  wpAny (model X.prog X.w) X.A (newList []) (fun acc s₃=>wpAny (model X.prog X.w) X.A (newFunctionEnv scope X.env.globals (a2e X.env scope.names []) [] X.env.qual none .none (some X.env)) (fun cenv s₄=>
   codeAny (model X.prog X.w) X.A (.compStart (.ListComp elt [⟨target,iter,ifs,0⟩] scope pos) 0 (.ref it) acc {cenv with scope:=relabel scope X.env}) (RR acc cenv.locals) s₄) E s₃) E s₂:=by
 have hfr:∀y∈scope.names,y.2=NameKind.free→∃c,X.env.cells.lookup y.1=some c:=fun y hy e=>I2.ok.has y.1 (ok.free y hy e)
 refine wpAny_newObj_type (wpAny_newFunctionEnv ok.nocell (by intro y hy;simp at hy) (fun h₁ hns₁ hsb₁=>?_) ok.kind)
 dsimp only at hns₁ hsb₁ ⊢
 generalize hHL:s₂.heap.push {cls:=.type "list",dict:=none,data:=.seq ([]:List Value).toArray}=HL at hns₁ hsb₁ ⊢
 have hC:HL.objs.size=s₂.heap.objs.size+1:=by rw [←hHL,Wl]
 have hCle:s₂.heap.objs.size≤HL.objs.size:=by rw [hC];exact Ji _
 have hDC:s₂.heap.objs.size≠HL.objs.size:=by rw [hC];exact Xh (Vo _)
 have old:∀b o,s₂.heap.get? b=some o→h₁.get? b=some o:=fun b o e=>hsb₁.extBut b o (Xh (Xb (Qw e) hCle)) (Ql _ (hHL ▸ Ql _ e))
 have hacc:h₁.get? s₂.heap.objs.size=some {cls:=.type "list",dict:=none,data:=.seq ([]:List Value).toArray}:=hsb₁.extBut _ _ hDC (Ql _ (hHL ▸ Xe _ rfl))
 have hD0:H2 s₂.heap.objs.size=none:=I2.hok.fresh (Qk _)
 have hC0:H2 HL.objs.size=none:=I2.hok.fresh hCle
 obtain ⟨W,⟨m0,w0⟩,turn⟩:=h _ hD0
 have hlook:∀x c,(a2e X.env scope.names []).lookup x=some c→X.env.cells.lookup x=some c:=fun x c e=>a4h hfr (fun y d q=>by simp at q) e
 have hlt:∀b∈fp,b < s₂.heap.objs.size:=fun b hb=>let ⟨o,e,_⟩:=T.obj 0 _ st2 b hb;Qw e
 have okc:(a1s X Nc scope (a2e X.env scope.names []) HL.objs.size s₂ H2 fp).Ok:=by
  refine ⟨I2.ok.mod,by show scope.kind=_;exact ok.kind,I2.ok.glob,I2.ok.blt,hCle,fun x y c e1 e2=>I2.ok.inj x y c (hlook x c e1) (hlook y c e2),fun x hx=>?_,fun x c z _=>absurd z Qn,I2.ok.hd,I2.ok.frames,.inl rfl,fun b hb=>⟨?_,fun x c e=>(f2 b hb).2.2.2.2.1 x c (hlook x c e)⟩,
   I2.bs,Qi I2.ok.bsz I2.sz,fun b o e hb=>?_,fun b hb z=>?_,I2.stack,I2.stkFree⟩
  ·exact a2O (.inl (a4L ok.nocell hx))
  ·exact Xh (Xb (hlt b hb) hCle)
  ·rcases (f2 b hb).2.2.2.1 with z | z
   ·exact I2.ok.noex b o e z
   ·exact absurd (Xb (Qw e) (Qi I2.ok.bsz z)) (Zl _)
  ·rcases Qy.mp (I2.stkSub b z) with e | e
   ·exact (f2 b hb).2.1 e
   ·exact (f2 b hb).2.2.1 e
 have fpc:∀{H':Hp},(∀b∈fp,H' b=none)→∀b∈fp,a8A (a1s X Nc scope (a2e X.env scope.names []) HL.objs.size s₂ H2 fp) [] H' b:=fun {H'} hn b hb=>
  ⟨hn b hb,(okc.exf b hb).1,okc.exfs b hb,.inl hb,(okc.exf b hb).2,fun p hp=>absurd (show p∈([]:List (Addr×Obj)) from hp) (by simp)⟩
 have Ic:Inv (a1s X Nc scope (a2e X.env scope.names []) HL.objs.size s₂ H2 fp) [] (a1G js σ) (upd H2 s₂.heap.objs.size (.lst [])) {s₂ with heap:=h₁,toks:=s₂.toks+([]:List (Str×Value)).length}:=by
  refine ⟨okc,rfl,I2.bare,Un.laid old (Qk _) hD0,⟨_,hns₁,fun i x v e1 e2 e3=>?_⟩,fun x c e=>?_,?_,fun x c e=>?_,fun p hp=>absurd (show p∈([]:List (Addr×Obj)) from hp) (by simp),?_,?_⟩
  ·have e1':Nc[i]?=some x:=e1
   unfold a1G at e2
   rw [Qm] at e2
   cases ej:js[i]? with
   | none=>rw [ej] at e2;simp at e2
   | some oj=>
    rw [ej] at e2
    cases oj with
    | none=>simp at e2
    | some j=>
     have e2':(σ[j]?).getD none=some v:=by simpa using e2
     have e2'':σ[j]?=some (some v):=by
      cases q:σ[j]? with
      | none=>rw [q] at e2';simp at e2'
      | some z=>rw [q] at e2';simp at e2';rw [e2']
     obtain ⟨hN,hF⟩:=ok.map i x j e1' ej
     have hmem:(x,NameKind.free)∈scope.names:=PySem.mem_of_lookup hF
     have hkX:=ok.free _ hmem rfl
     obtain ⟨m,hn,hl⟩:=I2.loc
     have hvis:Vis X.env.scope x:=by
      rcases hkX with z | z
      ·exact .inr (.inl z)
      ·exact .inr (.inr z)
     obtain ⟨u,ru,lk⟩:=hl j x v hN e2'' hvis
     refine ⟨u,ru,.inr ?_⟩
     rcases lk with ⟨k1,_⟩ | ⟨_,c,ec,ic⟩
     ·have k1':X.env.kindOf x=some NameKind.local:=k1
      rcases hkX with z | z
      ·rw [z] at k1';cases k1'
      ·rw [z] at k1';cases k1'
     ·obtain ⟨c',hc'⟩:=a2O (env:=X.env) (l:=scope.names) (cs:=[]) (x:=x) (.inl hmem)
      have e':=hlook x c' hc'
      rw [ec] at e'
      cases e'
      exact ⟨a1M hF,c,hc',ic.keeps old⟩
  ·obtain ⟨v,q⟩:=I2.cell x c (hlook x c e)
   exact ⟨v,q.keeps old⟩
  ·show upd H2 s₂.heap.objs.size (.lst []) HL.objs.size=none
   rw [a0a (Ne.symm hDC)];exact hC0
  ·obtain ⟨v,q⟩:=I2.cell x c (hlook x c e)
   rw [a0a (Xh q.lt)]
   exact I2.freeC x c (hlook x c e)
  ·exact I2.hok.laid old (Qk _) ⟨Xf _,[],_,.nil,hacc⟩
  ·show (a1G js σ).length=Nc.length
   unfold a1G
   rw [Qe];exact ok.len
 have back:∀{σ':St} {H':Hp} {s':Shared},Inv (a1s X Nc scope (a2e X.env scope.names []) HL.objs.size s₂ H2 fp) [] σ' H' s'→Inv X pins σ H' s':=fun {σ' H' s'} I4=>
  I2.call' (ch:=fp) I4.os I4.base I4.hok I4.bare fun b hb=>⟨(f2 b hb).2.2.2.1,(f2 b hb).2.1,(f2 b hb).2.2.2.2.1,(f2 b hb).2.2.2.2.2⟩
 have st1:tn 0 h₁:=T.keep 0 _ _ st2 fun b _ o e=>old b o e
 have loop:∀s₃:Shared,s₃={s₂ with heap:=h₁,toks:=s₂.toks+([]:List (Str×Value)).length}→
   codeAny (model X.prog X.w) X.A (.compLoop (.ListComp elt [⟨target,iter,ifs,0⟩] scope pos) 0 (.ref it) (.ref s₂.heap.objs.size) (compEnvC scope (a2e X.env scope.names []) HL.objs.size X.env))
    (RR (.ref s₂.heap.objs.size) HL.objs.size) s₃:=by
  rintro s₃ rfl
  refine a6l (fun n s'=>∃i σ' H' ys,Inv (a1s X Nc scope (a2e X.env scope.names []) HL.objs.size s₂ H2 fp) [] σ' H' s'∧tn i s'.heap∧(∀b∈fp,H' b=none)∧W i n σ' H' ys) ?_ m0
   ⟨0,a1G js σ,_,[],Ic,st1,fun b hb=>by rw [a0a (Xh (hlt b hb))];exact (f2 b hb).1,w0⟩
  rintro n s3 ⟨i,σ3,H3,ys,I3,st3,fr3,w3⟩
  obtain ⟨hD3,tn3⟩:=turn i n σ3 H3 ys w3
  rcases tn3 with ⟨stop,q⟩ | ⟨go,hys,step⟩
  ·refine thn (T.done (a1s X Nc scope (a2e X.env scope.names []) HL.objs.size s₂ H2 fp) rfl rfl rfl hc i [] s3 σ3 H3 NoE I3 (fpc fr3) st3 stop) fun r s4 ⟨hr,I4⟩=>?_
   subst hr
   obtain ⟨m4,n4,_⟩:=I4.loc
   exact hRR _ _ s4 H3 m4 (back I4) n4 (I2.fpOk hCle I4.free) q
  ·refine thn (T.item (a1s X Nc scope (a2e X.env scope.names []) HL.objs.size s₂ H2 fp) rfl rfl rfl hc i [] s3 σ3 H3 NoE I3 (fpc fr3) st3 go) fun r s4 ⟨u,hr,h4⟩=>?_
   subst hr
   refine thn h4 fun _ s5 ⟨x,H5,I5,r5,y5,st5,fr5⟩=>?_
   have I5':=I5.pinned (fpc fr5) (T.obj _ _ st5)
   have fin:∀{σ7:St} {H7:Hp} {s7:Shared} {zs:List V} {m':Nat},Inv (a1s X Nc scope (a2e X.env scope.names []) HL.objs.size s₂ H2 fp) ([]++a5S fp s5.heap) σ7 H7 s7→m' < n→W (i+1) m' σ7 H7 zs→
     ∃m,m < n∧∃i σ' H' ys,Inv (a1s X Nc scope (a2e X.env scope.names []) HL.objs.size s₂ H2 fp) [] σ' H' s7∧tn i s7.heap∧(∀b∈fp,H' b=none)∧W i m σ' H' ys:=fun {σ7 H7 s7 zs m'} I7 hm w7=>by
    refine ⟨m',hm,i+1,σ7,H7,zs,I7.unpinned,T.keep _ _ _ st5 fun b hb o e=>(I7.pin (b,o) (Qx _ (Qx _ (a2z hb e)))).1,fun b hb=>?_,w7⟩
    obtain ⟨o,e,d⟩:=T.obj _ _ st5 b hb
    exact (I7.pin (b,o) (Qx _ (Qx _ (a2z hb e)))).2.1
   refine thn (hg _ _ _ _ _ _ s5 σ3 H5 x u _ I5' r5 (step x H5 y5)) fun _ s6 ⟨σ6,H6,I6,q6⟩=>?_
   refine thn (ht _ _ _ _ _ _ s6 σ6 H6 _ I6 q6) fun b s7 ⟨H7,I7,q7⟩=>?_
   cases b with
   | false=>
    obtain ⟨m',hm,w7⟩:=q7
    exact fin I7 hm w7
   | true=>
    refine thn (he _ _ _ _ _ _ s7 σ6 H7 _ I7 q7) fun v s8 ⟨y,H8,I8,r8,hD8,m',hm,w8⟩=>?_
    refine thn (a0Z _ s8 σ6 H8 (.ref s₂.heap.objs.size) [y] (.ref s₂.heap.objs.size) [v] (fun _ H9=>H9=upd H8 s₂.heap.objs.size (.lst (ys++[y]))) I8 rfl (.cons r8 .nil) ⟨_,ys,y,rfl,rfl,hD8,hys,rfl⟩) fun v9 s9 ⟨_,H9,I9,_,e9⟩=>?_
    subst e9
    exact fin I9 hm w8
 exact codeAny_compStart_list (loop _ rfl) (T.self X.A 0 _ _ _ st1 (loop _ rfl))
theorem b6s (ok:a3q X Nc js scope) (hc:X.calm=true) (hi:PI X target iter wi)
  (hg:∀C cl s H ex,PG (a1s X Nc scope cl C s H ex) target g) (ht:∀C cl s H ex,PTs (a1s X Nc scope cl C s H ex) ifs tt) (he:∀C cl s H ex,PE (a1s X Nc scope cl C s H ex) elt te)
  (hs:∀x,foldedSetIterable iter X.env x=pure x:=by intro _;rfl):PE X (.ListComp elt [⟨target,iter,ifs,0⟩] scope pos) (b2N js wi g tt te):=by
 intro pins s σ H Q I h
 have hfr:∀y∈scope.names,y.2=NameKind.free→∃c,X.env.cells.lookup y.1=some c:=fun y hy e=>I.ok.has y.1 (ok.free y hy e)
 rw [eval_ListComp]
 refine wpAny_comprehension_free (use:=none) rfl hs (a1I hfr) ok.kind ok.names (thn (hi pins s σ H _ I h) fun v s1 h1=>thn h1 fun itv s2 h2=>?_)
 obtain ⟨it,fp,tn,J,H2,e,I2,T,st2,f2,h⟩:=h2
 subst e
 refine a4N (RR:=fun acc C=>compPost (model X.prog X.w) X.A X.xe none (EP X pins σ Q) acc C) (Q:=Q) ok hc hg ht he I2 T st2 f2 h ?_
 intro D C s' H' m I' n' fC q
 refine ⟨m,n',fun h' sb=>⟨.ref D,H',?_,rfl,q⟩⟩
 exact I'.turned (t':=s'.toks) (fun b o hb e=>(sb.2 b hb).trans e) fC.1 fC.2.1 fC.2.2.2.1 fC.2.2.2.2.1 fC.2.2.2.2.2
theorem a8v {i:Nat} {y:Str} {py spos:Pos} (ok:a3q X Nc js scope) (hc:X.calm=true) (hi:PI X target iter wi)
  (hg:∀C cl s H ex,PG (a1s X Nc scope cl C s H ex) target g) (ht:∀C cl s H ex,PTs (a1s X Nc scope cl C s H ex) ifs tt) (he:∀C cl s H ex,PE (a1s X Nc scope cl C s H ex) elt te)
  (hN:X.N.Nodup) (hy:X.N[i]?=some y) (hx:Loc X.env.scope y) (hsw:swapsWith (.ListComp elt [⟨target,iter,ifs,0⟩] scope pos) (some (.Name y py)) spos.line X.env=pure true)
  (hs:∀x,foldedSetIterable iter X.env x=pure x:=by intro _;rfl) (hf:X.fn y=true∨X.env.scope.names.lookup y=some .local:=by first | exact .inl rfl | exact .inr rfl | assumption):
  PS X (.Assign [.Name y py] (.ListComp elt [⟨target,iter,ifs,0⟩] scope pos) spos) (fun D σ H=>b2N js wi g tt te σ H fun v H'=>D.nx (σ.set i (some v)) H'):=by
 intro pins s σ H D I h
 have hfr:∀y∈scope.names,y.2=NameKind.free→∃c,X.env.cells.lookup y.1=some c:=fun y hy e=>I.ok.has y.1 (ok.free y hy e)
 rw [exec_Assign_Name_used _ _ _ _ hsw]
 refine wpAny_bind (wpAny_standAt (wpAny_bind ?_))
 show wpAny _ X.A (do let _ ←comprehension (.ListComp elt [⟨target,iter,ifs,0⟩] scope pos) scope X.env _ (newList []) false (eval iter X.env) (some (assign (.Name y py) X.env))) _ _ s
 refine wpAny_bind (thn (wpAny_comprehension_free (use:=some (assign (.Name y py) X.env)) (Q:=fun _ s'=>SP X pins D .next s') rfl hs (a1I hfr) ok.kind ok.names
  (thn (hi pins s σ H _ I h) fun v s1 h1=>thn h1 fun itv s2 h2=>?_)) fun _ s' hq=>wpAny_pure (wpAny_pure hq))
 obtain ⟨it,fp,tn,J,H2,e,I2,T,st2,f2,h⟩:=h2
 subst e
 refine a4N (RR:=fun acc C=>compPost (model X.prog X.w) X.A X.xe (some (assign (.Name y py) X.env)) (fun _ s'=>SP X pins D .next s') acc C) (Q:=fun v H'=>D.nx (σ.set i (some v)) H') ok hc hg ht he I2 T st2 f2 h ?_
 intro Da C s' H' m I' n' fC q
 show wpAny _ X.A (assign (.Name y py) X.env (.ref Da)) _ _ _
 refine wpAny_assign_Name (a5I I' hN hy hx (show a0O (.ref Da) (.ref Da) from rfl) (fun s'' I'' hsb=>?_) hf)
 obtain ⟨a,sb,ha⟩:=hsb
 have hCa:C≠a:=by
  rcases ha with e | e
  ·rw [e];exact fC.2.1
  ·exact fun z=>fC.2.2.2.2.1 y a e z.symm
 refine ⟨m,n'.sameBut sb hCa,fun h' sb'=>⟨σ.set i (some (.ref Da)),H',?_,q⟩⟩
 exact I''.turned (t':=s''.toks) (fun b o hb e=>(sb'.2 b hb).trans e) fC.1 fC.2.1 fC.2.2.2.1 fC.2.2.2.2.1 fC.2.2.2.2.2
end
section
variable {js:List (Option Nat)} {g:TG} {tt:TT} {te:TE} {σ:St} {H:Hp} {Q:VK}
def a5y (J:It) (js:List (Option Nat)) (g:TG) (tt:TT) (te:TE) (σ:St) (H:Hp) (Q:VK):Prop:=
 ∀D,H D=none→∃W:Nat→Nat→St→Hp→List V→Prop,(∃m,W 0 m (a1G js σ) (upd H D (.lst [])) [])∧
 ∀i m σ' H' ys,W i m σ' H' ys→H' D=some (.lst ys)∧((J.stop i H'∧Q (.ref D) H')∨(J.go i H'∧ys.length < sizeLine∧∀x H2,J.yld i H' x H2→g x σ' H2 fun σ2 H3=>tt σ2 H3 fun b H4=>
  if b=true then te σ2 H4 fun v H5=>H5 D=some (.lst ys)∧∃m',m' < m∧W (i+1) m' σ2 (upd H5 D (.lst (ys++[v]))) (ys++[v]) else ∃m',m' < m∧W (i+1) m' σ2 H4 ys))
structure Src (J:It) (n:Nat) (f:Nat→V) (Ok:Hp→Prop):Prop where
 go:∀i H,i < n→Ok H→J.go i H
 yld:∀i H x H',i < n→Ok H→J.yld i H x H'→H'=H∧x=f i
 stop:∀H,Ok H→J.stop n H
theorem a2Y {K:Qd} {a:Addr} {xs:List V}:Src (Itl K a) xs.length (fun i=>(xs[i]?).getD .non) (fun H=>SqL K H a xs):=
 ⟨fun i H hi h=>⟨xs,xs[i],h,by simp [hi]⟩,fun i H x H' hi h y=>⟨y.1,by rw [y.2 xs h];rfl⟩,fun H h=>⟨xs,h,Qk _⟩⟩
theorem a5r {K:Qd} {a:Addr} {xs:List V}:Src (Itt K a) xs.length (fun i=>(xs[i]?).getD .non) (fun H=>SqT K H a xs):=
 ⟨fun i H hi h=>⟨xs,xs[i],h,by simp [hi]⟩,fun i H x H' hi h y=>⟨y.1,by rw [y.2 xs h];rfl⟩,fun H h=>⟨xs,h,Qk _⟩⟩
theorem a2N {lo:Int} {n:Nat}:Src (Itr lo n) n (fun i=>.int (lo+i)) (fun _=>True):=
 ⟨fun i H hi _=>hi,fun i H x H' hi _ y=>y,fun H _=>Qk _⟩
theorem a6N {J:It} {n:Nat} {f:Nat→V} {Ok:Hp→Prop} (S:Src J n f Ok) (hn:n≤sizeLine) (Pv:Addr→Nat→St→Hp→List V→Prop) (h0:∀D,H D=none→Pv D 0 (a1G js σ) (upd H D (.lst [])) [])
  (hk:∀D i σ' H' ys,H D=none→i≤n→Pv D i σ' H' ys→Ok H'∧H' D=some (.lst ys)∧ys.length≤i)
  (hs:∀D i σ' H' ys (R:St→Hp→List V→Prop),H D=none→i < n→Pv D i σ' H' ys→(∀a b c,Pv D (i+1) a b c→R a b c)→g (f i) σ' H' fun σ2 H3=>tt σ2 H3 fun b H4=>
   if b=true then te σ2 H4 fun v H5=>H5 D=some (.lst ys)∧R σ2 (upd H5 D (.lst (ys++[v]))) (ys++[v]) else R σ2 H4 ys)
  (hd:∀D σ' H' ys,H D=none→Pv D n σ' H' ys→Q (.ref D) H'):a5y J js g tt te σ H Q:=by
 intro D hD
 refine ⟨fun i m σ' H' ys=>m=n - i∧i≤n∧Pv D i σ' H' ys,⟨n,by simp,Xf _,h0 D hD⟩,?_⟩
 rintro i m σ' H' ys ⟨rfl,hi,p⟩
 obtain ⟨q1,q2,q3⟩:=hk D i σ' H' ys hD hi p
 refine ⟨q2,?_⟩
 by_cases hlt:i < n
 ·refine .inr ⟨S.go i H' hlt q1,by omega,fun x H2 y=>?_⟩
  obtain ⟨rfl,rfl⟩:=S.yld i H' x H2 hlt q1 y
  exact hs D i σ' _ ys (fun σ2 H3 ys'=>∃m',m' < n - i∧(m'=n - (i+1)∧i+1≤n∧Pv D (i+1) σ2 H3 ys')) hD hlt p fun a b c r=>⟨n - (i+1),by omega,rfl,hlt,r⟩
 ·have e:i=n:=by omega
  subst e
  exact .inl ⟨S.stop H' q1,hd D σ' H' ys hD p⟩
end
end L2
namespace L2
open PySem PySem.Spec PyProof.Rows
section
variable {X:Cx}
theorem a7V {bs:List Bool} {its:List Value} (r:a0N (bs.map V.bl) its) {i:Nat} {v:Value} (h:its[i]?=some v):∃b,bs[i]?=some b∧v=.bool b:=by
 have hi:i < its.length:=(Qp.mp h).1
 have hl:=r.length
 rw [Qe] at hl
 have hb:bs[i]?=some bs[i]:=Qc (by omega)
 obtain ⟨u,hu,ru⟩:=r.get (i:=i) (x:=V.bl bs[i]) (by rw [Qm,hb];rfl)
 rw [h] at hu;cases hu
 exact ⟨_,hb,ru⟩
theorem a2H (hc:X.calm=true):a1U X (.builtin "all") (fun xs H Q=>∃(p:Addr) (bs:List Bool),xs=[.ref p]∧SqL X.K H p (bs.map V.bl)∧Q (.bl (bs.all id)) H):=by
 intro pins s σ H xs us Q I r h
 obtain ⟨p,bs,rfl,hq,q⟩:=h
 obtain ⟨u,rfl,ru⟩:=a3y r
 cases ru
 obtain ⟨its,rv,pl,hz⟩:=I.list hq
 have hl:=pl.isList
 have hlt:p < s.heap.objs.size:=by obtain ⟨_,e,_⟩:=hl;exact Qw e
 refine call_all_walk (wpAny_pyIter_list hl ?_)
 refine ⟨s.heap.objs.size,[s.heap.objs.size,p],[s.heap.objs.size],its.toArray.size,_,_,fun i=>(bs[i]?).getD true,rfl,Walks.list (A:=X.A.in1) (I.ok.hd hc) _ p (Xh hlt) its.toArray,
  ⟨⟨_,Xe _ rfl,rfl,rfl⟩,hl.push _⟩,fun i v s' Q' E' hP hQ=>?_,fun h' tk hk=>?_⟩
 ·obtain ⟨b,e,rfl⟩:=a7V rv (i:=i) (v:=v) (by simpa using hP)
  simp only [e,Xo] at hQ
  exact wpAny_truthy_bool hQ
 ·have e:((Xs its.toArray.size).all fun i=>(bs[i]?).getD true)=bs.all id:=by
   have hb:=rv.length
   rw [Qe] at hb
   rw [Qt,←hb];exact LSm.range_all bs
  rw [e]
  exact ⟨.bl (bs.all id),H,I.kept (t':=tk) (LSm.kept_iter hk),rfl,q⟩
theorem a1T (hc:X.calm=true):a1U X (.builtin "any") (fun xs H Q=>∃(p:Addr) (bs:List Bool),xs=[.ref p]∧SqL X.K H p (bs.map V.bl)∧Q (.bl (bs.any id)) H):=by
 intro pins s σ H xs us Q I r h
 obtain ⟨p,bs,rfl,hq,q⟩:=h
 obtain ⟨u,rfl,ru⟩:=a3y r
 cases ru
 obtain ⟨its,rv,pl,hz⟩:=I.list hq
 have hl:=pl.isList
 have hlt:p < s.heap.objs.size:=by obtain ⟨_,e,_⟩:=hl;exact Qw e
 refine call_any_walk (wpAny_pyIter_list hl ?_)
 refine ⟨s.heap.objs.size,[s.heap.objs.size,p],[s.heap.objs.size],its.toArray.size,_,_,fun i=>(bs[i]?).getD false,rfl,Walks.list (A:=X.A.in1) (I.ok.hd hc) _ p (Xh hlt) its.toArray,
  ⟨⟨_,Xe _ rfl,rfl,rfl⟩,hl.push _⟩,fun i v s' Q' E' hP hQ=>?_,fun h' tk hk=>?_⟩
 ·obtain ⟨b,e,rfl⟩:=a7V rv (i:=i) (v:=v) (by simpa using hP)
  simp only [e,Xo] at hQ
  exact wpAny_truthy_bool hQ
 ·have e:((Xs its.toArray.size).any fun i=>(bs[i]?).getD false)=bs.any id:=by
   have hb:=rv.length
   rw [Qe] at hb
   rw [Qt,←hb];exact LSm.range_any bs
  rw [e]
  exact ⟨.bl (bs.any id),H,I.kept (t':=tk) (LSm.kept_iter hk),rfl,q⟩
def c3f:V→Option Int→Option Int→Hp→VK→Prop:=fun x lo hi H Q=>∃z,x=.str z∧z.length≤sizeLine∧Q (.str (Uw z lo hi)) H
theorem b9q:SlR X c3f:=by
 intro pins s σ H x v vl vu lo hi sl Q I rx hs pl pu h
 obtain ⟨z,rfl,hz,q⟩:=h
 obtain ⟨t,rfl⟩:=rx
 obtain ⟨o,ho,hc,hd⟩:=hs
 refine ⟨"str",_,PySem.F.slot_str_getitem.lookup,typeIs_str _ _ _,?_⟩
 have fin:∀(l u:Option Int) (t':Tok) (k:Nat),Q (.str (Uw z l u)) H→EP X pins σ Q (.str (Uw z l u) t') {s with toks:=k}:=fun l u t' k q=>⟨.str _,H,I.tok _,⟨_,rfl⟩,q⟩
 cases pl with
 | none=>
  cases pu with
  | none=>exact wpAny_getItem_str_slice (l:=none) (u:=none) (st:=none) ⟨o,ho,hc,hd⟩ rfl (post_val_or_str ⟨Qi (Vr z _ _) hz,fun t' k=>fin _ _ t' k q⟩)
  | int j uj=>exact wpAny_getItem_str_slice (l:=none) (u:=some (j,uj)) (st:=none) ⟨o,ho,hc,hd⟩ rfl (post_val_or_str ⟨Qi (Vr z _ _) hz,fun t' k=>fin _ _ t' k q⟩)
 | int i ui=>
  cases pu with
  | none=>exact wpAny_getItem_str_slice (l:=some (i,ui)) (u:=none) (st:=none) ⟨o,ho,hc,hd⟩ rfl (post_val_or_str ⟨Qi (Vr z _ _) hz,fun t' k=>fin _ _ t' k q⟩)
  | int j uj=>exact wpAny_getItem_str_slice (l:=some (i,ui)) (u:=some (j,uj)) (st:=none) ⟨o,ho,hc,hd⟩ rfl (post_val_or_str ⟨Qi (Vr z _ _) hz,fun t' k=>fin _ _ t' k q⟩)
theorem a4X:MtR X "str.startswith" (fun x xs H Q=>∃a b,x=.str a∧xs=[.str b]∧Q (.bl (Jm a b)) H):=by
 intro pins s σ H x xs v us Q I rx rs h
 obtain ⟨a,b,rfl,rfl,q⟩:=h
 obtain ⟨t,rfl⟩:=rx
 obtain ⟨u,rfl,t',rfl⟩:=a3y rs
 exact SC.startswith ⟨.bl _,H,I,rfl,q⟩
end
end L2
namespace L2
open PySem PySem.Spec PyProof.Rows
theorem a1k:bootBuiltins "len"=some (.builtin "len"):=by decide+kernel
theorem a5W:bootBuiltins "all"=some (.builtin "all"):=by decide+kernel
theorem a3R:bootBuiltins "any"=some (.builtin "any"):=by decide+kernel
theorem a3m:bootBuiltins "list"=some (.type "list"):=by decide+kernel
theorem a2b:bootBuiltins "tuple"=some (.type "tuple"):=by decide+kernel
section
variable {X:Cx}
def c0V:R2:=fun x y H Q=>∃i j,x=.str i∧y=.str j∧i.length+j.length≤sizeLine∧Q (.str (i++j)) H
def c0F:R2:=rI0 fun i j=>.int (i+j)
def b2C (K:Qd):R2:=fun x y H Q=>c0F x y H Q∨c0V x y H Q∨c4c x y H Q∨b7r K x y H Q
theorem a0u:OpR X (binaryOp .Add) (b2C X.K):=b7R.or (a8I.or (b7g.or b5C))
theorem a0R {K:Qd} {i j:Int} {H:Hp} {Q:VK}:b2C K (.int i) (.int j) H Q↔Q (.int (i+j)) H:=by
 constructor
 ·rintro (⟨a,b,e1,e2,q⟩ | ⟨a,b,e1,_⟩ | ⟨a,b,_,_,e1,_⟩ | ⟨a,b,_,_,e1,_⟩)
  ·cases e1;cases e2;exact q
  ·cases e1
  ·cases e1
  ·cases e1
 ·exact fun q=>.inl ⟨i,j,rfl,rfl,q⟩
theorem a1w {K:Qd} {i j:Str} {H:Hp} {Q:VK}:b2C K (.str i) (.str j) H Q↔(i.length+j.length≤sizeLine∧Q (.str (i++j)) H):=by
 constructor
 ·rintro (⟨a,b,e1,_⟩ | ⟨a,b,e1,e2,q⟩ | ⟨a,b,_,_,e1,_⟩ | ⟨a,b,_,_,e1,_⟩)
  ·cases e1
  ·cases e1;cases e2;exact q
  ·cases e1
  ·cases e1
 ·exact fun q=>.inr (.inl ⟨i,j,rfl,rfl,q⟩)
theorem a9X {i j:Int} {H:Hp} {Q:VK}:rEq (.int i) (.int j) H Q↔Q (.bl (decide (i=j))) H:=by
 unfold rEq
 have e:decide (V.int i=V.int j)=decide (i=j):=by
  by_cases h:i=j
  ·subst h;simp
  ·simp [h]
 rw [e]
 exact ⟨fun h=>h.2,fun h=>⟨rfl,h⟩⟩
theorem b1G {i j:Str} {H:Hp} {Q:VK}:rEq (.str i) (.str j) H Q↔Q (.bl (decide (i=j))) H:=by
 unfold rEq
 have e:decide (V.str i=V.str j)=decide (i=j):=by
  by_cases h:i=j
  ·subst h;simp
  ·simp [h]
 rw [e]
 exact ⟨fun h=>h.2,fun h=>⟨rfl,h⟩⟩
def inS (c s:Str):Bool:=!(Builtin.Str.occurrences s c 0 s.length 1).isEmpty
def c4Y:R2:=fun x y H Q=>∃i j,x=.str i∧y=.str j∧Q (.bl (inS i j)) H
def b8C (K:Qd):R2:=fun x y H Q=>c4Y x y H Q∨rIn K false x y H Q
theorem b8i:OpR X (compareOp .In) c4Y:=a9g
theorem a3a:OpR X (compareOp .In) (b8C X.K):=b8i.or b0u
def b4O (K:Qd):List V→Hp→VK→Prop:=fun xs H Q=>(∃x n,xs=[x]∧c3w K x H n∧Q (.int n) H)∨∃a kvs,xs=[V.ref a]∧H a=some (.dK kvs)∧Q (.int kvs.length) H
theorem a1m:a1U X (.builtin "len") (b4O X.K):=b2t.or b1g
theorem a9y {K:Qd} {z:Str} {H:Hp} {Q:VK}:b4O K [.str z] H Q↔(z.length≤sizeLine∧Q (.int z.length) H):=by
 constructor
 ·rintro (⟨x,n,e1,e2,q⟩ | ⟨a,kvs,e1,_⟩)
  ·cases e1
   obtain ⟨h1,rfl⟩:z.length≤sizeLine∧n=z.length:=e2
   exact ⟨h1,q⟩
  ·cases e1
 ·exact fun q=>.inl ⟨.str z,z.length,rfl,⟨q.1,rfl⟩,q.2⟩
theorem a1P {K:Qd} {a:Addr} {xs:List V} {H:Hp} {Q:VK} (h:SqL K H a xs) (q:Q (.int xs.length) H):b4O K [.ref a] H Q:=.inl ⟨.ref a,xs.length,rfl,.inl ⟨xs,h,rfl⟩,q⟩
def c3R (K:Qd):V→Option Int→Option Int→Hp→VK→Prop:=fun x lo hi H Q=>c3f x lo hi H Q∨c4z K x lo hi H Q∨c2r K x lo hi H Q
theorem b8G:SlR X (c3R X.K):=b9q.or (b5U.or b7P)
theorem a7y {K:Qd} {z:Str} {lo hi:Option Int} {H:Hp} {Q:VK}:c3R K (.str z) lo hi H Q↔(z.length≤sizeLine∧Q (.str (Uw z lo hi)) H):=by
 constructor
 ·rintro (⟨x,e1,q⟩ | ⟨a,xs,e1,_⟩ | ⟨a,xs,e1,_⟩)
  ·cases e1;exact q
  ·cases e1
  ·cases e1
 ·exact fun q=>.inl ⟨z,rfl,q⟩
theorem b4t {K:Qd} {z:Str} {i:Int} {H:Hp} {Q:VK}:rIx K (.str z) (.int i) H Q↔(z.length≤sizeLine∧∃c,atI z.cps.toList i=some c∧Q (.str ⟨#[c]⟩) H):=by
 constructor
 ·rintro (⟨p,xs,j,v,e1,_⟩ | ⟨p,xs,j,v,e1,_⟩ | ⟨y,j,c,e1,e2,h1,h2,q⟩)
  ·cases e1
  ·cases e1
  ·cases e1;cases e2;exact ⟨h1,c,h2,q⟩
 ·rintro ⟨h1,c,h2,q⟩
  exact .inr (.inr ⟨z,i,c,rfl,rfl,h1,h2,q⟩)
theorem a0J {K:Qd} {a:Addr} {xs:List V} {i:Int} {v:V} {H:Hp} {Q:VK} (h:SqL K H a xs) (e:atI xs i=some v) (q:Q v H):rIx K (.ref a) (.int i) H Q:=.inl ⟨a,xs,i,v,rfl,rfl,h,e,q⟩
theorem a0v {K:Qd} {a:Addr} {xs:List V} {i:Int} {v:V} {H:Hp} {Q:VK} (h:SqT K H a xs) (e:atI xs i=some v) (q:Q v H):rIx K (.ref a) (.int i) H Q:=.inr (.inl ⟨a,xs,i,v,rfl,rfl,h,e,q⟩)
theorem a1d {C:Int→Int→Prop} {g:Int→Int→V} {i j:Int} {H:Hp} {Q:VK}:rI C g (.int i) (.int j) H Q↔(C i j∧Q (g i j) H):=by
 constructor
 ·rintro ⟨a,b,e1,e2,q⟩;cases e1;cases e2;exact q
 ·exact fun q=>⟨i,j,rfl,rfl,q⟩
theorem a3i {g:Int→Int→V} {i j:Int} {H:Hp} {Q:VK}:rI0 g (.int i) (.int j) H Q↔Q (g i j) H:=by
 constructor
 ·rintro ⟨a,b,e1,e2,q⟩;cases e1;cases e2;exact q
 ·exact fun q=>⟨i,j,rfl,rfl,q⟩
theorem a1x {k:Bool} {P:Bool→Prop}:(∃c,V.bl k=V.bl c∧P c)↔P k:=by
 constructor
 ·rintro ⟨c,e,q⟩;cases e;exact q
 ·exact fun q=>⟨k,rfl,q⟩
theorem b2v {k:Int} {P:Int→Prop}:(∃c,V.int k=V.int c∧P c)↔P k:=by
 constructor
 ·rintro ⟨c,e,q⟩;cases e;exact q
 ·exact fun q=>⟨k,rfl,q⟩
theorem a0e {v:V} {P:V→Prop}:(∃x,some (some v)=some (some x)∧P x)↔P v:=by
 constructor
 ·rintro ⟨c,e,q⟩;cases e;exact q
 ·exact fun q=>⟨v,rfl,q⟩
end
theorem a0i.upd {H:Hp} {a:Addr} {o:HO} (h:H a=none):a0i H (upd H a o):=fun b u e=>by rw [a0a (a0c e h)];exact e
section
variable {X:Cx} {st:Stmt} {a5Y:List Stmt} {t u:TS}
def c6d (t u:TS):TS:=fun D σ H=>∃M:St→Hp→Prop,t {D with nx:=M} σ H∧∀σ' H',M σ' H'→u D σ' H'
theorem b5F (h1:PS X st t) (h2:PSs X a5Y u):PSs X (st::a5Y) (c6d t u):=by
 intro pins s σ H D I h
 obtain ⟨M,q1,q2⟩:=h
 refine wpAny_execs_cons (thn (h1 pins s σ H {D with nx:=M} I q1) fun f s1 q=>?_)
 cases f with
 | next=>
  obtain ⟨σ',H',I',q⟩:=q
  exact h2 pins s1 σ' H' D I' (q2 σ' H' q)
 | ret v=>exact q
 | brk=>exact q
 | cont=>exact q
end
end L2
namespace L2
open PySem PySem.Spec PyProof.Rows
theorem a0z {k:Addr} {P:Addr→Prop}:(∃c,V.ref k=V.ref c∧P c)↔P k:=by
 constructor
 ·rintro ⟨c,e,q⟩;cases e;exact q
 ·exact fun q=>⟨k,rfl,q⟩
theorem b1y {i j:Str} {H:Hp} {Q:VK}:rNe (.str i) (.str j) H Q↔Q (.bl (!decide (i=j))) H:=by
 unfold rNe
 have e:decide (V.str i=V.str j)=decide (i=j):=by
  by_cases h:i=j
  ·subst h;simp
  ·simp [h]
 rw [e]
 exact ⟨fun h=>h.2,fun h=>⟨rfl,h⟩⟩
theorem a4v {α:Type} {xs:List α} {i:Int} (h0:0≤i) (h1:i < xs.length):∃v,atI xs i=some v∧v∈xs∧xs[i.toNat]?=some v:=by
 have hk:i.toNat < xs.length:=by omega
 refine ⟨xs[i.toNat],?_,Xd hk,Qc hk⟩
 unfold atI ixN
 rw [if_pos h0,if_pos h1]
 exact Qc hk
theorem a1z {i j:Int} (h:0 < j):0≤i % j∧i % j < j:=⟨Za _ (by omega),Yv _ h⟩
theorem ite_tt {A B:Prop}:(if true=true then A else B)=A:=if_pos rfl
theorem a3M {A B:Prop}:(if false=true then A else B)=B:=if_neg Qn
theorem ite_ff {A B:Prop}:(if false=false then A else B)=A:=if_pos rfl
theorem a0Y {H:Hp} {p:Addr} (hp:H p=none) (o:HO):∃H',upd H p o=H'∧a0i H H'∧H' p=some o:=⟨_,rfl,a0i.upd hp,a0d⟩
def c2S (J:It) (g:TG) (tb:TS) (D:a8b) (σ:St) (H:Hp):Prop:=∃W:Nat→Nat→St→Hp→Prop,(∃m,W 0 m σ H)∧∀i m σ H,W i m σ H→
 (J.stop i H∧D.nx σ H)∨(J.go i H∧∃N:St→Hp→Prop,(∀σ' H',N σ' H'→∃m',m' < m∧W (i+1) m' σ' H')∧∀x H',J.yld i H x H'→g x σ H' fun σ2 H2=>tb {D with nx:=N,ct:=N,bk:=D.nx} σ2 H2)
theorem a0L {wi:TI} {g:TG} {tb:TS} {D:a8b} {σ:St} {H:Hp}:b9s wi g tb D σ H=wi σ H fun J H1=>c2S J g tb D σ H1:=rfl
theorem a0o {js:List (Option Nat)} {wi:TI} {g:TG} {tt:TT} {te:TE} {σ:St} {H:Hp} {Q:VK}:b2N js wi g tt te σ H Q=wi σ H fun J H1=>a5y J js g tt te σ H1 Q:=rfl
theorem a4M {J:It} {n:Nat} {f:Nat→V} {Ok:Hp→Prop} {js:List (Option Nat)} {te:TE} {σ:St} {H:Hp} {Q:VK} (S:Src J n f Ok) (hn:n≤sizeLine) (σr:St) (hσ:a1G js σ=none::σr) (Pr:Nat→V→Prop)
  (hOk:∀H',a0i H H'→Ok H') (hs:∀i H' (R:V→Hp→Prop),i < n→a0i H H'→(∀v H'',a0i H' H''→Pr i v→R v H'')→te (some (f i)::σr) H' R)
  (hd:∀D H' ys,H D=none→a0i H H'→H' D=some (.lst ys)→ys.length=n→(∀i v,ys[i]?=some v→Pr i v)→Q (.ref D) H'):a5y J js (a0l 0) b9U te σ H Q:=by
 refine a6N S hn (fun D i σ' H' ys=>(∃a,σ'=a::σr)∧a0i H H'∧H' D=some (.lst ys)∧ys.length=i∧∀j v,ys[j]?=some v→Pr j v) ?_ ?_ ?_ ?_
 ·intro D hD
  exact ⟨⟨none,hσ⟩,a0i.upd hD,a0d,rfl,fun j v e=>by simp at e⟩
 ·rintro D i σ' H' ys hD hi ⟨_,s,h,hl,_⟩
  exact ⟨hOk _ s,h,Vn hl⟩
 ·rintro D i σ' H' ys R hD hi ⟨⟨a,rfl⟩,s,h,hl,hp⟩ hR
  show te (some (f i)::σr) H' _
  refine hs i H' _ hi s fun v H'' s2 pv=>⟨s2 _ _ h,hR _ _ _ ⟨⟨_,rfl⟩,?_,a0d,by simp [hl],fun j v' e=>?_⟩⟩
  ·intro b o e
   rw [a0a (a0c e hD)]
   exact s2 b o (s b o e)
  ·rw [Wp] at e
   split at e
   ·exact hp j v' e
   ·rename_i hj
    have e1:j=ys.length:=by
     have:=(Qp.mp e).1
     simp at this;omega
    subst e1
    simp at e
    subst e
    rw [hl];exact pv
 ·rintro D σ' H' ys hD ⟨_,s,h,hl,hp⟩
  exact hd D H' ys hD s h hl hp
end L2
namespace L2
open PySem PySem.Spec PyProof.Rows
section
variable {K:Qd} {H:Hp} {Q:VK}
def b1I:V→List V→Hp→VK→Prop:=fun x xs H Q=>∃a b,x=.str a∧xs=[.str b]∧Q (.bl (Jm a b)) H
theorem a4D {a b:Str}:b1I (.str a) [.str b] H Q↔Q (.bl (Jm a b)) H:=⟨by rintro ⟨_,_,e1,e2,q⟩;cases e1;cases e2;exact q,fun q=>⟨_,_,rfl,rfl,q⟩⟩
theorem b0t {z:Str} {P:Prop}:(tyV K "str" (.str z) H∧P)↔P:=⟨fun h=>h.2,fun h=>⟨rfl,h⟩⟩
def b9f (K:Qd):List V→Hp→VK→Prop:=fun xs H Q=>∃p ys,xs=[.ref p]∧((SqL K H p ys∧∀l,H l=none→Q (.ref l) (upd H l (.tup ys)))∨SqT K H p ys∧Q (.ref p) H)
def a9z (K:Qd):List V→Hp→VK→Prop:=fun xs H Q=>∃p ys,xs=[.ref p]∧(SqL K H p ys∨SqT K H p ys)∧∀l,H l=none→Q (.ref l) (upd H l (.lst ys))
end
def c1g:R2:=fun x y H Q=>y=.non∧Q (.bl (decide (x=.non))) H
section
variable {H:Hp} {Q:VK}
theorem b1M {a:Addr}:c1g (.ref a) .non H Q↔Q (.bl false) H:=⟨fun h=>h.2,fun h=>⟨rfl,h⟩⟩
theorem b1P:c1g .non .non H Q↔Q (.bl true) H:=⟨fun h=>h.2,fun h=>⟨rfl,h⟩⟩
end
mutual
inductive Den (K:Qd) (H:Hp):V→PyData→Prop
 | non:Den K H .non .none
 | bl (b:Bool):Den K H (.bl b) (.bool b)
 | int (i:Int):Den K H (.int i) (.int i)
 | str (x:Str):Den K H (.str x) (.str x)
 | lst {a:Addr} {xs:List V} {ds:List PyData}:SqL K H a xs→DenAll K H xs ds→Den K H (.ref a) (.list ds)
 | tup {a:Addr} {xs:List V} {ds:List PyData}:SqT K H a xs→DenAll K H xs ds→Den K H (.ref a) (.tuple ds)
inductive DenAll (K:Qd) (H:Hp):List V→List PyData→Prop
 | nil:DenAll K H [] []
 | cons {x:V} {xs:List V} {d:PyData} {ds:List PyData}:Den K H x d→DenAll K H xs ds→DenAll K H (x::xs) (d::ds)
end
theorem a5o {K:Qd} {H:Hp}:∀ys:List Str,DenAll K H (ys.map V.str) (ys.map Jh)
 | []=>.nil
 | y::ys=>.cons (.str y) (a5o ys)
def c2V (K:Qd):R2:=fun x y H Q=>∃d e,Den K H x d∧Den K H y e∧Yq d=true∧Yq e=true∧Q (.bl (Xw d e)) H
def c3k (K:Qd):R2:=fun x y H Q=>∃d e,Den K H x d∧Den K H y e∧Yq d=true∧Yq e=true∧Q (.bl (!PyData.eqv d e)) H
def b3y (K:Qd):R2:=fun x y H Q=>rEq x y H Q∨c2V K x y H Q
def b3U (K:Qd):R2:=fun x y H Q=>rNe x y H Q∨c3k K x y H Q
section
variable {K:Qd} {H:Hp} {Q:VK}
theorem a2V {i j:Str}:b3y K (.str i) (.str j) H Q↔Q (.bl (decide (i=j))) H:=by
 constructor
 ·rintro (h | ⟨d,e,h1,h2,_,_,q⟩)
  ·exact b1G.mp h
  ·cases h1;cases h2
   rw [show decide (i=j)=Xw (.str i) (.str j) from by simp only [Xw];by_cases z:i=j<;>simp [z]];exact q
 ·exact fun q=>.inl (b1G.mpr q)
theorem a2y {i j:Int}:b3y K (.int i) (.int j) H Q↔Q (.bl (decide (i=j))) H:=by
 constructor
 ·rintro (h | ⟨d,e,h1,h2,_,_,q⟩)
  ·exact a9X.mp h
  ·cases h1;cases h2
   rw [show decide (i=j)=Xw (.int i) (.int j) from by simp only [Xw];by_cases z:i=j<;>simp [z]];exact q
 ·exact fun q=>.inl (a9X.mpr q)
theorem a7Y {i j:Str}:b3U K (.str i) (.str j) H Q↔Q (.bl (!decide (i=j))) H:=by
 constructor
 ·rintro (h | ⟨d,e,h1,h2,_,_,q⟩)
  ·exact b1y.mp h
  ·cases h1;cases h2
   rw [show decide (i=j)=Xw (.str i) (.str j) from by simp only [Xw];by_cases z:i=j<;>simp [z]];exact q
 ·exact fun q=>.inl (b1y.mpr q)
mutual
theorem a7g:∀d:PyData,Yq d=true→Xw d d=true
 | .none,_=>rfl
 | .bool b,_=>by simp [Xw]
 | .int i,_=>by simp [Xw]
 | .str x,_=>by simp [Xw]
 | .list xs,h=>by
  simp only [Xw]
  exact eqvAll_self xs (by unfold Yq at h;simpa [Xp] using (Jq.mp h).1)
 | .tuple xs,h=>by
  simp only [Xw]
  exact eqvAll_self xs (by unfold Yq at h;simpa [Xp] using (Jq.mp h).1)
 | .dict _,h=>by unfold Yq at h;simp [Xp] at h
theorem eqvAll_self:∀ds:List PyData,Zu ds=true→Wt ds ds=true
 | [],_=>rfl
 | d::ds,h=>by
  simp only [Zu,Xc] at h
  simp only [Wt,Xc]
  exact ⟨eqv_self' d h.1,eqvAll_self ds h.2⟩
theorem eqv_self':∀d:PyData,Xp d=true→Xw d d=true
 | .none,_=>rfl
 | .bool b,_=>by simp [Xw]
 | .int i,_=>by simp [Xw]
 | .str x,_=>by simp [Xw]
 | .list xs,h=>by
  simp only [Xw]
  exact eqvAll_self xs (by simpa [Xp] using h)
 | .tuple xs,h=>by
  simp only [Xw]
  exact eqvAll_self xs (by simpa [Xp] using h)
 | .dict _,h=>by simp [Xp] at h
end
theorem a6d {x y:V} {d:PyData} (h1:Den K H x d) (h2:Den K H y d) (hs:Yq d=true) (q:Q (.bl true) H):b3y K x y H Q:=.inr ⟨d,d,h1,h2,hs,hs,by rw [a7g d hs];exact q⟩
theorem a2t {x y:V} {d:PyData} (h1:Den K H x d) (h2:Den K H y d) (hs:Yq d=true) (q:Q (.bl false) H):b3U K x y H Q:=.inr ⟨d,d,h1,h2,hs,hs,by rw [a7g d hs];exact q⟩
end
section
variable {X:Cx}
theorem b9z:OpR X (compareOp .Is) c1g:=b6R
theorem a5F:MtR X "str.startswith" b1I:=a4X
theorem a2x:a1U X (.type "tuple") (b9f X.K):=by
 intro pins s σ H xs us Q I r h
 obtain ⟨p,ys,e,h⟩:=h
 exact a4T pins s σ H xs us Q I r ⟨p,ys,e,h⟩
theorem a2J:a1U X (.type "list") (a9z X.K):=a5L
mutual
theorem Den.reads {pins:List (Addr×Obj)} {σ:St} {H:Hp} {s:Shared} (I:Inv X pins σ H s):∀{x:V} {d:PyData} {u:Value},Den X.K H x d→a0O x u→∃as,Reads s.heap u d as
 | _,_,_,.non,r=>by cases r;exact ⟨_,.none⟩
 | _,_,_,.bl b,r=>by cases r;exact ⟨_,.bool b⟩
 | _,_,_,.int i,r=>by obtain ⟨t,rfl⟩:=r;exact ⟨_,.int i t⟩
 | _,_,_,.str x,r=>by obtain ⟨t,rfl⟩:=r;exact ⟨_,.str x t⟩
 | _,_,_,.lst h hs,r=>by
  cases r
  obtain ⟨its,rv,pl,_⟩:=I.list h
  obtain ⟨o,ho,hc,n,hd⟩:=pl.isList
  obtain ⟨as,ra⟩:=DenAll.reads I hs rv
  exact ⟨_,.list ho hc hd (by simpa using ra)⟩
 | _,_,_,.tup h hs,r=>by
  cases r
  obtain ⟨its,rv,pl,_⟩:=I.tuple h
  obtain ⟨o,ho,hc,n,hd⟩:=pl
  obtain ⟨as,ra⟩:=DenAll.reads I hs rv
  exact ⟨_,.tuple ho hc hd (by simpa using ra)⟩
theorem DenAll.reads {pins:List (Addr×Obj)} {σ:St} {H:Hp} {s:Shared} (I:Inv X pins σ H s):∀{xs:List V} {ds:List PyData} {us:List Value},DenAll X.K H xs ds→a0N xs us→∃as,ReadsAll s.heap us ds as
 | _,_,_,.nil,r=>by cases r;exact ⟨_,.nil⟩
 | _,_,_,.cons h hs,r=>by
  cases r with
  | cons r1 r2=>
   obtain ⟨as,ra⟩:=Den.reads I h r1
   obtain ⟨bs,rb⟩:=DenAll.reads I hs r2
   exact ⟨_,.cons ra rb⟩
end
theorem b7F (hu:X.A.units+64 < cLine):OpR X (compareOp .Eq) (c2V X.K):=by
 intro pins s σ H x y v u Q I rx ry h
 obtain ⟨d,e,h1,h2,s1,s2,q⟩:=h
 obtain ⟨as,ra⟩:=h1.reads I rx
 obtain ⟨bs,rb⟩:=h2.reads I ry
 exact eq_dataH ra rb s1 s2 hu ⟨.bl _,H,I,rfl,q⟩
theorem b6M (hu:X.A.units+64 < cLine):OpR X (compareOp .NotEq) (c3k X.K):=by
 intro pins s σ H x y v u Q I rx ry h
 obtain ⟨d,e,h1,h2,s1,s2,q⟩:=h
 obtain ⟨as,ra⟩:=h1.reads I rx
 obtain ⟨bs,rb⟩:=h2.reads I ry
 exact ne_dataH ra rb s1 s2 hu ⟨.bl _,H,I,rfl,q⟩
theorem a1e (hu:X.A.units+64 < cLine):OpR X (compareOp .Eq) (b3y X.K):=c0X.or (b7F hu)
theorem a3o (hu:X.A.units+64 < cLine):OpR X (compareOp .NotEq) (b3U X.K):=c0D.or (b6M hu)
variable {K:Qd}
theorem a9O (h:X.K=K):OpR X (binaryOp .Add) (b2C K):=h ▸ a0u
theorem b3m (h:X.K=K):OpR X (compareOp .In) (b8C K):=h ▸ a3a
theorem a7s (hu:X.A.units+64 < cLine) (h:X.K=K):OpR X (compareOp .Eq) (b3y K):=h ▸ a1e hu
theorem b4p (hu:X.A.units+64 < cLine) (h:X.K=K):OpR X (compareOp .NotEq) (b3U K):=h ▸ a3o hu
theorem a3f (h:X.K=K):IxR X (rIx K):=h ▸ a0n
end
end L2
namespace L2
open PySem PySem.Spec PyProof.Rows PySem.W
end L2
namespace L2
open PySem PySem.Spec PyProof.Rows
theorem b0l {J:It} {n:Nat} {f:Nat→V} {Ok:Hp→Prop} {js:List (Option Nat)} {te:TE} {σ:St} {H:Hp} {Q:VK} (S:Src J n f Ok) (hn:n≤sizeLine) (σr:St) (hσ:a1G js σ=none::σr) (Pr:Addr→Nat→V→Hp→Prop)
  (mono:∀D i v (H1 H2:Hp),(∀b o,b≠D→H1 b=some o→H2 b=some o)→Pr D i v H1→Pr D i v H2)
  (hOk:∀H',a0i H H'→Ok H') (hs:∀D i H' (R:V→Hp→Prop),i < n→H D=none→a0i H H'→(∃ys,H' D=some (.lst ys))→(∀v H'',a0i H' H''→Pr D i v H''→R v H'')→te (some (f i)::σr) H' R)
  (hd:∀D H' ys,H D=none→a0i H H'→H' D=some (.lst ys)→ys.length=n→(∀i v,ys[i]?=some v→Pr D i v H')→Q (.ref D) H'):a5y J js (a0l 0) b9U te σ H Q:=by
 refine a6N S hn (fun D i σ' H' ys=>(∃a,σ'=a::σr)∧a0i H H'∧H' D=some (.lst ys)∧ys.length=i∧∀j v,ys[j]?=some v→Pr D j v H') ?_ ?_ ?_ ?_
 ·intro D hD
  exact ⟨⟨none,hσ⟩,a0i.upd hD,a0d,rfl,fun j v e=>by simp at e⟩
 ·rintro D i σ' H' ys hD hi ⟨_,s,h,hl,_⟩
  exact ⟨hOk _ s,h,Vn hl⟩
 ·rintro D i σ' H' ys R hD hi ⟨⟨a,rfl⟩,s,h,hl,hp⟩ hR
  show te (some (f i)::σr) H' _
  refine hs D i H' _ hi hD s ⟨_,h⟩ fun v H'' s2 pv=>⟨s2 _ _ h,hR _ _ _ ⟨⟨_,rfl⟩,?_,a0d,by simp [hl],fun j v' e=>?_⟩⟩
  ·intro b o e
   rw [a0a (a0c e hD)]
   exact s2 b o (s b o e)
  ·have up:∀b o,b≠D→H'' b=some o→upd H'' D (.lst (ys++[v])) b=some o:=fun b o hb e=>by rw [a0a hb];exact e
   rw [Wp] at e
   split at e
   ·exact mono _ _ _ _ _ (fun b o hb e=>up b o hb (s2 b o e)) (hp j v' e)
   ·have e1:j=ys.length:=by
     have:=(Qp.mp e).1
     simp at this;omega
    subst e1
    simp at e
    subst e
    rw [hl];exact mono _ _ _ _ _ up pv
 ·rintro D σ' H' ys hD ⟨_,s,h,hl,hp⟩
  exact hd D H' ys hD s h hl hp
theorem a3Q {J:It} {n:Nat} {f:Nat→V} {Ok:Hp→Prop} {js:List (Option Nat)} {tt:TT} {te:TE} {σ:St} {H:Hp} {Q:VK} (S:Src J n f Ok) (hn:n≤sizeLine) (σr:St) (hσ:a1G js σ=none::σr) (keep:Nat→Bool) (val:Nat→V)
  (hOk:∀H',a0i H H'→Ok H') (hs:∀i H' (R:Bool→Hp→Prop),i < n→a0i H H'→(∀H'',a0i H' H''→R (keep i) H'')→tt (some (f i)::σr) H' R)
  (he:∀i H' (R:V→Hp→Prop),i < n→a0i H H'→(∀H'',a0i H' H''→R (val i) H'')→te (some (f i)::σr) H' R)
  (hd:∀D H',H D=none→a0i H H'→H' D=some (.lst (((Xs n).filter keep).map val))→Q (.ref D) H'):a5y J js (a0l 0) tt te σ H Q:=by
 refine a6N S hn (fun D i σ' H' ys=>(∃a,σ'=a::σr)∧a0i H H'∧H' D=some (.lst ys)∧ys=((Xs i).filter keep).map val) ?_ ?_ ?_ ?_
 ·intro D hD
  exact ⟨⟨none,hσ⟩,a0i.upd hD,a0d,rfl⟩
 ·rintro D i σ' H' ys hD hi ⟨_,s,h,rfl⟩
  refine ⟨hOk _ s,h,?_⟩
  rw [Qe]
  exact Qi (Qu _ _) (by simp)
 ·rintro D i σ' H' ys R hD hi ⟨⟨a,rfl⟩,s,h,rfl⟩ hR
  show tt (some (f i)::σr) H' _
  refine hs i H' _ hi s fun H2 s2=>?_
  cases hk:keep i with
  | false=>
   rw [if_neg Qn]
   refine hR _ _ _ ⟨⟨_,rfl⟩,s.trans s2,s2 _ _ h,?_⟩
   rw [Jv,Zr,Yk,hk];simp
  | true=>
   rw [if_pos rfl]
   refine he i H2 _ hi (s.trans s2) fun H3 s3=>⟨s3 _ _ (s2 _ _ h),hR _ _ _ ⟨⟨_,rfl⟩,?_,a0d,?_⟩⟩
   ·intro b o e
    rw [a0a (a0c e hD)]
    exact s3 b o (s2 b o (s b o e))
   ·rw [Jv,Zr,Yk,hk];simp
 ·rintro D σ' H' ys hD ⟨_,s,h,rfl⟩
  exact hd D H' hD s h
structure b9h (K:Qd) (C:Addr) (m:Str) (f:Addr):Prop where
 ga:Gb K (.ref C) "__getattribute__"=some (some (.builtin "type.__getattribute__"))
 rd:PySem.W.readsIn K C (.type "type")=true
 at_:PySem.W.findCls K (.ref C) (.type "type") m=some (.val (.ref f))
 kp:Ze K (.ref f)=true
structure TyI (K:Qd) (C:Addr):Prop where
 ha:Ys K (.ref C) "__class__"=some (some (.builtin "object.__class__"))
 hn:Gb K (.builtin "object.__class__") "__get__"=some (some (.builtin "getset_descriptor.__get__"))
 htk:PySem.W.takesIn K (.builtin "object.__class__")=some true
 hm:PySem.W.mroIn K C (.type "object")=some true
theorem b7a {K:Qd} {C D:Addr} {cd:ClassData} {b:Bool} (hc:PySem.W.clsIn K D=some cd) (ht:Wk K (.ref D)=some (.type "type")) (hs:Wu K (.ref C) (.ref D)=some b) (ho:Wu K (.ref C) (.ref C)=some true):
  Yo K (.ref C) (.ref D)=some b:=by
 unfold Yo
 by_cases e:(Value.ref C == Value.ref D)=true
 ·rw [if_pos e]
  have e':C=D:=by
   have:=eq_of_beq e
   injection this
  rw [←e',ho] at hs
  exact hs
 ·rw [if_neg e]
  show (if ((PySem.W.clsIn K D).isSome && Wk K (.ref D) == some (.type "type"))=true then Wu K (.ref C) (.ref D) else none)=_
  rw [hc,ht,if_pos (by simp),hs]
section
variable {X:Cx}
def c7C:R2:=fun x y H Q=>∃i j,x=.str i∧y=.str j∧Q (.bl (decide (i.cps.toList < j.cps.toList))) H
def c2L:R2:=fun x y H Q=>rI0 (fun i j=>.bl (decide (i < j))) x y H Q∨c7C x y H Q
theorem a9E:OpR X (compareOp .Lt) c2L:=c0K.or a9N
theorem a7q {i j:Int} {H:Hp} {Q:VK}:c2L (.int i) (.int j) H Q↔Q (.bl (decide (i < j))) H:=by
 constructor
 ·rintro (⟨a,b,e1,e2,q⟩ | ⟨a,b,e1,_⟩)
  ·cases e1;cases e2;exact q
  ·cases e1
 ·exact fun q=>.inl ⟨i,j,rfl,rfl,q⟩
end
section
variable {X:Cx} {o e:Expr} {es:List Expr} {apos pos:Pos} {m:Str} {C f:Addr} {fd:FuncData} {ps:List Str} {sp:Sp} {CX:CXT} {k:Nat} {E:XK} {dvs:List V} {ds:List Value} {ta:TE} {t:TA}
def b9w (t u:TE):TE:=fun σ H Q=>t σ H Q∨u σ H Q
theorem b7d {t u:TE} (h1:PE X e t) (h2:PE X e u):PE X e (b9w t u):=fun pins s σ H Q I h=>h.elim (h1 pins s σ H Q I) (h2 pins s σ H Q I)
def b3w (C:Addr) (sp:Sp) (dvs:List V) (E:XK) (ta:TE) (t:TA):TE:=fun σ H Q=>ta σ H fun x H1=>x=.ref C∧t σ H1 fun vs H2=>sp (vs++dvs) H2 Q E
theorem b3e {pl:Sem Bool} (he:PE X o ta) (hm:b9h X.K C m f) (F:a0S X.prog X.w X.K X.mg X.base CX k f fd ps sp) (hr:a2h k X.A) (hb:a0m X.K fd ps ds) (hd:a0N dvs ds) (hx:a3r CX X E) (ha:PA X (e::es) t)
  (hst:starEach (e::es) X.env=(false,eval e X.env)::starEach es X.env:=by rfl) (hpl:(backTo pos (starEach es X.env)).any (·.1)=false:=by rfl)
  (ht:eval (.Call (.Attribute o m apos) (e::es) [] pos) X.env=(do
   let ov ←eval o X.env
   standAt apos.atName
   let (f,first) ←holding [ov] (getMethod ov m pl)
   callWith pos f first (backTo pos (starEach (e::es) X.env)) (backToKw pos (keywordEach [] X.env))):=by rfl):
  PE X (.Call (.Attribute o m apos) (e::es) [] pos) (b3w C sp dvs E ta t):=by
 intro pins s σ H Q I h
 refine Uf (pl:=pl) (thn (he pins s σ H _ I h) fun u s1 ⟨x,H1,I1,rx,ex,q⟩=>?_) ht
 subst ex
 obtain rfl:u=Value.ref C:=rx
 refine PySem.W.method_cls I1.kIn hm.ga (PySem.W.cls_value I1.kIn hm.rd hm.at_ rfl ?_)
 refine Jx (first:=[]) (h₀:=X.base) I.ok.mod.kin hm.kp (thn (ha pos pins _ σ H1 _ (I1.tok _) q) fun us s2 ⟨vs,H2,I2,r,q2⟩=>⟨I2.kIn,?_⟩) hst hpl
 exact a7O (us:=us) (vs:=vs) F hr hb hd hx I2 r q2
end
end L2
namespace L2
open PySem PySem.Spec PyProof.Rows
theorem a6A {c:TT} {tb:TS} {D:a8b} {σ:St} {H:Hp} (W:Nat→St→Hp→Prop) (m0:Nat) (h0:W m0 σ H)
  (hs:∀m σ H,W m σ H→c σ H fun b H1=>if b=true then ∃N:St→Hp→Prop,(∀σ' H',N σ' H'→∃m',m' < m∧W m' σ' H')∧tb {D with nx:=N,ct:=N,bk:=D.nx} σ H1 else D.nx σ H1):b3P c tb D σ H:=⟨W,⟨m0,h0⟩,hs⟩
theorem a0Q {α β:Type} (d:α) (P:α→Bool) (g:α→β):∀ps:List α,((Xs ps.length).filter fun i=>P ((ps[i]?).getD d)).map (fun i=>g ((ps[i]?).getD d))=(ps.filter P).map g:=by
 intro ps
 have h:(Xs ps.length).map (fun i=>(ps[i]?).getD d)=ps:=by
  refine Vf fun i=>?_
  rw [Qm]
  by_cases hi:i < ps.length
  ·rw [Wv hi,Qc hi,Jg,Qc hi];rfl
  ·rw [Yr (by simp;omega),Yr (by omega)];rfl
 conv=>rhs;rw [←h]
 rw [Zh,Xi];rfl
theorem b6e (z:Str) (r:List Str):inV (.str z) (r.map V.str)=decide (z∈r):=by
 unfold inV
 rw [Xl,Yl,decide_eq_true_eq]
 constructor
 ·rintro ⟨v,hv,e⟩
  obtain ⟨l,hl,rfl⟩:=Qj.mp hv
  have e':(l == z)=true:=e
  rw [←eq_of_beq e'];exact hl
 ·intro h
  exact ⟨.str z,Qj.mpr ⟨z,h,rfl⟩,(beq_self_eq_true z:(z == z)=true)⟩
theorem b0g (qs:List Str):(qs.map V.str).all a5p=true:=by
 rw [Zc];intro v hv
 obtain ⟨l,_,rfl⟩:=Qj.mp hv;rfl
theorem a3k {K:Qd} {H:Hp} {Q:VK} {z:Str} {a:Addr} {r:List Str} (h:SqL K H a (r.map V.str)) (q:Q (.bl (decide (z∈r))) H):b8C K (.str z) (.ref a) H Q:=
 .inr ⟨a,_,rfl,.inl h,rfl,b0g _,by rw [if_neg Qn,b6e];exact q⟩
theorem none_of {H H':Hp} (s:a0i H H') {p:Addr} (h:H' p=none):H p=none:=by
 cases e:H p with
 | none=>rfl
 | some o=>rw [s _ _ e] at h;cases h
section
variable {X:Cx}
theorem b5k {K:Qd} {pos:Pos} {es:List Expr} {k:Nat} {t:TGs} {n:Nat} (hK:X.K=K) (hc:X.calm=true) (h:PGs X es t)
  (hn:(assignEach es X.env).length=n:=by rfl) (hst:(assignEach es X.env).findIdx? (·.1)=none:=by rfl):PG X (.Tuple es k pos) (b6V K n t):=hK ▸ b3v hc h hn hst
end
end L2
namespace L2
open PySem PySem.Spec PyProof.Rows PySem.W
def Ite (K:Qd) (a:Addr):It:=
 ⟨fun i H=>∃xs x,SqL K H a xs∧xs[i]?=some x,fun i H x H'=>∃p v,H p=none∧(∀xs,SqL K H a xs→xs[i]?=some v)∧x=.ref p∧H'=upd H p (.tup [.int i,v]),fun i H=>∃xs,SqL K H a xs∧xs.length≤i⟩
def b7J (K:Qd) (ta:TA):TI:=fun σ H R=>ta σ H fun vs H1=>∃a,vs=[.ref a]∧(∃xs,SqL K H1 a xs)∧R (Ite K a) H1
theorem b7b {K:Qd} {a:Addr} {xs:List V} {js:List (Option Nat)} {te:TE} {σ:St} {H:Hp} {Q:VK} (hn:xs.length≤sizeLine) (σr:St) (hσ:a1G js σ=none::none::σr) (Pr:Addr→Nat→V→Hp→Prop)
  (mono:∀D i v (H1 H2:Hp),(∀b o,b≠D→H1 b=some o→H2 b=some o)→Pr D i v H1→Pr D i v H2)
  (ha:SqL K H a xs) (hs:∀D i H' (R:V→Hp→Prop) (hi:i < xs.length),H D=none→a0i H H'→(∃ys,H' D=some (.lst ys))→(∀v H'',a0i H' H''→Pr D i v H''→R v H'')→te (some (.int i)::some xs[i]::σr) H' R)
  (hd:∀D H' ys,H D=none→a0i H H'→H' D=some (.lst ys)→ys.length=xs.length→(∀i v,ys[i]?=some v→Pr D i v H')→Q (.ref D) H'):a5y (Ite K a) js (b6V K 2 (b1m (a0l 0) (b1m (a0l 1) c0y))) b9U te σ H Q:=by
 intro D hD
 refine ⟨fun i m σ' H' ys=>m=xs.length - i∧i≤xs.length∧(∃u v,σ'=u::v::σr)∧a0i H H'∧H' D=some (.lst ys)∧ys.length=i∧∀j v,ys[j]?=some v→Pr D j v H',⟨xs.length,by simp,Xf _,⟨none,none,hσ⟩,a0i.upd hD,a0d,rfl,fun j v e=>by simp at e⟩,?_⟩
 rintro i m σ' H' ys ⟨rfl,hi,⟨u,v,rfl⟩,s,h,hl,hp⟩
 refine ⟨h,?_⟩
 by_cases hlt:i < xs.length
 ·refine .inr ⟨⟨xs,xs[i],s.seq ha,Qc hlt⟩,by omega,?_⟩
  rintro x H2 ⟨p,w,hpn,hw,rfl,rfl⟩
  have ew:w=xs[i]:=by have:=hw xs (s.seq ha);rw [Qc hlt] at this;exact (Option.some.inj this).symm
  subst ew
  obtain ⟨H3,e3,s3,h3⟩:∃H3,upd H' p (.tup [.int i,xs[i]])=H3∧a0i H' H3∧H3 p=some (.tup [.int i,xs[i]]):=⟨_,rfl,a0i.upd hpn,a0d⟩
  rw [e3]
  refine ⟨p,_,rfl,SqT.of h3,rfl,_,_,rfl,_,_,rfl,rfl,?_⟩
  unfold b9U;dsimp only
  rw [if_pos rfl]
  show te (some (.int i)::some xs[i]::σr) H3 _
  refine hs D i H3 _ hlt hD (s.trans s3) ⟨_,s3 _ _ h⟩ fun v H'' s2 pv=>⟨s2 _ _ (s3 _ _ h),xs.length - (i+1),by omega,rfl,hlt,⟨_,_,rfl⟩,?_,a0d,by simp [hl],fun j v' e=>?_⟩
  ·intro b o e
   rw [a0a (a0c e hD)];exact s2 _ _ (s3 _ _ (s b o e))
  ·have up:∀b o,b≠D→H'' b=some o→upd H'' D (.lst (ys++[v])) b=some o:=fun b o hb q=>by rw [a0a hb];exact q
   by_cases hj:j < ys.length
   ·rw [Yb hj] at e
    exact mono _ _ _ _ _ up (mono _ _ _ _ _ (fun b o _ q=>s2 _ _ (s3 _ _ q)) (hp j v' e))
   ·have hj2:=(Qp.mp e).1
    have ej:j=ys.length:=by simp at hj2;omega
    subst ej
    rw [Xz (Qk _),Vs] at e
    cases e
    rw [hl];exact mono _ _ _ _ _ up pv
 ·have e:i=xs.length:=by omega
  subst e
  exact .inl ⟨⟨xs,s.seq ha,Qk _⟩,hd D H' ys hD s h hl hp⟩
def b7o (te:TE):TE:=fun σ H Q=>∃(a:Addr) (kvs:List (Key×V)),H a=some (.dK kvs)∧te σ H fun v H1=>∃o,H1 a=some (.frz o (.dK kvs))∧Q v (upd H1 a (.dK kvs))
section
variable {X:Cx} {pins:List (Addr×Obj)} {σ:St} {H:Hp} {s:Shared} {h':Heap} {tg:Expr}
theorem Inv.turned2 {t':Nat} {e it:Addr} (I:Inv X pins σ H s) (k:∀b o,b≠e→b≠it→s.heap.get? b=some o→h'.get? b=some o) (f1:a8A X pins H e) (f2:a8A X pins H it):Inv X pins σ H {s with heap:=h',toks:=t'}:=by
 obtain ⟨a0,a1,a2,a3,a4,a5⟩:=f1
 obtain ⟨b0,b1,b2,b3,b4,b5⟩:=f2
 have ne:∀b u,H b=some u→b≠e:=fun b u q z=>by rw [z,a0] at q;cases q
 have nit:∀b u,H b=some u→b≠it:=fun b u q z=>by rw [z,b0] at q;cases q
 refine I.step (g':=s.gens) (d':=s.drawn) (ch:=[e,it]) (fun b hb=>?_) (fun b o _ _ hc q _=>k b o (fun z=>hc (by simp [z])) (fun z=>hc (by simp [z])) q) (fun b o _ _ hc q _=>⟨o.slots,k b o (fun z=>hc (by simp [z])) (fun z=>hc (by simp [z])) q⟩) (fun _ _ _ _ n=>n)
  (fun b o hc q=>⟨o,k b o (fun z=>hc (by simp [z])) (fun z=>hc (by simp [z])) q⟩) (fun _ _ q=>q) (fun _ _ _ q=>q) (fun b ps q=>⟨#[],by rw [q];simp⟩) (fun m hm=>?_) (fun b u q=>?_) I.bare
 ·rcases Qy.mp hb with z | z
  ·subst z;exact ⟨a3,a1,a4,a5⟩
  ·rw [Xg.mp z];exact ⟨b3,b1,b4,b5⟩
 ·obtain ⟨o,es,ep,ho,r⟩:=hm
  exact ⟨o,es,ep,k _ o (Ne.symm a1) (Ne.symm b1) ho,r⟩
 ·refine (I.hok b u q).stay (fun c v hc z=>k c v ?_ ?_ z) (fun _ z=>z) fun _ _ z=>z
  ·rcases hc with z | z
   ·rw [z];exact ne b u q
   ·exact ne c _ z
  ·rcases hc with z | z
   ·rw [z];exact nit b u q
   ·exact nit c _ z
theorem a9H {P:Program} {w:World} {K:Qd} {elts:List Expr} {x1:Nat} {pos:Pos} (a e it:Addr) (hei:e≠it):b5z P w K (.Tuple elts x1 pos) (Ite K a) [e,it] e (fun i h=>(∃old,IsEnum h e it i old)∧h.IsListIter it a i) where
 mem:=by simp
 obj:=fun i h st b hb=>by
  obtain ⟨⟨old,he⟩,o,e1,c,d⟩:=st
  rcases Qy.mp hb with z | z
  ·subst z;exact ⟨_,he,fun v z=>by cases z⟩
  ·rw [Xg.mp z];exact ⟨o,e1,fun v z=>by rw [d] at z;cases z⟩
 keep:=fun i h h' st k=>by
  obtain ⟨⟨old,he⟩,hit⟩:=st
  exact ⟨⟨old,k e (by simp) _ he⟩,hit.at fun o q=>k it (by simp) o q⟩
 item:=by
  intro X hP hw hK hc i pins s σ H E I hf st hg
  subst hP hw hK
  obtain ⟨⟨old,he⟩,hit⟩:=st
  obtain ⟨xs,x,hq,hx⟩:=hg
  obtain ⟨its,rv,p,hz⟩:=I.list hq
  obtain ⟨u,hu,ru⟩:=rv.get hx
  refine wpAny_pyNext_enum_item he hit p.isList (x:=u) (by simpa using hu) hei fun h' ho hit' hT hsz hk=>?_
  refine ⟨_,rfl,?_⟩
  refine wpAny_letOwnedTupleGo_enum ho fun h2 he2 hs2=>?_
  have hfr:H s.heap.objs.size=none:=I.hok.fresh (Qk _)
  have helt:e < s.heap.objs.size:=Qw he
  have hilt:it < s.heap.objs.size:=by obtain ⟨_,z,_⟩:=hit;exact Qw z
  have hL:=Xe s.heap (o:={cls:=.type "tuple",data:=.seq #[.int i s.toks,u]}) rfl
  have I1:Inv X pins σ (upd H s.heap.objs.size (.tup [.int i,x])) {s with heap:=s.heap.push {cls:=.type "tuple",data:=.seq #[.int i s.toks,u]},toks:=s.toks+1}:=
   I.laid (t':=s.toks+1) (fun b o q=>Ql _ q) (Qk _) ⟨by simp only [Qo,Qz];decide,[.int i s.toks,u],.cons ⟨_,rfl⟩ (.cons ru .nil),⟨_,hL,rfl,_,rfl⟩⟩
  have up:∀b,b < s.heap.objs.size→upd H s.heap.objs.size (.tup [.int i,x]) b=H b:=fun b hb=>a0a (Xh hb)
  have fp:∀b,b < s.heap.objs.size→a8A X pins H b→a8A X pins (upd H s.heap.objs.size (.tup [.int i,x])) b:=fun b hb ⟨c0,c1,c2,c3,c4,c5⟩=>⟨by rw [up b hb];exact c0,c1,c2,c3,c4,c5⟩
  have I2:Inv X pins σ (upd H s.heap.objs.size (.tup [.int i,x])) {s with heap:=h2,toks:=s.toks+1}:=by
   refine I1.turned2 (h':=h2) (t':=s.toks+1) (fun b o h1 h3 q=>?_) (fp e helt (hf e (by simp))) (fp it hilt (hf it (by simp)))
   rw [hs2.2 b h1]
   by_cases z:b=s.heap.objs.size
   ·subst z
    have q':(s.heap.push {cls:=.type "tuple",data:=.seq #[.int i s.toks,u]}).get? s.heap.objs.size=some o:=q
    rw [hL] at q';rw [←q'];exact hT
   ·have q':s.heap.get? b=some o:=by
     have q2:(s.heap.push {cls:=.type "tuple",data:=.seq #[.int i s.toks,u]}).get? b=some o:=q
     rw [Jj _ _ _ z] at q2;exact q2
    exact hk b o h1 h3 q'
  exact ⟨.ref s.heap.objs.size,_,I2,rfl,⟨s.heap.objs.size,x,hfr,fun ys hy=>by rw [I.list_inj hy hq];exact hx,rfl,rfl⟩,⟨⟨_,by simpa using he2⟩,hit'.at fun o y=>(hs2.2 it hei.symm).trans y⟩,fun b hb=>by
   have hb':b < s.heap.objs.size:=by
    rcases Qy.mp hb with z | z
    ·rw [z];exact helt
    ·rw [Xg.mp z];exact hilt
   rw [up b hb'];exact (hf b hb).1⟩
 done:=by
  intro X hP hw hK hc i pins s σ H E I hf st hg
  subst hP hw hK
  obtain ⟨⟨old,he⟩,hit⟩:=st
  obtain ⟨xs,hq,hx⟩:=hg
  obtain ⟨its,rv,p,hz⟩:=I.list hq
  have hl:=rv.length
  exact wpAny_pyNext_enum_end (I.ok.hd hc) he hit p.isList (by simp;omega) fun h' hk=>⟨rfl,I.turned2 (t':=s.toks) (fun b o h1 h3 q=>hk b o h3 q) (hf e (by simp)) (hf it (by simp))⟩
 self:=fun _ _ _ _ _ st h=>by
  obtain ⟨⟨old,he⟩,_⟩:=st
  exact wpAny_pyIter_enum he h
theorem a3S:bootBuiltins "enumerate"=some (.type "enumerate"):=by decide+kernel
theorem b5R {a:Expr} {ta:TA} {p pos:Pos} {elts:List Expr} {x1:Nat} {tpos:Pos} (hg:Gl X "enumerate") (hm:X.mg "enumerate"=none) (ha:PA X [a] ta) (hs:starEach [a] X.env=[(false,eval a X.env)]:=by rfl):PI X (.Tuple elts x1 tpos) (.Call (.Name "enumerate" p) [a] [] pos) (b7J X.K ta):=by
 intro pins s σ H R I h
 refine Call_ (a5R I hg hm a3S (PyProof.Rows.callWith_type1 (thn (ha pos pins s σ H _ I h) fun us s1 ⟨vs,H1,I1,r1,q1⟩=>?_) hs rfl))
 obtain ⟨l,e,⟨xs,hq⟩,q⟩:=q1
 subst e
 cases r1 with
 | cons r rr=>
  cases rr
  cases r
  obtain ⟨its,rv,pl,hz⟩:=I1.list hq
  refine call_enumerate_list pl.isList fun h' he hit hsz hk=>?_
  refine wpAny_pyIter_enum he ?_
  have I2:=I1.kept (t':=s1.toks) hk
  refine ⟨s1.heap.objs.size+1,[s1.heap.objs.size+1,s1.heap.objs.size],_,_,H1,rfl,I2,a9H l _ _ (Nat.succ_ne_self _),⟨⟨_,he⟩,hit⟩,fun b hb=>?_,q⟩
  have hb':s1.heap.objs.size≤b:=by
   rcases Qy.mp hb with z | z
   ·rw [z];exact Ji _
   ·rw [Xg.mp z];exact Qk _
  exact I1.fpOk hb' (I1.hok.fresh hb')
theorem b5e {K:Qd} {e:Expr} {ta:TE} {f:Str} {pos:Pos} (hK:X.K=K) (he:PE X e ta) (hb:attributeBase e f X.env (eval e X.env)=eval e X.env):PE X (.Attribute e f pos) (a3w K ta f):=hK ▸ b4b he hb
end
end L2
namespace L2
open PySem PySem.Spec PyProof.Rows PySem.W
section
variable {X:Cx} {pins:List (Addr×Obj)} {σ:St} {H:Hp} {s:Shared} {a:Addr} {kvs:List (Key×V)} {tg:Expr}
theorem Inv.freeze (I:Inv X pins σ H s) (e:H a=some (.dK kvs)):∃o,s.heap.get? a=some o∧Inv X pins σ (upd H a (.frz o (.dK kvs))) s:=by
 obtain ⟨z,hd,vs,rel,dd⟩:=a6K I.hok e
 obtain ⟨o,es,ep,ho,r⟩:=id dd
 exact ⟨o,ho,I.write (x:=a) (e:=a) (t':=s.toks) (h':=s.heap) (by rw [e];exact True.intro) (.inl rfl) (fun b u _ q=>q) ⟨o,ho⟩ ⟨ho,z,hd,vs,rel,dd⟩⟩
theorem Inv.thaw {o:Obj} (I:Inv X pins σ H s) (e:H a=some (.frz o (.dK kvs))) (hn:∀ob u,X.H₀ a≠some (.frz ob u)):Inv X pins σ (upd H a (.dK kvs)) s:=by
 have ne:∀b,H b=none→b≠a:=fun b q z=>by rw [z,e] at q;cases q
 refine ⟨I.ok,I.os,I.bare,⟨I.base.keep,I.base.slot,fun b ob q n hx=>?_,I.base.there,fun b xs q=>?_,fun b ob u q=>?_,fun b ps q=>?_⟩,I.loc,I.cell,?_,fun x c q=>?_,fun p hp=>?_,fun b u q=>?_,I.len⟩
 ·have:=I.base.free b ob q n hx;rw [a0a (ne b this)];exact this
 ·have:=I.base.tups b xs q;rw [a0a (a0E this e (by intro z;cases z))];exact this
 ·have:=I.base.frzs b ob u q
  by_cases z:b=a
  ·subst z;exact absurd q (hn _ _)
  ·rw [a0a z];exact this
 ·obtain ⟨m,h⟩:=I.base.tbls b ps q
  exact ⟨m,by rw [a0a (a0E h e (by intro z;cases z))];exact h⟩
 ·rw [a0a (ne _ I.free)];exact I.free
 ·rw [a0a (ne _ (I.freeC x c q))];exact I.freeC x c q
 ·obtain ⟨h1,h2,h3⟩:=I.pin p hp
  exact ⟨h1,by rw [a0a (ne _ h2)];exact h2,h3⟩
 ·have ow:∀c y,H c=some (.own y)→upd H a (.dK kvs) c=some (.own y):=fun c y r=>by rw [a0a (a0E r e (by intro z;cases z))];exact r
  have tu:∀c xs,H c=some (.tup xs)→upd H a (.dK kvs) c=some (.tup xs):=fun c xs r=>by rw [a0a (a0E r e (by intro z;cases z))];exact r
  by_cases z:b=a
  ·subst z
   rw [a0d] at q;cases q
   exact (show a1h X.prog X.w H s.heap b (.dK kvs) from (I.hok b _ e).2).stay (fun c v _ r=>r) (fun c r=>ow c _ r) tu
  ·rw [a0a z] at q
   exact (I.hok b u q).stay (fun c v _ r=>r) (fun c r=>ow c _ r) tu
theorem b5l {e:Expr} {te:TE} (he:PE X e te):PE X e (b7o te):=by
 intro pins s σ H Q I h
 obtain ⟨a,kvs,hH,h⟩:=h
 refine thn (he pins s σ H _ I h) fun v s1 ⟨x,H1,I1,r1,o,e1,q⟩=>?_
 refine ⟨x,_,I1.thaw e1 (fun ob u z=>?_),r1,q⟩
 have:=I.base.frzs a ob u z
 rw [hH] at this;cases this
end
structure b3C (K:Qd) (x qual:Str) (st:Stmt) (f:Addr) (fd:FuncData) (T:Addr) (ds:List Value):Prop where
 ex:∃(oc:Value) (od:Option Addr) (kV doc pm:Value) (an:Option Addr) (cdv ct:Value) (osl:Array (Option Value)) (oT:Obj) (nT:Nat),
  fd=Yu x qual (a1N st) (a1g st) (a0b st) (.ref T) kV doc pm an cdv ct∧K.lookup f=some ⟨oc,od,.func fd,osl⟩∧Jk K cdv qual=true∧K.lookup T=some oT∧oT.data=.seq ds.toArray nT
 kp:Ze K (.ref f)=true
section
variable {P:Program} {w:World} {K:Qd} {mg:Str→Option Value} {base:Heap}
theorem b3C.ok {x qual:Str} {st:Stmt} {f:Addr} {fd:FuncData} {T:Addr} {ds:List Value} {N ps:List Str} {k:Nat} {sp:Sp} (F:b3C K x qual st f fd T ds) (S:a0g N ps (a0b st)) (len:∀vs H Q E,sp vs H Q E→vs.length=ps.length)
  (hbody:∀(cdv:Value) (A:Around) (outer:List Env) (s:Shared) (H:Hp) (vs:List V) (Q:VK) (E:XK),a2h k (A.deeper (envOfC qual (a0b st) s.heap.objs.size f cdv))→sp vs H Q E→
   ∃t,PSs (b3D CX0 P w K mg base N qual (a0b st) f cdv A outer s H E).nox (a1g st) t∧t {nx:=fun _ H'=>Q .non H',rt:=Q} (start N vs) H):a0S P w K mg base CX0 (k+1) f fd ps sp:=by
 obtain ⟨oc,od,kV,doc,pm,an,cdv,ct,osl,oT,nT,rfl,lk,hcd,_⟩:=F.ex
 refine b4s lk hcd S len fun A outer s H vs Q E hr hsp=>?_
 obtain ⟨t,h,q⟩:=hbody cdv A outer s H vs Q E hr hsp
 exact ⟨t,h.nox,q⟩
theorem b3C.binds {x qual:Str} {st:Stmt} {f:Addr} {fd:FuncData} {T:Addr} {ds:List Value} {ps:List Str} (es:List Value) (F:b3C K x qual st f fd T ds)
  (h:∀(kV doc pm:Value) (an:Option Addr) (cdv ct:Value) (us:List Value),(us++es).length=ps.length→∃k,bindArgs (Yu x qual (a1N st) (a1g st) (a0b st) (.ref T) kV doc pm an cdv ct) ⟨us,[]⟩=seqItems? (.ref T) >>= k∧k (some ds.toArray)=pure (ps.zip (us++es))):a0m K fd ps es:=by
 obtain ⟨oc,od,kV,doc,pm,an,cdv,ct,osl,oT,nT,rfl,lk,hcd,lT,hT⟩:=F.ex
 intro s us X hl
 obtain ⟨k,h1,h2⟩:=h kV doc pm an cdv ct us hl
 exact PySem.W.binds_K X rfl lT hT h1 h2
theorem a6P {x qual:Str} {st:Stmt} {f T:Addr} {oc:Value} {od an:Option Addr} {osl:Array (Option Value)} {kV doc pm cdv ct:Value} {oT:Obj} {nT:Nat} {ds:List Value} (l:K.lookup f=some ⟨oc,od,.func (Yu x qual (a1N st) (a1g st) (a0b st) (.ref T) kV doc pm an cdv ct),osl⟩)
  (c:Jk K cdv qual=true) (k:Ze K (.ref f)=true) (lT:K.lookup T=some oT) (hT:oT.data=.seq ds.toArray nT):b3C K x qual st f (Yu x qual (a1N st) (a1g st) (a0b st) (.ref T) kV doc pm an cdv ct) T ds:=⟨⟨oc,od,kV,doc,pm,an,cdv,ct,osl,oT,nT,rfl,l,c,lT,hT⟩,k⟩
end
end L2
namespace L2
open PySem PySem.Spec PyProof.Rows PySem.W
end L2
namespace L2
open PySem PySem.Spec PyProof.Rows PySem.W
section
variable {X:Cx} {pins:List (Addr×Obj)} {σ:St} {H:Hp} {s:Shared} {a:Addr} {kvs:List (Key×V)} {k:Key} {u:Value} {A:Around} {E:Value→Shared→Prop}
theorem b8Q {z:V} {r:Value} {Q:Value→Shared→Prop} (I:Inv X pins σ H s) (e:H a=some (.dK kvs)) (ry:a0O (kV k) u) (rz:a0O z r) (hz:kvs.length < sizeLine)
  (h1:∀v w' s',a0P kvs k=some v→Inv X pins σ H s'→a0O v w'→Q w' s') (h2:a0P kvs k=none→∀s',Inv X pins σ (upd H a (.dK (a2u kvs k z))) s'→Q r s'):
  wpAny (model X.prog X.w) A (call (.builtin "dict.setdefault") [.ref a,u,r]) Q E s:=by
 obtain ⟨z0,hd,vs,rel,dd⟩:=a6K I.hok e
 refine call_meetsIn Uu dd.typeIs PySem.F.entry_dict_setdefault (PySem.F.args_dict_setdefault_3 _ _ _) (kt_meets_setdefault (a0s X.prog X.w) a (a5Q ry) hd r) ⟨vs,dd,by rw [←rel.length];exact z0,fun v hv=>?_,fun hn h' dd' hs=>?_⟩
 ·cases l:a0P kvs k with
  | none=>
   have:=a4k.none_of (o:=valueAt vs k) (by rw [←l];exact rel.val k)
   rw [this] at hv;cases hv
  | some x=>
   obtain ⟨w',hw,rw'⟩:=a4k.some_of (v:=x) (o:=valueAt vs k) (by rw [←l];exact rel.val k)
   rw [hw] at hv;cases hv
   exact h1 x _ _ l (I.tok _) rw'
 ·have l:a0P kvs k=none:=by
   cases l:a0P kvs k with
   | none=>rfl
   | some x=>
    obtain ⟨w',hw,_⟩:=a4k.some_of (v:=x) (o:=valueAt vs k) (by rw [←l];exact rel.val k)
    rw [hw] at hn;cases hn
  refine h2 l _ ?_
  have he:∃q,h'.get? a=some q:=let ⟨q,_,_,hq,_⟩:=dd';⟨q,hq⟩
  exact a4e I (by rw [e];exact True.intro) hs he (a7u (by have:=a0K kvs k z;omega) hd (rel.put k rz) dd')
end
def a7x (td ty tx:TE):TE:=fun σ H Q=>td σ H fun x H1=>∃a,x=.ref a∧IsD H1 a∧ty σ H1 fun y H2=>tx σ H2 fun z H3=>∃kvs k,H3 a=some (.dK kvs)∧y=kV k∧kvs.length < sizeLine∧
 (∀v,a0P kvs k=some v→Q v H3)∧(a0P kvs k=none→Q z (upd H3 a (.dK (a2u kvs k z))))
section
variable {X:Cx} {o e f:Expr} {apos cpos:Pos} {td ty tx:TE}
theorem b1R (ho:PE X o td) (he:PE X e ty) (hf:PE X f tx) (m:M2 X o "setdefault" apos e f cpos):PE X (.Call (.Attribute o "setdefault" apos) [e,f] [] cpos) (a7x td ty tx):=by
 intro pins s σ H Q I h
 refine wpAny_Call_method m.base m.few m.line Je Uu PySem.F.type_dict_setdefault (thn (ho pins s σ H _ I h) fun u s1 ⟨x,H1,I1,rx,a,ex,d,q1⟩=>?_)
 subst ex
 obtain rfl:u=Value.ref a:=rx
 obtain ⟨t1,t2,_⟩:=b3V I1 d
 refine ⟨t1,t2,?_⟩
 rw [m.trees]
 refine Calls.callWith_builtin rfl (Calls.evalArgs_plain (Calls.spliced_cons (thn (he pins s1 σ H1 _ I1 q1) fun iv s2 ⟨y,H2,I2,ry,q2⟩=>
  Calls.spliced_cons (thn (hf pins s2 σ H2 _ I2 q2) fun fv s3 ⟨z,H3,I3,rz,kvs,k,hH,ey,hz,q3,q4⟩=>Calls.spliced_nil ?_))))
 subst ey
 exact b8Q I3 hH ry rz hz (fun v w' s' l I' r'=>⟨v,H3,I',r',q3 v l⟩) (fun l s' I'=>⟨z,_,I',rz,q4 l⟩)
end
section
variable {α β:Type}
def TOk (n:Nat) (P:α→Prop):KasT α→Prop
 | .ret a=>P a
 | .ask i j k=>i < n∧j < n∧∀b,TOk n P (k b)
def a0T (lt:Nat→Nat→Bool):KasT α→α
 | .ret a=>a
 | .ask i j k=>a0T lt (k (lt i j))
theorem TOk.run {n:Nat} {P:α→Prop} {lt:Nat→Nat→Bool}:∀{t:KasT α},TOk n P t→P (a0T lt t)
 | .ret _,h=>h
 | .ask i j k,h=>show P (a0T lt (k (lt i j))) from TOk.run (h.2.2 (lt i j))
theorem TOk.wp {n:Nat} {P:α→Prop} {lt:Nat→Nat→Bool} {cmp:Nat→Nat→(Bool→Shared→Prop)→Shared→Prop} {Q:α→Shared→Prop} {s:Shared} (hc:∀i j C,i < n→j < n→C (lt i j) s→cmp i j C s):∀{t:KasT α},TOk n P t→Q (a0T lt t) s→t.kasWp cmp Q s
 | .ret _,_,q=>q
 | .ask i j k,h,q=>hc i j _ h.1 h.2.1 (TOk.wp hc (h.2.2 _) q)
theorem TOk.bind {n:Nat} {P:α→Prop} {R:β→Prop} {f:α→KasT β} (hf:∀a,P a→TOk n R (f a)):∀{t:KasT α},TOk n P t→TOk n R (t.bind f)
 | .ret _,h=>hf _ h
 | .ask i j k,h=>⟨h.1,h.2.1,fun b=>TOk.bind hf (h.2.2 b)⟩
end
def a0C (n:Nat) (p:Array Nat):Prop:=p.Perm (Xv (Xs n))
theorem a0C.list {n:Nat} {p:Array Nat} (h:a0C n p):p.toList.Perm (Xs n):=Array.perm_iff_toList_perm.mp h
theorem a0C.lt {n:Nat} {p:Array Nat} (h:a0C n p) (hn:0 < n) (i:Nat):p.getD i 0 < n:=by
 by_cases hi:i < p.size
 ·have h1:p[i]∈Xs n:=h.list.mem_iff.mp (by simp)
  have e:p.getD i 0=p[i]:=by simp [Jr,hi]
  rw [e];exact Zz.mp h1
 ·have e:p.getD i 0=0:=by simp [Jr,hi]
  rw [e];exact hn
theorem a0C.rev {n:Nat} {p:Array Nat} (h:a0C n p) (i j:Nat):a0C n (kas_rev p i j):=(mirror_perm _ _ _ _).trans h
theorem a0C.bub {n:Nat} {p:Array Nat} (h:a0C n p) (i j:Nat):a0C n (bubble p i j):=(bubble_perm _ _ _).trans h
section
variable {n:Nat} (hn:0 < n)
include hn
theorem b0Z {p:Array Nat} (hp:a0C n p):∀f m,TOk n (fun _=>True) (kas_asc p f m)
 | 0,m=>trivial
 | f+1,m=>⟨hp.lt hn _,hp.lt hn _,fun b=>by
   show TOk n _ (if b=true then _ else _)
   split
   ·exact trivial
   ·exact b0Z hp f (m+1)⟩
theorem a5w:∀f (p:Array Nat) m q,a0C n p→TOk n (fun r=>a0C n r.1) (kas_desc f p m q)
 | 0,p,m,q,hp=>hp
 | f+1,p,m,q,hp=>⟨hp.lt hn _,hp.lt hn _,fun b=>by
   show TOk n _ (if b=true then _ else _)
   split
   ·split
    ·exact a5w f _ _ _ (hp.rev _ _)
    ·exact a5w f _ _ _ hp
   ·refine ⟨hp.lt hn _,hp.lt hn _,fun d=>?_⟩
    show TOk n _ (if d=true then _ else _)
    split
    ·exact hp
    ·exact a5w f _ _ _ hp⟩
theorem a7c {p:Array Nat} (hp:a0C n p) (m r:Nat):TOk n (fun r=>a0C n r.2) (kas_tail3 m r p):=by
 unfold kas_tail3
 refine TOk.bind (P:=fun _=>True) (fun k _=>?_) (b0Z hn (hp.rev _ _) _ _)
 exact hp.rev 0 m
theorem a3L {p:Array Nat} (hp:a0C n p) (m r:Nat):TOk n (fun r=>a0C n r.2) (kas_descPart m r p):=TOk.bind (fun a ha=>by
 split
 ·exact a7c hn (a0C.rev ha _ _) _ _
 ·exact a7c hn ha _ _) (a5w hn _ _ _ _ hp)
theorem b1L {p:Array Nat} (hp:a0C n p) (r:Nat):TOk n (fun r=>a0C n r.2) (kas_count r p):=TOk.bind (fun a _=>by
 split
 ·exact hp
 ·split
  ·refine ⟨hp.lt hn _,hp.lt hn _,fun b=>?_⟩
   show TOk n _ (if b=true then _ else _)
   split
   ·exact hp
   ·exact a3L hn (hp.rev _ _) _ _
  ·exact a3L hn hp _ _) (b0Z hn hp _ _)
theorem a5c {p:Array Nat} (hp:a0C n p) (k:Nat):∀f l r,TOk n (fun _=>True) (kas_place p k f l r)
 | 0,l,r=>trivial
 | f+1,l,r=>by
  show TOk n _ (if l≥r then _ else _)
  split
  ·exact trivial
  ·refine ⟨hp.lt hn _,hp.lt hn _,fun b=>?_⟩
   show TOk n _ (if b=true then _ else _)
   split
   ·exact a5c hp k f _ _
   ·exact a5c hp k f _ _
theorem b3q:∀f (p:Array Nat) k,a0C n p→TOk n (a0C n) (kas_bin f p k)
 | 0,p,k,hp=>hp
 | f+1,p,k,hp=>TOk.bind (fun l _=>b3q f _ _ (hp.bub _ _)) (a5c hn hp k _ _ _)
theorem b1e:TOk n (a0C n) (kas_sort n):=TOk.bind (fun r hr=>by
 split
 ·exact b3q hn _ _ _ hr
 ·exact hr) (b1L hn (Wq.refl _) n)
end
theorem a8x (vs:List Value):(Xs vs.length).map (fun i=>vs.getD i Value.none)=vs:=by
 refine Vt (by simp) fun i h1 h2=>?_
 simp [h2]
section
variable {prog:Program} {w:World} {A:Around} {E:Value→Shared→Prop} {s:Shared}
theorem a4b {a:Addr} {vs:List Value} {n:Nat} {P:PySem.Fin→Shared→Prop} (ho:s.heap.get? a=some (seqObj "list" vs.toArray n)) (h64:vs.length < 64) (lt:Nat→Nat→Bool) (κ:SortKind)
  (hk:2≤vs.length→∀h',(∀b o,b≠a→s.heap.get? b=some o→h'.get? b=some o)→∀Q:SortKind→Shared→Prop,Q κ {s with heap:=h'}→wpAny (model prog w) A (keyKind' vs.toArray) Q (fun _ _=>False) {s with heap:=h'})
  (hask:∀h',(∀b o,b≠a→s.heap.get? b=some o→h'.get? b=some o)→∀i j C,i < vs.length→j < vs.length→C (lt i j) {s with heap:=h'}→kas_ask prog w A κ vs i j C {s with heap:=h'})
  (h:∀p:Array Nat,a0C vs.length p→(2≤vs.length→p=a0T lt (kas_sort vs.length))→P (.done (.ret .none)) {s with heap:=sortedHeap s.heap a vs (Xv (p.toList.map fun i=>vs.getD i Value.none))}):
  wpAny (model prog w) A (Builtin.«list.sort» ⟨[.ref a],[]⟩) P E s:=by
 rw [list_sort_plain]
 have ha:a < s.heap.objs.size:=Qw ho
 refine wpAny_bind (listItems_at ho rfl ?_)
 refine wpAny_bind (listUpdate_at ho rfl ?_ (by rw [Qt,sizeLine_eq];omega) (Xf _))
 obtain ⟨e1,ho1⟩:∃e1,(s.heap.update a (Obj.mapSeq fun _=>#[])).get? a=some (seqObj "list" #[] e1):=⟨_,get?_update_seq ho (fun _=>#[])⟩
 refine wpAny_bind (seqEpoch_at ho1 rfl ?_)
 refine wpAny_bind (wpAny_newTuple ?_ (by show vs.length≤_;rw [sizeLine_eq];omega))
 refine wpAny_bind (wpAny_newList ?_ (Xf _))
 refine wpAny_holding ?_
 have ho6:(((s.heap.update a (Obj.mapSeq fun _=>#[])).push (seqObj "tuple" vs.toArray 0)).push (seqObj "list" #[] 0)).get? a=some (seqObj "list" #[] e1):=by
  rw [Jj _ _ _ (by rw [size_push',Vu];exact Xh (Zi ha)),Jj _ _ _ (by rw [Vu];exact Xh ha)]
  exact ho1
 have keep:∀b o,b≠a→s.heap.get? b=some o→(((s.heap.update a (Obj.mapSeq fun _=>(#[]:Array Value))).push (seqObj "tuple" vs.toArray 0)).push (seqObj "list" #[] 0)).get? b=some o:=fun b o hb e=>by
  refine Ql _ (Ql _ ?_)
  rw [Zo _ _ _ _ hb];exact e
 show wpAny (model prog w) A _ P E {s with heap:=((s.heap.update a (Obj.mapSeq fun _=>(#[]:Array Value))).push (seqObj "tuple" vs.toArray 0)).push (seqObj "list" #[] 0)}
 dsimp only
 by_cases h2:vs.toArray.size < 2
 ·rw [if_pos h2,if_pos h2]
  refine wpAny_bind (wpAny_pure ?_)
  rw [StateT.run_pure]
  refine wpAny_bind (wpAny_pure ?_)
  dsimp only
  refine wpAny_bind (seqEpoch_at ho6 rfl ?_)
  have hz:((arrOf (SortSt.mk' general' (vs.toArray.zip vs.toArray) #[] 7 none)).map (·.2))=Xv ((Xv (Xs vs.length)).toList.map fun i=>vs.getD i Value.none):=by
   have e:=a8x vs
   show ((vs.toArray.zip vs.toArray).map (·.2))=Xv ((Xs vs.length).map fun i=>vs.getD i Value.none)
   rw [e]
   apply Vv.mp
   simp
   exact List.map_snd_zip (Qk _)
  rw [hz]
  refine wpAny_bind (listUpdate_at ho6 rfl ?_ (Xf _) (by simp only [Qt,Qe,Zj];rw [sizeLine_eq];omega))
  simp only [bne_self_eq_false,Zf,if_false]
  exact wpAny_pure (h (Xv (Xs vs.length)) (Wq.refl _) (fun z=>by rw [Qt] at h2;omega))
 ·rw [if_neg h2,if_neg h2]
  rw [Qt] at h2
  have h2':2≤vs.length:=by omega
  refine wpAny_bind (wpAny_mono (hk h2' _ keep (fun κ' s0=>κ'=κ∧s0={s with heap:=((s.heap.update a (Obj.mapSeq fun _=>(#[]:Array Value))).push (seqObj "tuple" vs.toArray 0)).push (seqObj "list" #[] 0)}) ⟨rfl,rfl⟩) (fun κ' s0 hk'=>?_) fun _ _ x=>x.elim)
  obtain ⟨rfl,rfl⟩:=hk'
  have hok:=b1e (n:=vs.length) (by omega)
  refine wpAny_bind (wpAny_mono (kat_run (Q:=fun st' s'=>∃p:Array Nat,p.size=vs.length∧arrOf st'=p.map (kas_item (vs.toArray.zip vs.toArray))∧failedOf st'=none∧p=a0T lt (kas_sort vs.length)∧s'={s with heap:=((s.heap.update a (Obj.mapSeq fun _=>(#[]:Array Value))).push (seqObj "tuple" vs.toArray 0)).push (seqObj "list" #[] 0)})
   (G:=fun p s'=>p=a0T lt (kas_sort vs.length)∧s'={s with heap:=((s.heap.update a (Obj.mapSeq fun _=>(#[]:Array Value))).push (seqObj "tuple" vs.toArray 0)).push (seqObj "list" #[] 0)})
   rfl h2' h64 (fun p' st' s' a1 a2 a3 a4=>⟨p',a1,a2,a3,a4.1,a4.2⟩) (TOk.wp (lt:=lt) (fun i j C hi hj hC=>hask _ keep i j C hi hj hC) hok ⟨rfl,rfl⟩)) ?_ fun _ _ e=>e)
  rintro ⟨⟨⟩,st'⟩ s' ⟨p,hp,har,hf,hpe,rfl⟩
  dsimp only
  have hP:a0C vs.length p:=by rw [hpe];exact hok.run
  refine wpAny_bind (seqEpoch_at ho6 rfl ?_)
  rw [kat_snds rfl har]
  refine wpAny_bind (listUpdate_at ho6 rfl ?_ (Xf _) (by simp only [Qt,Qe,Zn];rw [sizeLine_eq];omega))
  rw [hf]
  simp only [bne_self_eq_false,Zf,if_false]
  exact wpAny_pure (h p hP fun _=>hpe)
end
def b3T (K:Qd):List V→Hp→VK→Prop:=fun xs H Q=>∃(p:Addr) (ss:List Str),xs=[.ref p]∧SqL K H p (ss.map V.str)∧ss.length < 64∧∀l ss',H l=none→ss'.Perm ss→sortedS ss'=true→Q (.ref l) (upd H l (.lst (ss'.map V.str)))
def b4o:List V→Hp→VK→Prop:=fun xs H Q=>∃(p:Addr) (kvs:List (Key×V)) (ss:List Str),xs=[.ref p]∧Rd H p (.dK kvs)∧kvs.map (·.1)=ss.map Sum.inr∧ss.length < 64∧∀l ss',H l=none→ss'.Perm ss→sortedS ss'=true→Q (.ref l) (upd H l (.lst (ss'.map V.str)))
theorem a4K:∀{ss:List Str} {its:List Value},a0N (ss.map V.str) its→StrsAre its ss
 | [],_,r=>by cases r;exact .nil
 | x::ss,_,r=>by
  cases r with
  | cons h t=>obtain ⟨t0,rfl⟩:=h;exact .cons _ _ (a4K t)
theorem a4f {ss:List Str} {its:List Value} (h:StrsAre its ss):a0N (ss.map V.str) its:=by
 induction h with
 | nil=>exact .nil
 | cons x t h ih=>exact .cons ⟨t,rfl⟩ ih
section
variable {X:Cx}
theorem a8k:a1U X (.builtin "sorted") (b3T X.K):=by
 intro pins s σ H xs us Q I r h
 obtain ⟨p,ss,rfl,hq,h64,q⟩:=h
 obtain ⟨u,rfl,ru⟩:=a3y r
 cases ru
 obtain ⟨its,rv,pl,hz⟩:=I.list hq
 have hn:=rv.length
 rw [Qe] at hn
 refine sorted_strs pl.isList (a4K rv) (by omega) fun out ss' a1 a2 a3=>?_
 obtain ⟨e,he⟩:=sortedAll_at s.heap its out
 have hl:ss'.length < 64:=by rw [a2.length_eq];exact h64
 have I1:=I.laid (a:=s.heap.objs.size+1) (o:=.lst (ss'.map V.str)) (h':=sortedAll s.heap its out) (t':=s.toks) (fun _ _ q=>sortedAll_old q) (Ji _) ⟨by rw [Qe,sizeLine_eq];omega,out.toList,e,a4f a1,he⟩
 exact ⟨.ref (s.heap.objs.size+1),_,I1,rfl,q _ _ (I.hok.fresh (Ji _)) a2 a3⟩
theorem b0G {P:Program} {w:World} {z:Str} {v:Value} (h:(a0s P w).is (Sum.inr z) v=true):∃t,v=.str z t:=Value.isStrOf_shape h
theorem a3l:∀{its:List Value} {ss:List Str},its.length=ss.length→(∀(j:Nat) v,its[j]?=some v→∃z t,ss[j]?=some z∧v=.str z t)→StrsAre its ss
 | [],[],_,_=>.nil
 | [],_::_,h,_=>by simp at h
 | _::_,[],h,_=>by simp at h
 | v::its,z::ss,h,hv=>by
  obtain ⟨z',t,e1,e2⟩:=hv 0 v rfl
  cases e1
  rw [e2]
  exact .cons _ _ (a3l (by simpa using h) fun j u e=>by
   obtain ⟨a,b,c,d⟩:=hv (j+1) u (by simpa using e)
   exact ⟨a,b,by simpa using c,d⟩)
theorem b4h:∀{r:List (Key×V)} {rs:List (Key×Value)},KV r rs→∀{i:Nat} {k:Key} {x:Value},rs[i]?=some (k,x)→∃y,r[i]?=some (k,y)∧a0O y x:=by
 intro r rs h
 unfold KV at h
 induction h with
 | nil=>intro i k x e;simp at e
 | @cons p q ps qs h t ih=>
  intro i k x e
  cases i with
  | zero=>
   simp only [Qa,Option.some.injEq] at e
   subst e
   exact ⟨p.2,by simp only [Qa];rw [show (k,p.2)=p from by rw [←show p.1=k from h.1]],h.2⟩
  | succ i=>exact ih (by simpa using e)
theorem a8u (hc:X.calm=true):a1U X (.builtin "sorted") b4o:=by
 intro pins s σ H xs us Q I r h
 obtain ⟨p,kvs,ss,rfl,hq,hks,h64,q⟩:=h
 obtain ⟨u,rfl,ru⟩:=a3y r
 cases ru
 obtain ⟨z,hd,vs,rel,dd⟩:=a4l I.hok hq
 obtain ⟨ep,hat⟩:=dd.dictAt
 have hn:vs.length=ss.length:=by rw [←rel.length];have:=congrArg Yn hks;simpa using this
 refine Calls.call_function_entry kind_sorted plain_sorted entry_sorted (args_sorted1 _) ?_
 unfold Builtin.«sorted»
 refine wpAny_bind (m:=checkCount "sorted" 1 1 _) (wpAny_pure ?_)
 refine wpAny_bind (kdu_collect (A:=X.A.in1) (kdl_dict (knd:=a0s X.prog X.w) (kvs:=vs) (ep:=ep) hd) (I.ok.hd hc) hat (by rw [sizeLine_eq];omega) fun h' tk acc hk hacc=>?_)
 have hal:acc.toList.length=ss.length:=by rw [Zn];exact hacc.1.trans hn
 have hS:StrsAre acc.toList ss:=a3l hal fun j v e=>by
  obtain ⟨k,x,hx,hkv⟩:=hacc.2 j v (by rw [←Wn];exact e)
  obtain ⟨y,hy,_⟩:=b4h rel hx
  have h1:(kvs.map (·.1))[j]?=some k:=by rw [Qm,hy];rfl
  rw [hks,Qm] at h1
  cases e2:ss[j]? with
  | none=>rw [e2] at h1;cases h1
  | some z'=>
   rw [e2] at h1
   cases h1
   obtain ⟨t,ht⟩:=b0G hkv
   exact ⟨z',t,rfl,ht⟩
 refine wpAny_bind (wpAny_newList ?_ (by rw [hal,sizeLine_eq];omega))
 have hoL:(h'.push (seqObj "list" acc.toList.toArray 0)).get? h'.objs.size=some (seqObj "list" acc.toList.toArray 0):=Xe _ rfl
 refine wpAny_bind (wpAny_holding (wpAny_call_entry slot_list_sort ⟨_,hoL,rfl⟩ entry_list_sort (list_sort_treeK (s:={s with heap:=h'.push (seqObj "list" acc.toList.toArray 0),toks:=tk}) (vs:=acc.toList) strKind_oneLt hoL hS.keysOf (fun v₁ v₂ a5Y e=>keyKind_strs (by rw [←e];exact hS)) (by omega) fun st' a1 a2=>⟨_,rfl,?_⟩) (args_list_sort _)))
 refine wpAny_pure ⟨_,rfl,?_⟩
 obtain ⟨ss',b1,b2,b3⟩:=sorted_out_str hS a1 a2
 generalize (arrOf st').map (·.2)=out at b1 ⊢
 obtain ⟨e,he⟩:=sortedHeap_at (out:=out) hoL
 have hl:ss'.length < 64:=by rw [b2.length_eq];exact h64
 have I1:=I.kept (t':=tk) hk
 have I2:=I1.laid (a:=h'.objs.size) (o:=.lst (ss'.map V.str)) (h':=sortedHeap (h'.push (seqObj "list" acc.toList.toArray 0)) h'.objs.size acc.toList out) (t':=tk) (fun b o e=>by
  have hb:b < h'.objs.size:=Qw e
  rw [sortedHeap_old (Xh hb) (by rw [size_push'];exact Zi hb)]
  exact Ql _ e) (Qk _) ⟨by rw [Qe,sizeLine_eq];omega,out.toList,e,a4f b1,he⟩
 exact ⟨.ref h'.objs.size,_,I2,rfl,q _ _ (I1.hok.fresh (Qk _)) b2 b3⟩
def a1W (H:Hp):V→Int×Str
 | .ref a=>match H a with
  | some (.tup [.int i,.str z])=>(i,z)
  | _=>(0,"")
 | _=>(0,"")
def ltP (x y:Int×Str):Bool:=if x.1=y.1 then (if x.2=y.2 then false else decide (x.2.cps.toList < y.2.cps.toList)) else decide (x.1 < y.1)
theorem b1b {P:Program} {w:World} {H:Hp} {h:Heap} {a:Addr} {i:Int} {z:Str} (ok:a1h P w H h a (.tup [.int i,.str z])):∃o n t t',h.get? a=some o∧o.cls=.type "tuple"∧o.data=.seq #[.int i t,.str z t'] n:=by
 obtain ⟨_,its,rv,o,ho,hc,n,hd⟩:=ok
 cases rv with
 | cons h1 r=>
  cases r with
  | cons h2 r=>
   cases r
   obtain ⟨t,rfl⟩:=h1
   obtain ⟨t',rfl⟩:=h2
   exact ⟨o,n,t,t',ho,hc,hd⟩
theorem a6t {P:Program} {w:World} {H:Hp} {h h':Heap} (hok:∀a o,H a=some o→a1h P w H h a o) (hk:∀b o,h.get? b=some o→h'.get? b=some o):∀{ys:List V} {its:List Value},a0N ys its→(∀v∈ys,∃a i z,v=.ref a∧H a=some (.tup [.int i,.str z]))→
  ∃fs,KatTups h' its fs∧fs.length=its.length∧∀v∈fs,∃i t,v=.int i t
 | [],_,r,_=>by cases r;exact ⟨[],trivial,rfl,by simp⟩
 | y::ys,_,r,hT=>by
  cases r with
  | cons h1 r=>
   obtain ⟨fs,g1,g2,g3⟩:=a6t hok hk r fun v hv=>hT v (Qr _ hv)
   obtain ⟨a,i,z,rfl,ha⟩:=hT y Qs
   cases h1
   obtain ⟨o,n,t,t',e1,e2,e3⟩:=b1b (hok _ _ ha)
   refine ⟨.int i t::fs,KatTups.cons (hk _ _ e1) e2 e3 rfl g1,by simp [g2],fun v hv=>?_⟩
   rcases Qy.mp hv with e | e
   ·exact ⟨i,t,e⟩
   ·exact g3 v e
theorem a4g {ys:List V} {its:List Value} (r:a0N ys its):∀(l:List Nat),(∀i∈l,i < ys.length)→a0N (l.map fun i=>ys.getD i .non) (l.map fun i=>its.getD i Value.none)
 | [],_=>.nil
 | i::l,h=>by
  have hi:=h i Qs
  obtain ⟨u,hu,ru⟩:=r.get (Qc hi)
  refine .cons ?_ (a4g r l fun j hj=>h j (Qr _ hj))
  show a0O (ys.getD i .non) (its.getD i Value.none)
  rw [Xn,Qc hi,Xn,hu]
  exact ru
theorem a8f (vs:List V):(Xs vs.length).map (fun i=>vs.getD i .non)=vs:=by
 refine Vt (by simp) fun i h1 h2=>?_
 simp [h2]
theorem a3p:bootBuiltins "sorted"=some (.builtin "sorted"):=by decide+kernel
end
end L2
namespace L2
open PySem PySem.Spec PyProof.Rows PySem.W
def b9L:List V→Hp→VK→Prop:=fun xs H Q=>∃(p:Addr) (kvs:List (Key×V)),xs=[.ref p]∧Rd H p (.dK kvs)∧∀l,H l=none→Q (.ref l) (upd H l (.lst (kvs.map fun kv=>kV kv.1)))
def b3M (K:Qd):List V→Hp→VK→Prop:=fun xs H Q=>a9z K xs H Q∨b9L xs H Q
def a0U (H:Hp) (xs:List V) (pl:List (Str×Str)):Prop:=∃as:List Addr,xs=as.map V.ref∧as.length=pl.length∧∀(i:Nat) (a:Addr) (p:Str×Str),as[i]?=some a→pl[i]?=some p→H a=some (.tup [.str p.1,.str p.2])
def b1J (H:Hp) (a:Addr):Option (Str×Str):=match H a with
 | some (.tup [.str x,.str y])=>some (x,y)
 | _=>none
def c1Y (K:Qd):R2:=fun x y H Q=>∃(q l:Addr) (a b:Str) (xs:List V) (pl:List (Str×Str)),x=.ref q∧y=.ref l∧H q=some (.tup [.str a,.str b])∧SqL K H l xs∧a0U H xs pl∧(Ym a=true∧Ym b=true)∧(∀p∈pl,Ym p.1=true∧Ym p.2=true)∧Q (.bl (decide ((a,b)∈pl))) H
section
variable {X:Cx} {pos:Pos}
theorem a7e {K:Qd} {H:Hp} {a:Addr} {x y:Str} (h:H a=some (.tup [.str x,.str y])):Den K H (.ref a) (.tuple [.str x,.str y]):=.tup (SqT.of h) (.cons (.str x) (.cons (.str y) .nil))
theorem a8a {x y:Str} (h1:Ym x=true) (h2:Ym y=true):Xp (.tuple [.str x,.str y])=true:=by
 show (Xp (.str x) && (Xp (.str y) && true))=true
 rw [show Xp (.str x)=true from h1,show Xp (.str y)=true from h2];rfl
theorem b2i (x y a b:Str):Xw (.tuple [.str x,.str y]) (.tuple [.str a,.str b])=decide ((x,y)=(a,b)):=by
 have e:Xw (.tuple [.str x,.str y]) (.tuple [.str a,.str b])=(decide (x=a) && (decide (y=b) && true)):=by first | rfl | simp [Xw,Wt]
 rw [e]
 by_cases h1:x=a<;>by_cases h2:y=b<;>simp [h1,h2]
theorem b8H (hu:X.A.units+64 < cLine):OpR X (compareOp .In) (c1Y X.K):=by
 intro pins s σ H x y v u Q I rx ry h
 obtain ⟨q,l,a,b,xs,pl,rfl,rfl,hq,hl,⟨as,rfl,hal,hat⟩,hab,hpo,qq⟩:=h
 cases rx
 cases ry
 obtain ⟨its,rv,p1,hz⟩:=I.list hl
 have hits:its=as.map Value.ref:=by
  have:∀{as:List Addr} {its:List Value},a0N (as.map V.ref) its→its=as.map Value.ref:=by
   intro as
   induction as with
   | nil=>intro its r;cases r;rfl
   | cons a as ih=>
    intro its r
    cases r with
    | cons h t=>cases h;rw [ih t];rfl
  exact this rv
 subst hits
 have hpr:∀c∈as,∃p∈pl,H c=some (.tup [.str p.1,.str p.2]):=fun c hc=>by
  obtain ⟨i,hi,rfl⟩:=Jd hc
  have hi':i < pl.length:=by omega
  exact ⟨pl[i],Xd hi',hat i _ _ (Qc hi) (Qc hi')⟩
 obtain ⟨bs,rb⟩:=(a7e (K:=X.K) hq).reads I (show a0O (V.ref q) (Value.ref q) from rfl)
 refine SeqAt.in_listAt (fun w=>match w with | .ref c=>decide (b1J H c=some (a,b)) | _=>false) p1.isList (fun w hw=>?_) ⟨.bl _,H,I,rfl,?_⟩
 ·obtain ⟨c,hc,rfl⟩:=Qj.mp (show w∈as.map Value.ref by simpa using hw)
  obtain ⟨p,hp,hc2⟩:=hpr c hc
  obtain ⟨cs,rc⟩:=(a7e (K:=X.K) hc2).reads I (show a0O (V.ref c) (Value.ref c) from rfl)
  have e0:=SeqAt.eqAt_reads _ _ X.A.in1 s _ _ _ _ rc rb (a8a (hpo p hp).1 (hpo p hp).2) (a8a hab.1 hab.2) (by
   have h1:min (Yw (.tuple [.str p.1,.str p.2])) (Yw (.tuple [.str a,.str b]))≤1:=Qi (Nat.min_le_left _ _) (by simp [Yw,Zt])
   have h2:X.A.in1.units≤X.A.units+1:=by first | exact Qk _ | exact Ji _ | (simp [Around.in1])
   omega)
  rw [b2i] at e0
  have e1:(match Value.ref c with | .ref c=>decide (b1J H c=some (a,b)) | _=>false)=decide ((p.1,p.2)=(a,b)):=by
   show decide (b1J H c=some (a,b))=_
   have:b1J H c=some (p.1,p.2):=by unfold b1J;rw [hc2]
   rw [this,Xl,decide_eq_true_eq,decide_eq_true_eq,Option.some.injEq]
  rw [e1];exact e0
 ·have e2:(Xv (as.map Value.ref)).any (fun w=>match w with | .ref c=>decide (b1J H c=some (a,b)) | _=>false)=decide ((a,b)∈pl):=by
   rw [List.any_toArray,Jc,Xl,Yl,decide_eq_true_eq]
   constructor
   ·rintro ⟨c,hc,e⟩
    obtain ⟨p,hp,hc2⟩:=hpr c hc
    have e':b1J H c=some (a,b):=of_decide_eq_true e
    have:b1J H c=some (p.1,p.2):=by unfold b1J;rw [hc2]
    rw [this] at e'
    have e3:p=(a,b):=Option.some.inj e'
    rw [←e3];exact hp
   ·intro hm
    obtain ⟨i,hi,e⟩:=Jd hm
    have hi':i < as.length:=by omega
    have h1:=hat i _ _ (Qc hi') (Qc hi)
    refine ⟨as[i],Xd hi',decide_eq_true ?_⟩
    unfold b1J;rw [h1,e]
  rw [e2];exact qq
theorem b5Z {K:Qd} (hu:X.A.units+64 < cLine) (hK:X.K=K):OpR X (compareOp .In) (c1Y K):=hK ▸ b8H hu
end
def b6W (t u:TT):TT:=fun σ H Q=>t σ H Q∨u σ H Q
theorem b7c {X:Cx} {e:Expr} {t u:TT} (h1:PT X e t) (h2:PT X e u):PT X e (b6W t u):=fun pins s σ H Q I h=>h.elim (h1 pins s σ H Q I) (h2 pins s σ H Q I)
end L2
namespace L2
open PySem PySem.Spec PyProof.Rows PySem.W
end L2
namespace L2
open PySem PySem.Spec PySem.W PyProof.Rows
theorem a2a {α β:Type} {lt:Nat→Nat→Bool} {f:α→KasT β}:∀(t:KasT α),a0T lt (t.bind f)=a0T lt (f (a0T lt t))
 | .ret _=>rfl
 | .ask i j k=>a2a (k (lt i j))
theorem a6C {α:Type} {lt:Nat→Nat→Bool} {c:Prop} [Decidable c] {x y:KasT α}:a0T lt (if c then x else y)=if c then a0T lt x else a0T lt y:=by split<;>rfl
structure c0v (lt:Nat→Nat→Bool) (n:Nat):Prop where
 irr:∀i,i < n→lt i i=false
 tr:∀i j k,i < n→j < n→k < n→lt i j=true→lt j k=true→lt i k=true
 tot:∀i j,i < n→j < n→i≠j→lt i j=true∨lt j i=true
def Asc (lt:Nat→Nat→Bool) (p:Array Nat) (m:Nat):Prop:=∀i j,i < j→j < m→lt (p.getD i 0) (p.getD j 0)=true
def Dsc (lt:Nat→Nat→Bool) (p:Array Nat) (m:Nat):Prop:=∀i j,i < j→j < m→lt (p.getD j 0) (p.getD i 0)=true
theorem a4H (p:Array Nat) (i:Nat):p.getD i 0=(p[i]?).getD 0:=by
 by_cases h:i < p.size<;>simp [Jr,h]
theorem a0C.size {n:Nat} {p:Array Nat} (h:a0C n p):p.size=n:=by
 have:=Wq.size_eq h;simpa using this
theorem a0C.inj {n:Nat} {p:Array Nat} (h:a0C n p) {i j:Nat} (hi:i < n) (hj:j < n) (e:i≠j):p.getD i 0≠p.getD j 0:=by
 have nd:p.toList.Nodup:=(h.list.nodup_iff).mpr List.nodup_range
 have hs:=h.size
 rw [List.nodup_iff_pairwise_ne,Vh] at nd
 have e1:p.getD i 0=p[i]'(by omega):=by simp [Jr,show i < p.size by omega]
 have e2:p.getD j 0=p[j]'(by omega):=by simp [Jr,show j < p.size by omega]
 rw [e1,e2]
 rcases Nat.lt_or_gt_of_ne e with q | q
 ·exact nd i j (by simpa using (by omega:i < p.size)) (by simpa using (by omega:j < p.size)) q
 ·exact Ne.symm (nd j i (by simpa using (by omega:j < p.size)) (by simpa using (by omega:i < p.size)) q)
section
variable {lt:Nat→Nat→Bool} {n:Nat} (L:c0v lt n) (hn:0 < n)
include L hn
theorem c0v.flip {p:Array Nat} (hp:a0C n p) {i j:Nat} (hi:i < n) (hj:j < n) (e:i≠j) (h:lt (p.getD i 0) (p.getD j 0)=false):lt (p.getD j 0) (p.getD i 0)=true:=by
 rcases L.tot _ _ (hp.lt hn i) (hp.lt hn j) (hp.inj hi hj e) with q | q
 ·rw [h] at q;cases q
 ·exact q
theorem Asc.more {p:Array Nat} (hp:a0C n p) {m:Nat} (hm:1≤m) (a:Asc lt p m) (h:lt (p.getD (m - 1) 0) (p.getD m 0)=true):Asc lt p (m+1):=fun i j hij hj=>by
 by_cases q:j < m
 ·exact a i j hij q
 ·obtain rfl:j=m:=by omega
  by_cases r:i=j - 1
  ·rw [r];exact h
  ·exact L.tr _ _ _ (hp.lt hn _) (hp.lt hn _) (hp.lt hn _) (a i (j - 1) (by omega) (by omega)) h
theorem Dsc.more {p:Array Nat} (hp:a0C n p) {m:Nat} (hm:1≤m) (a:Dsc lt p m) (h:lt (p.getD m 0) (p.getD (m - 1) 0)=true):Dsc lt p (m+1):=fun i j hij hj=>by
 by_cases q:j < m
 ·exact a i j hij q
 ·obtain rfl:j=m:=by omega
  by_cases r:i=j - 1
  ·rw [r];exact h
  ·exact L.tr _ _ _ (hp.lt hn _) (hp.lt hn _) (hp.lt hn _) h (a i (j - 1) (by omega) (by omega))
theorem a6J {p:Array Nat} (hp:a0C n p):∀f m,1≤m→m+f≤n→Asc lt p m→
  m≤a0T lt (kas_asc p f m)∧a0T lt (kas_asc p f m)≤m+f∧Asc lt p (a0T lt (kas_asc p f m))∧(a0T lt (kas_asc p f m) < m+f→lt (p.getD (a0T lt (kas_asc p f m)) 0) (p.getD (a0T lt (kas_asc p f m) - 1) 0)=true)
 | 0,m,h1,hf,a=>⟨Qk _,Qk _,a,fun z=>absurd z (Zl _)⟩
 | f+1,m,h1,hf,a=>by
  have e:a0T lt (kas_asc p (f+1) m)=if lt (p.getD m 0) (p.getD (m - 1) 0)=true then m else a0T lt (kas_asc p f (m+1)):=by
   show a0T lt (if lt (p.getD m 0) (p.getD (m - 1) 0)=true then .ret m else kas_asc p f (m+1))=_
   rw [a6C];rfl
  rw [e]
  by_cases c:lt (p.getD m 0) (p.getD (m - 1) 0)=true
  ·rw [if_pos c];exact ⟨Qk _,by omega,a,fun _=>c⟩
  ·rw [if_neg c]
   have a':Asc lt p (m+1):=Asc.more L hn hp h1 a (L.flip hn hp (by omega) (by omega) (by omega) (by simpa using c))
   obtain ⟨x1,x2,x3,x4⟩:=a6J hp f (m+1) (by omega) (by omega) a'
   exact ⟨by omega,by omega,x3,fun z=>x4 (by omega)⟩
theorem a7A {p:Array Nat} (hp:a0C n p):∀f m,1≤m→m+f≤n→Dsc lt p m→∃r,a0T lt (kas_desc f p m 0)=(p,r,0)∧m≤r∧r≤m+f∧Dsc lt p r
 | 0,m,h1,hf,a=>⟨m,rfl,Qk _,Qk _,a⟩
 | f+1,m,h1,hf,a=>by
  have e:a0T lt (kas_desc (f+1) p m 0)=if lt (p.getD m 0) (p.getD (m - 1) 0)=true then a0T lt (kas_desc f p (m+1) 0) else
    a0T lt (if lt (p.getD (m - 1) 0) (p.getD m 0)=true then KasT.ret (p,m,0) else kas_desc f p (m+1) (0+1)):=by
   show a0T lt (if lt (p.getD m 0) (p.getD (m - 1) 0)=true then (if 0 > 0 then _ else kas_desc f p (m+1) 0) else _)=_
   rw [a6C];rfl
  rw [e]
  by_cases c:lt (p.getD m 0) (p.getD (m - 1) 0)=true
  ·rw [if_pos c]
   obtain ⟨r,x1,x2,x3,x4⟩:=a7A hp f (m+1) (by omega) (by omega) (Dsc.more L hn hp h1 a c)
   exact ⟨r,x1,by omega,by omega,x4⟩
  ·rw [if_neg c,if_pos (L.flip hn hp (by omega) (by omega) (by omega) (by simpa using c))]
   exact ⟨m,rfl,Qk _,by omega,a⟩
omit L hn in
theorem b0h {p:Array Nat} {m:Nat} (hm:m≤p.size) {i:Nat} (hi:i < m):(kas_rev p 0 m).getD i 0=p.getD (m - 1 - i) 0:=by
 rw [a4H,a4H]
 unfold kas_rev
 rw [getElem?_mirror_all hm,if_pos ⟨Xf _,hi⟩]
 simp
theorem b1F {p:Array Nat} (hp:a0C n p) {m:Nat} (h1:1≤m) (hm:m≤n) (a:Dsc lt p m):
  a0C n (a0T lt (kas_tail3 m n p)).2∧m≤(a0T lt (kas_tail3 m n p)).1∧(a0T lt (kas_tail3 m n p)).1≤n∧Asc lt (a0T lt (kas_tail3 m n p)).2 (a0T lt (kas_tail3 m n p)).1:=by
 have hs:=hp.size
 have e:a0T lt (kas_tail3 m n p)=(a0T lt (kas_asc (kas_rev p 0 m) (n - m) m),kas_rev p 0 m):=by
  unfold kas_tail3;rw [a2a];rfl
 rw [e]
 have a':Asc lt (kas_rev p 0 m) m:=fun i j hij hj=>by
  rw [b0h (by omega) (by omega),b0h (by omega) hj]
  exact a _ _ (by omega) (by omega)
 obtain ⟨x1,x2,x3,_⟩:=a6J L hn (hp.rev 0 m) (n - m) m h1 (by omega) a'
 exact ⟨hp.rev 0 m,x1,by omega,x3⟩
theorem a6c {p:Array Nat} (hp:a0C n p) {m:Nat} (h1:1≤m) (hm:m+1≤n) (a:Dsc lt p (m+1)):
  a0C n (a0T lt (kas_descPart m n p)).2∧1≤(a0T lt (kas_descPart m n p)).1∧(a0T lt (kas_descPart m n p)).1≤n∧Asc lt (a0T lt (kas_descPart m n p)).2 (a0T lt (kas_descPart m n p)).1:=by
 obtain ⟨r,x1,x2,x3,x4⟩:=a7A L hn hp (n - (m+1)) (m+1) (by omega) (by omega) a
 have e:a0T lt (kas_descPart m n p)=a0T lt (kas_tail3 r n p):=by
  unfold kas_descPart;rw [a2a,x1];rfl
 rw [e]
 obtain ⟨y1,y2,y3,y4⟩:=b1F L hn hp (m:=r) (by omega) (by omega) x4
 exact ⟨y1,by omega,y3,y4⟩
theorem a8Z {p:Array Nat} (hp:a0C n p):
  a0C n (a0T lt (kas_count n p)).2∧1≤(a0T lt (kas_count n p)).1∧(a0T lt (kas_count n p)).1≤n∧Asc lt (a0T lt (kas_count n p)).2 (a0T lt (kas_count n p)).1:=by
 obtain ⟨x1,x2,x3,x4⟩:=a6J L hn hp (n - 1) 1 (Qk _) (by omega) (fun i j hij hj=>by omega)
 unfold kas_count
 rw [a2a]
 generalize a0T lt (kas_asc p (n - 1) 1)=m at x1 x2 x3 x4 ⊢
 by_cases c:(m == n)=true
 ·rw [if_pos c];exact ⟨hp,x1,by have:=beq_iff_eq.mp c;show m≤n;omega,x3⟩
 ·have hmn:m≠n:=fun z=>c (beq_iff_eq.mpr z)
  rw [if_neg c]
  by_cases d:m > 1
  ·rw [if_pos d]
   show a0C n (a0T lt (if lt (p.getD 0 0) (p.getD (m - 1) 0)=true then .ret (m,p) else kas_descPart m n (kas_rev p 0 m))).2∧1≤(a0T lt (if lt (p.getD 0 0) (p.getD (m - 1) 0)=true then .ret (m,p) else kas_descPart m n (kas_rev p 0 m))).1∧(a0T lt (if lt (p.getD 0 0) (p.getD (m - 1) 0)=true then .ret (m,p) else kas_descPart m n (kas_rev p 0 m))).1≤n∧Asc lt (a0T lt (if lt (p.getD 0 0) (p.getD (m - 1) 0)=true then .ret (m,p) else kas_descPart m n (kas_rev p 0 m))).2 (a0T lt (if lt (p.getD 0 0) (p.getD (m - 1) 0)=true then .ret (m,p) else kas_descPart m n (kas_rev p 0 m))).1
   rw [if_pos (x3 0 (m - 1) (by omega) (by omega))]
   exact ⟨hp,x1,by show m≤n;omega,x3⟩
  ·rw [if_neg d]
   obtain rfl:m=1:=by omega
   exact a6c L hn hp (Qk _) (by omega) (fun i j hij hj=>by
    obtain rfl:j=1:=by omega
    obtain rfl:i=0:=by omega
    exact x4 (by omega))
theorem a3Z {p:Array Nat} (hp:a0C n p) {k:Nat} (hk:k < n) (a:Asc lt p k):∀f l r,r - l≤f→l≤r→r≤k→(∀i,i < l→lt (p.getD i 0) (p.getD k 0)=true)→(∀i,r≤i→i < k→lt (p.getD k 0) (p.getD i 0)=true)→
  a0T lt (kas_place p k f l r)≤k∧(∀i,i < a0T lt (kas_place p k f l r)→lt (p.getD i 0) (p.getD k 0)=true)∧∀i,a0T lt (kas_place p k f l r)≤i→i < k→lt (p.getD k 0) (p.getD i 0)=true
 | 0,l,r,hf,hl,hr,h1,h2=>⟨by show l≤k;omega,h1,fun i x y=>h2 i (by have:l≤i:=x;omega) y⟩
 | f+1,l,r,hf,hl,hr,h1,h2=>by
  by_cases c:l≥r
  ·have e:a0T lt (kas_place p k (f+1) l r)=l:=by unfold kas_place;rw [if_pos c];rfl
   rw [e]
   exact ⟨by omega,h1,fun i x y=>h2 i (by omega) y⟩
  ·have e:a0T lt (kas_place p k (f+1) l r)=if lt (p.getD k 0) (p.getD ((l+r) / 2) 0)=true then a0T lt (kas_place p k f l ((l+r) / 2)) else a0T lt (kas_place p k f ((l+r) / 2+1) r):=by
    rw [kas_place,if_neg c]
    show a0T lt (if lt (p.getD k 0) (p.getD ((l+r) / 2) 0)=true then _ else _)=_
    rw [a6C]
   rw [e]
   by_cases d:lt (p.getD k 0) (p.getD ((l+r) / 2) 0)=true
   ·rw [if_pos d]
    refine a3Z hp hk a f l ((l+r) / 2) (by omega) (by omega) (by omega) h1 fun i x y=>?_
    by_cases q:i=(l+r) / 2
    ·rw [q];exact d
    ·exact L.tr _ _ _ (hp.lt hn _) (hp.lt hn _) (hp.lt hn _) d (a _ _ (by omega) y)
   ·rw [if_neg d]
    have d':=L.flip hn hp (by omega) (by omega) (by omega) (show lt (p.getD k 0) (p.getD ((l+r) / 2) 0)=false by simpa using d)
    refine a3Z hp hk a f ((l+r) / 2+1) r (by omega) (by omega) hr (fun i x=>?_) h2
    by_cases q:i=(l+r) / 2
    ·rw [q];exact d'
    ·exact L.tr _ _ _ (hp.lt hn _) (hp.lt hn _) (hp.lt hn _) (a _ _ (by omega) (by omega)) d'
omit L hn in
theorem b0y {p:Array Nat} {k l:Nat} (hk:k < p.size) (hl:l≤k) (i:Nat):(bubble p k (k - l)).getD i 0=if i=l then p.getD k 0 else if l < i∧i≤k then p.getD (i - 1) 0 else p.getD i 0:=by
 rw [a4H,getElem?_bubble hk _ (by omega),show k - (k - l)=l by omega,a4H p k,a4H p (i - 1),a4H p i]
 by_cases h1:i=l
 ·rw [if_pos h1,if_pos h1]
 ·rw [if_neg h1,if_neg h1]
  by_cases h2:l < i∧i≤k
  ·rw [if_pos h2,if_pos h2]
  ·rw [if_neg h2,if_neg h2]
theorem b0m:∀f (p:Array Nat) k,a0C n p→1≤k→k+f≤n→Asc lt p k→a0C n (a0T lt (kas_bin f p k))∧Asc lt (a0T lt (kas_bin f p k)) (k+f)
 | 0,p,k,hp,_,_,a=>⟨hp,a⟩
 | f+1,p,k,hp,h1,hf,a=>by
  have e:a0T lt (kas_bin (f+1) p k)=a0T lt (kas_bin f (bubble p k (k - a0T lt (kas_place p k k 0 k))) (k+1)):=by
   rw [kas_bin,a2a]
  rw [e]
  obtain ⟨x1,x2,x3⟩:=a3Z L hn hp (k:=k) (by omega) a k 0 k (by omega) (by omega) (Qk _) (fun i z=>by omega) (fun i z y=>by omega)
  generalize a0T lt (kas_place p k k 0 k)=l at x1 x2 x3 ⊢
  have hs:=hp.size
  have a':Asc lt (bubble p k (k - l)) (k+1):=fun i j hij hj=>by
   rw [b0y (by omega) x1,b0y (by omega) x1]
   by_cases i1:i=l
   ·rw [if_pos i1,if_neg (by omega),if_pos (by omega)]
    exact x3 _ (by omega) (by omega)
   ·rw [if_neg i1]
    by_cases i2:l < i∧i≤k
    ·rw [if_pos i2,if_neg (by omega),if_pos (by omega)]
     exact a _ _ (by omega) (by omega)
    ·rw [if_neg i2]
     by_cases j1:j=l
     ·rw [if_pos j1];exact x2 _ (by omega)
     ·rw [if_neg j1]
      by_cases j2:l < j∧j≤k
      ·rw [if_pos j2]
       by_cases q:i=j - 1
       ·omega
       ·exact a _ _ (by omega) (by omega)
      ·rw [if_neg j2];exact a _ _ hij (by omega)
  obtain ⟨y1,y2⟩:=b0m f _ (k+1) (hp.bub k (k - l)) (by omega) (by omega) a'
  exact ⟨y1,fun i j hij hj=>y2 i j hij (by omega)⟩
theorem a7E:Asc lt (a0T lt (kas_sort n)) n:=by
 unfold kas_sort
 rw [a2a]
 obtain ⟨x1,x2,x3,x4⟩:=a8Z L hn (p:=Xv (Xs n)) (Wq.refl _)
 generalize a0T lt (kas_count n (Xv (Xs n)))=r at x1 x2 x3 x4 ⊢
 by_cases c:r.1 < n
 ·rw [if_pos c]
  have hm:max r.1 1=r.1:=by omega
  rw [hm]
  have:=(b0m L hn (n - r.1) r.2 r.1 x1 x2 (by omega) x4).2
  exact fun i j hij hj=>this i j hij (by omega)
 ·rw [if_neg c]
  exact fun i j hij hj=>x4 i j hij (by omega)
end
theorem b8U (a b:List Nat) (h:a≠b):a < b∨b < a:=by
 by_cases q:a < b
 ·exact .inl q
 ·have:=List.not_lt.mp q
  rcases List.le_iff_lt_or_eq.mp this with r | r
  ·exact .inr r
  ·exact absurd r.symm h
theorem a9u (x:Int×Str):ltP x x=false:=by simp [ltP]
theorem a6y (x y:Int×Str):ltP x y=true↔x.1 < y.1∨(x.1=y.1∧x.2.cps.toList < y.2.cps.toList):=by
 unfold ltP
 by_cases h1:x.1=y.1
 ·rw [if_pos h1]
  by_cases h2:x.2=y.2
  ·rw [if_pos h2,h2]
   constructor
   ·intro z;cases z
   ·intro z
    rcases z with z | ⟨_,z⟩
    ·omega
    ·exact absurd z (List.lt_irrefl _)
  ·rw [if_neg h2,decide_eq_true_iff]
   constructor
   ·exact fun z=>.inr ⟨h1,z⟩
   ·intro z
    rcases z with z | ⟨_,z⟩
    ·omega
    ·exact z
 ·rw [if_neg h1,decide_eq_true_iff]
  constructor
  ·exact .inl
  ·intro z
   rcases z with z | ⟨z,_⟩
   ·exact z
   ·exact absurd z h1
theorem b3A {x y z:Int×Str} (a:ltP x y=true) (b:ltP y z=true):ltP x z=true:=by
 rw [a6y] at a b ⊢
 rcases a with a | ⟨a,a'⟩<;>rcases b with b | ⟨b,b'⟩
 ·exact .inl (by omega)
 ·exact .inl (by omega)
 ·exact .inl (by omega)
 ·exact .inr ⟨by omega,List.lt_trans a' b'⟩
theorem a9t {x y:Int×Str} (h:x≠y):ltP x y=true∨ltP y x=true:=by
 rw [a6y,a6y]
 rcases Int.lt_trichotomy x.1 y.1 with q | q | q
 ·exact .inl (.inl q)
 ·have hn:x.2.cps.toList≠y.2.cps.toList:=fun z=>h (by
   obtain ⟨x1,⟨x2⟩⟩:=x
   obtain ⟨y1,⟨y2⟩⟩:=y
   have z':x2=y2:=Vv.mp z
   have q':x1=y1:=q
   rw [z',q'])
  rcases b8U _ _ hn with r | r
  ·exact .inl (.inr ⟨q,r⟩)
  ·exact .inr (.inr ⟨q.symm,r⟩)
 ·exact .inr (.inl q)
def a6e (K:Qd) (cv:Value):Option Addr:=
 match cv with
 | .ref c=>match K.lookup c with
  | some o=>match o.cls,o.data with
   | .type n,.fields vs=>match (vs[11]?:Option Value),vs.getD 18 .none,vs.getD 7 .none,vs.getD 9 .none,vs.getD 10 .none with
    | some (Value.ref P),Value.str _ _,Value.int _ _,Value.bool _,Value.int _ _=>if (n == "code" && c != P)=true then some P else none
    | _,_,_,_,_=>none
   | _,_=>none
  | none=>none
 | _=>none
theorem a9S {K:Qd} {h:Heap} {cv:Value} {T:Addr} (X:K.In h) (e:a6e K cv=some T):∃c,cv=.ref c∧CodeHd h c T:=by
 unfold a6e at e
 split at e
 ·rename_i c
  split at e
  ·rename_i o ho
   split at e
   ·rename_i n vs hcl hd
    split at e
    ·rename_i P file tf flags tg inF text tt e11 e18 e7 e9 e10
     split at e
     ·rename_i hc
      cases e
      rw [Xc] at hc
      have h1:n="code":=by simpa using hc.1
      have h2:c≠T:=by simpa using hc.2
      refine ⟨c,rfl,o,vs,_,_,_,_,_,_,_,X _ _ ho,by rw [hcl,h1],hd,e11,?_,e18,e7,e9,e10,h2⟩
      have e11':vs.getD 11 Value.none=(vs[11]?).getD Value.none:=by
       by_cases q:11 < vs.size<;>simp [Jr,q]
      rw [e11',e11];rfl
     ·cases e
    ·cases e
   ·cases e
  ·cases e
 ·cases e
def b8o (K:Qd) (bm:Addr):Bool:=bm != builtinsNs && (match K.lookup bm with
 | some o=>(match o.cls,o.dict,o.data with
  | .type t,some d,.plain=>t == "module" && d == builtinsNs
  | _,_,_=>false)
 | none=>false)
structure c0u (K:Qd) (mg:Str→Option Value):Prop where
 ex:∃bm o,mg "__builtins__"=some (.ref bm)∧bm≠builtinsNs∧K.lookup bm=some o∧o.cls=.type "module"∧o.dict=some builtinsNs∧o.data=.plain
theorem b5K {K:Qd} {mg:Str→Option Value} {bm:Addr} (e:mg "__builtins__"=some (.ref bm)) (h:b8o K bm=true):c0u K mg:=by
 unfold b8o at h
 rw [Xc] at h
 obtain ⟨h1,h2⟩:=h
 split at h2
 ·rename_i o ho
  split at h2
  ·rename_i t d e1 e2 e3
   rw [Xc] at h2
   exact ⟨bm,o,e,by simpa using h1,ho,by rw [e1];simpa using h2.1,by rw [e2];simpa using h2.2,e3⟩
  ·cases h2
 ·cases h2
def a2w (H:Hp) (q:Str) (cv:Value):Prop:=∃c' o vs t,cv=.ref c'∧H c'=some (.frz o (.own c'))∧o.data=.fields vs∧vs[1]?=some (.str q t)
def a4j (T:Addr) (q:Str) (H:Hp):Prop:=∃ps,H T=some (.tbl ps)∧TriplesOk ps.toList∧∀pos cv,codeAmong pos ps.toList=some cv→a2w H q cv
abbrev Ex (H H':Hp):Prop:=∀a o,H a=some o→H' a=some o
theorem a4j.start {T:Addr} {q:Str} {H:Hp} (h:H T=some (.tbl #[])):a4j T q H:=⟨#[],h,trivial,fun pos cv e=>by simp [codeAmong] at e⟩
theorem a2w.mono {q:Str} {cv:Value} {H H':Hp} (h:a2w H q cv) (k:Ex H H'):a2w H' q cv:=let ⟨c',o,vs,t,a,b,r⟩:=h;⟨c',o,vs,t,a,k _ _ b,r⟩
theorem a4j.mono {T:Addr} {q:Str} {H H':Hp} (h:a4j T q H) (k:Ex H H'):a4j T q H':=let ⟨ps,a,b,c⟩:=h;⟨ps,k _ _ a,b,fun pos cv e=>(c pos cv e).mono k⟩
theorem a5f {pos:Pos} {a b:Int} {c cv:Value}:∀(l:List Value),TriplesOk l→codeAmong pos (l++[rawInt a,rawInt b,c])=some cv→codeAmong pos l=some cv∨cv=c:=by
 intro l
 fun_induction TriplesOk l with
 | case1=>
  intro _ e
  right
  simp only [Uk,codeAmong,rawInt] at e
  split at e
  ·cases e;rfl
  ·cases e
 | case2 x t y u z a5Y ih=>
  intro h e
  simp only [Jp,codeAmong] at e ⊢
  split at e
  ·rename_i hc;rw [if_pos hc];exact .inl e
  ·rename_i hc;rw [if_neg hc];exact ih h e
 | case3 l h1 h2=>intro h _;exact h.elim
section
variable {X:Cx} {pins:List (Addr×Obj)} {σ:St} {H:Hp} {s:Shared}
structure b6A (X:Cx) (pins:List (Addr×Obj)) (a:Addr):Prop where
 s0:X.s₀.heap.objs.size≤a
 loc:a≠X.env.locals
 cell:∀x c,X.env.cells.lookup x=some c→c≠a
 pin:∀p∈X.pn++pins,p.1≠a
 fs:a∉X.fs
theorem Inv.mine (I:Inv X pins σ H s) {a:Addr} (h:s.heap.objs.size≤a):b6A X pins a:=
 ⟨Qi I.sz h,Uh (Xb I.lt h),fun x c e z=>by
  obtain ⟨v,q⟩:=I.cell x c e
  exact absurd (Xb q.lt h) (by rw [z];exact Zl _),fun p hp z=>by
  obtain ⟨e,_⟩:=I.pin p hp
  exact absurd (Xb (Qw e) h) (by rw [z];exact Zl _),I.nofs h⟩
theorem Inv.adopt {t':Nat} {a:Addr} {o:HO} {h':Heap} (I:Inv X pins σ H s) (hn:H a=none) (hm:b6A X pins a) (k:∀b u,b≠a→s.heap.get? b=some u→h'.get? b=some u)
  (new:a1h X.prog X.w (upd H a o) h' a o):Inv X pins σ (upd H a o) {s with heap:=h',toks:=t'}:=by
 have na:∀b u,H b=some u→b≠a:=fun b u e z=>by rw [z,hn] at e;cases e
 refine I.step (g':=s.gens) (d':=s.drawn) (ch:=[a]) (fun b hb=>?_) (fun b o _ _ hc e _=>k b o (fun z=>hc (by simp [z])) e) (fun b o _ _ hc e _=>⟨o.slots,k b o (fun z=>hc (by simp [z])) e⟩)
  (fun b _ hc _ n=>by rw [a0a (fun z=>hc (by simp [z]))];exact n) (fun b o hc e=>⟨o,k b o (fun z=>hc (by simp [z])) e⟩) (fun b _ e=>by rw [a0a (na b _ e)];exact e) (fun b _ _ e=>by rw [a0a (na b _ e)];exact e)
  (fun b ps e=>⟨#[],by rw [a0a (na b _ e),e];simp⟩) (fun m hm'=>?_) (fun b u e=>?_) I.bare
 ·have e:b=a:=by simpa using hb
  subst e
  exact ⟨.inr hm.s0,hm.loc,hm.cell,hm.pin⟩
 ·obtain ⟨ob,es,ep,ho,r⟩:=hm'
  exact ⟨ob,es,ep,k _ ob (Ne.symm hm.loc) ho,r⟩
 ·by_cases hb:b=a
  ·subst hb;rw [a0d] at e;cases e;exact new
  ·rw [a0a hb] at e
   refine (I.hok b u e).stay (fun c v hc q=>k c v ?_ q) (fun c q=>by rw [a0a (na c _ q)];exact q) fun c xs q=>by rw [a0a (na c _ q)];exact q
   rcases hc with z | z
   ·rw [z];exact hb
   ·exact na c _ z
theorem b3j {args:Arguments} {body:Expr} {scope:Scope} {pos:Pos} {Nc:List Str} {js:List (Option Nat)} {T:Addr} {q:Str} {Q:Value→Shared→Prop} (I:Inv X pins σ H s) (hcb:a6e X.K X.env.code=some T) (hbk:c0u X.K X.mg) (ok:a3q X Nc js scope)
  (hq:X.env.qual++"<lambda>"=q) (hdef:defaultsOf args X.env=([],[])) (lt:a4j T q H)
  (h:∀(f:Addr) (pm cv ctv:Value) (H':Hp) (s':Shared),Inv X pins σ H' s'→a4j T q H'→(∀a o,a≠T→H a=some o→H' a=some o)→a2w H' q cv→H' f=none→b6A X pins f→
   s'.heap.get? f=some {cls:=.type "function",data:=.func (kla_fn "<lambda>" q args body scope (a2e X.env scope.names []) pm cv ctv)}→Q (.ref f) s'):
  wpAny (model X.prog X.w) X.A (eval (.Lambda args body scope pos) X.env) Q X.xe s:=by
 obtain ⟨ps,hT,htr,hcs⟩:=lt
 obtain ⟨c,hcode,C⟩:=a9S I.kIn hcb
 have hP:s.heap.get? T=some (tabObj ps):=I.hok T _ hT
 have hTs:T < s.heap.objs.size:=Qw hP
 have hfr:∀y∈scope.names,y.2=NameKind.free→∃c,X.env.cells.lookup y.1=some c:=fun y hy e=>I.ok.has y.1 (ok.free y hy e)
 have hcl:=a1I hfr
 have hg:s.heap.Ns mainGlobals X.mg:=I.ok.mod.glob.keeps I.bk
 obtain ⟨bm,ob,b1,b2,b3,b4,b5,b6⟩:=hbk.ex
 have hbo:=I.kIn _ _ b3
 have hgP:mainGlobals≠T:=fun z=>by
  obtain ⟨o,es,ep,e,hd,_⟩:=hg
  rw [z,hP] at e;cases e;cases hd
 have hbG:bm≠mainGlobals:=fun z=>by
  obtain ⟨o,es,ep,e,hd,_⟩:=hg
  rw [z,e] at hbo;cases hbo;rw [hd] at b6;cases b6
 have hbT:bm≠T:=fun z=>by rw [z,hP] at hbo;cases hbo;cases b4
 rw [arm_eval_Lambda,hdef]
 refine wpAny_bind (PyProof.Rows.evalAll_nil ?_)
 refine wpAny_bind (wpAny_holding (wpAny_pure ?_))
 rw [hq]
 cases hnf:codeAmong pos ps.toList with
 | none=>
  refine kla_makeFunction (mg:=X.mg) hcl I.ok.glob hg hcode C hP htr hnf hgP ⟨bm,ob,b1,b2,hbG,hbT,hbo,b4,b5,b6⟩ fun c' ctv h' tk hx hge hlt hrec htb=>?_
  obtain ⟨c₂,oc,vs,t,e2,hoc,hd,hv⟩:=hrec
  cases e2
  have hcn:H c'=none:=I.hok.fresh hge
  have hcT:c'≠T:=Uh (Xb hTs hge)
  have nT:∀b u,H b=some u→(∀ps,u≠.tbl ps)→b≠T:=fun b u e n z=>by rw [z,hT] at e;cases e;exact n _ rfl
  have nc:∀b u,H b=some u→b≠c':=fun b u e z=>by rw [z,hcn] at e;cases e
  have hk:∀b o,b≠T→s.heap.get? b=some o→(h'.push (kla_obj "<lambda>" q args body scope (a2e X.env scope.names []) ((X.mg "__name__").getD .none) c' ctv)).get? b=some o:=fun b o hb e=>Ql _ (hx b o hb e)
  have hTn:=Ql (kla_obj "<lambda>" q args body scope (a2e X.env scope.names []) ((X.mg "__name__").getD .none) c' ctv) htb
  have hHT:upd (upd H T (.tbl (ps++#[rawInt pos.line,rawInt pos.col,.ref c']))) c' (.frz oc (.own c')) T=some (.tbl (ps++#[rawInt pos.line,rawInt pos.col,.ref c'])):=by rw [a0a hcT.symm,a0d]
  have hHo:∀b,b≠T→b≠c'→upd (upd H T (.tbl (ps++#[rawInt pos.line,rawInt pos.col,.ref c']))) c' (.frz oc (.own c')) b=H b:=fun b n1 n2=>by rw [a0a n2,a0a n1]
  have hu:Un X.fs [] H (upd (upd H T (.tbl (ps++#[rawInt pos.line,rawInt pos.col,.ref c']))) c' (.frz oc (.own c'))) s.heap (h'.push (kla_obj "<lambda>" q args body scope (a2e X.env scope.names []) ((X.mg "__name__").getD .none) c' ctv)):=by
   have nN:∀b,H b=none→b≠T:=fun b n z=>by rw [z,hT] at n;cases n
   refine ⟨fun b o e n _ _=>hk b o (nN b n) e,fun b o e n _ _=>⟨o.slots,hk b o (nN b n) e⟩,fun b o e n _=>?_,fun b o e _=>?_,fun b xs e=>?_,fun b o u e=>?_,fun b ps' e=>?_⟩
   ·rw [hHo b (nN b n) (Xh (Xb (Qw e) hge))];exact n
   ·by_cases z:b=T
    ·rw [z];exact ⟨_,hTn⟩
    ·exact ⟨o,hk b o z e⟩
   ·rw [hHo b (nT b _ e fun _ z=>by cases z) (nc b _ e)];exact e
   ·rw [hHo b (nT b _ e fun _ z=>by cases z) (nc b _ e)];exact e
   ·by_cases z:b=T
    ·subst z;rw [hT] at e;cases e;exact ⟨_,hHT⟩
    ·exact ⟨#[],by rw [hHo b z (nc b _ e),e];simp⟩
  have hok':HOk X.prog X.w (upd (upd H T (.tbl (ps++#[rawInt pos.line,rawInt pos.col,.ref c']))) c' (.frz oc (.own c'))) (h'.push (kla_obj "<lambda>" q args body scope (a2e X.env scope.names []) ((X.mg "__name__").getD .none) c' ctv)):=fun b u e=>by
   by_cases z1:b=c'
   ·subst z1
    rw [a0d] at e;cases e
    exact ⟨Ql _ hoc,_,Ql _ hoc⟩
   ·by_cases z2:b=T
    ·subst z2;rw [hHT] at e;cases e;exact hTn
    ·rw [hHo b z2 z1] at e
     refine (I.hok b u e).stay (fun d v hd' r=>hk d v ?_ r) (fun d r=>by rw [hHo d (nT d _ r fun _ z=>by cases z) (nc d _ r)];exact r) fun d xs r=>by rw [hHo d (nT d _ r fun _ z=>by cases z) (nc d _ r)];exact r
     rcases hd' with z | z
     ·rw [z];exact z2
     ·exact nT d _ z fun _ y=>by cases y
  have I':=I.un (t':=tk) hu hok'
  have hex:∀a o,a≠T→H a=some o→upd (upd H T (.tbl (ps++#[rawInt pos.line,rawInt pos.col,.ref c']))) c' (.frz oc (.own c')) a=some o:=fun a o n e=>by rw [hHo a n (nc a o e)];exact e
  have hcd:a2w (upd (upd H T (.tbl (ps++#[rawInt pos.line,rawInt pos.col,.ref c']))) c' (.frz oc (.own c'))) q (.ref c'):=⟨c',oc,vs,t,rfl,a0d,hd,hv⟩
  have hfs:s.heap.objs.size≤h'.objs.size:=Qi hge (Vl hlt)
  have hl:(ps++#[rawInt pos.line,rawInt pos.col,Value.ref c']).toList=ps.toList++[rawInt pos.line,rawInt pos.col,.ref c']:=by simp
  refine h h'.objs.size _ (.ref c') ctv _ _ I' ⟨_,hHT,by rw [hl];exact TriplesOk_snoc _ _ _ _ htr,fun p' cv e=>?_⟩ hex hcd ?_ (I.mine hfs) (Xe _ rfl)
  ·rw [hl] at e
   rcases a5f _ htr e with z | z
   ·obtain ⟨d,o,vs',t',z1,z2,z3⟩:=hcs p' cv z
    exact ⟨d,o,vs',t',z1,by rw [hHo d (nT d _ z2 fun _ y=>by cases y) (nc d _ z2)];exact z2,z3⟩
   ·rw [z];exact hcd
  ·rw [hHo _ (Uh (Xb hTs hfs)) (Uh hlt)];exact I.hok.fresh hfs
 | some cv=>
  refine kla_makeFunctionHit (mg:=X.mg) hcl I.ok.glob hg hcode C hP htr hnf ⟨bm,ob,b1,b2,hbG,hbT,hbo,b4,b5,b6⟩ fun ctv h' tk hk hsz=>?_
  exact h h'.objs.size _ cv ctv H _ (I.kept (t':=tk) fun b o e=>Ql _ (hk b o e)) ⟨ps,hT,htr,hcs⟩ (fun a o _ e=>e) (hcs pos cv hnf) (I.hok.fresh hsz) (I.mine hsz) (Xe _ rfl)
def a6p (X:Cx) (Nc:List Str) (scope:Scope) (q:Str) (f:Addr) (cv:Value) (cl:List (Str×Addr)) (A:Around) (s:Shared) (H:Hp):Cx where
 prog:=X.prog
 w:=X.w
 K:=X.K
 mg:=X.mg
 base:=X.base
 A:=A.deeper (newEnv scope s.heap.objs.size mainGlobals cl (q++".<locals>.") (some f) cv none builtinsNs)
 N:=Nc
 s₀:=s
 H₀:=H
 env:=newEnv scope s.heap.objs.size mainGlobals cl (q++".<locals>.") (some f) cv none builtinsNs
 outer:=X.stack
 stack:=newEnv scope s.heap.objs.size mainGlobals cl (q++".<locals>.") (some f) cv none builtinsNs::X.stack
 ex:=[]
 fn:=fun _=>false
 calm:=true
 pn:=[]
 xe:=NoE
theorem b2T {A:Around} {f:Addr} {pm cv ctv:Value} {q:Str} {args:Arguments} {body:Expr} {scope:Scope} {x:Str} {Nr:List Str} {js:List (Option Nat)} {v:V} {u:Value} {tb:TE} {Q:VK} {E:Value→Shared→Prop} {k:Nat}
  (I:Inv X pins σ H s) (hr:a2h k A) (hA:A.frames=some X.stack) (ok:a3q X (x::Nr) (none::js) scope) (hx:scope.names.lookup x=some .local) (hco:scope.isCoroutine=false) (hgen:scope.isGenerator=false)
  (hb:∀(q:Str) (cl:List (Str×Addr)) (pm cv ctv u:Value),bindArgs (kla_fn "<lambda>" q args body scope cl pm cv ctv) ⟨[u],[]⟩=pure [(x,u)])
  (ho:s.heap.get? f=some {cls:=.type "function",data:=.func (kla_fn "<lambda>" q args body scope (a2e X.env scope.names []) pm cv ctv)}) (hc:a2w H q cv) (rv:a0O v u)
  (he:PE (a6p X (x::Nr) scope q f cv (a2e X.env scope.names []) A s H) body tb) (h:tb (some v::a1G js σ) H Q):
  wpAny (model X.prog X.w) A (call (.ref f) [u]) (EP X pins σ Q) E s:=by
 have hfr:∀y∈scope.names,y.2=NameKind.free→∃c,X.env.cells.lookup y.1=some c:=fun y hy e=>I.ok.has y.1 (ok.free y hy e)
 have hlook:∀x c,(a2e X.env scope.names []).lookup x=some c→X.env.cells.lookup x=some c:=fun x c e=>a4h hfr (fun y d q=>by simp at q) e
 obtain ⟨c',oc,vs,t,rfl,hcc,hd,hv⟩:=hc
 have hrec:s.heap.CodeRec (.ref c') q:=⟨c',oc,vs,t,rfl,(I.hok c' _ hcc).1,hd,hv⟩
 refine wpAny_call (kla_callFunE hr.depth ho rfl hco hgen rfl hrec ?_)
 rw [hb]
 refine wpAny_pure ?_
 refine wpAny_newFunctionEnv ok.nocell (fun y hy=>by rw [Xg.mp hy];exact hx) (fun h₁ hns hsb=>?_) ok.kind
 have old:∀b o,s.heap.get? b=some o→h₁.get? b=some o:=fun b o e=>hsb.extBut b o (Xh (Qw e)) (Ql _ e)
 refine ⟨I.nolimit.keeps old,kla_codeExpr ?_⟩
 have okc:(a6p X (x::Nr) scope q f (.ref c') (a2e X.env scope.names []) A s H).Ok:=by
  have noA:∀b:Addr,b∉(a6p X (x::Nr) scope q f (.ref c') (a2e X.env scope.names []) A s H).ex:=fun b z=>absurd (show b∈([]:List Addr) from z) (by simp)
  refine ⟨I.ok.mod,ok.kind,rfl,rfl,Qk _,fun y z c e1 e2=>I.ok.inj y z c (hlook y c e1) (hlook z c e2),fun y hy=>?_,fun y c z _=>absurd z Qn,fun _=>hr.hd,Around.frames_deeper hA,.inr ⟨rfl,rfl⟩,fun b z=>absurd z (noA b),
   I.bs,Qi I.ok.bsz I.sz,fun b _ _=>noA b,fun b z=>absurd z (noA b),I.stack,I.stkFree⟩
  have hy':scope.names.lookup y=some .cell∨scope.names.lookup y=some .free:=hy
  rcases hy' with z | z
  ·exact absurd rfl (ok.nocell _ (PySem.mem_of_lookup z))
  ·exact a2O (.inl (PySem.mem_of_lookup z))
 have Ic:Inv (a6p X (x::Nr) scope q f (.ref c') (a2e X.env scope.names []) A s H) [] (some v::a1G js σ) H {s with heap:=h₁,toks:=s.toks+[(x,u)].length}:=by
  refine ⟨okc,rfl,I.bare,Un.kept old,⟨_,hns,fun i y z e1 e2 e3=>?_⟩,fun y c e=>?_,I.hok.fresh (Qk _),fun y c e=>I.freeC y c (hlook y c e),fun p hp=>absurd (show p∈([]:List (Addr×Obj)) from hp) (by simp),I.hok.kept old,?_⟩
  ·cases i with
   | zero=>
    have e1':x=y:=by simpa [a6p] using e1
    have e2':v=z:=by simpa using e2
    subst e1';subst e2'
    exact ⟨u,rv,.inl ⟨hx,by simp⟩⟩
   | succ i=>
    have e1':(x::Nr)[i+1]?=some y:=e1
    rw [Qb] at e2
    unfold a1G at e2
    rw [Qm] at e2
    cases ej:js[i]? with
    | none=>rw [ej] at e2;simp at e2
    | some oj=>
     rw [ej] at e2
     cases oj with
     | none=>simp at e2
     | some j=>
      have e2':(σ[j]?).getD none=some z:=by simpa using e2
      have e2'':σ[j]?=some (some z):=by
       cases q:σ[j]? with
       | none=>rw [q] at e2';simp at e2'
       | some z'=>rw [q] at e2';simp at e2';rw [e2']
      obtain ⟨hN,hF⟩:=ok.map (i+1) y j e1' (by rw [Qb];exact ej)
      have hmem:(y,NameKind.free)∈scope.names:=PySem.mem_of_lookup hF
      have hkX:=ok.free _ hmem rfl
      obtain ⟨m,hn,hl⟩:=I.loc
      have hvis:Vis X.env.scope y:=by
       rcases hkX with z | z
       ·exact .inr (.inl z)
       ·exact .inr (.inr z)
      obtain ⟨u',ru,lk⟩:=hl j y z hN e2'' hvis
      refine ⟨u',ru,.inr ?_⟩
      rcases lk with ⟨k1,_⟩ | ⟨_,c,ec,ic⟩
      ·have k1':X.env.kindOf y=some NameKind.local:=k1
       rcases hkX with z | z
       ·rw [z] at k1';cases k1'
       ·rw [z] at k1';cases k1'
      ·obtain ⟨c2,hc2⟩:=a2O (env:=X.env) (l:=scope.names) (cs:=[]) (x:=y) (.inl hmem)
       have e':=hlook y c2 hc2
       rw [ec] at e'
       cases e'
       exact ⟨.inr hF,c,hc2,ic.keeps old⟩
  ·obtain ⟨z,r⟩:=I.cell y c (hlook y c e)
   exact ⟨z,r.keeps old⟩
  ·show (some v::a1G js σ).length=(x::Nr).length
   have:=ok.len
   unfold a1G
   rw [Qo,Qe]
   simpa using this
 refine wpAny_mono (he [] _ _ H Q Ic h) (fun u' s' hs=>?_) fun e s' hs=>hs.elim
 obtain ⟨v',H',J,rv',hq⟩:=hs
 exact ⟨v',H',I.call' (ch:=[]) J.os J.base J.hok J.bare (fun b z=>absurd z (by simp)),rv',hq⟩
end
theorem a4z:∀{ps:List Addr} {its:List Value},a0N (ps.map V.ref) its→its=ps.map Value.ref
 | [],_,.nil=>rfl
 | p::ps,_,.cons h r=>by
  have e:_=Value.ref p:=h
  rw [e,a4z r];rfl
theorem a5E:∀(ps:List Addr),a0N (ps.map V.ref) (ps.map Value.ref)
 | []=>.nil
 | p::ps=>.cons rfl (a5E ps)
theorem a3C {ss:List Str} {i:Nat} {z:Str} (e:ss[i]?=some z):ss.getD i ""=z:=by rw [Xn,e];rfl
theorem a8i (ss:List Str):(Xs ss.length).map (fun i=>ss.getD i "")=ss:=by
 refine Vt (by simp) fun i h1 h2=>?_
 simp [h2]
def ltG (g:Str→Int) (x y:Str):Bool:=ltP (g x,x) (g y,y)
theorem b9S {ss:List Str} (g:Str→Int) (nd:ss.Nodup):c0v (fun i j=>ltG g (ss.getD i "") (ss.getD j "")) ss.length where
 irr:=fun i _=>a9u _
 tr:=fun i j k _ _ _ a b=>b3A a b
 tot:=fun i j hi hj e=>by
  refine a9t fun z=>?_
  have z2:ss.getD i ""=ss.getD j "":=congrArg Prod.snd z
  rw [a3C (Qc hi),a3C (Qc hj)] at z2
  exact e ((Jn nd).mp z2)
theorem a7J {lt:Nat→Nat→Bool} {p:Array Nat} {n:Nat} (hs:p.size=n) (a:Asc lt p n):p.toList.Pairwise (fun i j=>lt i j=true):=by
 rw [Vh]
 intro i j hi hj hij
 have hi':i < p.size:=by simpa using hi
 have hj':j < p.size:=by simpa using hj
 have:=a i j hij (by omega)
 have e1:p.getD i 0=p[i]:=by simp [Jr,hi']
 have e2:p.getD j 0=p[j]:=by simp [Jr,hj']
 rw [e1,e2] at this
 simpa using this
section
variable {X:Cx} {pins:List (Addr×Obj)} {σ:St} {H:Hp} {s:Shared} {A:Around} {E:Value→Shared→Prop} {a kS:Addr} {e1:Nat} {P:PySem.Fin→Shared→Prop}
theorem a4w {st:SortSt} {out:List Value} {ss':List Str} {xs:List V} (I:Inv X ((a,seqObj "list" #[] e1)::pins) σ H s) (hm:b6A X pins a) (hk:H kS=some (.lst xs)) (hxs:xs.length < 64)
  (hf:failedOf st=none) (ho:(arrOf st).map (·.2)=Xv out) (rv:a0N (ss'.map V.str) out) (h64:ss'.length < 64)
  (h:∀H' s',Inv X pins σ H' s'→H' a=some (.lst (ss'.map V.str))→(∀b o,b≠kS→H b=some o→H' b=some o)→P (.done (.ret .none)) s'):
  wpAny (model X.prog X.w) A (ksk_tail a false e1 (.ref kS) st) P E s:=by
 obtain ⟨_,its,n,rk,hko⟩:=I.hok kS _ hk
 have hpa:=I.pin (a,seqObj "list" #[] e1) (Qx _ Qs)
 have hka:kS≠a:=fun z=>by rw [z,hpa.2.1] at hk;cases hk
 have hil:=rk.length
 have hol:out.length=ss'.length:=by have:=rv.length;simpa using this.symm
 obtain ⟨e2,hk2⟩:∃e2,(s.heap.update kS (Obj.mapSeq fun _=>(#[]:Array Value))).get? kS=some (seqObj "list" #[] e2):=⟨_,get?_update_seq hko fun _=>#[]⟩
 have I1:=I.write (x:=kS) (e:=kS) (o:=.lst []) (t':=s.toks) (h':=s.heap.update kS (Obj.mapSeq fun _=>(#[]:Array Value))) (by rw [hk];trivial) (.inl rfl) (fun b u hb e=>by rw [Zo _ _ _ _ hb];exact e) ⟨_,hk2⟩ ⟨Xf _,[],e2,.nil,hk2⟩
 have hpa1:=I1.pin (a,seqObj "list" #[] e1) (Qx _ Qs)
 obtain ⟨e3,ha3⟩:∃e3,((s.heap.update kS (Obj.mapSeq fun _=>(#[]:Array Value))).update a (Obj.mapSeq fun _=>Xv out)).get? a=some (seqObj "list" (Xv out) e3):=⟨_,get?_update_seq hpa1.1 fun _=>Xv out⟩
 have I2:=(I1.pins_of (pins':=pins) (fun p hp=>I1.pin p (Qx _ (Qr _ hp)))).adopt (a:=a) (o:=.lst (ss'.map V.str)) (t':=s.toks) (h':=(s.heap.update kS (Obj.mapSeq fun _=>(#[]:Array Value))).update a (Obj.mapSeq fun _=>Xv out)) hpa1.2.1 hm
  (fun b u hb e=>by rw [Zo _ _ _ _ hb];exact e) ⟨by rw [Qe,sizeLine_eq];omega,out,e3,rv,ha3⟩
 unfold ksk_tail
 simp only [Zf,if_false,ho]
 refine wpAny_bind (listUpdate_at hko rfl ?_ (by rw [Qt,sizeLine_eq];omega) (Xf _))
 refine wpAny_bind (wpAny_letGo ?_)
 refine wpAny_bind (seqEpoch_at hpa1.1 rfl ?_)
 refine wpAny_bind (listUpdate_at hpa1.1 rfl ?_ (Xf _) (by rw [Qt,sizeLine_eq];omega))
 rw [hf]
 simp only [bne_self_eq_false,Zf,if_false]
 refine wpAny_pure (h _ _ I2 a0d fun b o hb e=>?_)
 rw [a0a (fun z=>by rw [z,hpa.2.1] at e;cases e),a0a hb]
 exact e
theorem b1n {ps:List Addr} {its:List Value} {ss:List Str} {g:Str→Int} (I:Inv X ((a,seqObj "list" #[] e1)::pins) σ H s) (hm:b6A X pins a) (hk:H kS=some (.lst (ps.map V.ref))) (hl:ps.length=ss.length) (h64:ss.length < 64) (nd:ss.Nodup)
  (rv:a0N (ss.map V.str) its) (hp:∀(j:Nat) z p,ss[j]?=some z→ps[j]?=some p→H p=some (.tup [.int (g z),.str z]))
  (h:∀(H':Hp) (s':Shared) (ss':List Str),Inv X pins σ H' s'→H' a=some (.lst (ss'.map V.str))→(∀b o,b≠kS→H b=some o→H' b=some o)→ss'.Perm ss→ss'.Pairwise (fun x y=>ltG g x y=true)→P (.done (.ret .none)) s'):
  wpAny (model X.prog X.w) A (ksk_end a false its.toArray e1 (.ref kS) (Xv (ps.map Value.ref))) P E s:=by
 have hn:its.length=ss.length:=by have:=rv.length;simpa using this.symm
 have hkl:(ps.map Value.ref).length=its.length:=by rw [Qe];omega
 unfold ksk_end
 simp only [Zf,if_false]
 by_cases h2:its.toArray.size < 2
 ·rw [if_pos h2,if_pos h2]
  refine wpAny_bind (wpAny_pure ?_)
  rw [StateT.run_pure]
  refine wpAny_bind (wpAny_pure ?_)
  dsimp only
  rw [Qt] at h2
  have hz:(arrOf (SortSt.mk' general' ((Xv (ps.map Value.ref)).zip its.toArray) #[] 7 none)).map (·.2)=Xv its:=by
   show ((Xv (ps.map Value.ref)).zip its.toArray).map (·.2)=Xv its
   apply Vv.mp
   simp only [Array.toList_map,Array.toList_zip]
   exact List.map_snd_zip (by omega)
  refine a4w (out:=its) (ss':=ss) I hm hk (by rw [Qe];omega) rfl hz rv h64 fun H' s' i1 i2 i3=>h H' s' ss i1 i2 i3 (List.Perm.refl _) ?_
  match ss,(show ss.length < 2 by omega) with
  | [],_=>exact Ws.nil
  | [z],_=>simp
  | _::_::_,q=>exact absurd q (by simp)
 ·rw [if_neg h2,if_neg h2]
  rw [Qt] at h2
  have h2':2≤its.length:=by omega
  have hget:∀i,i < its.length→∃z p,ss[i]?=some z∧ps[i]?=some p∧H p=some (.tup [.int (g z),.str z]):=fun i hi=>by
   have e1:=Qc (show i < ss.length by omega)
   have e2:=Qc (show i < ps.length by omega)
   exact ⟨_,_,e1,e2,hp i _ _ e1 e2⟩
  have hat:∀i,i < its.length→∃b o n t t',(ps.map Value.ref).getD i Value.none=.ref b∧s.heap.get? b=some o∧o.data=.seq #[.int (g (ss.getD i "")) t,.str (ss.getD i "") t'] n:=fun i hi=>by
   obtain ⟨z,p,e1,e2,e3⟩:=hget i hi
   obtain ⟨o,n,t,t',f1,f2,f3⟩:=b1b (I.hok _ _ e3)
   rw [a3C e1]
   exact ⟨p,o,n,t,t',by rw [Xn,Qm,e2];rfl,f1,f3⟩
  obtain ⟨fs,g1,g2,g3⟩:=a6t (h':=s.heap) (fun b o e=>I.hok b o e) (fun _ _ e=>e) (a5E ps) (fun v hv=>by
   obtain ⟨p,hp1,rfl⟩:=Qj.mp hv
   obtain ⟨i,hi,rfl⟩:=Jd hp1
   obtain ⟨z,p,e1,e2,e3⟩:=hget i (by omega)
   rw [Qc hi] at e2
   cases e2
   exact ⟨_,_,_,rfl,e3⟩)
  refine wpAny_bind (kat_kind (T:=.type "int") g1 (by omega) (fun v hv=>by obtain ⟨i,t,rfl⟩:=g3 v hv;exact .now) (by decide) ?_)
  have hok:=b1e (n:=its.length) (by omega)
  have L:=b9S g nd
  rw [←hn] at L
  refine wpAny_bind (wpAny_mono (kat_run (ks:=ps.map Value.ref) (vs:=its) (κ:=tuples' true) (Q:=fun st' s'=>∃p:Array Nat,p.size=its.length∧arrOf st'=p.map (kas_item ((ps.map Value.ref).toArray.zip its.toArray))∧failedOf st'=none∧p=a0T (fun i j=>ltG g (ss.getD i "") (ss.getD j "")) (kas_sort its.length)∧s'=s)
   (G:=fun p s'=>p=a0T (fun i j=>ltG g (ss.getD i "") (ss.getD j "")) (kas_sort its.length)∧s'=s)
   hkl h2' (by omega) (fun p' st' s' a1 a2 a3 a4=>⟨p',a1,a2,a3,a4.1,a4.2⟩) (TOk.wp (lt:=fun i j=>ltG g (ss.getD i "") (ss.getD j "")) (fun i j C hi hj hC=>?ask) hok ⟨rfl,rfl⟩)) ?_ fun _ _ e=>e)
  case ask=>
   obtain ⟨b,oa,na,ta,ta',ea,ha,da⟩:=hat i hi
   obtain ⟨c,ob,nb,tb,tb',eb,hb,db⟩:=hat j hj
   unfold kas_ask
   rw [ea,eb]
   refine kat_lt ha da hb db ?_
   have hC':C (ltP (g (ss.getD i ""),ss.getD i "") (g (ss.getD j ""),ss.getD j "")) s:=hC
   generalize hx:(g (ss.getD i ""),ss.getD i "")=x at hC'
   generalize hy:(g (ss.getD j ""),ss.getD j "")=y at hC'
   have hx1:g (ss.getD i "")=x.1:=by rw [←hx]
   have hx2:ss.getD i ""=x.2:=by rw [←hx]
   have hy1:g (ss.getD j "")=y.1:=by rw [←hy]
   have hy2:ss.getD j ""=y.2:=by rw [←hy]
   unfold ltP at hC'
   show KatLex _ _ _ _ _ _ [(.int (g (ss.getD i "")) ta,.int (g (ss.getD j "")) tb),(.str (ss.getD i "") ta',.str (ss.getD j "") tb')] 0 _
   rw [hx1,hy1,hx2,hy2]
   refine kat_cons (wpAny_eqBool_int ?_)
   by_cases h1:x.1=y.1
   ·rw [show (x.1 == y.1)=true from by rw [h1];exact beq_self_eq_true _]
    rw [if_pos h1] at hC'
    refine kat_yes (kat_cons (wpAny_eqBool_str ?_))
    by_cases h2:x.2=y.2
    ·rw [decide_eq_true h2]
     rw [if_pos h2] at hC'
     exact kat_yes (kat_nil (by simpa using hC'))
    ·rw [decide_eq_false h2]
     rw [if_neg h2] at hC'
     refine kat_no ?_
     show wpAny _ _ (oneLt' (true && (0+1) == 0) _ _) _ _ _
     rw [show (true && (0+1) == 0)=false from rfl]
     exact kat_one _ _ (PySem.P.lt_str hC')
   ·rw [show (x.1 == y.1)=false from beq_eq_false_iff_ne.mpr h1]
    rw [if_neg h1] at hC'
    refine kat_no ?_
    exact oneLt_int hC'
  rintro ⟨⟨⟩,st'⟩ s' ⟨p,hpz,har,hf,hpe,rfl⟩
  dsimp only
  have hP:a0C its.length p:=by rw [hpe];exact hok.run
  have hA:=a7E L (by omega)
  rw [←hpe] at hA
  have hpl:∀i∈p.toList,i < ss.length:=fun i hi=>by
   have:=hP.list.mem_iff.mp hi
   rw [Zz] at this;omega
  have hv:=a4g rv p.toList (fun i hi=>by rw [Qe];exact hpl i hi)
  have hem:(p.toList.map fun i=>(ss.map V.str).getD i .non)=(p.toList.map fun i=>ss.getD i "").map V.str:=by
   rw [Xi]
   refine Uq fun i hi=>?_
   have e:=Qc (hpl i hi)
   show (ss.map V.str).getD i .non=V.str (ss.getD i "")
   rw [a3C e,Xn,Qm,e];rfl
  rw [hem] at hv
  have hplen:p.toList.length=ss.length:=by rw [hP.list.length_eq,Zj];exact hn
  refine a4w (out:=p.toList.map fun i=>its.getD i Value.none) (ss':=p.toList.map fun i=>ss.getD i "") I hm hk (by rw [Qe];omega) hf (kat_snds hkl har) hv (by rw [Qe];omega) fun H' s' i1 i2 i3=>h H' s' _ i1 i2 i3 ?_ ?_
  ·have h1:=hP.list.map fun i=>ss.getD i ""
   rw [hn,a8i] at h1
   exact h1
  ·rw [Vg]
   exact a7J hpz hA
theorem a8n {f:Addr} {pm cv ctv:Value} {q:Str} {args:Arguments} {body:Expr} {scope:Scope} {x:Str} {Nr:List Str} {js:List (Option Nat)} {tb:TE} {k:Nat} {its:List Value} {n:Nat} {ss:List Str} {g:Str→Int}
  (I:Inv X pins σ H s) (hr:a2h k A) (hA:A.frames=some X.stack) (ok:a3q X (x::Nr) (none::js) scope) (hx:scope.names.lookup x=some .local) (hco:scope.isCoroutine=false) (hgen:scope.isGenerator=false)
  (hb:∀(q:Str) (cl:List (Str×Addr)) (pm cv ctv u:Value),bindArgs (kla_fn "<lambda>" q args body scope cl pm cv ctv) ⟨[u],[]⟩=pure [(x,u)])
  (hf:(f,({cls:=.type "function",data:=.func (kla_fn "<lambda>" q args body scope (a2e X.env scope.names []) pm cv ctv)}:Obj))∈pins) (hc:a2w H q cv)
  (he:∀s H,PE (a6p X (x::Nr) scope q f cv (a2e X.env scope.names []) A s H) body tb)
  (ha:s.heap.get? a=some (seqObj "list" its.toArray n)) (hna:H a=none) (hm:b6A X pins a) (rv:a0N (ss.map V.str) its) (h64:ss.length < 64) (nd:ss.Nodup)
  (hask:∀z∈ss,∀H2,Ex H H2→tb (some (.str z)::a1G js σ) H2 fun v H3=>∃p,v=.ref p∧H3 p=some (.tup [.int (g z),.str z])∧Ex H2 H3)
  (h:∀(H':Hp) (s':Shared) (ss':List Str),Inv X pins σ H' s'→H' a=some (.lst (ss'.map V.str))→Ex H H'→ss'.Perm ss→ss'.Pairwise (fun x y=>ltG g x y=true)→P (.done (.ret .none)) s'):
  wpAny (model X.prog X.w) A (ksk_tree a (.ref f) false) P E s:=by
 have hn:its.length=ss.length:=by have:=rv.length;simpa using this.symm
 obtain ⟨e1,ho1⟩:∃e1,(s.heap.update a (Obj.mapSeq fun _=>(#[]:Array Value))).get? a=some (seqObj "list" #[] e1):=⟨_,get?_update_seq ha fun _=>#[]⟩
 have I1:Inv X pins σ H {s with heap:=s.heap.update a (Obj.mapSeq fun _=>(#[]:Array Value)),toks:=s.toks}:=
  I.turned (fun b o hb e=>by rw [Zo _ _ _ _ hb];exact e) hna hm.loc (.inr hm.s0) hm.cell hm.pin
 have I2:=I1.kept (t':=s.toks) (h':=(s.heap.update a (Obj.mapSeq fun _=>(#[]:Array Value))).push {cls:=.type "tuple",data:=.seq its.toArray.toList.toArray}) fun b o e=>Ql _ e
 have hS:=I2.hok.fresh (Qk _)
 have I3:=I2.laid (t':=s.toks) (a:=((s.heap.update a (Obj.mapSeq fun _=>(#[]:Array Value))).push {cls:=.type "tuple",data:=.seq its.toArray.toList.toArray}).objs.size) (o:=.lst [])
  (h':=((s.heap.update a (Obj.mapSeq fun _=>(#[]:Array Value))).push {cls:=.type "tuple",data:=.seq its.toArray.toList.toArray}).push {cls:=.type "list",data:=.seq ([]:List Value).toArray}) (fun b o e=>Ql _ e) (Qk _)
  ⟨Xf _,[],0,.nil,Xe _ rfl⟩
 have ho3:=Ql ({cls:=.type "list",data:=.seq ([]:List Value).toArray}:Obj) (Ql ({cls:=.type "tuple",data:=.seq its.toArray.toList.toArray}:Obj) ho1)
 generalize hkS:((s.heap.update a (Obj.mapSeq fun _=>(#[]:Array Value))).push {cls:=.type "tuple",data:=.seq its.toArray.toList.toArray}).objs.size=kS at I3 hS
 have hka:a≠kS:=by rw [←hkS];exact Xh (Qw (Ql _ ho1))
 have hSn:H kS=none:=hS
 have I4:=I3.pins_of (pins':=(a,seqObj "list" #[] e1)::pins) (fun p hp=>by
  rcases Qy.mp hp with z | z
  ·subst z
   exact ⟨ho3,by rw [a0a hka];exact hna,hm.loc,hm.fs,fun v z=>by cases z⟩
  ·exact I3.pin p (Qx _ z))
 have ex4:Ex H (upd H kS (.lst [])):=fun b o e=>by rw [a0a (fun z=>by rw [z,hSn] at e;cases e)];exact e
 unfold ksk_tree
 refine wpAny_bind (listItems_at ha rfl ?_)
 refine wpAny_bind (listUpdate_at ha rfl ?_ (by rw [Qt,sizeLine_eq];omega) (Xf _))
 refine wpAny_bind (seqEpoch_at ho1 rfl ?_)
 refine wpAny_bind (wpAny_newTuple ?_ (by show its.length≤_;rw [sizeLine_eq];omega))
 refine wpAny_bind (wpAny_newList ?_ (Xf _))
 refine wpAny_holding ?_
 show wpAny (model X.prog X.w) A (ksk_rest a (.ref f) false its.toArray e1 (.ref ((s.heap.update a (Obj.mapSeq fun _=>(#[]:Array Value))).push {cls:=.type "tuple",data:=.seq its.toArray.toList.toArray}).objs.size)) P E _
 rw [hkS]
 unfold ksk_rest
 refine wpAny_bind (wpAny_rule ?_)
 rw [List.forIn_toArray]
 refine wpAny_bind (ksk_fold (fun i s'=>∃H' ps,Inv X ((a,seqObj "list" #[] e1)::pins) σ H' s'∧Ex H H'∧H' kS=some (.lst (ps.map V.ref))∧ps.length=i∧∀(j:Nat) z p,ss[j]?=some z→ps[j]?=some p→H' p=some (.tup [.int (g z),.str z])) its 0 _
  ⟨_,[],I4,ex4,a0d,rfl,fun j z p _ e=>by simp at e⟩ ?step ?done)
 case step=>
  rintro j u s' hu ⟨H',ps,I',ex',hk',hl',hp'⟩
  rw [Nat.zero_add] at hl' ⊢
  have hj:j < its.length:=(Qp.mp hu).1
  have ez:=Qc (show j < ss.length by omega)
  obtain ⟨u2,hu2,ru⟩:=rv.get (i:=j) (x:=V.str (ss[j]'(by omega))) (by rw [Qm,ez];rfl)
  rw [hu] at hu2
  cases hu2
  have hfo:=(I'.pin _ (Qx _ (Qr _ hf))).1
  refine wpAny_bind (wpAny_attempt (wpAny_mono (b2T (E:=fun _ _=>False) I' hr hA ok hx hco hgen hb hfo (hc.mono ex') ru (he s' H') (hask _ (Xd _) H' ex')) (fun v s'' hv=>?_) fun _ _ z=>z.elim))
  obtain ⟨v',H2,J,rw',p,rfl,hpt,ex2⟩:=hv
  cases rw'
  dsimp only
  have hk2:=ex2 _ _ hk'
  obtain ⟨_,its',n',rk,hko⟩:=J.hok kS _ hk2
  have hil:=rk.length
  rw [Qe] at hil
  obtain ⟨c2,hc2⟩:∃c2,(s''.heap.update kS (Obj.mapSeq (·.push (Value.ref p)))).get? kS=some (seqObj "list" (its'.toArray.push (Value.ref p)) c2):=⟨_,get?_update_seq hko (·.push (Value.ref p))⟩
  have epush:its'.toArray.push (Value.ref p)=(its'++[Value.ref p]).toArray:=by simp
  rw [epush] at hc2
  have emap:(ps++[p]).map V.ref=ps.map V.ref++[V.ref p]:=by simp
  have J2:=J.write (x:=kS) (e:=kS) (o:=.lst ((ps++[p]).map V.ref)) (t':=s''.toks) (h':=s''.heap.update kS (Obj.mapSeq (·.push (Value.ref p)))) (by rw [hk2];trivial) (.inl rfl) (fun b u hb e=>by rw [Zo _ _ _ _ hb];exact e) ⟨_,hc2⟩
   ⟨by rw [Qe,Xr,sizeLine_eq];simp only [Qo,Qz];omega,its'++[Value.ref p],c2,by rw [emap];exact rk.append (.cons rfl .nil),hc2⟩
  have hkp:kS≠p:=fun z=>by rw [z,hpt] at hk2;cases hk2
  refine wpAny_bind (listUpdate_at hko rfl ?_ (by rw [Qt,sizeLine_eq];omega) (by rw [Array.size_push,Qt,sizeLine_eq];omega))
  refine wpAny_pure ⟨rfl,_,ps++[p],J2,fun b o e=>?_,a0d,by rw [Xr,hl'];rfl,fun i z p1 ez1 ep1=>?_⟩
  ·by_cases hb1:b=kS
   ·rw [hb1,hSn] at e;cases e
   ·rw [a0a hb1];exact ex2 _ _ (ex' _ _ e)
  ·by_cases hi:i < ps.length
   ·rw [Yb hi] at ep1
    have e9:=ex2 _ _ (hp' i z p1 ez1 ep1)
    rw [a0a (fun y=>by rw [y,hk2] at e9;cases e9)]
    exact e9
   ·have hi2:i=ps.length:=by
     have h8:i < (ps++[p]).length:=(Qp.mp ep1).1
     rw [Xr] at h8
     simp only [Qo,Qz] at h8
     omega
    subst hi2
    rw [Xz (Qk _)] at ep1
    simp only [Vs,Qa,Option.some.injEq] at ep1
    subst ep1
    rw [a0a (Ne.symm hkp)]
    rw [hl',ez] at ez1
    cases ez1
    exact hpt
 case done=>
  rintro s' ⟨H',ps,I',ex',hk',hl',hp'⟩
  rw [Nat.zero_add] at hl'
  obtain ⟨_,its',n',rk,hko⟩:=I'.hok kS _ hk'
  have er:=a4z rk
  refine wpAny_bind (listItems_at hko rfl ?_)
  rw [er]
  refine b1n I' hm hk' (by omega) h64 nd rv hp' fun H2 s2 ss' i1 i2 i3 i4 i5=>h H2 s2 ss' i1 i2 (fun b o e=>i3 b o (fun z=>by rw [z,hSn] at e;cases e) (ex' b o e)) i4 i5
end
def b7L (T:Addr) (q:Str) (js:List (Option Nat)) (tb:TE) (σ:St) (Q:VK) (y:V) (H1:Hp):Prop:=∃(p:Addr) (kvs:List (Key×V)) (ss:List Str) (g:Str→Int),y=.ref p∧H1 p=some (.dK kvs)∧kvs.map (·.1)=ss.map Sum.inr∧ss.length < 64∧ss.Nodup∧a4j T q H1∧
 (∀z∈ss,∀H2,(∀a o,a≠T→H1 a=some o→H2 a=some o)→tb (some (.str z)::a1G js σ) H2 fun v H3=>∃p,v=.ref p∧H3 p=some (.tup [.int (g z),.str z])∧Ex H2 H3)∧
 ∀(l:Addr) (H':Hp) (ss':List Str),a4j T q H'→(∀a o,a≠T→H1 a=some o→H' a=some o)→H1 l=none→H' l=some (.lst (ss'.map V.str))→ss'.Perm ss→ss'.Pairwise (fun x y=>ltG g x y=true)→Q (.ref l) H'
def b4l (T:Addr) (q:Str) (js:List (Option Nat)) (te tb:TE):TE:=fun σ H Q=>te σ H (b7L T q js tb σ Q)
theorem b2X {X:Cx} {e:Expr} {te tb:TE} {args:Arguments} {body:Expr} {scope:Scope} {x y:Str} {p pos lpos kp:Pos} {Nr:List Str} {js:List (Option Nat)} {T:Addr} {q:Str} {k:Nat} (hy:y="sorted") (hc:X.calm=true) (hr:a2h (k+3) X.A) (hg:Gl X y) (hm:X.mg y=none)
  (hcb:a6e X.K X.env.code=some T) (hbk:c0u X.K X.mg) (ha:PE X e te) (ok:a3q X (x::Nr) (none::js) scope) (hx:scope.names.lookup x=some .local) (hco:scope.isCoroutine=false) (hgen:scope.isGenerator=false)
  (hb:∀(q:Str) (cl:List (Str×Addr)) (pm cv ctv u:Value),bindArgs (kla_fn "<lambda>" q args body scope cl pm cv ctv) ⟨[u],[]⟩=pure [(x,u)]) (hq:X.env.qual++"<lambda>"=q) (hdef:defaultsOf args X.env=([],[]))
  (he:∀f cv cl A s H,a2h k (a6p X (x::Nr) scope q f cv cl A s H).A→PE (a6p X (x::Nr) scope q f cv cl A s H) body tb) (hst:starEach [e] X.env=(false,eval e X.env)::starEach [] X.env:=by rfl):
  PE X (.Call (.Name y p) [e] [⟨some "key",.Lambda args body scope lpos,kp⟩] pos) (b4l T q js te tb):=by
 subst hy
 intro pins s σ H Q I h
 refine wpAny_Call_Name_kw (a5R I hg hm a3p ?_ (by decide) (by decide))
 refine callWith_kw (thn (b0k ha b4i hst pos pins s σ H (fun vs H1=>match vs with | [y]=>b7L T q js tb σ Q y H1 | _=>False) I h) fun us s1 ⟨vs,H1,I1,r1,q1⟩=>?_) (by rw [hst];rfl) (by rw [hst];rfl)
 match vs,q1,r1 with
 | [],q1,_=>exact q1.elim
 | _::_::_,q1,_=>exact q1.elim
 | [y],q1,r1=>
 obtain ⟨p,kvs,ss,g,rfl,hp,hks,h64,nd,lt1,hask,qq⟩:=q1
 obtain ⟨u,rfl,ru⟩:=a3y r1
 cases ru
 have hpT:p≠T:=fun z=>by
  obtain ⟨ps,e1,_⟩:=lt1
  rw [z,e1] at hp;cases hp
 refine kws_cons (b3j I1 hcb hbk ok hq hdef lt1 fun f pm cv ctv H2 s2 I2 lt2 ex2 hcd hfn hfm hfo=>kws_nil ?_)
 show wpAny (model X.prog X.w) X.A (call (.builtin "sorted") [.ref p] [(Uj "key",.ref f)]) _ _ s2
 have I3:=I2.pins_of (pins':=(f,({cls:=.type "function",data:=.func (kla_fn "<lambda>" q args body scope (a2e X.env scope.names []) pm cv ctv)}:Obj))::pins) (fun pr hpr=>by
  rcases Qy.mp hpr with z | z
  ·subst z
   exact ⟨hfo,hfn,hfm.loc,hfm.fs,fun v z=>by cases z⟩
  ·exact I2.pin pr (Qx _ z))
 obtain ⟨z,hd,vs,rel,dd⟩:=a4l I3.hok (.of (ex2 _ _ hpT hp))
 obtain ⟨ep,hat⟩:=dd.dictAt
 have hn:vs.length=ss.length:=by rw [←rel.length];have:=congrArg Yn hks;simpa using this
 refine call_function_entry_kw kind_sorted plain_sorted entry_sorted (ksk_s1 _ _) ?_
 unfold Builtin.«sorted»
 refine wpAny_bind (m:=checkCount "sorted" 1 1 _) (wpAny_pure ?_)
 refine wpAny_bind (kdu_collect (A:=X.A.in1) (kdl_dict (knd:=a0s X.prog X.w) (kvs:=vs) (ep:=ep) hd) (I.ok.hd hc) hat (by rw [sizeLine_eq];omega) fun h' tk acc hk hacc=>?_)
 have hal:acc.toList.length=ss.length:=by rw [Zn];exact hacc.1.trans hn
 have hS:StrsAre acc.toList ss:=a3l hal fun j v e=>by
  obtain ⟨k,x,hx,hkv⟩:=hacc.2 j v (by rw [←Wn];exact e)
  obtain ⟨y,hy,_⟩:=b4h rel hx
  have h1:(kvs.map (·.1))[j]?=some k:=by rw [Qm,hy];rfl
  rw [hks,Qm] at h1
  cases e2:ss[j]? with
  | none=>rw [e2] at h1;cases h1
  | some z'=>
   rw [e2] at h1
   cases h1
   obtain ⟨t,ht⟩:=b0G hkv
   exact ⟨z',t,rfl,ht⟩
 refine wpAny_bind (wpAny_newList ?_ (by rw [hal,sizeLine_eq];omega))
 have hoL:(h'.push (seqObj "list" acc.toList.toArray 0)).get? h'.objs.size=some (seqObj "list" acc.toList.toArray 0):=Xe _ rfl
 have I3':=I3.kept (t':=tk) hk
 have I4:=I3'.kept (t':=tk) (h':=h'.push (seqObj "list" acc.toList.toArray 0)) fun b o e=>Ql _ e
 have hD:H2 h'.objs.size=none:=I3'.hok.fresh (Qk _)
 have hD1:H1 h'.objs.size=none:=by
  cases e:H1 h'.objs.size with
  | none=>rfl
  | some o=>
   by_cases y:h'.objs.size=T
   ·obtain ⟨ps,e1,_⟩:=lt2
    rw [y,e1] at hD;cases hD
   ·rw [ex2 _ _ y e] at hD;cases hD
 refine wpAny_bind (wpAny_holding (wpAny_call_entry_kw slot_list_sort ⟨_,hoL,rfl⟩ entry_list_sort ?body (ksk_l1 _ _)))
 case body=>
  show wpAny (model X.prog X.w) X.A.in1.in1 (Builtin.«list.sort» ⟨[.ref h'.objs.size],[(Uj "key",.ref f)]⟩) _ _ _
  rw [ksk_t1]
  refine a8n (k:=k+1) (ss:=ss) (g:=g) I4 (show a2h (k+1+1+1) X.A from hr).in1.in1 I.ok.frames ok hx hco hgen hb Qs hcd (fun s H=>he _ _ _ _ s H ((show a2h (k+1+1+1) X.A from hr).in1.in1.deeper _)) hoL hD (I3'.mine (Qk _)) (a4f hS) h64 nd
   (fun z hz H3 e3=>hask z hz H3 fun a o n e=>e3 _ _ (ex2 _ _ n e)) fun H' s' ss' i1 i2 i3 i4 i5=>⟨_,rfl,wpAny_pure ⟨_,rfl,?_⟩⟩
  exact ⟨.ref h'.objs.size,H',i1.pins_of (fun pr hpr=>i1.pin pr (Qx _ (Qr _ hpr))),rfl,qq _ _ _ (lt2.mono i3) (fun a o n e=>i3 _ _ (ex2 _ _ n e)) hD1 i2 i4 i5⟩
def a9j (K:Qd):List V→Hp→VK→Prop:=fun xs H Q=>∃(p:Addr) (ys:List V),xs=[.ref p]∧SqL K H p ys∧ys.length < 64∧(∀v∈ys,∃a i z,v=.ref a∧H a=some (.tup [.int i,.str z]))∧(ys.map (a1W H)).Nodup∧
 ∀l ys',H l=none→ys'.Perm ys→(ys'.map (a1W H)).Pairwise (fun x y=>ltP x y=true)→Q (.ref l) (upd H l (.lst ys'))
def b3J (K:Qd):List V→Hp→VK→Prop:=fun xs H Q=>b3T K xs H Q∨(b4o xs H Q∨a9j K xs H Q)
section
variable {X:Cx}
theorem a6B:a1U X (.builtin "sorted") (a9j X.K):=by
 intro pins s σ H xs us Q I r h
 obtain ⟨p,ys,rfl,hq,h64,hT,hnd,q⟩:=h
 obtain ⟨u,rfl,ru⟩:=a3y r
 cases ru
 obtain ⟨its,rv,pl,hz⟩:=I.list hq
 have hn:=rv.length
 have hat:∀i,i < its.length→∃a o n t t',its.getD i Value.none=.ref a∧s.heap.get? a=some o∧o.data=.seq #[.int (a1W H (ys.getD i .non)).1 t,.str (a1W H (ys.getD i .non)).2 t'] n:=fun i hi=>by
  have hi':i < ys.length:=by omega
  obtain ⟨u,hu,ru⟩:=rv.get (Qc hi')
  obtain ⟨a,m,z,e,ha⟩:=hT _ (Xd hi')
  rw [e] at ru
  cases ru
  obtain ⟨o,n,t,t',e1,e2,e3⟩:=b1b (I.hok _ _ ha)
  have ep:a1W H (ys.getD i .non)=(m,z):=by
   rw [Xn,Qc hi',Xo,e]
   show (match H a with | some (.tup [.int i,.str z])=>(i,z) | _=>(0,""))=(m,z)
   rw [ha]
  rw [ep]
  exact ⟨a,o,n,t,t',by rw [Xn,hu];rfl,e1,e3⟩
 refine Calls.call_function_entry kind_sorted plain_sorted entry_sorted (args_sorted1 _) ?_
 unfold Builtin.«sorted»
 refine wpAny_bind (m:=checkCount "sorted" 1 1 _) (wpAny_pure ?_)
 refine wpAny_bind (collect_list pl.isList ?_ (by rw [sizeLine_eq];omega))
 refine wpAny_bind (wpAny_newList ?_ (by rw [sizeLine_eq];omega))
 have hsz:((s.heap.push (seqObj "list" #[] 0)).update s.heap.objs.size (Obj.mapSeq (·++its.toArray))).objs.size=s.heap.objs.size+1:=by
  rw [Vu,size_push']
 have hoL:(((s.heap.push (seqObj "list" #[] 0)).update s.heap.objs.size (Obj.mapSeq (·++its.toArray))).push (seqObj "list" its.toArray 0)).get? (s.heap.objs.size+1)=some (seqObj "list" its.toArray 0):=by
  rw [←hsz];exact Xe _ rfl
 have keep:∀b o,s.heap.get? b=some o→(((s.heap.push (seqObj "list" #[] 0)).update s.heap.objs.size (Obj.mapSeq (·++its.toArray))).push (seqObj "list" its.toArray 0)).get? b=some o:=fun b o q=>by
  have hlt:b < s.heap.objs.size:=Qw q
  rw [Jj _ _ _ (by rw [hsz];exact Xh (Zi hlt)),Zo _ _ _ _ (Xh hlt),Jj _ _ _ (Xh hlt)]
  exact q
 show wpAny _ _ _ _ _ {s with heap:=((s.heap.push (seqObj "list" #[] 0)).update s.heap.objs.size (Obj.mapSeq (·++its.toArray))).push (seqObj "list" its.toArray 0)}
 rw [hsz]
 have keep2:∀h':Heap,(∀b o,b≠s.heap.objs.size+1→(((s.heap.push (seqObj "list" #[] 0)).update s.heap.objs.size (Obj.mapSeq (·++its.toArray))).push (seqObj "list" its.toArray 0)).get? b=some o→h'.get? b=some o)→∀b o,s.heap.get? b=some o→h'.get? b=some o:=fun h' hk b o e=>hk b o (Xh (Zi (Qw e))) (keep b o e)
 refine wpAny_bind (wpAny_holding (wpAny_call_entry slot_list_sort ⟨_,hoL,rfl⟩ entry_list_sort (a4b (s:={s with heap:=((s.heap.push (seqObj "list" #[] 0)).update s.heap.objs.size (Obj.mapSeq (·++its.toArray))).push (seqObj "list" its.toArray 0)}) hoL (by omega)
  (fun i j=>ltP (a1W H (ys.getD i .non)) (a1W H (ys.getD j .non))) (tuples' true) ?hk ?hask fun pp hp hpe=>⟨_,rfl,?fin⟩) (args_list_sort _)))
 case hk=>
  intro h2 h' hkp Q' hQ'
  obtain ⟨fs,g1,g2,g3⟩:=a6t (h':=h') (fun a o e=>I.hok a o e) (keep2 h' hkp) rv hT
  refine kat_kind (T:=.type "int") g1 (by omega) (fun v hv=>?_) (by decide) hQ'
  obtain ⟨i,t,rfl⟩:=g3 v hv
  exact .now
 case hask=>
  intro h' hkp i j C hi hj hC
  obtain ⟨a,oa,na,ta,ta',ea,ha,da⟩:=hat i hi
  obtain ⟨b,ob,nb,tb,tb',eb,hb,db⟩:=hat j hj
  unfold kas_ask
  rw [ea,eb]
  refine kat_lt (keep2 h' hkp _ _ ha) da (keep2 h' hkp _ _ hb) db ?_
  have hC':C (ltP (a1W H (ys.getD i .non)) (a1W H (ys.getD j .non))) {s with heap:=h'}:=hC
  generalize a1W H (ys.getD i .non)=x at hC' ⊢
  generalize a1W H (ys.getD j .non)=y at hC' ⊢
  unfold ltP at hC'
  show KatLex _ _ _ _ _ _ [(.int x.1 ta,.int y.1 tb),(.str x.2 ta',.str y.2 tb')] 0 _
  refine kat_cons (wpAny_eqBool_int ?_)
  by_cases h1:x.1=y.1
  ·rw [show (x.1 == y.1)=true from by rw [h1];exact beq_self_eq_true _]
   rw [if_pos h1] at hC'
   refine kat_yes (kat_cons (wpAny_eqBool_str ?_))
   by_cases h2:x.2=y.2
   ·rw [decide_eq_true h2]
    rw [if_pos h2] at hC'
    exact kat_yes (kat_nil (by simpa using hC'))
   ·rw [decide_eq_false h2]
    rw [if_neg h2] at hC'
    refine kat_no ?_
    show wpAny _ _ (oneLt' (true && (0+1) == 0) _ _) _ _ _
    rw [show (true && (0+1) == 0)=false from rfl]
    exact kat_one _ _ (PySem.P.lt_str hC')
  ·rw [show (x.1 == y.1)=false from beq_eq_false_iff_ne.mpr h1]
   rw [if_neg h1] at hC'
   refine kat_no ?_
   exact oneLt_int hC'
 case fin=>
  refine wpAny_pure ⟨_,rfl,?_⟩
  obtain ⟨e,he⟩:=sortedHeap_at (out:=Xv (pp.toList.map fun i=>its.getD i Value.none)) hoL
  have hpl:∀i∈pp.toList,i < ys.length:=fun i hi=>by
   have:=hp.list.mem_iff.mp hi
   rw [Zz] at this;omega
  have hplen:pp.toList.length=its.length:=by rw [hp.list.length_eq,Zj]
  have I2:=I.laid (a:=s.heap.objs.size+1) (o:=.lst (pp.toList.map fun i=>ys.getD i .non)) (h':=sortedHeap (((s.heap.push (seqObj "list" #[] 0)).update s.heap.objs.size (Obj.mapSeq (·++its.toArray))).push (seqObj "list" its.toArray 0)) (s.heap.objs.size+1) its (Xv (pp.toList.map fun i=>its.getD i Value.none))) (t':=s.toks) (fun b o e=>by
   have hb:b < s.heap.objs.size:=Qw e
   rw [sortedHeap_old (Xh (Zi hb)) (by rw [size_push',hsz];exact Zi (Zi hb))]
   exact keep b o e) (Ji _) ⟨by rw [Qe,sizeLine_eq];omega,pp.toList.map fun i=>its.getD i Value.none,e,a4g rv _ hpl,he⟩
  refine ⟨.ref (s.heap.objs.size+1),_,I2,rfl,q _ _ (I.hok.fresh (Ji _)) ?_ ?_⟩
  ·have h1:=hp.list.map fun i=>ys.getD i .non
   rw [←hn,a8f] at h1
   exact h1
  ·rw [Xi,Vg]
   by_cases h2:2≤its.length
   ·have L:c0v (fun i j=>ltP (a1W H (ys.getD i .non)) (a1W H (ys.getD j .non))) its.length:=
     ⟨fun i _=>a9u _,fun i j k _ _ _ a b=>b3A a b,fun i j hi hj e=>a9t fun z=>by
      have hi':i < ys.length:=by omega
      have hj':j < ys.length:=by omega
      rw [Xn,Qc hi',Xn,Qc hj',Xo,Xo] at z
      exact e ((Jn (i:=i) (j:=j) (h₀:=by rw [Qe];exact hi') (h₁:=by rw [Qe];exact hj') hnd).mp (by rw [Js,Js];exact z))⟩
    have hA:=a7E L (by omega)
    rw [←hpe h2] at hA
    exact a7J hp.size hA
   ·have hl1:pp.toList.length < 2:=by rw [hplen];omega
    match pp.toList,hl1 with
    | [],_=>exact Ws.nil
    | [z],_=>simp
    | _::_::_,y=>exact absurd y (by simp)
theorem a8m (hc:X.calm=true):a1U X (.builtin "sorted") (b3J X.K):=a1U.or a8k (a1U.or (a8u hc) a6B)
end
def b2y (T:Addr) (H:Hp):Prop:=H T=some (.tbl #[])∧∀b,b≠T→H b=none∨∃o xs,H b=some (.frz o (.lst xs))
def b6r (K:Qd) (c T:Addr):Bool:=match K.lookup c with
 | some o=>(match o.cls,o.data with
  | .type n,.fields vs=>(match (vs[11]?:Option Value) with
   | some (Value.ref P)=>n == "code" && P == T
   | _=>false)
  | _,_=>false)
 | none=>false
theorem b3h {K:Qd} {h:Heap} {c T:Addr} (X:K.In h) (e:b6r K c T=true):isCodeTable h T:=by
 unfold b6r at e
 split at e
 ·rename_i o ho
  split at e
  ·rename_i n vs hcl hd
   split at e
   ·rename_i P e11
    rw [Xc] at e
    have h1:n="code":=by simpa using e.1
    have h2:P=T:=by simpa using e.2
    exact ⟨c,o,vs,X _ _ ho,by rw [hcl,h1],hd,by rw [e11,h2]⟩
   ·cases e
  ·cases e
 ·cases e
theorem b0E {P:Program} {w:World} {K:Qd} {mg mb:Str→Option Value} {CX:CXT} {k:Nat} {fa a T:Addr} {fd:FuncData} {x:Str} {sp:Sp} {s₁:Shared} {vs:List Value} {ns:List Int}
  (KX:K.In s₁.heap) (hT:s₁.heap.get? T=some {cls:=.none,data:=.fields #[]}) (hKT:K.lookup T=none) (hCT:isCodeTable s₁.heap T) (hns:s₁.heap.Ns mainGlobals mg) (hb:s₁.heap.Ns builtinsNs mb) (hbb:∀x:Str,x≠"__name__"→mb x=bootBuiltins x) (hlim:s₁.heap.NoLimit) (hg:s₁.gens=#[])
  (ha:s₁.heap.get? a=some {cls:=.type "list",data:=.seq vs.toArray}) (hi:IntsAre vs ns) (hl:ns.length≤sizeLine) (hr:a2h k callerA)
  (F:∀base:Heap,K.In base→base.Ns mainGlobals mg→a0S P w K mg base CX k fa fd [x] sp) (hbind:∀(s:Shared) (u:Value),BindsTo s fd ⟨[u],[]⟩ [(x,u)])
  (hsp:∀H:Hp,b2y T H→SqL K H a (ns.map V.int)→sp [.ref a] H (fun v _=>v=.bl true) fun _ _ _=>False)
  (hCX:∀H e s',CX [] H s₁ (fun _ _ _=>False) e s'→False):
  codeAny (model P w) callerA (.call (.ref fa) ⟨[.ref a],[]⟩) (fun r s'=>r=.ok (.ret (.bool true))∧OldK s₁.heap s'.heap∧s'.os=s₁.os∧AllBare s'.gens) s₁:=by
 have rv:=a6k hi
 have lenV:=hi.length
 have haT:a≠T:=fun z=>by rw [z,hT] at ha;cases ha
 have core:∀H:Hp,b2y T H→SqL K H a (ns.map V.int)→HOk P w H s₁.heap→(∀b,H b≠none→b=a∨b=T)→(H a≠none→K.lookup a=none)→
   codeAny (model P w) callerA (.call (.ref fa) ⟨[.ref a],[]⟩) (fun r s'=>r=.ok (.ret (.bool true))∧OldK s₁.heap s'.heap∧s'.os=s₁.os∧AllBare s'.gens) s₁:=by
  intro H hO hS hok hA hK
  have base_of:∀{b:Addr} {o:Obj},s₁.heap.get? b=some o→H b=none→(b2d s₁.heap H).get? b=some o:=fun e n=>b2O e n
  have noA:∀{b:Addr} {o:Obj} {es:Array DictEntry} {ep:Nat},s₁.heap.get? b=some o→o.data=.dict es ep→H b=none:=fun {b o es ep} e d=>by
   cases q:H b with
   | none=>rfl
   | some u=>
    rcases hA b (by rw [q];simp) with e' | e'
    ·subst e'
     rw [ha] at e;cases e
     have d':Data.seq vs.toArray _=Data.dict es ep:=d
     cases d'
    ·subst e'
     rw [hT] at e;cases e
     have d':Data.fields #[]=Data.dict es ep:=d
     cases d'
  have nsK:∀{b:Addr} {m:Str→Option Value},s₁.heap.Ns b m→(b2d s₁.heap H).Ns b m:=fun {b m} ⟨o,es,ep,e,d,r⟩=>⟨o,es,ep,base_of e (noA e d),d,r⟩
  have hKb:K.In (b2d s₁.heap H):=fun b o e=>base_of (KX b o e) (by
   cases q:H b with
   | none=>rfl
   | some u=>
    rcases hA b (by rw [q];simp) with e' | e'
    ·subst e'
     rw [hK (by rw [q];simp)] at e;cases e
    ·subst e'
     rw [hKT] at e;cases e)
  have hM:Mod K mg (b2d s₁.heap H):=⟨hKb,nsK hns,⟨mb,nsK hb,hbb⟩,let ⟨mc,h1,h2⟩:=hlim;⟨mc,nsK h1,h2⟩⟩
  have e0:b5c P w K mg (b2d s₁.heap H) callerA [] s₁ H:=⟨rfl,hM,fun b o e=>b4S e,Vn (a9f _ _),trivial,fun b hb=>absurd (show b∈([]:List Addr) from hb) (by simp),hok,.of_eq hg⟩
  refine codeAny_mono ((F _ hKb (nsK hns)).run callerA [] s₁ H ⟨[.ref a],[]⟩ [.ref a] [.ref a] _ _ hr e0 (hbind s₁ (.ref a)) (.cons rfl .nil) (hsp H hO hS)) fun r s' h=>?_
  cases r with
  | error e=>exact (hCX H e s' h).elim
  | ok fl=>
   cases fl with
   | next=>exact False.elim h
   | brk=>exact False.elim h
   | cont=>exact False.elim h
   | ret u=>
    obtain ⟨v,H',os,bare,un,hok',r',q⟩:=h
    have q':v=.bl true:=q
    subst q'
    obtain rfl:u=Value.bool true:=r'
    obtain ⟨more,hT'⟩:=un.tbls T _ hO.1
    have hTo:s'.heap.get? T=some {cls:=.none,data:=.fields (#[]++more)}:=hok' T _ hT'
    have old:∀b o,b≠T→s₁.heap.get? b=some o→s'.heap.get? b=some o:=fun b o hbT e=>by
     cases q:H b with
     | none=>exact un.keep b o e q (by intro z;exact absurd (show b∈([]:List Addr) from z) (by simp)) (by simp)
     | some u=>
      rcases hO.2 b hbT with z | ⟨ob,xs,z⟩
      ·rw [q] at z;cases z
      ·have z2:=un.frzs b ob _ z
       obtain ⟨e1,_⟩:=hok b _ z
       obtain ⟨e2,_⟩:=hok' b _ z2
       rw [e] at e1;cases e1
       exact e2
    refine ⟨rfl,⟨fun b o e=>?_,fun b o e=>?_⟩,os,bare⟩
    ·by_cases hbT:b=T
     ·subst hbT
      rw [hT] at e;cases e
      exact .inr (.inl ⟨hCT,rfl,#[],more,rfl,hTo⟩)
     ·exact .inl (old b o hbT e)
    ·by_cases hbT:b=T
     ·subst hbT;exact ⟨_,hTo⟩
     ·exact ⟨o,old b o hbT e⟩
 cases hk:K.lookup a with
 | some o=>
  have e:=KX a o hk
  rw [ha] at e
  cases e
  refine core (fun b=>if b=T then some (.tbl #[]) else none) ⟨if_pos rfl,fun b hb=>.inl (if_neg hb)⟩ (.inr ⟨_,vs.toArray,_,hk,rfl,rfl,rfl,by rw [Qt,lenV];exact hl,by simpa using rv⟩) (fun b u z=>?_) (fun b z=>?_) fun z=>absurd (if_neg haT) z
  ·by_cases hb:b=T
   ·have z':=(if_pos hb).symm.trans z
    cases z'
    subst hb
    exact hT
   ·have z':=(if_neg hb).symm.trans z
    cases z'
  ·by_cases hb:b=T
   ·exact .inr hb
   ·exact absurd (if_neg hb) z
 | none=>
  refine core (fun b=>if b=T then some (.tbl #[]) else if b=a then some (.frz {cls:=.type "list",data:=.seq vs.toArray} (.lst (ns.map V.int))) else none) ⟨if_pos rfl,fun b hb=>?_⟩ (.inl (.inr ⟨{cls:=.type "list",data:=.seq vs.toArray},(if_neg haT).trans (if_pos rfl)⟩)) (fun b u z=>?_) (fun b z=>?_) fun _=>hk
  ·by_cases hba:b=a
   ·exact .inr ⟨_,_,(if_neg hb).trans (if_pos hba)⟩
   ·exact .inl ((if_neg hb).trans (if_neg hba))
  ·by_cases hb:b=T
   ·have z':=(if_pos hb).symm.trans z
    cases z'
    subst hb
    exact hT
   ·by_cases hba:b=a
    ·have z':=((if_neg hb).trans (if_pos hba)).symm.trans z
     cases z'
     subst hba
     exact ⟨ha,by rw [Qe];exact hl,vs,_,rv,ha⟩
    ·have z':=((if_neg hb).trans (if_neg hba)).symm.trans z
     cases z'
  ·by_cases hb:b=T
   ·exact .inr hb
   ·by_cases hba:b=a
    ·exact .inl hba
    ·exact absurd ((if_neg hb).trans (if_neg hba)) z
theorem a9V {l:PySem.W.OpenLaw} {n k:Nat} {q:Program} {loose:List Str} {XP:(Str→Option Value)→Heap→Prop} {YP:World→Heap→Prop} {d:DefRec} {K:Params→Qd} {CX:CXT} {sp:Qd→Sp} {x:Str} (T c:Addr)
  (hn:l.most=some n) (hn2:n≤sizeLine) (hdf:d.params.defaults=[]) (hr:a2h k callerA)
  (hY:∀(w:World) (h:Heap),YP w h→(K w.params).In h∧h.get? T=some {cls:=.none,data:=.fields #[]}) (hKT:∀w:World,(K w.params).lookup T=none) (hCT:∀w:World,b6r (K w.params) c T=true)
  (F:∀(w:World) (mg:Str→Option Value) (fa:Addr) (h:Heap),(K w.params).In h→h.Ns mainGlobals mg→mg d.name=some (.ref fa)→
   ∃fd:FuncData,(∀(s:Shared) (u:Value),BindsTo s fd ⟨[u],[]⟩ [(x,u)])∧
    ∀base:Heap,(K w.params).In base→base.Ns mainGlobals mg→a0S l.prog w (K w.params) mg base CX k fa fd [x] (sp (K w.params)))
  (hsp:∀(K:Qd) (H:Hp) (a:Addr) (ns:List Int),ns.length≤n→b2y T H→SqL K H a (ns.map V.int)→sp K [.ref a] H (fun v _=>v=.bl true) fun _ _ _=>False)
  (hCX:∀(H:Hp) (s:Shared) (e:Value) (s':Shared),CX [] H s (fun _ _ _=>False) e s'→False):
  PySem.W.WalkO q loose XP YP l.row.toRowW d [] (fun f vs=>PySem.call f vs):=by
 refine Att.attach_call hn hdf fun w s₀ s₁ mg mb fa o pm cd doc a vs ns G Y ho hd hcd hmg hobj hints hlen hg=>?_
 obtain ⟨KX,hT⟩:=hY w _ Y
 obtain ⟨fd,hb,hF⟩:=F w mg fa _ KX G.T.g hmg
 exact b0E KX hT (hKT w) (b3h KX (hCT w)) G.T.g G.T.b G.T.builtins G.T.nolimit hg hobj hints (Qi hlen hn2) hr hF hb (fun H hO hS=>hsp (K w.params) H a ns hlen hO hS) fun H e s'=>hCX H s₁ e s'
theorem b4V {K:Qd} {T:Addr} {o:Obj} {h:Heap} (X:Qd.In ((T,o)::K) h) (n:K.lookup T=none):K.In h∧h.get? T=some o:=by
 refine ⟨fun a u e=>X a u ?_,X T o (by rw [Yg,beq_self_eq_true])⟩
 rw [Yg]
 have:(a == T)=false:=by
  rw [beq_eq_false_iff_ne]
  intro z;rw [z,n] at e;cases e
 rw [this];exact e
section
variable {P:Program} {w:World} {K:Qd} {mg:Str→Option Value} {base:Heap}
theorem Fun.okC {x qual:Str} {st:Stmt} {f:Addr} {fd:FuncData} {N ps:List Str} {k:Nat} {sp:Sp} (F:Fun K x qual st f fd) (S:a0g N ps (a0b st)) (len:∀vs H Q E,sp vs H Q E→vs.length=ps.length)
  (hbody:∀(A:Around) (outer:List Env) (s:Shared) (H:Hp) (vs:List V) (Q:VK) (E:XK),a2h k (A.deeper (envOfC qual (a0b st) s.heap.objs.size f fd.code))→sp vs H Q E→
   ∃t,PSs (b3D CX0 P w K mg base N qual (a0b st) f fd.code A outer s H E).nox (a1g st) t∧t {nx:=fun _ H'=>Q .non H',rt:=Q} (start N vs) H):a0S P w K mg base CX0 (k+1) f fd ps sp:=by
 obtain ⟨oc,od,kV,doc,pm,an,cdv,ct,osl,rfl,lk,hcd⟩:=F.ex
 refine b4s lk hcd S len fun A outer s H vs Q E hr hsp=>?_
 obtain ⟨t,h,q⟩:=hbody A outer s H vs Q E hr hsp
 exact ⟨t,h.nox,q⟩
end
end L2
namespace L2
open PySem PySem.Spec PySem.W PyProof.Rows
end L2
namespace L2
open PySem PySem.Spec PySem.W PyProof.Rows PySem.Builtin PySem.Builtin.ObjectAttr
def b3K:List Value→Bool
 | .ref _::r=>b3K r
 | [.type a,.type b,.type c,.type d]=>a == "ValueError" && b == "Exception" && c == "BaseException" && d == "object"
 | _=>false
def b7e (K:Qd) (C:Addr):Bool:=(clsIn K C).any fun cd=>b3K cd.mro
end L2
namespace L2
open PySem PySem.Spec PySem.W PyProof.Rows PySem.Builtin PySem.Builtin.ObjectAttr
end L2
namespace L2
open PySem PySem.Spec PySem.W PySem.Calls PyProof.Rows PySem.Builtin PySem.Builtin.ObjectAttr
abbrev bmV:List Value:=[.type "ValueError",.type "Exception",.type "BaseException",.type "object"]
def c7c (K:Qd) (C:Addr):Bool:=match K.lookup C with
 | some ⟨.type "type",_,.cls cd,sl⟩=>(match cd.mro,sl.toList with
  | .ref C'::bm,[_,_,_,_,some (.builtin n),_]=>C' == C && n == "ValueError.__new__" && !cd.hasDel && !cd.abstract && tailIn K bmV bm && specialIn K (.ref C) "__call__" == some (some (.builtin "type.__call__")) && instIn K (.ref C) (.type "type") == some true
  | _,_=>false)
 | _=>false
end L2
namespace L2
open PySem PySem.Spec PySem.W PySem.Calls PyProof.Rows PySem.Builtin PySem.Builtin.ObjectAttr
structure c7i (K:Qd) (C:Addr):Prop where
 ga:findIn K (.ref C) "__getattribute__"=some (some (.builtin "BaseException.__getattribute__"))
 gt:findIn K (.ref C) "__getattr__"=some none
 bx:mroIn K C (.type "BaseException")=some true
 hd:hasDictIn K C=true
 cc:findIn K (.ref C) "__class__"=some (some (.builtin "object.__class__"))
 cg:specialIn K (.builtin "object.__class__") "__get__"=some (some (.builtin "getset_descriptor.__get__"))
 ct:takesIn K (.builtin "object.__class__")=some true
 mo:mroIn K C (.type "object")=some true
 sa:findIn K (.ref C) "__setattr__"=some (some (.builtin "object.__setattr__"))
 ov:b7e K C=true
 xc:c7c K C=true
end L2
namespace L2
open PySem PySem.Spec PySem.W PyProof.Rows
def c2b (x C:Addr) (od:Option Addr):HO:=.ext fun h=>∃vs sl,h.get? x=some ⟨.ref C,od,.fields vs,sl⟩∧vs[1]?=some Value.none
def c2P (x C:Addr) (od:Option Addr) (T:Addr):HO:=.ext fun h=>∃vs sl,h.get? x=some ⟨.ref C,od,.fields vs,sl⟩∧vs[1]?=some (Value.ref T)
def IsX (H:Hp) (x C:Addr) (od:Option Addr):Prop:=H x=some (c2b x C od)∨∃T,H x=some (c2P x C od T)
end L2
namespace L2
open PySem PySem.Spec PySem.W PySem.Calls PyProof.Rows
end L2
namespace L2
open PySem PySem.Spec PySem.W PySem.Calls PyProof.Rows
def c7v (H:Hp) (x C:Addr) (m:Str) (v:V):Prop:=∃d,IsX H x C (some d)∧H d=some (.xd [(m,v)])
end L2
namespace L2
open PySem PySem.Spec PySem.W PySem.Calls PyProof.Rows
def c4q (H:Hp) (x C:Addr):Option (Str×V)→Prop
 | some (m,v)=>c7v H x C m v
 | none=>IsX H x C none
def b6B (H:Hp):List Addr→List (Addr×Option (Str×V))→Prop
 | [],[]=>True
 | x::xs,e::es=>c4q H x e.1 e.2∧b6B H xs es
 | _,_=>False
theorem b6B.len {H:Hp}:∀{xs:List Addr} {es:List (Addr×Option (Str×V))},b6B H xs es→xs.length=es.length
 | [],[],_=>rfl
 | _::_,_::_,⟨_,b⟩=>congrArg (·+1) b.len
 | [],_::_,h=>h.elim
 | _::_,[],h=>h.elim
theorem b6B.get {H:Hp}:∀{xs:List Addr} {es:List (Addr×Option (Str×V))} {i:Nat} {e:Addr×Option (Str×V)},b6B H xs es→es[i]?=some e→∃x,xs[i]?=some x∧c4q H x e.1 e.2
 | _::_,_::_,0,_,⟨a,_⟩,h=>by cases h;exact ⟨_,rfl,a⟩
 | _::_,_::_,i+1,_,⟨_,b⟩,h=>b6B.get (i:=i) b (by simpa using h)
 | [],_::_,_,_,h,_=>h.elim
 | _::_,[],_,_,h,_=>h.elim
end L2
namespace L2
open PySem PySem.Spec PySem.W PySem.Calls PyProof.Rows
def TbO (T:Addr) (fl:Value):HO:=.ext fun h=>∃ob ts,h.get? T=some ob∧ob.data=.fields ts∧ts[3]?=some fl
def Fl (H:Hp) (x C:Addr) (od:Option Addr) (fl:Value) (T:Addr):Prop:=T≠x∧H x=some (c2P x C od T)∧H T=some (TbO T fl)
def Arr (H:Hp) (x C:Addr) (od oT:Option Addr):Prop:=(oT=none∧H x=some (c2b x C od))∨∃T,oT=some T∧Fl H x C od .none T
end L2
namespace L2
open PySem PySem.Spec PySem.W PySem.Calls PyProof.Rows
end L2
namespace L2
open PySem PySem.Spec PySem.W PySem.Calls PyProof.Rows
section
variable {X:Cx} {pins:List (Addr×Obj)} {σ:St} {H:Hp} {s:Shared}
abbrev XW:=St→Addr→Addr→Hp→Prop
def XP (X:Cx) (pins:List (Addr×Obj)) (W:XW) (e:Value) (s':Shared):Prop:=∃σ H x C od oT,e=.ref x∧Inv X pins σ H s'∧Arr H x C od oT∧c7i X.K C∧W σ x C H
end
end L2
namespace L2
open PySem PySem.Spec PySem.W PySem.Calls PyProof.Rows
end L2
namespace L2
open PySem PySem.Spec PySem.W PySem.Calls PyProof.Rows
end L2
namespace L2
open PySem PySem.Spec PySem.W PySem.Calls PyProof.Rows
end L2
namespace L2
open PySem PySem.Spec PySem.W PySem.Calls PyProof.Rows
end L2
namespace L2
open PySem PySem.Spec PySem.W PySem.Calls PyProof.Rows
end L2
namespace L2
open PySem PySem.Spec PySem.W PySem.Calls PyProof.Rows
end L2
namespace Tx
open PySem PySem.Builtin PySem.Builtin.Str PySem.StrLaws PyProof.Rows
theorem a1A (l:List Nat) (i j:Nat):(strSub (mk l) i j).length≤l.length:=by
 rw [b7W,a0y]
 exact Qi (Wr _ _) (by rw [Jo];omega)
end Tx
namespace L2
open PySem PySem.Spec PySem.W PySem.Calls PyProof.Rows
def Itk (o:Obj) (a:Addr) (kvs:List (Key×V)):It:=⟨fun i H=>H a=some (.frz o (.dK kvs))∧i < kvs.length,fun i H x H'=>H'=H∧∃k v,kvs[i]?=some (k,v)∧x=kV k,fun i H=>H a=some (.frz o (.dK kvs))∧kvs.length≤i⟩
def b0K (td:TE):TI:=fun σ H R=>td σ H fun x H1=>∃(a:Addr) (kvs:List (Key×V)),x=.ref a∧H1 a=some (.dK kvs)∧∀o,R (Itk o a kvs) (upd H1 a (.frz o (.dK kvs)))
theorem a7p {o:Obj} {a:Addr} {kvs:List (Key×V)}:Src (Itk o a kvs) kvs.length (fun i=>(kvs[i]?.map fun p=>kV p.1).getD .non) (fun H=>H a=some (.frz o (.dK kvs))):=
 ⟨fun i H hi h=>⟨h,hi⟩,fun i H x H' hi h y=>⟨y.1,by obtain ⟨_,k,v,e,rfl⟩:=y;rw [e];rfl⟩,fun H h=>⟨h,Qk _⟩⟩
theorem b2Y {P:Program} {w:World} {k:Key} {u:Value} (h:(a0s P w).is k u=true):a0O (kV k) u:=by
 rcases a0H (k:=k) (v:=u) h with ⟨i,t,rfl,rfl⟩ | ⟨x,t,rfl,rfl⟩
 ·exact ⟨t,rfl⟩
 ·exact ⟨t,rfl⟩
theorem b4M:∀{r:List (Key×V)} {rs:List (Key×Value)},KV r rs→∀{i:Nat} {p:Key×V},r[i]?=some p→∃q,rs[i]?=some q∧p.1=q.1:=by
 intro r rs h
 unfold KV at h
 induction h with
 | nil=>intro i p e;simp at e
 | @cons p q ps qs h t ih=>
  intro i p' e
  cases i with
  | zero=>cases e;exact ⟨q,rfl,h.1⟩
  | succ i=>exact ih e
theorem a9k {P:Program} {w:World} {K:Qd} {tg:Expr} (o:Obj) (a it:Addr) (kvs:List (Key×V)):b5z P w K tg (Itk o a kvs) [it] it (fun i h=>∃es ep,o.data=.dict es ep∧h.IsKeyIter it a i kvs.length ep) where
 mem:=by simp
 obj:=fun i h st b hb=>by
  have e:b=it:=by simpa using hb
  subst e
  obtain ⟨_,_,_,ob,e,c,d⟩:=st
  exact ⟨ob,e,fun v z=>by rw [d] at z;cases z⟩
 keep:=fun i h h' st k=>by
  obtain ⟨es,ep,hd,hit⟩:=st
  exact ⟨es,ep,hd,hit.at fun o e=>k it (by simp) o e⟩
 item:=by
  intro X hP hw hK hc i pins s σ H E I hf st hg
  subst hP hw hK
  obtain ⟨es,ep,hd,hit⟩:=st
  obtain ⟨hfr,hi⟩:=hg
  obtain ⟨ho,z,hds,vs,rel,dd⟩:=(show a1h X.prog X.w H s.heap a (.frz o (.dK kvs)) from I.hok a _ hfr)
  obtain ⟨o',es',ep',ho',hx,hdat,r⟩:=dd
  rw [ho] at ho';cases ho'
  rw [hd] at hdat;cases hdat
  have hm:s.heap.DictAt (a0s X.prog X.w) a vs ep:=⟨o,es,ho,hx,hd,r⟩
  have hl:=rel.length
  rw [hl] at hit
  obtain ⟨⟨k,u⟩,hq,ek⟩:=b4M rel (Qc hi)
  obtain ⟨f0,f1,f2,f3,f4,f5⟩:=hf it (by simp)
  refine wpAny_pyNext_dict_item (knd:=a0s X.prog X.w) hit hm hq fun key h' hkey st' sb=>?_
  have I1:Inv X pins σ H {s with heap:=h'}:=I.turned (t':=s.toks) (fun b o hb e=>(sb.2 b hb).trans e) f0 f1 f3 f4 f5
  obtain ⟨ob,e,c,d⟩:=id st'
  have ek':kvs[i].1=k:=ek
  exact ⟨key,rfl,b2w (s:={s with heap:=h'}) e c d (by decide) ⟨kV kvs[i].1,H,I1,by rw [ek'];exact b2Y hkey,⟨rfl,kvs[i].1,kvs[i].2,Qc hi,rfl⟩,⟨es,ep,hd,by rw [hl];exact st'⟩,fun b hb=>(hf b hb).1⟩⟩
 done:=by
  intro X hP hw hK hc i pins s σ H E I hf st hg
  subst hP hw hK
  obtain ⟨es,ep,hd,hit⟩:=st
  obtain ⟨hfr,hi⟩:=hg
  obtain ⟨ho,z,hds,vs,rel,dd⟩:=(show a1h X.prog X.w H s.heap a (.frz o (.dK kvs)) from I.hok a _ hfr)
  obtain ⟨o',es',ep',ho',hx,hdat,r⟩:=dd
  rw [ho] at ho';cases ho'
  rw [hd] at hdat;cases hdat
  have hm:s.heap.DictAt (a0s X.prog X.w) a vs ep:=⟨o,es,ho,hx,hd,r⟩
  have hl:=rel.length
  rw [hl] at hit
  obtain ⟨f0,f1,f2,f3,f4,f5⟩:=hf it (by simp)
  exact wpAny_pyNext_dict_end (knd:=a0s X.prog X.w) (I.ok.hd hc) hit hm (Yr (by omega)) fun h' eb=>⟨rfl,I.turned (t':=s.toks) (fun b o hb e=>eb b o hb e) f0 f1 f3 f4 f5⟩
 self:=fun _ _ _ _ _ st h=>by
  obtain ⟨es,ep,hd,hit⟩:=st
  exact wpAny_pyIter_keyiter hit h
section
variable {X:Cx} {tg:Expr}
theorem b5M {o:Expr} {td:TE} (ho:PE X o td):PI X tg o (b0K td):=by
 intro pins s σ H R I h
 refine thn (ho pins s σ H _ I h) fun v s1 ⟨x,H1,I1,r1,q1⟩=>?_
 obtain ⟨a,kvs,rfl,hH,q⟩:=q1
 cases r1
 obtain ⟨z,hds,vs,rel,dd⟩:=a6K I1.hok hH
 obtain ⟨ob,es,ep,hob,hx,hdat,r⟩:=id dd
 have hm:s1.heap.DictAt (a0s X.prog X.w) a vs ep:=⟨ob,es,hob,hx,hdat,r⟩
 refine wpAny_pyIter_dict (knd:=a0s X.prog X.w) hds hm ?_
 have keep:∀b u,s1.heap.get? b=some u→(s1.heap.push {cls:=.type "dict_keyiterator",data:=.fields #[.ref a,.int 0 0,.int vs.length 0,.int ep 0]}).get? b=some u:=fun b u e=>Ql _ e
 have I2:=I1.kept (t':=s1.toks) keep
 obtain ⟨o2,ho2,I3⟩:=I2.freeze hH
 have e2:o2=ob:=by
  have:=keep a ob hob
  rw [show _=some o2 from ho2] at this
  exact Option.some.inj this
 subst e2
 have hl:=rel.length
 refine ⟨s1.heap.objs.size,[s1.heap.objs.size],_,_,_,rfl,I3,a9k o2 a _ kvs,⟨es,ep,hdat,_,Xe _ rfl,rfl,by rw [hl];rfl⟩,fun b hb=>?_,q o2⟩
 have e:b=s1.heap.objs.size:=by simpa using hb
 subst e
 have hn:=I1.hok.fresh (a:=s1.heap.objs.size) (Qk _)
 exact I1.fpOk (Qk _) (by rw [a0a (a0c hH hn).symm];exact hn)
end
end L2
namespace L2
open PySem PySem.Spec PySem.W PySem.Calls PyProof.Rows
def c0J:V→List V→Hp→VK→Prop:=fun x xs H Q=>∃(a b:Addr) (kvs more:List (Key×V)),x=.ref a∧xs=[.ref b]∧a≠b∧H a=some (.dK kvs)∧H b=some (.dK more)∧kvs.length+more.length≤sizeLine∧Q .non (upd H a (.dK (a1r kvs more)))
section
variable {X:Cx}
theorem a4J:MtM X "dict.update" c0J:=by
 intro pins s σ H x xs v us Q I rx rv h
 obtain ⟨a,b,kvs,more,rfl,rfl,hab,ha,hb,hz,q⟩:=h
 cases rx
 obtain ⟨u,rfl,ru⟩:=a3y rv
 cases ru
 obtain ⟨z,hd,vs,rel,dd⟩:=a6K I.hok ha
 obtain ⟨z',hd',vs',rel',dd'⟩:=a6K I.hok hb
 refine call_meetsIn Jy dd.typeIs PySem.F.entry_dict_update (PySem.F.args_dict_update_2 _ _) (meets_dict_update (a0s X.prog X.w) a b hab hd') ⟨vs,vs',dd,dd',by rw [←rel.length,←rel'.length];exact hz,fun h' dn db hs=>?_⟩
 have he:∃q,h'.get? a=some q:=let ⟨q,_,_,hq,_⟩:=dn;⟨q,hq⟩
 exact ⟨.non,_,a4e (t':=s.toks) I (by rw [ha];exact True.intro) hs he (a7u (Qi (a1j more kvs) hz) hd (KV.merge rel' rel) dn),rfl,q⟩
end
end L2
namespace L2
open PySem PySem.Spec PySem.W PySem.Calls PyProof.Rows
end L2
namespace L2
open PySem PySem.Spec PySem.W PySem.Calls PyProof.Rows
def b5y (ts:TS):TS:=fun E σ H=>∃(a:Addr) (kvs:List (Key×V)),H a=some (.dK kvs)∧
 ts {nx:=fun σ' H1=>∃o,H1 a=some (.frz o (.dK kvs))∧E.nx σ' (upd H1 a (.dK kvs)),rt:=fun v H1=>∃o,H1 a=some (.frz o (.dK kvs))∧E.rt v (upd H1 a (.dK kvs)),bk:=fun σ' H1=>∃o,H1 a=some (.frz o (.dK kvs))∧E.bk σ' (upd H1 a (.dK kvs)),ct:=fun σ' H1=>∃o,H1 a=some (.frz o (.dK kvs))∧E.ct σ' (upd H1 a (.dK kvs))} σ H
section
variable {X:Cx}
theorem b5J {st:Stmt} {ts:TS} (hs:PS X st ts):PS X st (b5y ts):=by
 intro pins s σ H D I h
 obtain ⟨a,kvs,hH,h⟩:=h
 have hn:∀ob u,X.H₀ a≠some (.frz ob u):=fun ob u z=>by
  have:=I.base.frzs a ob u z
  rw [hH] at this;cases this
 refine thn (hs pins s σ H _ I h) fun f s1 q=>?_
 cases f with
 | next=>obtain ⟨σ',H1,I1,o,e1,q⟩:=q;exact ⟨σ',_,I1.thaw e1 hn,q⟩
 | brk=>obtain ⟨σ',H1,I1,o,e1,q⟩:=q;exact ⟨σ',_,I1.thaw e1 hn,q⟩
 | cont=>obtain ⟨σ',H1,I1,o,e1,q⟩:=q;exact ⟨σ',_,I1.thaw e1 hn,q⟩
 | ret u=>obtain ⟨v,σ',H1,I1,r,o,e1,q⟩:=q;exact ⟨v,σ',_,I1.thaw e1 hn,r,q⟩
end
end L2
namespace L2
open PySem PySem.Spec PySem.W PySem.Calls PyProof.Rows
def c1N (ts ts':TS):TS:=fun E σ H=>ts E σ H∨ts' E σ H
section
variable {X:Cx}
theorem b9W {st:Stmt} {ts ts':TS} (h1:PS X st ts) (h2:PS X st ts'):PS X st (c1N ts ts'):=by
 intro pins s σ H D I h
 rcases h with h | h
 ·exact h1 pins s σ H D I h
 ·exact h2 pins s σ H D I h
end
end L2
namespace L2
open PySem PySem.Spec PySem.W PySem.Calls PyProof.Rows
def a6f (H:Hp) (q:Hp→Prop) (H1:Hp):Prop:=∃(a:Addr) (o:Obj) (kvs:List (Key×V)),(∀ob u,H a≠some (.frz ob u))∧H1 a=some (.frz o (.dK kvs))∧q (upd H1 a (.dK kvs))
def b3H (ts:TS):TS:=fun E σ H=>ts {nx:=fun σ'=>a6f H (E.nx σ'),rt:=fun v=>a6f H (E.rt v),bk:=fun σ'=>a6f H (E.bk σ'),ct:=fun σ'=>a6f H (E.ct σ')} σ H
section
variable {X:Cx}
theorem b2m {st:Stmt} {ts:TS} (hs:PS X st ts):PS X st (b3H ts):=by
 intro pins s σ H D I h
 have hn:∀a,(∀ob u,H a≠some (.frz ob u))→∀ob u,X.H₀ a≠some (.frz ob u):=fun a n ob u z=>n ob u (I.base.frzs a ob u z)
 refine thn (hs pins s σ H _ I h) fun f s1 q=>?_
 cases f with
 | next=>obtain ⟨σ',H1,I1,a,o,kvs,n,e1,q⟩:=q;exact ⟨σ',_,I1.thaw e1 (hn a n),q⟩
 | brk=>obtain ⟨σ',H1,I1,a,o,kvs,n,e1,q⟩:=q;exact ⟨σ',_,I1.thaw e1 (hn a n),q⟩
 | cont=>obtain ⟨σ',H1,I1,a,o,kvs,n,e1,q⟩:=q;exact ⟨σ',_,I1.thaw e1 (hn a n),q⟩
 | ret u=>obtain ⟨v,σ',H1,I1,r,a,o,kvs,n,e1,q⟩:=q;exact ⟨v,σ',_,I1.thaw e1 (hn a n),r,q⟩
end
end L2
namespace L2
open PySem
theorem c5A {a b c:Prop} (h:a):a∨b∨c:=Or.inl h
theorem c6C {a b c:Prop} (h:b):a∨b∨c:=Or.inr (Or.inl h)
theorem c5h {a b c:Prop} (h:c):a∨b∨c:=Or.inr (Or.inr h)
end L2
namespace K45
open PySem L2 Tx
abbrev a1S:Str:="sure_steps.<locals>.<lambda>"
theorem a2D:("sure_steps":Str)++".<locals>."++"<lambda>"=a1S:=by decide+kernel
def top (i:Nat):Stmt:=PySem.Challenge.pw_mostwise_k45_whole_never_both.main.body.getD i (.Pass ⟨0,0,0,0⟩)
abbrev b1z:Stmt:=top 2
abbrev b9O:List Str:=["some","told","statement"]
theorem a7Z:a0g b9O ["some"] (a0b b1z):=⟨rfl,rfl,rfl,by decide+kernel,rfl,by decide+kernel,by decide+kernel⟩
abbrev a8e:Stmt:=top 3
abbrev b6h:List Str:=["statements","some"]
theorem b7X:a0g b6h ["statements","some"] (a0b a8e):=⟨rfl,rfl,rfl,by decide+kernel,rfl,by decide+kernel,by decide+kernel⟩
abbrev a8z:Stmt:=top 4
abbrev b5p:List Str:=["statements","some"]
theorem b8s:a0g b5p ["statements","some"] (a0b a8z):=⟨rfl,rfl,rfl,by decide+kernel,rfl,by decide+kernel,by decide+kernel⟩
abbrev a9o:Stmt:=top 6
abbrev b9r:List Str:=["statement"]
theorem c0e:a0g b9r ["statement"] (a0b a9o):=⟨rfl,rfl,rfl,by decide+kernel,rfl,by decide+kernel,by decide+kernel⟩
abbrev b0C:Stmt:=top 8
abbrev b9R:List Str:=["ground","heads","rule","premise"]
theorem a7T:a0g b9R ["ground"] (a0b b0C):=⟨rfl,rfl,rfl,by decide+kernel,rfl,by decide+kernel,by decide+kernel⟩
abbrev a2B:Stmt:=top 10
abbrev a8C:List Str:=["rules","known","sure","waiting","ranks","rank","fresh","head"]
theorem a2F:a0g a8C ["rules","known"] (a0b a2B):=⟨rfl,rfl,rfl,by decide+kernel,rfl,by decide+kernel,by decide+kernel⟩
abbrev a8l:Stmt:=top 11
abbrev b5f:List Str:=["ground","ranks"]
theorem b3o:a0g b5f ["ground"] (a0b a8l):=⟨rfl,rfl,rfl,by decide+kernel,rfl,by decide+kernel,by decide+kernel⟩
abbrev a8M:Stmt:=top 15
abbrev b4Y:List Str:=["ground","rule","beaters"]
theorem b8h:a0g b4Y ["ground","rule","beaters"] (a0b a8M):=⟨rfl,rfl,rfl,by decide+kernel,rfl,by decide+kernel,by decide+kernel⟩
abbrev a6L:Stmt:=top 16
abbrev b1Z:List Str:=["ground","sures","held","refused","q","standing"]
theorem b4f:a0g b1Z ["ground","sures","held","refused","q"] (a0b a6L):=⟨rfl,rfl,rfl,by decide+kernel,rfl,by decide+kernel,by decide+kernel⟩
abbrev a6Y:Stmt:=top 17
abbrev b2Q:List Str:=["ground","sures","held","refused","q","unfallen"]
theorem b3R:a0g b2Q ["ground","sures","held","refused","q"] (a0b a6Y):=⟨rfl,rfl,rfl,by decide+kernel,rfl,by decide+kernel,by decide+kernel⟩
abbrev a9A:Stmt:=top 18
abbrev b7U:List Str:=["ground","sures","held","refused","asked","words","q"]
theorem a7o:a0g b7U ["ground","sures","held","refused","asked"] (a0b a9A):=⟨rfl,rfl,rfl,by decide+kernel,rfl,by decide+kernel,by decide+kernel⟩
abbrev b0f:Stmt:=top 19
abbrev b9X:List Str:=["heads","came","told","premise","head"]
theorem a7b:a0g b9X ["heads","came"] (a0b b0f):=⟨rfl,rfl,rfl,by decide+kernel,rfl,by decide+kernel,by decide+kernel⟩
abbrev a4n:Stmt:=top 20
abbrev a6z:List Str:=["ground","some","sures","known","sure","held","refused","heads","wanted","told","rank","came","q","asked"]
theorem a1Z:a0g a6z ["ground","some","sures","known"] (a0b a4n):=⟨rfl,rfl,rfl,by decide+kernel,rfl,by decide+kernel,by decide+kernel⟩
abbrev b1u:Stmt:=a0h (top 21) 0
abbrev b6F:List Str:=["self","ground"]
theorem b9B:a0g b6F ["self","ground"] (a0b b1u):=⟨rfl,rfl,rfl,by decide+kernel,rfl,by decide+kernel,by decide+kernel⟩
abbrev b1C:Stmt:=a0h (top 21) 1
abbrev b9H:List Str:=["self","q"]
theorem b6N:a0g b9H ["self","q"] (a0b b1C):=⟨rfl,rfl,rfl,by decide+kernel,rfl,by decide+kernel,by decide+kernel⟩
abbrev a9l:Stmt:=a0h (top 21) 2
abbrev c0m:List Str:=["self","q"]
theorem b7Z:a0g c0m ["self","q"] (a0b a9l):=⟨rfl,rfl,rfl,by decide+kernel,rfl,by decide+kernel,by decide+kernel⟩
abbrev a9v:Stmt:=a0h (top 21) 3
abbrev b8e:List Str:=["self","q"]
theorem b7f:a0g b8e ["self","q"] (a0b a9v):=⟨rfl,rfl,rfl,by decide+kernel,rfl,by decide+kernel,by decide+kernel⟩
abbrev b0U:Stmt:=a0h (top 21) 4
abbrev b7K:List Str:=["self","q"]
theorem b9c:a0g b7K ["self","q"] (a0b b0U):=⟨rfl,rfl,rfl,by decide+kernel,rfl,by decide+kernel,by decide+kernel⟩
abbrev a8X:Stmt:=a0h (top 21) 6
abbrev b8B:List Str:=["self","q"]
theorem b7s:a0g b8B ["self","q"] (a0b a8X):=⟨rfl,rfl,rfl,by decide+kernel,rfl,by decide+kernel,by decide+kernel⟩
abbrev b2p:Stmt:=a0h (top 21) 8
abbrev a9p:Stmt:=a0h (top 23) 0
abbrev b6Q:List Str:=["self","label","head","body"]
theorem b9o:a0g b6Q ["self","label","head","body"] (a0b a9p):=⟨rfl,rfl,rfl,by decide+kernel,rfl,by decide+kernel,by decide+kernel⟩
abbrev a9b:Stmt:=a0h (top 23) 2
abbrev b7G:List Str:=["self"]
theorem b9t:a0g b7G ["self"] (a0b a9b):=⟨rfl,rfl,rfl,by decide+kernel,rfl,by decide+kernel,by decide+kernel⟩
abbrev b0Y:Stmt:=a0h (top 23) 3
abbrev b8y:List Str:=["self"]
theorem b6K:a0g b8y ["self"] (a0b b0Y):=⟨rfl,rfl,rfl,by decide+kernel,rfl,by decide+kernel,by decide+kernel⟩
abbrev a9e:Stmt:=a0h (top 24) 0
abbrev b7C:List Str:=["self","head"]
theorem b8X:a0g b7C ["self","head"] (a0b a9e):=⟨rfl,rfl,rfl,by decide+kernel,rfl,by decide+kernel,by decide+kernel⟩
abbrev a9h:Stmt:=a0h (top 24) 2
abbrev b7Y:List Str:=["self"]
theorem b9Y:a0g b7Y ["self"] (a0b a9h):=⟨rfl,rfl,rfl,by decide+kernel,rfl,by decide+kernel,by decide+kernel⟩
abbrev b1t:Stmt:=a0h (top 25) 1
abbrev b6H:List Str:=["self"]
theorem b7A:a0g b6H ["self"] (a0b b1t):=⟨rfl,rfl,rfl,by decide+kernel,rfl,by decide+kernel,by decide+kernel⟩
abbrev a9K:Stmt:=a0h (top 27) 1
abbrev b7D:List Str:=["self"]
theorem b8v:a0g b7D ["self"] (a0b a9K):=⟨rfl,rfl,rfl,by decide+kernel,rfl,by decide+kernel,by decide+kernel⟩
abbrev b0S:Stmt:=a0h (top 29) 0
abbrev b9n:List Str:=["self","rules","pairs","rule","pair"]
theorem b1x:a0g b9n ["self","rules","pairs"] (a0b b0S):=⟨rfl,rfl,rfl,by decide+kernel,rfl,by decide+kernel,by decide+kernel⟩
abbrev b0z:Stmt:=a0h (top 29) 1
abbrev c0b:List Str:=["self"]
theorem b9y:a0g c0b ["self"] (a0b b0z):=⟨rfl,rfl,rfl,by decide+kernel,rfl,by decide+kernel,by decide+kernel⟩
abbrev b1r:Stmt:=a0h (top 29) 2
abbrev b6L:List Str:=["self","statement"]
theorem b7H:a0g b6L ["self","statement"] (a0b b1r):=⟨rfl,rfl,rfl,by decide+kernel,rfl,by decide+kernel,by decide+kernel⟩
abbrev a8g:Stmt:=a0h (top 29) 3
abbrev b6z:List Str:=["self","statement"]
theorem b9g:a0g b6z ["self","statement"] (a0b a8g):=⟨rfl,rfl,rfl,by decide+kernel,rfl,by decide+kernel,by decide+kernel⟩
abbrev a9F:Stmt:=a0h (top 29) 4
abbrev b7w:List Str:=["self","statement"]
theorem b7z:a0g b7w ["self","statement"] (a0b a9F):=⟨rfl,rfl,rfl,by decide+kernel,rfl,by decide+kernel,by decide+kernel⟩
abbrev a9U:Stmt:=a0h (top 29) 5
abbrev b6Z:List Str:=["self","one","other"]
theorem b6J:a0g b6Z ["self","one","other"] (a0b a9U):=⟨rfl,rfl,rfl,by decide+kernel,rfl,by decide+kernel,by decide+kernel⟩
abbrev b1d:Stmt:=a0h (top 29) 6
abbrev b8x:List Str:=["self","told","rule","statement"]
theorem a7r:a0g b8x ["self"] (a0b b1d):=⟨rfl,rfl,rfl,by decide+kernel,rfl,by decide+kernel,by decide+kernel⟩
abbrev b1s:Stmt:=top 31
abbrev b9P:List Str:=["_law_script","_law_k"]
theorem b9k:a0g b9P ["_law_script","_law_k"] (a0b b1s):=⟨rfl,rfl,rfl,by decide+kernel,rfl,by decide+kernel,by decide+kernel⟩
abbrev b0j:Stmt:=top 32
abbrev b8n:List Str:=["_law_cell","_law_k","_law_number"]
theorem b0q:a0g b8n ["_law_cell","_law_k"] (a0b b0j):=⟨rfl,rfl,rfl,by decide+kernel,rfl,by decide+kernel,by decide+kernel⟩
abbrev b0r:Stmt:=top 33
abbrev b8t:List Str:=["_law_cell","_law_k","_law_signs","_law_size","_law_at","_law_word_here","_law_j","_law_step"]
theorem a3s:a0g b8t ["_law_cell","_law_k","_law_signs"] (a0b b0r):=⟨rfl,rfl,rfl,by decide+kernel,rfl,by decide+kernel,by decide+kernel⟩
abbrev a8P:Stmt:=top 34
abbrev b4U:List Str:=["_law_cell","_law_words","_law_pool_here","_law_k","_law_places"]
theorem a6i:a0g b4U ["_law_cell"] (a0b a8P):=⟨rfl,rfl,rfl,by decide+kernel,rfl,by decide+kernel,by decide+kernel⟩
abbrev a6u:Stmt:=top 35
abbrev b2b:List Str:=["_law_m","_law_k","_law_pool_here","_law_labels_here","_law_style","_law_size","_law_head","_law_body","_law_many","_law_sort"]
theorem a3t:a0g b2b ["_law_m","_law_k","_law_pool_here","_law_labels_here","_law_style"] (a0b a6u):=⟨rfl,rfl,rfl,by decide+kernel,rfl,by decide+kernel,by decide+kernel⟩
abbrev b1j:Stmt:=top 36
abbrev b8w:List Str:=["_law_row_here","_law_sort","_law_label","_law_head","_law_body"]
theorem a5Z:a0g b8w ["_law_row_here"] (a0b b1j):=⟨rfl,rfl,rfl,by decide+kernel,rfl,by decide+kernel,by decide+kernel⟩
abbrev a8y:Stmt:=top 37
abbrev b6l:List Str:=["_law_cell"]
theorem b7x:a0g b6l ["_law_cell"] (a0b a8y):=⟨rfl,rfl,rfl,by decide+kernel,rfl,by decide+kernel,by decide+kernel⟩
abbrev b0n:Stmt:=top 38
abbrev b6U:List Str:=["_law_cell","_law_pool_here","_law_labels_here","_law_size","_law_sort","_law_label","_law_head","_law_many","_law_rest","_law_body","_law_j"]
theorem a2G:a0g b6U ["_law_cell","_law_pool_here","_law_labels_here"] (a0b b0n):=⟨rfl,rfl,rfl,by decide+kernel,rfl,by decide+kernel,by decide+kernel⟩
abbrev a6W:Stmt:=top 39
abbrev b2l:List Str:=["_law_script","_law_start","_law_pool_here","_law_labels_here","_law_style","_law_cells"]
theorem a5X:a0g b2l ["_law_script","_law_start"] (a0b a6W):=⟨rfl,rfl,rfl,by decide+kernel,rfl,by decide+kernel,by decide+kernel⟩
abbrev a9W:Stmt:=top 40
abbrev b8u:List Str:=["_law_q"]
theorem b9C:a0g b8u ["_law_q"] (a0b a9W):=⟨rfl,rfl,rfl,by decide+kernel,rfl,by decide+kernel,by decide+kernel⟩
abbrev a9r:Stmt:=top 41
abbrev b8Z:List Str:=["_law_rows_here","_law_by_here","_law_row_here"]
theorem b0T:a0g b8Z ["_law_rows_here"] (a0b a9r):=⟨rfl,rfl,rfl,by decide+kernel,rfl,by decide+kernel,by decide+kernel⟩
abbrev a8J:Stmt:=top 42
abbrev b6x:List Str:=["_law_row_here","_law_up"]
theorem b8I:a0g b6x ["_law_row_here","_law_up"] (a0b a8J):=⟨rfl,rfl,rfl,by decide+kernel,rfl,by decide+kernel,by decide+kernel⟩
abbrev a8L:Stmt:=top 43
abbrev b5u:List Str:=["_law_row_here","_law_down"]
theorem b8T:a0g b5u ["_law_row_here","_law_down"] (a0b a8L):=⟨rfl,rfl,rfl,by decide+kernel,rfl,by decide+kernel,by decide+kernel⟩
abbrev a8d:Stmt:=top 44
abbrev b4B:List Str:=["_law_pairs","_law_row_here","_law_some"]
theorem b8O:a0g b4B ["_law_pairs","_law_row_here","_law_some"] (a0b a8d):=⟨rfl,rfl,rfl,by decide+kernel,rfl,by decide+kernel,by decide+kernel⟩
abbrev a5M:Stmt:=top 45
abbrev a9a:List Str:=["_law_by_here","_law_pairs","_law_firm","_law_up","_law_down","_law_q","_law_good","_law_bad"]
theorem b1f:a0g a9a ["_law_by_here","_law_pairs","_law_firm","_law_up","_law_down","_law_q"] (a0b a5M):=⟨rfl,rfl,rfl,by decide+kernel,rfl,by decide+kernel,by decide+kernel⟩
abbrev a6r:Stmt:=top 46
abbrev b1i:List Str:=["_law_by_here","_law_pairs","_law_firm","_law_up","_law_down","_law_q","_law_left","_law_bad"]
theorem b1l:a0g b1i ["_law_by_here","_law_pairs","_law_firm","_law_up","_law_down","_law_q"] (a0b a6r):=⟨rfl,rfl,rfl,by decide+kernel,rfl,by decide+kernel,by decide+kernel⟩
abbrev b0a:Stmt:=top 47
abbrev b8R:List Str:=["_law_pairs","_law_one","_law_other_here","_law_seen","_law_more","_law_pair"]
theorem a4I:a0g b8R ["_law_pairs","_law_one","_law_other_here"] (a0b b0a):=⟨rfl,rfl,rfl,by decide+kernel,rfl,by decide+kernel,by decide+kernel⟩
abbrev b0A:Stmt:=top 48
abbrev b6O:List Str:=["_law_cell","_law_many","_law_labels_here","_law_pairs","_law_k","_law_number","_law_pair"]
theorem a4y:a0g b6O ["_law_cell","_law_many"] (a0b b0A):=⟨rfl,rfl,rfl,by decide+kernel,rfl,by decide+kernel,by decide+kernel⟩
abbrev b1v:Stmt:=top 49
abbrev b9M:List Str:=["_law_answers","_law_pool_here","_law_limit","_law_up","_law_down","_law_q"]
theorem a7f:a0g b9M ["_law_answers","_law_pool_here","_law_limit"] (a0b b1v):=⟨rfl,rfl,rfl,by decide+kernel,rfl,by decide+kernel,by decide+kernel⟩
abbrev a8R:Stmt:=top 50
abbrev b5Y:List Str:=["_law_by_here","_law_pairs","_law_answers","_law_pool_here","_law_q","_law_firm","_law_rank","_law_limits","_law_told","_law_limit","_law_up","_law_down"]
theorem a2R:a0g b5Y ["_law_by_here","_law_pairs","_law_answers","_law_pool_here","_law_q"] (a0b a8R):=⟨rfl,rfl,rfl,by decide+kernel,rfl,by decide+kernel,by decide+kernel⟩
abbrev a3d:Stmt:=top 51
abbrev a6O:List Str:=["_law_script","_law_rows_here","_law_pool_here","_law_pairs","_law_answers","_law_by_here","_law_q","_law_told","_law_both"]
theorem a1F:a0g a6O ["_law_script"] (a0b a3d):=⟨rfl,rfl,rfl,by decide+kernel,rfl,by decide+kernel,by decide+kernel⟩
structure Adr where
 f_z1w:Addr
 fd_z1w:FuncData
 f_z11:Addr
 fd_z11:FuncData
 f_z12:Addr
 fd_z12:FuncData
 f_z1d:Addr
 fd_z1d:FuncData
 f_z02:Addr
 fd_z02:FuncData
 f_z0n:Addr
 fd_z0n:FuncData
 T_z0n:Addr
 f_z0u:Addr
 fd_z0u:FuncData
 f_z13:Addr
 fd_z13:FuncData
 f_z1e:Addr
 fd_z1e:FuncData
 f_z0v:Addr
 fd_z0v:FuncData
 f_z14:Addr
 fd_z14:FuncData
 f_z1k:Addr
 fd_z1k:FuncData
 f_z0o:Addr
 fd_z0o:FuncData
 f_z0b:Addr
 fd_z0b:FuncData
 f_z00:Addr
 fd_z00:FuncData
 f_z0c:Addr
 fd_z0c:FuncData
 f_z0d:Addr
 fd_z0d:FuncData
 f_z03:Addr
 fd_z03:FuncData
 f_z0e:Addr
 fd_z0e:FuncData
 f_z09:Addr
 fd_z09:FuncData
 f_z15:Addr
 fd_z15:FuncData
 f_z0p:Addr
 fd_z0p:FuncData
 f_z0f:Addr
 fd_z0f:FuncData
 f_z17:Addr
 fd_z17:FuncData
 f_z0h:Addr
 fd_z0h:FuncData
 f_z0i:Addr
 fd_z0i:FuncData
 f_z0j:Addr
 fd_z0j:FuncData
 f_z0s:Addr
 fd_z0s:FuncData
 f_z0k:Addr
 fd_z0k:FuncData
 f_z0a:Addr
 fd_z0a:FuncData
 f_z04:Addr
 fd_z04:FuncData
 f_z08:Addr
 fd_z08:FuncData
 f_z0l:Addr
 fd_z0l:FuncData
 f_z01:Addr
 fd_z01:FuncData
 f_z1b:Addr
 fd_z1b:FuncData
 f_z1x:Addr
 fd_z1x:FuncData
 f_z1p:Addr
 fd_z1p:FuncData
 f_z1q:Addr
 fd_z1q:FuncData
 f_z1y:Addr
 fd_z1y:FuncData
 f_z1r:Addr
 fd_z1r:FuncData
 f_z1h:Addr
 fd_z1h:FuncData
 f_z05:Addr
 fd_z05:FuncData
 f_z1s:Addr
 fd_z1s:FuncData
 f_z1l:Addr
 fd_z1l:FuncData
 f_z1z:Addr
 fd_z1z:FuncData
 f_z1i:Addr
 fd_z1i:FuncData
 f_z1m:Addr
 fd_z1m:FuncData
 f_z1j:Addr
 fd_z1j:FuncData
 f_z1t:Addr
 fd_z1t:FuncData
 f_z1c:Addr
 fd_z1c:FuncData
 f_z1n:Addr
 fd_z1n:FuncData
 f_z0m:Addr
 fd_z0m:FuncData
 f_z1o:Addr
 fd_z1o:FuncData
 f_z1u:Addr
 fd_z1u:FuncData
 f_d_law:Addr
 fd_d_law:FuncData
 C_Answers:Addr
 C_Rule:Addr
 C_Fact:Addr
 C_Sure:Addr
 C_Most:Addr
 C_Block:Addr
 C_Ground:Addr
 TB_z0u:Addr
structure Txt (K:Qd) (mg:Str→Option Value) (t:Adr):Prop where
 F_z1w:Fun K "keyed" "keyed" b1z t.f_z1w t.fd_z1w
 b_z1w:a0m K t.fd_z1w ["some"] []
 g_z1w:mg "keyed"=some (.ref t.f_z1w)
 F_z11:Fun K "all_among" "all_among" a8e t.f_z11 t.fd_z11
 b_z11:a0m K t.fd_z11 ["statements","some"] []
 g_z11:mg "all_among"=some (.ref t.f_z11)
 F_z12:Fun K "any_among" "any_among" a8z t.f_z12 t.fd_z12
 b_z12:a0m K t.fd_z12 ["statements","some"] []
 g_z12:mg "any_among"=some (.ref t.f_z12)
 F_z1d:Fun K "opposite" "opposite" a9o t.f_z1d t.fd_z1d
 b_z1d:a0m K t.fd_z1d ["statement"] []
 g_z1d:mg "opposite"=some (.ref t.f_z1d)
 F_z02:Fun K "heads_by_premise" "heads_by_premise" b0C t.f_z02 t.fd_z02
 b_z02:a0m K t.fd_z02 ["ground"] []
 g_z02:mg "heads_by_premise"=some (.ref t.f_z02)
 F_z0n:b3C K "sure_rounds" "sure_rounds" a2B t.f_z0n t.fd_z0n t.T_z0n [Value.none]
 b_z0n:a0m K t.fd_z0n ["rules","known"] []
 bd_z0n:a0m K t.fd_z0n ["rules","known"] [Value.none]
 g_z0n:mg "sure_rounds"=some (.ref t.f_z0n)
 F_z0u:Fun K "sure_steps" "sure_steps" a8l t.f_z0u t.fd_z0u
 b_z0u:a0m K t.fd_z0u ["ground"] []
 g_z0u:mg "sure_steps"=some (.ref t.f_z0u)
 F_z13:Fun K "is_beaten" "is_beaten" a8M t.f_z13 t.fd_z13
 b_z13:a0m K t.fd_z13 ["ground","rule","beaters"] []
 g_z13:mg "is_beaten"=some (.ref t.f_z13)
 F_z1e:Fun K "holds_by" "holds_by" a6L t.f_z1e t.fd_z1e
 b_z1e:a0m K t.fd_z1e ["ground","sures","held","refused","q"] []
 g_z1e:mg "holds_by"=some (.ref t.f_z1e)
 F_z0v:Fun K "refused_by" "refused_by" a6Y t.f_z0v t.fd_z0v
 b_z0v:a0m K t.fd_z0v ["ground","sures","held","refused","q"] []
 g_z0v:mg "refused_by"=some (.ref t.f_z0v)
 F_z14:Fun K "words_now" "words_now" a9A t.f_z14 t.fd_z14
 b_z14:a0m K t.fd_z14 ["ground","sures","held","refused","asked"] []
 g_z14:mg "words_now"=some (.ref t.f_z14)
 F_z1k:Fun K "touched" "touched" b0f t.f_z1k t.fd_z1k
 b_z1k:a0m K t.fd_z1k ["heads","came"] []
 g_z1k:mg "touched"=some (.ref t.f_z1k)
 F_z0o:Fun K "most_rounds" "most_rounds" a4n t.f_z0o t.fd_z0o
 b_z0o:a0m K t.fd_z0o ["ground","some","sures","known"] []
 g_z0o:mg "most_rounds"=some (.ref t.f_z0o)
 F_z0b:Fun K "__init__" "Answers.__init__" b1u t.f_z0b t.fd_z0b
 b_z0b:a0m K t.fd_z0b ["self","ground"] []
 F_z00:Fun K "word_and_rank" "Answers.word_and_rank" b1C t.f_z00 t.fd_z00
 b_z00:a0m K t.fd_z00 ["self","q"] []
 F_z0c:Fun K "sure" "Answers.sure" a9l t.f_z0c t.fd_z0c
 b_z0c:a0m K t.fd_z0c ["self","q"] []
 F_z0d:Fun K "held" "Answers.held" a9v t.f_z0d t.fd_z0d
 b_z0d:a0m K t.fd_z0d ["self","q"] []
 F_z03:Fun K "refused" "Answers.refused" b0U t.f_z03 t.fd_z03
 b_z03:a0m K t.fd_z03 ["self","q"] []
 F_z0e:Fun K "rank" "Answers.rank" a8X t.f_z0e t.fd_z0e
 b_z0e:a0m K t.fd_z0e ["self","q"] []
 F_z09:Fun K "sures" "Answers.sures" b2p t.f_z09 t.fd_z09
 b_z09:a0m K t.fd_z09 ["self"] []
 F_z15:Fun K "__init__" "Rule.__init__" a9p t.f_z15 t.fd_z15
 b_z15:a0m K t.fd_z15 ["self","label","head","body"] []
 F_z0p:Fun K "speaks" "Rule.speaks" a9b t.f_z0p t.fd_z0p
 b_z0p:a0m K t.fd_z0p ["self"] []
 F_z0f:Fun K "is_sure" "Rule.is_sure" b0Y t.f_z0f t.fd_z0f
 b_z0f:a0m K t.fd_z0f ["self"] []
 F_z17:Fun K "__init__" "Fact.__init__" a9e t.f_z17 t.fd_z17
 b_z17:a0m K t.fd_z17 ["self","head"] []
 F_z0h:Fun K "is_sure" "Fact.is_sure" a9h t.f_z0h t.fd_z0h
 b_z0h:a0m K t.fd_z0h ["self"] []
 F_z0i:Fun K "is_sure" "Sure.is_sure" b1t t.f_z0i t.fd_z0i
 b_z0i:a0m K t.fd_z0i ["self"] []
 F_z0j:Fun K "speaks" "Block.speaks" a9K t.f_z0j t.fd_z0j
 b_z0j:a0m K t.fd_z0j ["self"] []
 F_z0s:Fun K "__init__" "Ground.__init__" b0S t.f_z0s t.fd_z0s
 b_z0s:a0m K t.fd_z0s ["self","rules","pairs"] []
 F_z0k:Fun K "rules" "Ground.rules" b0z t.f_z0k t.fd_z0k
 b_z0k:a0m K t.fd_z0k ["self"] []
 F_z0a:Fun K "ruling" "Ground.ruling" b1r t.f_z0a t.fd_z0a
 b_z0a:a0m K t.fd_z0a ["self","statement"] []
 F_z04:Fun K "speaking" "Ground.speaking" a8g t.f_z04 t.fd_z04
 b_z04:a0m K t.fd_z04 ["self","statement"] []
 F_z08:Fun K "against" "Ground.against" a9F t.f_z08 t.fd_z08
 b_z08:a0m K t.fd_z08 ["self","statement"] []
 F_z0l:Fun K "beats" "Ground.beats" a9U t.f_z0l t.fd_z0l
 b_z0l:a0m K t.fd_z0l ["self","one","other"] []
 F_z01:Fun K "statements" "Ground.statements" b1d t.f_z01 t.fd_z01
 b_z01:a0m K t.fd_z01 ["self"] []
 F_z1b:Fun K "_law_cell_at" "_law_cell_at" b1s t.f_z1b t.fd_z1b
 b_z1b:a0m K t.fd_z1b ["_law_script","_law_k"] []
 g_z1b:mg "_law_cell_at"=some (.ref t.f_z1b)
 F_z1x:Fun K "_law_mix" "_law_mix" b0j t.f_z1x t.fd_z1x
 b_z1x:a0m K t.fd_z1x ["_law_cell","_law_k"] []
 g_z1x:mg "_law_mix"=some (.ref t.f_z1x)
 F_z1p:Fun K "_law_word" "_law_word" b0r t.f_z1p t.fd_z1p
 b_z1p:a0m K t.fd_z1p ["_law_cell","_law_k","_law_signs"] []
 g_z1p:mg "_law_word"=some (.ref t.f_z1p)
 F_z1q:Fun K "_law_pool" "_law_pool" a8P t.f_z1q t.fd_z1q
 b_z1q:a0m K t.fd_z1q ["_law_cell"] []
 g_z1q:mg "_law_pool"=some (.ref t.f_z1q)
 F_z1y:Fun K "_law_row" "_law_row" a6u t.f_z1y t.fd_z1y
 b_z1y:a0m K t.fd_z1y ["_law_m","_law_k","_law_pool_here","_law_labels_here","_law_style"] []
 g_z1y:mg "_law_row"=some (.ref t.f_z1y)
 F_z1r:Fun K "_law_made" "_law_made" b1j t.f_z1r t.fd_z1r
 b_z1r:a0m K t.fd_z1r ["_law_row_here"] []
 g_z1r:mg "_law_made"=some (.ref t.f_z1r)
 F_z1h:Fun K "_law_labels" "_law_labels" a8y t.f_z1h t.fd_z1h
 b_z1h:a0m K t.fd_z1h ["_law_cell"] []
 g_z1h:mg "_law_labels"=some (.ref t.f_z1h)
 F_z05:Fun K "_law_row_by_digits" "_law_row_by_digits" b0n t.f_z05 t.fd_z05
 b_z05:a0m K t.fd_z05 ["_law_cell","_law_pool_here","_law_labels_here"] []
 g_z05:mg "_law_row_by_digits"=some (.ref t.f_z05)
 F_z1s:Fun K "_law_rows" "_law_rows" a6W t.f_z1s t.fd_z1s
 b_z1s:a0m K t.fd_z1s ["_law_script","_law_start"] []
 g_z1s:mg "_law_rows"=some (.ref t.f_z1s)
 F_z1l:Fun K "_law_other" "_law_other" a9W t.f_z1l t.fd_z1l
 b_z1l:a0m K t.fd_z1l ["_law_q"] []
 g_z1l:mg "_law_other"=some (.ref t.f_z1l)
 F_z1z:Fun K "_law_by" "_law_by" a9r t.f_z1z t.fd_z1z
 b_z1z:a0m K t.fd_z1z ["_law_rows_here"] []
 g_z1z:mg "_law_by"=some (.ref t.f_z1z)
 F_z1i:Fun K "_law_stands" "_law_stands" a8J t.f_z1i t.fd_z1i
 b_z1i:a0m K t.fd_z1i ["_law_row_here","_law_up"] []
 g_z1i:mg "_law_stands"=some (.ref t.f_z1i)
 F_z1m:Fun K "_law_falls" "_law_falls" a8L t.f_z1m t.fd_z1m
 b_z1m:a0m K t.fd_z1m ["_law_row_here","_law_down"] []
 g_z1m:mg "_law_falls"=some (.ref t.f_z1m)
 F_z1j:Fun K "_law_beaten" "_law_beaten" a8d t.f_z1j t.fd_z1j
 b_z1j:a0m K t.fd_z1j ["_law_pairs","_law_row_here","_law_some"] []
 g_z1j:mg "_law_beaten"=some (.ref t.f_z1j)
 F_z1t:Fun K "_law_held" "_law_held" a5M t.f_z1t t.fd_z1t
 b_z1t:a0m K t.fd_z1t ["_law_by_here","_law_pairs","_law_firm","_law_up","_law_down","_law_q"] []
 g_z1t:mg "_law_held"=some (.ref t.f_z1t)
 F_z1c:Fun K "_law_refused" "_law_refused" a6r t.f_z1c t.fd_z1c
 b_z1c:a0m K t.fd_z1c ["_law_by_here","_law_pairs","_law_firm","_law_up","_law_down","_law_q"] []
 g_z1c:mg "_law_refused"=some (.ref t.f_z1c)
 F_z1n:Fun K "_law_leads" "_law_leads" b0a t.f_z1n t.fd_z1n
 b_z1n:a0m K t.fd_z1n ["_law_pairs","_law_one","_law_other_here"] []
 g_z1n:mg "_law_leads"=some (.ref t.f_z1n)
 F_z0m:Fun K "_law_free_pairs" "_law_free_pairs" b0A t.f_z0m t.fd_z0m
 b_z0m:a0m K t.fd_z0m ["_law_cell","_law_many"] []
 g_z0m:mg "_law_free_pairs"=some (.ref t.f_z0m)
 F_z1o:Fun K "_law_ahead" "_law_ahead" b1v t.f_z1o t.fd_z1o
 b_z1o:a0m K t.fd_z1o ["_law_answers","_law_pool_here","_law_limit"] []
 g_z1o:mg "_law_ahead"=some (.ref t.f_z1o)
 F_z1u:Fun K "_law_came" "_law_came" a8R t.f_z1u t.fd_z1u
 b_z1u:a0m K t.fd_z1u ["_law_by_here","_law_pairs","_law_answers","_law_pool_here","_law_q"] []
 g_z1u:mg "_law_came"=some (.ref t.f_z1u)
 F_d_law:Fun K "law" "law" a3d t.f_d_law t.fd_d_law
 b_d_law:a0m K t.fd_d_law ["_law_script"] []
 g_d_law:mg "law"=some (.ref t.f_d_law)
 k_HELD:∃u,mg "HELD"=some (.str "held" u)
 k_REFUSED:∃u,mg "REFUSED"=some (.str "refused" u)
 g_Answers:mg "Answers"=some (.ref t.C_Answers)
 g_Rule:mg "Rule"=some (.ref t.C_Rule)
 g_Fact:mg "Fact"=some (.ref t.C_Fact)
 g_Sure:mg "Sure"=some (.ref t.C_Sure)
 g_Most:mg "Most"=some (.ref t.C_Most)
 g_Block:mg "Block"=some (.ref t.C_Block)
 g_Ground:mg "Ground"=some (.ref t.C_Ground)
 z_all:mg "all"=none
 z_any:mg "any"=none
 z_enumerate:mg "enumerate"=none
 z_len:mg "len"=none
 z_list:mg "list"=none
 z_range:mg "range"=none
 z_sorted:mg "sorted"=none
 z_tuple:mg "tuple"=none
 cl_Answers:Cls K t.C_Answers
 ty_Answers:TyI K t.C_Answers
 nf_Answers_standing:a0D K t.C_Answers "standing"
 nf_Answers_sure_keys:a0D K t.C_Answers "sure_keys"
 nf_Answers_came:a0D K t.C_Answers "came"
 mk_Answers:Mk K t.C_Answers t.f_z0b
 me_Answers_word_and_rank:a3W K t.C_Answers "word_and_rank" t.f_z00
 me_Answers_sure:a3W K t.C_Answers "sure" t.f_z0c
 me_Answers_held:a3W K t.C_Answers "held" t.f_z0d
 me_Answers_refused:a3W K t.C_Answers "refused" t.f_z03
 me_Answers_rank:a3W K t.C_Answers "rank" t.f_z0e
 me_Answers_sures:a3W K t.C_Answers "sures" t.f_z09
 ki_Answers_Answers:Yo K (.ref t.C_Answers) (.ref t.C_Answers)=some true
 cm_Rule:b9h K t.C_Rule "__init__" t.f_z15
 cl_Fact:Cls K t.C_Fact
 ty_Fact:TyI K t.C_Fact
 nf_Fact_label:a0D K t.C_Fact "label"
 nf_Fact_head:a0D K t.C_Fact "head"
 nf_Fact_body:a0D K t.C_Fact "body"
 mk_Fact:Mk K t.C_Fact t.f_z17
 me_Fact_speaks:a3W K t.C_Fact "speaks" t.f_z0p
 me_Fact_is_sure:a3W K t.C_Fact "is_sure" t.f_z0h
 ki_Fact_Rule:Yo K (.ref t.C_Fact) (.ref t.C_Rule)=some true
 ki_Fact_Fact:Yo K (.ref t.C_Fact) (.ref t.C_Fact)=some true
 cl_Sure:Cls K t.C_Sure
 ty_Sure:TyI K t.C_Sure
 nf_Sure_label:a0D K t.C_Sure "label"
 nf_Sure_head:a0D K t.C_Sure "head"
 nf_Sure_body:a0D K t.C_Sure "body"
 mk_Sure:Mk K t.C_Sure t.f_z15
 me_Sure_speaks:a3W K t.C_Sure "speaks" t.f_z0p
 me_Sure_is_sure:a3W K t.C_Sure "is_sure" t.f_z0i
 ki_Sure_Rule:Yo K (.ref t.C_Sure) (.ref t.C_Rule)=some true
 ki_Sure_Sure:Yo K (.ref t.C_Sure) (.ref t.C_Sure)=some true
 cl_Most:Cls K t.C_Most
 ty_Most:TyI K t.C_Most
 nf_Most_label:a0D K t.C_Most "label"
 nf_Most_head:a0D K t.C_Most "head"
 nf_Most_body:a0D K t.C_Most "body"
 mk_Most:Mk K t.C_Most t.f_z15
 me_Most_speaks:a3W K t.C_Most "speaks" t.f_z0p
 me_Most_is_sure:a3W K t.C_Most "is_sure" t.f_z0f
 ki_Most_Rule:Yo K (.ref t.C_Most) (.ref t.C_Rule)=some true
 ki_Most_Most:Yo K (.ref t.C_Most) (.ref t.C_Most)=some true
 cl_Block:Cls K t.C_Block
 ty_Block:TyI K t.C_Block
 nf_Block_label:a0D K t.C_Block "label"
 nf_Block_head:a0D K t.C_Block "head"
 nf_Block_body:a0D K t.C_Block "body"
 mk_Block:Mk K t.C_Block t.f_z15
 me_Block_speaks:a3W K t.C_Block "speaks" t.f_z0j
 me_Block_is_sure:a3W K t.C_Block "is_sure" t.f_z0f
 ki_Block_Rule:Yo K (.ref t.C_Block) (.ref t.C_Rule)=some true
 ki_Block_Block:Yo K (.ref t.C_Block) (.ref t.C_Block)=some true
 cl_Ground:Cls K t.C_Ground
 ty_Ground:TyI K t.C_Ground
 nf_Ground_in_order:a0D K t.C_Ground "in_order"
 nf_Ground_by_head:a0D K t.C_Ground "by_head"
 nf_Ground_pairs:a0D K t.C_Ground "pairs"
 mk_Ground:Mk K t.C_Ground t.f_z0s
 me_Ground_rules:a3W K t.C_Ground "rules" t.f_z0k
 me_Ground_ruling:a3W K t.C_Ground "ruling" t.f_z0a
 me_Ground_speaking:a3W K t.C_Ground "speaking" t.f_z04
 me_Ground_against:a3W K t.C_Ground "against" t.f_z08
 me_Ground_beats:a3W K t.C_Ground "beats" t.f_z0l
 me_Ground_statements:a3W K t.C_Ground "statements" t.f_z01
 ki_Ground_Ground:Yo K (.ref t.C_Ground) (.ref t.C_Ground)=some true
 L_z0u:a6e K t.fd_z0u.code=some t.TB_z0u
 LB:c0u K mg
section
variable {α:Type} [DecidableEq α]
def lk (d:List (α×Nat)) (x:α):Option Nat:=(d.find? fun p=>decide (p.1=x)).map (·.2)
theorem b7t {d:List (α×Nat)} {x:α} {m:Nat} (h:lk d x=some m):(x,m)∈d:=by
 unfold lk at h
 cases e:d.find? fun p=>decide (p.1=x) with
 | none=>rw [e] at h;cases h
 | some p=>
  rw [e] at h
  have h1:=Vi e
  have h2:=List.find?_some e
  obtain ⟨a,b⟩:=p
  cases h
  have h3:a=x:=of_decide_eq_true h2
  rw [←h3];exact h1
theorem b1h {d:List (α×Nat)} {x:α} (h:lk d x=none) {p:α×Nat} (hp:p∈d):p.1≠x:=by
 unfold lk at h
 rw [Wi,Ux] at h
 intro e
 exact h p hp (decide_eq_true e)
theorem b6a {d:List (α×Nat)} {y:α} {m:Nat} (h:lk d y=none) (x:α):lk (d++[(y,m)]) x=if x=y then some m else lk d x:=by
 unfold lk at *
 rw [List.find?_append]
 by_cases e:x=y
 ·subst e
  rw [Wi] at h
  rw [h,if_pos rfl];simp
 ·rw [if_neg e]
  have:List.find? (fun p:α×Nat=>decide (p.1=x)) [(y,m)]=none:=by simp;exact fun z=>e z.symm
  rw [this,Option.or_none]
theorem b1A {d:List (α×Nat)} (nd:(d.map (·.1)).Nodup) {p:α×Nat} (hp:p∈d):lk d p.1=some p.2:=by
 induction d with
 | nil=>cases hp
 | cons q r ih=>
  rw [Xj,Yy] at nd
  unfold lk
  rw [Yz]
  by_cases e:q.1=p.1
  ·rw [decide_eq_true e]
   rcases Qy.mp hp with z | z
   ·rw [z];rfl
   ·exact absurd (Qj.mpr ⟨p,z,e.symm⟩) nd.1
  ·rw [decide_eq_false e]
   rcases Qy.mp hp with z | z
   ·exact absurd (by rw [z]) e
   ·exact ih nd.2 z
structure Ok (ps:List (α×α)) (ls:List α) (o:α) (d:List (α×Nat)):Prop where
 nd:(d.map (·.1)).Nodup
 sub:∀p∈d,p.1∈o::ls
 low:∀p∈d,p.2 < d.length
 zer:∀p∈d,p.2=0→p.1=o
 prv:∀p∈d,∀m,p.2=m+1→∃b,(p.1,b)∈ps∧lk d b=some m
 one:lk d o=some 0
theorem a1A:∀{l m:List α},l.Nodup→(∀x∈l,x∈m)→l.length≤m.length
 | [],m,_,_=>Xf _
 | x::l,m,h,s=>by
  rw [Yy] at h
  have h1:=a1A (l:=l) (m:=m.erase x) h.2 (fun y hy=>(List.mem_erase_of_ne (fun z=>h.1 (by rw [←z];exact hy))).mpr (s y (Qr _ hy)))
  have h2:x∈m:=s x Qs
  have h3:=List.length_erase_of_mem h2
  have h4:=Ua h2
  simp only [Qo];omega
theorem Ok.len {ps:List (α×α)} {ls:List α} {o:α} {d:List (α×Nat)} (h:Ok ps ls o d):d.length≤ls.length+1:=by
 have:=a1A (m:=o::ls) h.nd (fun x hx=>by
  obtain ⟨p,hp,rfl⟩:=Qj.mp hx
  exact h.sub p hp)
 simpa using this
end
section
variable {α:Type} [DecidableEq α]
abbrev SR (α:Type):=Bool×α×List α
def a1b (l:List α) (x:α):List α:=if x∈l then l else l++[x]
theorem a5g {l:List α} {x y:α}:y∈a1b l x↔y∈l∨y=x:=by
 unfold a1b
 by_cases h:x∈l
 ·rw [if_pos h];exact ⟨.inl,fun z=>z.elim id fun e=>e ▸ h⟩
 ·rw [if_neg h];simp
theorem a1O {xs:List α}:∀{l:List α} {y:α},y∈xs.foldl a1b l↔y∈l∨y∈xs:=by
 induction xs with
 | nil=>intro l y;simp
 | cons x xs ih=>intro l y;rw [Jw,ih,a5g];simp [or_assoc]
def a4i (n:Nat) (R:List (α×Nat)) (h:α):List (α×Nat):=if (lk R h).isSome then R else R++[(h,n)]
def frs (rs:List (SR α)) (S:List α):List α:=(rs.filter fun r=>r.1 && decide (r.2.1∉S) && r.2.2.all fun q=>decide (q∈S)).map fun r=>r.2.1
theorem a3g {rs:List (SR α)} {S:List α} {h:α}:h∈frs rs S↔h∉S∧∃b,(true,h,b)∈rs∧∀q∈b,q∈S:=by
 unfold frs
 rw [Qj]
 constructor
 ·rintro ⟨⟨a,x,b⟩,hr,rfl⟩
  have:=Qq.mp hr
  simp at this
  obtain ⟨h1,⟨rfl,h2⟩,h3⟩:=this
  exact ⟨h2,b,h1,h3⟩
 ·rintro ⟨h1,b,h2,h3⟩
  exact ⟨(true,h,b),Qq.mpr ⟨h2,by simp [h1];exact h3⟩,rfl⟩
def sS (rs:List (SR α)) (kn:List α):Nat→List α
 | 0=>kn
 | n+1=>(frs rs (sS rs kn n)).foldl a1b (sS rs kn n)
def sR (rs:List (SR α)) (kn:List α):Nat→List (α×Nat)
 | 0=>[]
 | n+1=>(frs rs (sS rs kn n)).foldl (a4i (n+1)) (sR rs kn n)
theorem a3V {rs:List (SR α)} {kn:List α} {n:Nat} {x:α}:x∈sS rs kn (n+1)↔x∈sS rs kn n∨x∈frs rs (sS rs kn n):=a1O
theorem a9J {n:Nat} {R:List (α×Nat)} {h x:α}:lk (a4i n R h) x=if x=h then some ((lk R h).getD n) else lk R x:=by
 unfold a4i
 cases e:lk R h with
 | none=>
  rw [if_neg (by simp),b6a e];rfl
 | some m=>
  rw [if_pos (by simp)]
  by_cases z:x=h
  ·rw [if_pos z,z,e];rfl
  ·rw [if_neg z]
theorem a5t {n:Nat} {xs:List α}:∀{R:List (α×Nat)} {x:α},(∀h∈xs,lk R h=none∨lk R h=some n)→lk (xs.foldl (a4i n) R) x=if x∈xs then some n else lk R x:=by
 induction xs with
 | nil=>intro R x _;simp
 | cons h xs ih=>
  intro R x hx
  have hh:(lk R h).getD n=n:=by rcases hx h Qs with e | e<;>rw [e]<;>rfl
  rw [Jw,ih]
  ·rw [a9J,hh]
   by_cases z:x=h
   ·subst z;simp
   ·by_cases z2:x∈xs
    ·rw [if_pos z2,if_pos (Qr _ z2)]
    ·rw [if_neg z2,if_neg z,if_neg (by simp [z,z2])]
  ·intro k hk
   rw [a9J,hh]
   by_cases z:k=h
   ·rw [if_pos z];exact .inr rfl
   ·rw [if_neg z];exact hx k (Qr _ hk)
theorem a5N {rs:List (SR α)} {kn:List α}:∀(n:Nat) {x:α} {m:Nat},lk (sR rs kn n) x=some m→x∈sS rs kn n
 | 0,x,m,h=>by cases h
 | n+1,x,m,h=>by
  have hn:∀h∈frs rs (sS rs kn n),lk (sR rs kn n) h=none∨lk (sR rs kn n) h=some (n+1):=fun h hh=>by
   cases e:lk (sR rs kn n) h with
   | none=>exact .inl rfl
   | some m=>exact absurd (a5N n e) (a3g.mp hh).1
  rw [sR,a5t hn] at h
  rw [a3V]
  by_cases z:x∈frs rs (sS rs kn n)
  ·exact .inr z
  ·rw [if_neg z] at h;exact .inl (a5N n h)
theorem a6D {rs:List (SR α)} {kn:List α} {n:Nat} {h:α} (hh:h∈frs rs (sS rs kn n)):lk (sR rs kn n) h=none:=by
 cases e:lk (sR rs kn n) h with
 | none=>rfl
 | some m=>exact absurd (a5N n e) (a3g.mp hh).1
theorem c0T {rs:List (SR α)} {kn:List α} {n:Nat} {x:α}:lk (sR rs kn (n+1)) x=if x∈frs rs (sS rs kn n) then some (n+1) else lk (sR rs kn n) x:=
 a5t fun h hh=>.inl (a6D hh)
theorem a5e {rs:List (SR α)} {kn:List α} {n:Nat} (h:frs rs (sS rs kn n)=[]):∀k,sS rs kn (n+k)=sS rs kn n∧sR rs kn (n+k)=sR rs kn n
 | 0=>⟨rfl,rfl⟩
 | k+1=>by
  obtain ⟨h1,h2⟩:=a5e h k
  show (frs rs (sS rs kn (n+k))).foldl a1b (sS rs kn (n+k))=_∧(frs rs (sS rs kn (n+k))).foldl (a4i (n+k+1)) (sR rs kn (n+k))=_
  rw [h1,h2,h];exact ⟨rfl,rfl⟩
def b4d (rs:List (SR α)) (S:List α):Nat:=(rs.filter fun r=>decide (r.2.1∉S)).length
theorem a6j {β:Type} {p q:β→Bool}:∀{l:List β},(∀r∈l,p r=true→q r=true)→(l.filter p).length≤(l.filter q).length
 | [],_=>Qk _
 | r::l,h=>by
  have ih:=a6j (l:=l) fun x hx=>h x (Qr _ hx)
  rw [Yk,Yk]
  cases hp:p r with
  | true=>rw [h r Qs hp];simp;exact ih
  | false=>cases hq:q r<;>simp<;>omega
theorem a5G {β:Type} {p q:β→Bool}:∀{l:List β},(∀r∈l,p r=true→q r=true)→(∃r∈l,q r=true∧p r=false)→(l.filter p).length < (l.filter q).length
 | [],_,h=>by obtain ⟨r,hr,_⟩:=h;cases hr
 | r::l,h,⟨x,hx,hq,hp⟩=>by
  have hl:∀y∈l,p y=true→q y=true:=fun y hy=>h y (Qr _ hy)
  rw [Yk,Yk]
  rcases Qy.mp hx with e | e
  ·subst e
   rw [hp,hq]
   have:=a6j hl
   simp;omega
  ·have ih:=a5G hl ⟨x,e,hq,hp⟩
   cases hp':p r with
   | true=>rw [h r Qs hp'];simp;exact ih
   | false=>cases hq':q r<;>simp<;>omega
theorem a6h {rs:List (SR α)} {kn:List α} {n:Nat} (h:frs rs (sS rs kn n)≠[]):b4d rs (sS rs kn (n+1)) < b4d rs (sS rs kn n):=by
 obtain ⟨x,hx⟩:=Vj _ h
 obtain ⟨h1,b,h2,_⟩:=a3g.mp hx
 have hs:x∈sS rs kn (n+1):=a3V.mpr (.inr hx)
 refine a5G (fun r _ hr=>?_) ⟨_,h2,by simpa using h1,by simpa using hs⟩
 simp at hr ⊢
 exact fun z=>hr (a3V.mpr (.inl z))
end
section
variable {α:Type} [DecidableEq α]
theorem b5O (rs:List (SR α)) (S:List α):b4d rs S≤rs.length:=Qu _ _
theorem b3d {rs:List (SR α)} {S:List α} (h:frs rs S≠[]):0 < b4d rs S:=by
 obtain ⟨x,hx⟩:=Vj _ h
 obtain ⟨h1,b,h2,_⟩:=a3g.mp hx
 exact Ua (Qq.mpr ⟨h2,by simpa using h1⟩)
theorem a7v {rs:List (SR α)} {kn:List α}:∀n,frs rs (sS rs kn n)≠[]→b4d rs (sS rs kn n)+n≤rs.length
 | 0,_=>b5O _ _
 | n+1,h=>by
  have h0:frs rs (sS rs kn n)≠[]:=fun z=>h (by
   have:=(a5e z 1).1
   rw [this];exact z)
  have:=a7v n h0
  have:=a6h h0
  omega
theorem b2K (rs:List (SR α)) (kn:List α):frs rs (sS rs kn rs.length)=[]:=by
 by_cases h:frs rs (sS rs kn rs.length)=[]
 ·exact h
 ·have:=a7v _ h
  have:=b3d h
  omega
def FIN (rs:List (SR α)) (kn:List α):List (α×Nat):=sR rs kn rs.length
theorem b6G {rs:List (SR α)} {kn:List α} {n:Nat} (h:frs rs (sS rs kn n)=[]):sR rs kn n=FIN rs kn:=by
 unfold FIN
 by_cases c:n≤rs.length
 ·obtain ⟨k,e⟩:=Nat.le.dest c
  rw [←e];exact ((a5e h k).2).symm
 ·obtain ⟨k,e⟩:=Nat.le.dest (Nat.le_of_not_le c)
  rw [←e];exact (a5e (b2K rs kn) k).2
theorem b2Z {rs:List (SR α)} {kn:List α} (h:kn.Nodup):∀n,(sS rs kn n).Nodup:=by
 have put:∀(l:List α) (x:α),l.Nodup→(a1b l x).Nodup:=fun l x hl=>by
  unfold a1b
  by_cases z:x∈l
  ·rw [if_pos z];exact hl
  ·rw [if_neg z]
   exact Yx.mpr ⟨hl,by simp,fun a ha b hb e=>z (by rw [Xg] at hb;rw [←hb,←e];exact ha)⟩
 have puts:∀(xs l:List α),l.Nodup→(xs.foldl a1b l).Nodup:=by
  intro xs
  induction xs with
  | nil=>intro l hl;exact hl
  | cons x xs ih=>intro l hl;exact ih _ (put l x hl)
 intro n
 induction n with
 | zero=>exact h
 | succ n ih=>exact puts _ _ ih
theorem a1i (xs:List α):∀l:List α,(xs.foldl a1b l).length≤l.length+xs.length:=by
 induction xs with
 | nil=>intro l;simp
 | cons x xs ih=>
  intro l
  have:=ih (a1b l x)
  have h2:(a1b l x).length≤l.length+1:=by unfold a1b;split<;>simp
  rw [Jw,Qo];omega
theorem a1c {rs:List (SR α)} {kn:List α}:∀n,((sR rs kn n).map (·.1)).Nodup:=by
 have put:∀(n:Nat) (R:List (α×Nat)) (x:α),(R.map (·.1)).Nodup→((a4i n R x).map (·.1)).Nodup:=fun n R x hl=>by
  unfold a4i
  cases e:lk R x with
  | some m=>simpa using hl
  | none=>
   rw [if_neg (by simp),Xq]
   refine Yx.mpr ⟨hl,by simp,fun a ha b hb z=>?_⟩
   obtain ⟨p,hp,rfl⟩:=Qj.mp ha
   simp at hb
   exact b1h e hp (by rw [←hb,←z])
 have puts:∀(n:Nat) (xs:List α) (R:List (α×Nat)),(R.map (·.1)).Nodup→((xs.foldl (a4i n) R).map (·.1)).Nodup:=by
  intro n xs
  induction xs with
  | nil=>intro R hl;exact hl
  | cons x xs ih=>intro R hl;exact ih _ (put n R x hl)
 intro n
 induction n with
 | zero=>simp [sR]
 | succ n ih=>exact puts _ _ _ ih
end
section
variable {α:Type} [DecidableEq α]
theorem a1H:∀(xs:List α) {l:List α},l.Nodup→(xs.foldl a1b l).Nodup
 | [],_,hl=>hl
 | x::xs,l,hl=>by
  refine a1H xs ?_
  unfold a1b
  by_cases z:x∈l
  ·rw [if_pos z];exact hl
  ·rw [if_neg z]
   exact Yx.mpr ⟨hl,by simp,fun a ha b hb e=>z (by rw [Xg] at hb;rw [←hb,←e];exact ha)⟩
theorem a4c (n:Nat):∀(xs:List α) {R:List (α×Nat)},(R.map (·.1)).Nodup→((xs.foldl (a4i n) R).map (·.1)).Nodup
 | [],_,hl=>hl
 | x::xs,R,hl=>by
  refine a4c n xs ?_
  unfold a4i
  cases e:lk R x with
  | some m=>simpa using hl
  | none=>
   rw [if_neg (by simp),Xq]
   refine Yx.mpr ⟨hl,by simp,fun a ha b hb z=>?_⟩
   obtain ⟨p,hp,rfl⟩:=Qj.mp ha
   simp at hb
   exact b1h e hp (by rw [←hb,←z])
theorem a5D (n:Nat):∀(xs:List α) (R:List (α×Nat)),(xs.foldl (a4i n) R).length≤R.length+xs.length
 | [],R=>by simp
 | x::xs,R=>by
  have:=a5D n xs (a4i n R x)
  have h2:(a4i n R x).length≤R.length+1:=by unfold a4i;split<;>simp
  rw [Jw,Qo];omega
theorem b3W {rs:List (SR α)} {kn:List α} (h:kn.Nodup) (n:Nat):(sS rs kn n).length≤kn.length+rs.length:=by
 have sub:∀n x,x∈sS rs kn n→x∈kn++rs.map fun r=>r.2.1:=by
  intro n
  induction n with
  | zero=>intro x hx;exact Xx _ hx
  | succ n ih=>
   intro x hx
   rcases a3V.mp hx with z | z
   ·exact ih x z
   ·obtain ⟨_,b,h2,_⟩:=a3g.mp z
    exact Qx _ (Qj.mpr ⟨_,h2,rfl⟩)
 have:=a1A (b2Z h n) (sub n)
 simpa using this
theorem b3S {rs:List (SR α)} {kn:List α} (h:kn.Nodup) (n:Nat):(sR rs kn n).length≤kn.length+rs.length:=by
 have:=a1A (l:=(sR rs kn n).map (·.1)) (m:=sS rs kn n) (a1c n) (fun x hx=>by
  obtain ⟨p,hp,rfl⟩:=Qj.mp hx
  exact a5N n (b1A (a1c n) hp))
 have h2:=b3W (rs:=rs) h n
 simp at this;omega
theorem b5H (rs:List (SR α)) (S:List α):(frs rs S).length≤rs.length:=by
 unfold frs;rw [Qe];exact Qu _ _
theorem a8G (bd S:List α):decide (bd.filter (fun q=>decide (q∉S))=[])=bd.all fun q=>decide (q∈S):=by
 rw [Xl,decide_eq_true_eq,Zb,Zc]
 constructor
 ·intro h x hx;have:=h x hx;simpa using this
 ·intro h x hx;have:=h x hx;simpa using this
end
section
variable {α:Type} [DecidableEq α]
def a2E (b S:List α):Bool:=b.all fun q=>decide (q∈S)
theorem a3B {b S:List α}:a2E b S=true↔∀q∈b,q∈S:=by
 unfold a2E;rw [Zc]
 exact ⟨fun h q hq=>by simpa using h q hq,fun h q hq=>by simpa using h q hq⟩
theorem a7D {S:List α} {x:α} (h:x∉S):a1b S x=S++[x]:=by unfold a1b;rw [if_neg h]
theorem b4R {rs:List (SR α)} (x:α):x∈(FIN rs []).map (·.1)↔x∈sS rs [] rs.length:=by
 have key:∀n,x∈(sR rs ([]:List α) n).map (·.1)↔x∈sS rs [] n:=by
  intro n
  constructor
  ·intro h
   obtain ⟨p,hp,rfl⟩:=Qj.mp h
   exact a5N n (b1A (a1c n) hp)
  ·induction n with
   | zero=>intro h;cases h
   | succ n ih=>
    intro h
    have hs:(lk (sR rs ([]:List α) (n+1)) x).isSome=true:=by
     rw [c0T]
     by_cases z:x∈frs rs (sS rs [] n)
     ·rw [if_pos z];rfl
     ·rw [if_neg z]
      rcases a3V.mp h with w | w
      ·obtain ⟨p,hp,e⟩:=Qj.mp (ih w)
       have:=b1A (a1c n) hp
       rw [e] at this;rw [this];rfl
      ·exact absurd w z
    cases e:lk (sR rs ([]:List α) (n+1)) x with
    | none=>rw [e] at hs;cases hs
    | some m=>exact Qj.mpr ⟨_,b7t e,rfl⟩
 exact key _
end
def a2U:List Nat:=[97,98,99,100,101,102,103,104,105,106,107,108,109,110,111,112,113,114,115,116,117,118,119,120,121,122]
def c0W:List Nat:=[48,49,50,51,52,53,54,55,56,57]++a2U
abbrev sv (l:List Nat):V:=.str (mk l)
theorem b8m:("abcdefghijklmnopqrstuvwxyz":Str)=mk a2U:=by decide+kernel
theorem b6t:("0123456789abcdefghijklmnopqrstuvwxyz":Str)=mk c0W:=by decide+kernel
theorem a6a {c:Nat} (h:c∈a2U):c < 128:=by revert c;decide
theorem b6u {c:Nat} (h:c∈c0W):c < 128:=by revert c;decide
theorem a3F {n:Nat} (h:n≤100000):n≤sizeLine:=Qi h (by decide)
theorem b1N {l:List Nat} (h:∀c∈l,c < 1114112):Ym (mk l)=true:=by
 unfold Ym;simpa using h
def OkS (z:Str):Prop:=Ym z=true∧z.length≤40
theorem OkS.of {l:List Nat} (h:∀c∈l,c < 128) (hl:l.length≤40):OkS (mk l):=⟨b1N fun c hc=>by have:=h c hc;omega,by rw [a0y];exact hl⟩
def a2i:Nat→Str
 | 0=>"fact"
 | 1=>"sure"
 | 2=>"most"
 | _=>"block"
abbrev Rw:=Nat×Str×Str×List Str
def a1B (r:Rw):Prop:=r.1 < 4∧(r.1=0→r.2.2.2=[]∧r.2.1="")∧OkS r.2.1∧OkS r.2.2.1∧(∀q∈r.2.2.2,OkS q)∧r.2.2.2.length≤4
def a5h (H:Hp) (v:V) (r:Rw):Prop:=∃p t,v=.ref p∧H p=some (.tup [.str (a2i r.1),.str r.2.1,.str r.2.2.1,.ref t])∧H t=some (.tup (r.2.2.2.map V.str))
theorem a5h.same {H H':Hp} {v:V} {r:Rw} (s:a0i H H') (h:a5h H v r):a5h H' v r:=let ⟨p,t,a,b,c⟩:=h;⟨p,t,a,s _ _ b,s _ _ c⟩
def b6E (pl:List Str) (r:Rw):Prop:=r.2.2.1∈pl∧∀q∈r.2.2.2,q∈pl
def OkP (pl:List Str) (z:Str):Prop:=OkS z∧z∈pl
def RwD (pl:List Str) (D:Addr) (v:V) (H:Hp):Prop:=∃(p t:Addr) (r:Rw),v=.ref p∧p≠D∧t≠D∧(a1B r∧b6E pl r)∧H p=some (.tup [.str (a2i r.1),.str r.2.1,.str r.2.2.1,.ref t])∧H t=some (.tup (r.2.2.2.map V.str))
structure a2M (H:Hp) (xs:List V) (rs:List Rw):Prop where
 len:xs.length=rs.length
 get:∀(i:Nat) (r:Rw),rs[i]?=some r→∃x,xs[i]?=some x∧a5h H x r
theorem a2M.same {H H':Hp} {xs:List V} {rs:List Rw} (s:a0i H H') (h:a2M H xs rs):a2M H' xs rs:=⟨h.len,fun i r e=>let ⟨x,a,b⟩:=h.get i r e;⟨x,a,b.same s⟩⟩
theorem a7B {pl:List Str} {D:Addr} {H:Hp}:∀{ys:List V},(∀(i:Nat) v,ys[i]?=some v→RwD pl D v H)→∃rs:List Rw,a2M H ys rs∧∀r∈rs,a1B r∧b6E pl r
 | [],_=>⟨[],⟨rfl,fun i r e=>by simp at e⟩,by simp⟩
 | y::ys,h=>by
  obtain ⟨rs,hA,hO⟩:=a7B (D:=D) (ys:=ys) fun i v e=>h (i+1) v e
  obtain ⟨p,t,r,e,_,_,ho,h1,h2⟩:=h 0 y rfl
  refine ⟨r::rs,⟨by simp [hA.len],fun i q eq=>?_⟩,fun q hq=>?_⟩
  ·cases i with
   | zero=>cases eq;exact ⟨y,rfl,p,t,e,h1,h2⟩
   | succ i=>exact hA.get i q eq
  ·rcases Qy.mp hq with z | z
   ·rw [z];exact ho
   ·exact hO q z
def b9J (K:Qd):Sp:=fun vs H Q _=>∃(a:Addr) (ns:List Int) (k:Int),vs=[.ref a,.int k]∧SqL K H a (ns.map V.int)∧ns.length≤63∧0≤k∧k≤1000∧∀i,i=ns.getD k.toNat 0→Q (.int i) H
def b8l:Sp:=fun vs H Q _=>∃(c k:Int),vs=[.int c,.int k]∧∀r:Int,0≤r→Q (.int r) H
theorem a3G {c k:Int} {H:Hp} {Q:VK} {E:XK}:b8l [.int c,.int k] H Q E↔∀r:Int,0≤r→Q (.int r) H:=⟨by rintro ⟨_,_,e,q⟩;cases e;exact q,fun q=>⟨_,_,rfl,q⟩⟩
def a2q (c k:Int) (sg:List Nat):List Nat:=(Xs (1+c % 8).toNat).map fun (j:Nat)=>sg.getD (((c / 64+5 * (j:Int)+(if (j:Int)=c / 8 % (1+c % 8) then k else 0)) % (sg.length:Int)).toNat) 0
theorem a2W (c k:Int) (sg:List Nat):1≤(a2q c k sg).length∧(a2q c k sg).length≤8:=by
 unfold a2q
 rw [Qe,Zj]
 have:=Za c (b:=8) (by decide)
 have:=Yv c (b:=8) (by decide)
 omega
theorem a3X {c k:Int} {sg:List Nat} (h:0 < sg.length):∀x∈a2q c k sg,x∈sg:=by
 intro x hx
 obtain ⟨j,_,rfl⟩:=Qj.mp hx
 have h1:=Za (c / 64+5 * (j:Int)+(if (j:Int)=c / 8 % (1+c % 8) then k else 0)) (b:=(sg.length:Int)) (by omega)
 have h2:=Yv (c / 64+5 * (j:Int)+(if (j:Int)=c / 8 % (1+c % 8) then k else 0)) (b:=(sg.length:Int)) (by omega)
 generalize (c / 64+5 * (j:Int)+(if (j:Int)=c / 8 % (1+c % 8) then k else 0)) % (sg.length:Int)=n at h1 h2
 rw [Xn,Qc (by omega)]
 exact Xd _
theorem b3r:∀n:Nat,n < 26→a2U.getD n 0=97+n:=by decide
theorem b0J {c k k':Int} (hk:0≤k∧k < 26) (hk':0≤k'∧k' < 26) (h:a2q c k a2U=a2q c k' a2U):k=k':=by
 have m8:=Za c (b:=8) (by decide)
 have m9:=Yv c (b:=8) (by decide)
 have a1:=Za (c / 8) (b:=1+c % 8) (by omega)
 have a2:=Yv (c / 8) (b:=1+c % 8) (by omega)
 obtain ⟨a,ea⟩:∃a:Nat,c / 8 % (1+c % 8)=(a:Int):=⟨(c / 8 % (1+c % 8)).toNat,by omega⟩
 have hl:a < (1+c % 8).toNat:=by omega
 have h1:=congrArg (fun l:List Nat=>l[a]?) h
 unfold a2q at h1
 simp only [Qm] at h1
 rw [Wv hl] at h1
 simp only [Jg,Option.some.injEq] at h1
 rw [if_pos ea.symm,if_pos ea.symm] at h1
 have e26:(a2U.length:Int)=26:=by decide
 rw [e26] at h1
 have b1:=Za (c / 64+5 * (a:Int)+k) (b:=26) (by decide)
 have b2:=Yv (c / 64+5 * (a:Int)+k) (b:=26) (by decide)
 have b3:=Za (c / 64+5 * (a:Int)+k') (b:=26) (by decide)
 have b4:=Yv (c / 64+5 * (a:Int)+k') (b:=26) (by decide)
 rw [b3r _ (by omega),b3r _ (by omega)] at h1
 omega
def pcl (wd:Nat→List Nat):Nat→List Nat
 | 0=>[]
 | 1=>40::(wd 3++[41])
 | _=>40::(wd 4++[44])++wd 3++[41]
def nmL (wd:Nat→List Nat) (k:Nat):List Nat:=wd (k % 3)++pcl wd (k / 3)
def plG (wd:Nat→List Nat) (j:Nat):Str:=if j % 2=0 then mk (nmL wd (j / 2)) else mk (45::nmL wd (j / 2))
theorem a5U {a b:List Nat} (h:mk a=mk b):a=b:=by
 have:=congrArg (fun z:Str=>z.cps.toList) h
 exact this
theorem a9Z {wd:Nat→List Nat} (hw:∀k,k < 5→∀x∈wd k,x∈a2U) (k:Nat):(nmL wd k).takeWhile (fun x=>x != 40)=wd (k % 3):=by
 have h1:∀x∈wd (k % 3),(x != 40)=true:=fun x hx=>by
  have:=hw _ (by omega) x hx
  have h2:∀y∈a2U,(y != 40)=true:=by decide
  exact h2 x this
 have hp:(pcl wd (k / 3)).takeWhile (fun x=>x != 40)=[]:=by
  match k / 3 with
  | 0=>rfl
  | 1=>rfl
  | n+2=>rfl
 unfold nmL
 rw [List.takeWhile_append_of_pos h1,hp,Qf]
theorem b5A {wd:Nat→List Nat} (hw:∀k,k < 5→∀x∈wd k,x∈a2U) {p q:Nat} (hp:p < 3) (hq:q < 3) (h:pcl wd p=pcl wd q):p=q:=by
 have n44:∀k,k < 5→44∉wd k:=fun k hk z=>by have:=hw k hk 44 z;revert this;decide
 have i1:44∉pcl wd 1:=by
  show 44∉40::(wd 3++[41])
  simp [n44 3 (by decide)]
 have i2:44∈pcl wd 2:=by
  show 44∈40::(wd 4++[44])++wd 3++[41]
  simp
 match p,q,hp,hq with
 | 0,0,_,_=>rfl
 | 1,1,_,_=>rfl
 | 2,2,_,_=>rfl
 | 0,1,_,_=>cases h
 | 0,2,_,_=>cases h
 | 1,0,_,_=>cases h
 | 2,0,_,_=>cases h
 | 1,2,_,_=>rw [h] at i1;exact absurd i2 i1
 | 2,1,_,_=>rw [←h] at i1;exact absurd i2 i1
theorem b4e {wd:Nat→List Nat} (hw:∀k,k < 5→∀x∈wd k,x∈a2U) (hi:∀j k,j < 5→k < 5→wd j=wd k→j=k) {p q:Nat} (hp:p < 9) (hq:q < 9) (h:nmL wd p=nmL wd q):p=q:=by
 have e1:wd (p % 3)=wd (q % 3):=by rw [←a9Z hw p,←a9Z hw q,h]
 have e2:=hi _ _ (by omega) (by omega) e1
 have e3:pcl wd (p / 3)=pcl wd (q / 3):=by
  unfold nmL at h
  rw [e1] at h
  exact List.append_cancel_left h
 have e4:=b5A hw (by omega) (by omega) e3
 omega
theorem b8Y {wd:Nat→List Nat} (hw:∀k,k < 5→∀x∈wd k,x∈a2U) (hn:∀k,k < 5→wd k≠[]) (p q:Nat):nmL wd p≠45::nmL wd q:=fun h=>by
 unfold nmL at h
 cases e:wd (p % 3) with
 | nil=>exact hn _ (by omega) e
 | cons x r=>
  have hx:=hw (p % 3) (by omega) x (by rw [e];exact Qs)
  rw [e] at h
  have:x=45:=(List.cons.inj h).1
  rw [this] at hx;revert hx;decide
theorem b2S {wd:Nat→List Nat} (hw:∀k,k < 5→∀x∈wd k,x∈a2U) (hn:∀k,k < 5→wd k≠[]) (hi:∀j k,j < 5→k < 5→wd j=wd k→j=k) {m:Nat} (hm:m≤18):((Xs m).map (plG wd)).Nodup:=by
 unfold Xk
 rw [Vg]
 refine List.nodup_range.imp_of_mem fun {i j} hi' hj' hne e=>hne ?_
 rw [Zz] at hi' hj'
 unfold plG at e
 by_cases a:i % 2=0
 ·by_cases b:j % 2=0
  ·rw [if_pos a,if_pos b] at e
   have:=b4e hw hi (by omega) (by omega) (a5U e);omega
  ·rw [if_pos a,if_neg b] at e
   exact absurd (a5U e) (b8Y hw hn _ _)
 ·by_cases b:j % 2=0
  ·rw [if_neg a,if_pos b] at e
   exact absurd (a5U e).symm (b8Y hw hn _ _)
  ·rw [if_neg a,if_neg b] at e
   have:=b4e hw hi (by omega) (by omega) (List.cons.inj (a5U e)).2;omega
def a0A (z:Str):Str:=if Jm z "-"=true then Uw z (some 1) none else "-"++z
theorem a6m (l:List Nat):a0A (mk l)=if l[0]?=some 45 then mk (l.drop 1) else mk (45::l):=by
 unfold a0A
 rw [show ("-":Str)=mk [45] by decide+kernel,a8D]
 by_cases h:l[0]?=some 45
 ·rw [if_pos (decide_eq_true h),if_pos h,a8o _ (by decide) (by have:=(Qp.mp h).1;omega)];rfl
 ·rw [if_neg (by simpa using h),if_neg h,a2v];rfl
theorem a9R {l:List Nat} (h:l[0]?=some 45→l[1]?≠some 45):a0A (a0A (mk l))=mk l:=by
 rw [a6m l]
 by_cases c:l[0]?=some 45
 ·rw [if_pos c,a6m]
  cases l with
  | nil=>cases c
  | cons x l=>
   rw [if_neg (by have:=h c;simpa using this)]
   have:x=45:=by simpa using c
   rw [this];rfl
 ·rw [if_neg c,a6m,if_pos (show (45::l)[0]?=some 45 from rfl)];rfl
theorem b9m {wd:Nat→List Nat} (hw:∀k,k < 5→∀x∈wd k,x∈a2U) (hn:∀k,k < 5→wd k≠[]) (j:Nat):a0A (a0A (plG wd j))=plG wd j:=by
 have h0:∀k,(nmL wd k)[0]?≠some 45:=fun k z=>by
  unfold nmL at z
  cases e:wd (k % 3) with
  | nil=>exact hn _ (by omega) e
  | cons x r=>
   have hx:=hw (k % 3) (by omega) x (by rw [e];exact Qs)
   rw [e] at z
   have:x=45:=by simpa using z
   rw [this] at hx;revert hx;decide
 unfold plG
 split
 ·exact a9R fun z=>absurd z (h0 _)
 ·exact a9R fun _=>h0 _
def a7R (c:Int):List Str:=(Xs (2 * (1+c % 9).toNat)).map (plG fun (i:Nat)=>a2q (c / 9) (i:Int) a2U)
theorem b1S {c:Int} {z:Str} (h:z∈a7R c):a0A z∈a7R c:=by
 obtain ⟨j,hj,rfl⟩:=Qj.mp h
 rw [Zz] at hj
 have h0:∀k,(nmL (fun (i:Nat)=>a2q (c / 9) (i:Int) a2U) k)[0]?≠some 45:=fun k z=>by
  unfold nmL at z
  cases e:a2q (c / 9) ((k % 3:Nat):Int) a2U with
  | nil=>have:=(a2W (c / 9) ((k % 3:Nat):Int) a2U).1;rw [e] at this;simp at this
  | cons x r=>
   have hx:=a3X (c:=c / 9) (k:=((k % 3:Nat):Int)) (sg:=a2U) (by decide) x (by rw [e];exact Qs)
   have z':(a2q (c / 9) ((k % 3:Nat):Int) a2U++pcl (fun (i:Nat)=>a2q (c / 9) (i:Int) a2U) (k / 3))[0]?=some 45:=z
   rw [e] at z'
   have:x=45:=by simpa using z'
   rw [this] at hx;revert hx;decide
 refine Qj.mpr ⟨if j % 2=0 then j+1 else j - 1,Zz.mpr (by split<;>omega),?_⟩
 unfold plG
 by_cases e:j % 2=0
 ·rw [if_pos e,if_pos e,if_neg (by omega),a6m,if_neg (h0 _),show (j+1) / 2=j / 2 by omega]
 ·rw [if_neg e,if_neg e,if_pos (by omega),a6m,if_pos (by rfl:(45::nmL (fun (i:Nat)=>a2q (c / 9) (i:Int) a2U) (j / 2))[0]?=some 45),show (j - 1) / 2=j / 2 by omega];rfl
def b8z:Sp:=fun vs H Q _=>∃(c k:Int) (sg:List Nat),vs=[.int c,.int k,sv sg]∧(0 < sg.length∧sg.length≤100)∧Q (sv (a2q c k sg)) H
def b7v:Sp:=fun vs H Q _=>∃(c:Int),vs=[.int c]∧∀(D:Addr) (pl:List Str) (H':Hp),a0i H H'→H D=none→H' D=some (.lst (pl.map V.str))→2≤pl.length→pl.length≤18→(∀z∈pl,OkS z)→pl.Nodup→(∀z∈pl,a0A (a0A z)=z)→pl=a7R c→Q (.ref D) H'
def b2o:Sp:=fun vs H Q _=>∃(c:Int),vs=[.int c]∧∀(D:Addr) (ls:List Str) (H':Hp),a0i H H'→H D=none→H' D=some (.lst (ls.map V.str))→ls.length=12→(∀z∈ls,OkS z)→Q (.ref D) H'
def c1C (pl:List Str) (H:Hp) (Q:VK):Prop:=∀(p t:Addr) (r:Rw) (H':Hp),a0i H H'→H p=none→H t=none→a1B r∧b6E pl r→H' p=some (.tup [.str (a2i r.1),.str r.2.1,.str r.2.2.1,.ref t])→H' t=some (.tup (r.2.2.2.map V.str))→Q (.ref p) H'
def c0N:Sp:=fun vs H Q _=>∃(m k st:Int) (P L:Addr) (pl ls:List Str),vs=[.int m,.int k,.ref P,.ref L,.int st]∧H P=some (.lst (pl.map V.str))∧2≤pl.length∧pl.length≤18∧(∀z∈pl,OkS z)∧H L=some (.lst (ls.map V.str))∧ls.length=12∧(∀z∈ls,OkS z)∧c1C pl H Q
def c1c:Sp:=fun vs H Q _=>∃(m:Int) (P L:Addr) (pl ls:List Str),vs=[.int m,.ref P,.ref L]∧H P=some (.lst (pl.map V.str))∧2≤pl.length∧pl.length≤18∧(∀z∈pl,OkS z)∧H L=some (.lst (ls.map V.str))∧ls.length=12∧(∀z∈ls,OkS z)∧c1C pl H Q
def b6D (K:Qd):Sp:=fun vs H Q _=>∃(a:Addr) (ns:List Int) (st:Int),vs=[.ref a,.int st]∧SqL K H a (ns.map V.int)∧ns.length≤63∧(0≤st∧st≤10)∧∀(D:Addr) (xs:List V) (rs:List Rw) (H':Hp),a0i H H'→H D=none→H' D=some (.lst xs)→a2M H' xs rs→rs.length+st.toNat≤63→(∀r∈rs,a1B r∧b6E (a7R (ns.getD 0 0)) r)→Q (.ref D) H'
theorem a2I {P:Str→Prop} {pl:List Str} (hl:2≤pl.length) (hok:∀z∈pl,P z) (n:Int):∃z,atI (pl.map V.str) (n % (pl.length:Int))=some (.str z)∧P z:=by
 have m1:=Za n (b:=(pl.length:Int)) (by omega)
 have m2:=Yv n (b:=(pl.length:Int)) (by omega)
 obtain ⟨v,e,hv,_⟩:=a4v (xs:=pl.map V.str) (i:=n % (pl.length:Int)) m1 (by simpa using m2)
 obtain ⟨z,hz,rfl⟩:=Qj.mp hv
 exact ⟨z,e,hok z hz⟩
theorem a5k {ls:List Str} (hl:ls.length=12) (hok:∀z∈ls,OkS z) (n:Int):∃z,atI (ls.map V.str) (n % 12)=some (.str z)∧OkS z:=by
 obtain ⟨z,e,h⟩:=a2I (pl:=ls) (by omega) hok n
 rw [hl] at e
 exact ⟨z,e,h⟩
theorem a6V {P:Str→Prop} {ys:List V} (h:∀(i:Nat) (v:V),ys[i]?=some v→∃z,v=V.str z∧P z):∃zs:List Str,ys=zs.map V.str∧∀z∈zs,P z:=by
 induction ys with
 | nil=>exact ⟨[],rfl,by simp⟩
 | cons y ys ih=>
  obtain ⟨zs,e,ho⟩:=ih fun i v e=>h (i+1) v e
  obtain ⟨z,ez,hz⟩:=h 0 y rfl
  refine ⟨z::zs,by rw [e,ez];rfl,fun x hx=>?_⟩
  rcases Qy.mp hx with w | w
  ·rw [w];exact hz
  ·exact ho x w
def dv (d:List (Str×Nat)):List (Key×V):=d.map fun p=>(Sum.inr p.1,V.int p.2)
theorem b9v (d:List (Str×Nat)):(dv d).length=d.length:=Qe _
theorem b4P (d:List (Str×Nat)) (x:Str) (m:Nat):dv (d++[(x,m)])=dv d++[(Sum.inr x,V.int m)]:=by unfold dv;rw [Xq];rfl
theorem a5u (x:Str):∀d:List (Str×Nat),a0P (dv d) (Sum.inr x:Key)=(lk d x).map fun m:Nat=>V.int m
 | []=>rfl
 | p::r=>by
  by_cases e:p.1=x
  ·rw [show dv (p::r)=(Sum.inr p.1,V.int p.2)::dv r from rfl,a0F (by rw [e])]
   unfold lk;rw [Yz,decide_eq_true e];rfl
  ·rw [show dv (p::r)=(Sum.inr p.1,V.int p.2)::dv r from rfl,a0x (fun z=>e (Sum.inr.inj z)),a5u x r]
   unfold lk;rw [Yz,decide_eq_false e]
theorem a2o {H:Hp} {S:Addr} {d:List (Key×V)} (h:H S=some (.dK d)):IsD H S:=.inl ⟨_,.inl h⟩
def bv (S:List Str):List (Key×V):=S.map fun x=>(Sum.inr x,V.bl true)
theorem a1t (x:Str):∀S:List Str,a0P (bv S) (Sum.inr x:Key)=if x∈S then some (V.bl true) else none
 | []=>rfl
 | y::r=>by
  have ih:=a1t x r
  by_cases e:y=x
  ·rw [show bv (y::r)=(Sum.inr y,V.bl true)::bv r from rfl,a0F (by rw [e]),if_pos (by rw [e];exact Qs)]
  ·rw [show bv (y::r)=(Sum.inr y,V.bl true)::bv r from rfl,a0x (fun z=>e (Sum.inr.inj z)),ih]
   by_cases h:x∈r
   ·rw [if_pos h,if_pos (Qr _ h)]
   ·rw [if_neg h,if_neg (by simp [h];exact fun z=>e z.symm)]
theorem b7V (S:List Str) (x:Str):a2u (bv S) (Sum.inr x:Key) (V.bl true)=bv (a1b S x):=by
 unfold a2u a1b
 rw [a1Q,a1t]
 by_cases h:x∈S
 ·rw [if_pos h,if_pos (by rfl),if_pos h]
  unfold bv
  rw [Xi]
  refine Uq fun y _=>?_
  simp only [Function.comp]
  split<;>rfl
 ·rw [if_neg h,if_neg (by simp),if_neg h]
  unfold bv;rw [Xq];rfl
theorem c3K {H:Hp} {D:Addr} {S:List Str} (h:H D=some (.dK (bv S))) (x:Str):a2n H D (.str x) (if x∈S then some (V.bl true) else none):=by
 have:=a2n.k (k:=(Sum.inr x:Key)) h
 rw [a1t] at this;exact this
theorem b5r {H:Hp} {D:Addr} {S:List Str} (h:H D=some (.dK (bv S))) (hl:S.length≤100000) (x:Str):a5A H D (.str x) (V.bl true) (upd H D (.dK (bv (a1b S x)))):=by
 have:=a5A.k (k:=(Sum.inr x:Key)) (v:=V.bl true) h (by unfold bv;rw [Qe];exact Xm hl (by decide))
 rw [b7V] at this;exact this
theorem b7B {R:List (Str×Nat)} (hn:(R.map (·.1)).Nodup) {x:Str} {n:Nat} (h:lk R x=none∨lk R x=some n):a2u (dv R) (Sum.inr x:Key) (V.int n)=dv (a4i n R x):=by
 unfold a4i
 rcases h with h | h
 ·rw [h,if_neg (by simp),a5v _ (by rw [a5u,h];rfl),b4P]
 ·rw [h,if_pos (by simp)]
  unfold a2u
  rw [a1Q,a5u,h,if_pos (by rfl)]
  unfold dv
  rw [Xi]
  refine Uq fun p hp=>?_
  simp only [Function.comp]
  by_cases e:p.1=x
  ·have:=b1A hn hp
   rw [e,h] at this
   rw [if_pos (by rw [e]),Option.some.inj this]
  ·rw [if_neg (fun z=>e (Sum.inr.inj z))]
theorem c5B {H:Hp} {D:Addr} {R:List (Str×Nat)} (h:H D=some (.dK (dv R))) (hl:R.length≤100000) (hn:(R.map (·.1)).Nodup) {x:Str} {n:Nat} (hx:lk R x=none∨lk R x=some n):a5A H D (.str x) (V.int n) (upd H D (.dK (dv (a4i n R x)))):=by
 have:=a5A.k (k:=(Sum.inr x:Key)) (v:=V.int n) h (by rw [b9v];exact Xm hl (by decide))
 rw [b7B hn hx] at this;exact this
def srW (r:Rw):SR Str:=(decide (r.1 < 2),r.2.2.1,r.2.2.2)
theorem c0H:∀zs:List Str,(∀z∈zs,Ym z=true)→Zu (zs.map Jh)=true∧Zt (zs.map Jh)=0
 | [],_=>⟨rfl,rfl⟩
 | z::zs,h=>by
  obtain ⟨a,b⟩:=c0H zs fun p hp=>h p (Qr _ hp)
  refine ⟨?_,?_⟩
  ·show (Xp (.str z) && _)=true
   rw [a,Bool.and_true];exact h z Qs
  ·show max (Yw (.str z)) _=0
   rw [b];rfl
theorem a9d {zs:List Str} (h:∀z∈zs,Ym z=true):Yq (.list (zs.map Jh))=true:=by
 obtain ⟨a,b⟩:=c0H zs h
 unfold Yq
 simp only [Xp,Yw,a,b]
 decide
theorem b1D (zs:List Str):Xw (.list (zs.map Jh)) (.list [])=decide (zs=[]):=by
 cases zs with
 | nil=>rfl
 | cons z zs=>rfl
theorem b5o {K:Qd} {H:Hp} {Q:VK} {a b:Addr} {zs:List Str} (ha:SqL K H a (zs.map V.str)) (hb:SqL K H b []) (ho:∀z∈zs,Ym z=true) (q:Q (.bl (decide (zs=[]))) H):b3y K (.ref a) (.ref b) H Q:=
 .inr ⟨_,_,.lst ha (a5o zs),.lst hb .nil,a9d ho,by decide,by rw [b1D];exact q⟩
theorem b4H {K:Qd} {H:Hp} {Q:VK} {a b:Addr} {zs:List Str} (ha:SqL K H a (zs.map V.str)) (hb:SqL K H b []) (ho:∀z∈zs,Ym z=true) (q:Q (.bl (!decide (zs=[]))) H):b3U K (.ref a) (.ref b) H Q:=
 .inr ⟨_,_,.lst ha (a5o zs),.lst hb .nil,a9d ho,by decide,by rw [b1D];exact q⟩
def a3v (K:Qd) (H:Hp) (v:V) (kn:List Str):Prop:=(∃a,v=.ref a∧H a=some (.lst (kn.map V.str)))∨∃a kvs,v=.ref a∧H a=some (.dK kvs)∧kvs.map (·.1)=kn.map (Sum.inr:Str→Key)
theorem a3v.at {K:Qd} {H:Hp} {v:V} {kn:List Str} (h:a3v K H v kn):∃a o,v=.ref a∧H a=some o:=by
 rcases h with ⟨a,e,b⟩ | ⟨a,_,e,b,_⟩
 ·exact ⟨a,_,e,b⟩
 ·exact ⟨a,_,e,b⟩
theorem a3v.same {K:Qd} {H H':Hp} {v:V} {kn:List Str} (s:a0i H H') (h:a3v K H v kn):a3v K H' v kn:=h.imp (fun ⟨a,e,b⟩=>⟨a,e,s _ _ b⟩) fun ⟨a,k,e,b,c⟩=>⟨a,k,e,s _ _ b,c⟩
def b5P (K:Qd):Sp:=fun vs H Q _=>∃(v:V) (kn:List Str),vs=[v]∧a3v K H v kn∧kn.length≤1000∧∀D H',a0i H H'→H D=none→H' D=some (.dK (bv (kn.foldl a1b [])))→Q (.ref D) H'
def a8T (lb hd:V) (t:Addr):List (Str×V):=a1n "body" (.ref t) (a1n "head" hd (a1n "label" lb []))
theorem a4r (lb hd:V) (t:Addr):(a8T lb hd t).lookup ("label":Str)=some lb:=by
 unfold a8T;rw [a0f,if_neg (by decide+kernel),a0f,if_neg (by decide+kernel),a0f,if_pos rfl]
theorem a1l (lb hd:V) (t:Addr):(a8T lb hd t).lookup ("head":Str)=some hd:=by
 unfold a8T;rw [a0f,if_neg (by decide+kernel),a0f,if_pos rfl]
theorem a1K (lb hd:V) (t:Addr):(a8T lb hd t).lookup ("body":Str)=some (.ref t):=by
 unfold a8T;rw [a0f,if_pos rfl]
theorem b4y (lb hd:V) (t:Addr) {m:Str} (h1:¬m="body") (h2:¬m="head") (h3:¬m="label"):(a8T lb hd t).lookup m=none:=by
 unfold a8T;rw [a0f,if_neg h1,a0f,if_neg h2,a0f,if_neg h3];rfl
def a1R (H:Hp) (r C:Addr) (lb hd:V) (bs:List V):Prop:=∃dx t,H r=some (.ins C dx (a8T lb hd t))∧H t=some (.tup bs)
theorem a1R.same {H H':Hp} {r C:Addr} {lb hd:V} {bs:List V} (s:a0i H H') (h:a1R H r C lb hd bs):a1R H' r C lb hd bs:=let ⟨d,t,a,b⟩:=h;⟨d,t,s _ _ a,s _ _ b⟩
def b8V (K:Qd):Sp:=fun vs H Q _=>∃x C dx lb hd b bs,vs=[.ref x,lb,hd,.ref b]∧H x=some (.ins C dx [])∧(Cls K C∧a0D K C "label"∧a0D K C "head"∧a0D K C "body")∧(SqL K H b bs∨SqT K H b bs∧H b=some (.tup bs))∧
 ∀H',(∀c o,H c=some o→c≠x→H' c=some o)→a1R H' x C lb hd bs→Q .non H'
def b6b (K:Qd) (C:Addr):Sp:=fun vs H Q _=>∃x dx hd,vs=[.ref x,hd]∧H x=some (.ins C dx [])∧
 ∀H',(∀c o,H c=some o→c≠x→H' c=some o)→a1R H' x C (.str "") hd []→Q .non H'
def a4o (t:Adr):Nat→Addr
 | 0=>t.C_Fact
 | 1=>t.C_Sure
 | 2=>t.C_Most
 | _=>t.C_Block
def a0V (b:Bool):Sp:=fun vs H Q _=>∃x,vs=[x]∧Q (.bl b) H
theorem a4u {b:Bool} {x:V} {H:Hp} {Q:VK} {E:XK}:a0V b [x] H Q E↔Q (.bl b) H:=⟨by rintro ⟨_,e,q⟩;cases e;exact q,fun q=>⟨_,rfl,q⟩⟩
structure c5c (K:Qd) (t:Adr) (C:Addr):Prop where
 cl:Cls K C
 ty:TyI K C
 nl:a0D K C "label"
 nh:a0D K C "head"
 nb:a0D K C "body"
 kr:Yo K (.ref C) (.ref t.C_Rule)=some true
theorem a8p {K:Qd} {mg:Str→Option Value} {t:Adr} (T:Txt K mg t) {kind:Nat} (h:kind < 4):c5c K t (a4o t kind):=by
 match kind,h with
 | 0,_=>exact ⟨T.cl_Fact,T.ty_Fact,T.nf_Fact_label,T.nf_Fact_head,T.nf_Fact_body,T.ki_Fact_Rule⟩
 | 1,_=>exact ⟨T.cl_Sure,T.ty_Sure,T.nf_Sure_label,T.nf_Sure_head,T.nf_Sure_body,T.ki_Sure_Rule⟩
 | 2,_=>exact ⟨T.cl_Most,T.ty_Most,T.nf_Most_label,T.nf_Most_head,T.nf_Most_body,T.ki_Most_Rule⟩
 | 3,_=>exact ⟨T.cl_Block,T.ty_Block,T.nf_Block_label,T.nf_Block_head,T.nf_Block_body,T.ki_Block_Rule⟩
def b5j (kind:Nat) (a b c d:Sp):Sp:=match kind with
 | 0=>a
 | 1=>b
 | 2=>c
 | _=>d
theorem b1a {kind:Nat} (h:kind < 4):b5j kind (a0V true) (a0V true) (a0V false) (a0V false)=a0V (decide ((kind:Int) < 2)):=by
 match kind,h with
 | 0,_=>rfl
 | 1,_=>rfl
 | 2,_=>rfl
 | 3,_=>rfl
theorem c4C {t:Adr} {m:Str} {s0 s1 s2 s3:Sp} {ta:TE} {σ:St} {H:Hp} {Q:VK} {r:Addr} {kind:Nat} {lb hd:V} {bs:List V} (hk:kind < 4) (hta:∀R:VK,R (.ref r) H→ta σ H R) (hR:a1R H r (a4o t kind) lb hd bs)
  (hm:¬m="body"∧¬m="head"∧¬m="label") (q:b5j kind s0 s1 s2 s3 [.ref r] H Q E0):
  b9w (a1u t.C_Fact m s0 [] E0 ta a0t) (b9w (a1u t.C_Sure m s1 [] E0 ta a0t) (b9w (a1u t.C_Most m s2 [] E0 ta a0t) (a1u t.C_Block m s3 [] E0 ta a0t))) σ H Q:=by
 obtain ⟨dx,t0,h1,_⟩:=hR
 have hn:=b4y lb hd t0 hm.1 hm.2.1 hm.2.2
 match kind,hk with
 | 0,_=>exact .inl (hta _ ⟨r,dx,_,rfl,h1,hn,q⟩)
 | 1,_=>exact .inr (.inl (hta _ ⟨r,dx,_,rfl,h1,hn,q⟩))
 | 2,_=>exact .inr (.inr (.inl (hta _ ⟨r,dx,_,rfl,h1,hn,q⟩)))
 | 3,_=>exact .inr (.inr (.inr (hta _ ⟨r,dx,_,rfl,h1,hn,q⟩)))
theorem a0I {i:Nat} {σ:St} {H:Hp} {v:V} (h:σ[i]?=some (some v)):∀R:VK,R v H→a0k i σ H R:=fun R q=>⟨v,h,q⟩
def a9Q (t:Adr) (H:Hp) (v:V) (r:Rw):Prop:=∃p,v=.ref p∧a1R H p (a4o t r.1) (.str r.2.1) (.str r.2.2.1) (r.2.2.2.map V.str)
theorem a9Q.same {t:Adr} {H H':Hp} {v:V} {r:Rw} (s:a0i H H') (h:a9Q t H v r):a9Q t H' v r:=let ⟨p,a,b⟩:=h;⟨p,a,b.same s⟩
structure a1L (t:Adr) (H:Hp) (xs:List V) (rs:List Rw):Prop where
 len:xs.length=rs.length
 get:∀(i:Nat) (r:Rw),rs[i]?=some r→∃x,xs[i]?=some x∧a9Q t H x r
theorem a1L.same {t:Adr} {H H':Hp} {xs:List V} {rs:List Rw} (s:a0i H H') (h:a1L t H xs rs):a1L t H' xs rs:=⟨h.len,fun i r e=>let ⟨x,a,b⟩:=h.get i r e;⟨x,a,b.same s⟩⟩
theorem a1L.at {t:Adr} {H:Hp} {xs:List V} {rs:List Rw} (h:a1L t H xs rs) {i:Nat} (hi:i < xs.length):∃(hi':i < rs.length) (p:Addr),xs[i]=.ref p∧a1R H p (a4o t rs[i].1) (.str rs[i].2.1) (.str rs[i].2.2.1) (rs[i].2.2.2.map V.str):=by
 have hi':i < rs.length:=by rw [←h.len];exact hi
 obtain ⟨x,e,p,rfl,hp⟩:=h.get i rs[i] (Qc hi')
 rw [Qc hi] at e
 exact ⟨hi',p,Option.some.inj e,hp⟩
def b5D (K:Qd) (t:Adr):Sp:=fun vs H Q _=>∃(p b:Addr) (r:Rw),vs=[.ref p]∧a1B r∧H p=some (.tup [.str (a2i r.1),.str r.2.1,.str r.2.2.1,.ref b])∧H b=some (.tup (r.2.2.2.map V.str))∧
 ∀x H',a0i H H'→a1R H' x (a4o t r.1) (.str r.2.1) (.str r.2.2.1) (r.2.2.2.map V.str)→Q (.ref x) H'
def c1a (RS:List (SR Str)) (k0:List Str) (H:Hp) (Q:VK):Prop:=∀D H',a0i H H'→H D=none→H' D=some (.dK (dv (FIN RS k0)))→Q (.ref D) H'
def c0p (K:Qd) (t:Adr):Sp:=fun vs H Q _=>∃(a:Addr) (kv:V) (xs:List V) (rs:List Rw) (kn:List Str),vs=[.ref a,kv]∧H a=some (.lst xs)∧a1L t H xs rs∧(∀r∈rs,a1B r)∧rs.length≤100∧((kv=.non∧kn=[])∨∃b,kv=.ref b∧H b=some (.lst (kn.map V.str)))∧kn.length≤100∧c1a (rs.map srW) (kn.foldl a1b []) H Q
abbrev VR:=V×Rw
def a8U (t:Adr) (H:Hp) (ws:List VR):Prop:=∀p∈ws,a9Q t H p.1 p.2∧a1B p.2
theorem a8U.same {t:Adr} {H H':Hp} {ws:List VR} (s:a0i H H') (h:a8U t H ws):a8U t H' ws:=fun p hp=>⟨(h p hp).1.same s,(h p hp).2⟩
theorem a1L.zip {t:Adr} {H:Hp}:∀{xs:List V} {rs:List Rw},a1L t H xs rs→(∀r∈rs,a1B r)→∃zr:List VR,zr.map (·.1)=xs∧zr.map (·.2)=rs∧a8U t H zr
 | [],[],_,_=>⟨[],rfl,rfl,fun _ h=>by cases h⟩
 | [],_::_,h,_=>by have:=h.len;simp at this
 | _::_,[],h,_=>by have:=h.len;simp at this
 | x::xs,r::rs,h,ho=>by
  have h':a1L t H xs rs:=⟨by have:=h.len;simpa using this,fun i r e=>h.get (i+1) r e⟩
  obtain ⟨zr,e1,e2,hz⟩:=a1L.zip h' fun r hr=>ho r (Qr _ hr)
  obtain ⟨x',ex,hx⟩:=h.get 0 r rfl
  cases ex
  refine ⟨(x,r)::zr,by rw [Xj,e1],by rw [Xj,e2],fun p hp=>?_⟩
  rcases Qy.mp hp with z | z
  ·rw [z];exact ⟨hx,ho r Qs⟩
  ·exact hz p z
theorem a1V {K:Qd} {t:Adr} {a:Addr} {js:List (Option Nat)} {tt:TT} {te:TE} {σ:St} {H:Hp} {Q:VK} (ws:List VR) (hW:H a=some (.lst (ws.map (·.1)))) (hl:ws.length≤1000) (hz:a8U t H ws) (σr:St) (hσ:a1G js σ=none::σr) (P:Rw→Bool) (g:VR→V)
  (hs:∀(x:Addr) (r:Rw) H' (R:Bool→Hp→Prop),a1B r→a1R H' x (a4o t r.1) (.str r.2.1) (.str r.2.2.1) (r.2.2.2.map V.str)→a0i H H'→(∀H'',a0i H' H''→R (P r) H'')→tt (some (.ref x)::σr) H' R)
  (he:∀(x:Addr) (r:Rw) H' (R:V→Hp→Prop),a1B r→a1R H' x (a4o t r.1) (.str r.2.1) (.str r.2.2.1) (r.2.2.2.map V.str)→a0i H H'→(∀H'',a0i H' H''→R (g (.ref x,r)) H'')→te (some (.ref x)::σr) H' R)
  (hd:∀D H',H D=none→a0i H H'→H' D=some (.lst ((ws.filter fun p=>P p.2).map g))→Q (.ref D) H'):a5y (Itl K a) js (a0l 0) tt te σ H Q:=by
 let d0:VR:=(.non,0,"","",[])
 refine a3Q (a2Y (xs:=ws.map (·.1))) (Qi (show (ws.map (·.1)).length≤1000 by simpa using hl) (by decide)) σr hσ (fun i=>P ((ws[i]?).getD d0).2) (fun i=>g ((ws[i]?).getD d0)) (fun H' s=>SqL.of (s _ _ hW)) (fun i H' R hi s hR=>?_) (fun i H' R hi s hR=>?_) (fun D H' hD s h=>?_)
 ·have hi':i < ws.length:=by simpa using hi
  obtain ⟨⟨x,ex,hx⟩,ho⟩:=hz _ (Xd hi')
  have e2:((ws.map (·.1))[i]?).getD .non=.ref x:=by rw [Qm,Qc hi'];exact ex
  rw [e2]
  rw [Qc hi',Xo] at hR
  exact hs x _ H' R ho (hx.same s) s hR
 ·have hi':i < ws.length:=by simpa using hi
  obtain ⟨⟨x,ex,hx⟩,ho⟩:=hz _ (Xd hi')
  have e2:((ws.map (·.1))[i]?).getD .non=.ref x:=by rw [Qm,Qc hi'];exact ex
  rw [e2]
  rw [Qc hi',Xo] at hR
  refine he x _ H' R ho (hx.same s) s ?_
  rw [show ((V.ref x,ws[i].2):VR)=ws[i] from by rw [←ex]]
  exact hR
 ·rw [show (ws.map (·.1)).length=ws.length by simp,a0Q d0 (fun p:VR=>P p.2) g ws] at h
  exact hd D H' hD s h
def wat (zr:List VR) (S:List Str):List VR:=zr.filter fun p=>(srW p.2).1 && decide ((srW p.2).2.1∉S)
theorem b0p {t:Adr} {H:Hp} {zr:List VR} {S:List Str} (h:a8U t H zr):a8U t H (wat zr S):=fun p hp=>h p (Qq.mp hp).1
theorem a6U (zr:List VR) (S:List Str):(wat zr S).length≤zr.length:=Qu _ _
theorem b8b (zr:List VR) {S S':List Str} (h:∀x,x∈S→x∈S'):(wat zr S).filter (fun p=>decide ((srW p.2).2.1∉S'))=wat zr S':=by
 unfold wat
 rw [Zs]
 refine Zv fun p _=>?_
 by_cases c:(srW p.2).2.1∈S'
 ·rw [decide_eq_false (by simpa using c),Bool.and_false,Ja]
 ·rw [decide_eq_true c,decide_eq_true (show ¬(srW p.2).2.1∈S from fun z=>c (h _ z)),Bool.and_true,Jt]
theorem a7S (zr:List VR) (S:List Str):((wat zr S).filter fun p=>(srW p.2).2.2.all fun q=>decide (q∈S)).map (fun p=>V.str (srW p.2).2.1)=(frs ((zr.map (·.2)).map srW) S).map V.str:=by
 unfold wat frs
 rw [Zs,Xi,Zh,Xi,Zh,Xi]
 refine congrArg (Ge _) (Zv fun p _=>?_)
 simp only [Function.comp]
 rw [Ub]
def RuD (t:Adr) (D:Addr) (v:V) (r:Rw) (H:Hp):Prop:=∃p dx t0,v=.ref p∧p≠D∧t0≠D∧H p=some (.ins (a4o t r.1) dx (a8T (.str r.2.1) (.str r.2.2.1) t0))∧H t0=some (.tup (r.2.2.2.map V.str))
theorem b9e {t:Adr} {D:Addr} {H:Hp} {ys:List V} {rs:List Rw} (hl:ys.length=rs.length) (h:∀(i:Nat) v,ys[i]?=some v→∃hi:i < rs.length,RuD t D v rs[i] H):a1L t H ys rs:=by
 refine ⟨hl,fun i r e=>?_⟩
 obtain ⟨hi,e'⟩:=Qp.mp e
 have hy:i < ys.length:=by rw [hl];exact hi
 obtain ⟨_,p,dx,t0,ev,_,_,h1,h2⟩:=h i ys[i] (Qc hy)
 rw [e'] at h1 h2
 exact ⟨ys[i],Qc hy,p,ev,dx,t0,h1,h2⟩
theorem a9T (RS:List (SR Str)) (k0:List Str):((FIN RS k0).map (·.1)).Nodup:=a1c _
def a5K (r:Rw):PyData:=.tuple [.str (a2i r.1),.str r.2.1,.str r.2.2.1,.tuple (r.2.2.2.map Jh)]
theorem b8D {n:Nat} (h:n < 4):Ym (a2i n)=true:=by
 match n,h with
 | 0,_=>decide+kernel
 | 1,_=>decide+kernel
 | 2,_=>decide+kernel
 | 3,_=>decide+kernel
theorem b4x {r:Rw} (h:a1B r):Xp (a5K r)=true∧Yw (a5K r)≤2:=by
 obtain ⟨h1,_,h2,h3,h4,_⟩:=h
 obtain ⟨a,b⟩:=c0H r.2.2.2 fun q hq=>(h4 q hq).1
 unfold a5K
 refine ⟨?_,?_⟩
 ·show Zu [.str (a2i r.1),.str r.2.1,.str r.2.2.1,.tuple (r.2.2.2.map Jh)]=true
  show (Xp (.str (a2i r.1)) && (Xp (.str r.2.1) && (Xp (.str r.2.2.1) && (Xp (.tuple (r.2.2.2.map Jh)) && true))))=true
  rw [show Xp (.tuple (r.2.2.2.map Jh))=true from a,show Xp (.str (a2i r.1))=true from b8D h1,show Xp (.str r.2.1)=true from h2.1,show Xp (.str r.2.2.1)=true from h3.1];rfl
 ·simp [Yw,Zt,b]
theorem a5q:∀{rs:List Rw},(∀r∈rs,a1B r)→Zu (rs.map a5K)=true∧Zt (rs.map a5K)≤2
 | [],_=>⟨rfl,Xf _⟩
 | r::rs,h=>by
  obtain ⟨a,b⟩:=a5q (rs:=rs) fun x hx=>h x (Qr _ hx)
  obtain ⟨c,d⟩:=b4x (h r Qs)
  refine ⟨?_,?_⟩
  ·show (Xp (a5K r) && Zu (rs.map a5K))=true
   rw [c,a];rfl
  ·show max (Yw (a5K r)) (Zt (rs.map a5K))≤2
   exact Nat.max_le.mpr ⟨d,b⟩
theorem a6R {K:Qd} {H:Hp}:∀{ws:List (V×Rw)},(∀p∈ws,a5h H p.1 p.2)→DenAll K H (ws.map (·.1)) ((ws.map (·.2)).map a5K)
 | [],_=>.nil
 | p::ws,h=>by
  obtain ⟨a,t,e,h1,h2⟩:=h p Qs
  refine .cons ?_ (a6R fun x hx=>h x (Qr _ hx))
  show Den K H p.1 (a5K p.2)
  rw [e]
  exact .tup (SqT.of h1) (.cons (.str _) (.cons (.str _) (.cons (.str _) (.cons (.tup (SqT.of h2) (a5o _)) .nil))))
theorem a5s {K:Qd} {H:Hp} {Q:VK} {a b:Addr} {ws:List (V×Rw)} (ha:H a=some (.lst (ws.map (·.1)))) (hb:SqL K H b []) (hz:∀p∈ws,a5h H p.1 p.2∧a1B p.2) (q:Q (.bl (decide (ws=[]))) H):b3y K (.ref a) (.ref b) H Q:=by
 obtain ⟨c,d⟩:=a5q (rs:=ws.map (·.2)) fun r hr=>by obtain ⟨p,hp,rfl⟩:=Qj.mp hr;exact (hz p hp).2
 refine .inr ⟨_,_,.lst (SqL.of ha) (a6R fun p hp=>(hz p hp).1),.lst hb .nil,?_,by decide,?_⟩
 ·unfold Yq
  rw [Xc]
  refine ⟨c,?_⟩
  have:Yw (.list ((ws.map (·.2)).map a5K))=Zt ((ws.map (·.2)).map a5K)+1:=by first | rfl | simp [Yw,Wz]
  rw [this]
  exact decide_eq_true (by omega)
 ·have:Xw (.list ((ws.map (·.2)).map a5K)) (.list [])=decide (ws=[]):=by
   cases ws with
   | nil=>rfl
   | cons p ws=>rfl
  rw [this];exact q
theorem a7X {K:Qd} {H:Hp} {Q:VK} {a b:Addr} {ws:List (V×Rw)} (ha:H a=some (.lst (ws.map (·.1)))) (hb:SqL K H b []) (hz:∀p∈ws,a5h H p.1 p.2∧a1B p.2) (q:Q (.bl (!decide (ws=[]))) H):b3U K (.ref a) (.ref b) H Q:=by
 obtain ⟨c,d⟩:=a5q (rs:=ws.map (·.2)) fun r hr=>by obtain ⟨p,hp,rfl⟩:=Qj.mp hr;exact (hz p hp).2
 refine .inr ⟨_,_,.lst (SqL.of ha) (a6R fun p hp=>(hz p hp).1),.lst hb .nil,?_,by decide,?_⟩
 ·unfold Yq
  rw [Xc]
  refine ⟨c,?_⟩
  have:Yw (.list ((ws.map (·.2)).map a5K))=Zt ((ws.map (·.2)).map a5K)+1:=by first | rfl | simp [Yw,Wz]
  rw [this]
  exact decide_eq_true (by omega)
 ·have:Xw (.list ((ws.map (·.2)).map a5K)) (.list [])=decide (ws=[]):=by
   cases ws with
   | nil=>rfl
   | cons p ws=>rfl
  rw [this];exact q
theorem a2M.zip {H:Hp}:∀{xs:List V} {rs:List Rw},a2M H xs rs→(∀r∈rs,a1B r)→∃zr:List (V×Rw),zr.map (·.1)=xs∧zr.map (·.2)=rs∧∀p∈zr,a5h H p.1 p.2∧a1B p.2
 | [],[],_,_=>⟨[],rfl,rfl,fun _ h=>by cases h⟩
 | [],_::_,h,_=>by have:=h.len;simp at this
 | _::_,[],h,_=>by have:=h.len;simp at this
 | x::xs,r::rs,h,ho=>by
  have h':a2M H xs rs:=⟨by have:=h.len;simpa using this,fun i r e=>h.get (i+1) r e⟩
  obtain ⟨zr,e1,e2,hz⟩:=a2M.zip h' fun r hr=>ho r (Qr _ hr)
  obtain ⟨x',ex,hx⟩:=h.get 0 r rfl
  cases ex
  refine ⟨(x,r)::zr,by rw [Xj,e1],by rw [Xj,e2],fun p hp=>?_⟩
  rcases Qy.mp hp with z | z
  ·rw [z];exact ⟨hx,ho r Qs⟩
  ·exact hz p z
theorem a2L {K:Qd} {β:Type} (At:Hp→V→β→Prop) (d0:β) {a:Addr} {js:List (Option Nat)} {tt:TT} {te:TE} {σ:St} {H:Hp} {Q:VK} (ws:List (V×β)) (hW:H a=some (.lst (ws.map (·.1)))) (hl:ws.length≤1000) (hz:∀H',a0i H H'→∀p∈ws,At H' p.1 p.2) (σr:St) (hσ:a1G js σ=none::σr) (P:β→Bool) (g:V×β→V)
  (hs:∀(x:V) (b:β) H' (R:Bool→Hp→Prop),At H' x b→a0i H H'→(∀H'',a0i H' H''→R (P b) H'')→tt (some x::σr) H' R)
  (he:∀(x:V) (b:β) H' (R:V→Hp→Prop),At H' x b→a0i H H'→(∀H'',a0i H' H''→R (g (x,b)) H'')→te (some x::σr) H' R)
  (hd:∀D H',H D=none→a0i H H'→H' D=some (.lst ((ws.filter fun p=>P p.2).map g))→Q (.ref D) H'):a5y (Itl K a) js (a0l 0) tt te σ H Q:=by
 let d1:V×β:=(.non,d0)
 refine a3Q (a2Y (xs:=ws.map (·.1))) (Qi (show (ws.map (·.1)).length≤1000 by simpa using hl) (by decide)) σr hσ (fun i=>P ((ws[i]?).getD d1).2) (fun i=>g ((ws[i]?).getD d1)) (fun H' s=>SqL.of (s _ _ hW)) (fun i H' R hi s hR=>?_) (fun i H' R hi s hR=>?_) (fun D H' hD s h=>?_)
 ·have hi':i < ws.length:=by simpa using hi
  have e2:((ws.map (·.1))[i]?).getD .non=ws[i].1:=by rw [Qm,Qc hi'];rfl
  rw [e2]
  rw [Qc hi',Xo] at hR
  exact hs _ _ H' R (hz _ s _ (Xd hi')) s hR
 ·have hi':i < ws.length:=by simpa using hi
  have e2:((ws.map (·.1))[i]?).getD .non=ws[i].1:=by rw [Qm,Qc hi'];rfl
  rw [e2]
  rw [Qc hi',Xo] at hR
  exact he _ _ H' R (hz _ s _ (Xd hi')) s hR
 ·rw [show (ws.map (·.1)).length=ws.length by simp,a0Q d1 (fun p:V×β=>P p.2) g ws] at h
  exact hd D H' hD s h
def gfl (io bh pr:Addr):List (Str×V):=a1n "pairs" (.ref pr) (a1n "by_head" (.ref bh) (a1n "in_order" (.ref io) []))
theorem b4g (io bh pr:Addr):(gfl io bh pr).lookup ("in_order":Str)=some (.ref io):=by
 unfold gfl;rw [a0f,if_neg (by decide+kernel),a0f,if_neg (by decide+kernel),a0f,if_pos rfl]
theorem b9x (io bh pr:Addr):(gfl io bh pr).lookup ("by_head":Str)=some (.ref bh):=by
 unfold gfl;rw [a0f,if_neg (by decide+kernel),a0f,if_pos rfl]
theorem a2l (io bh pr:Addr) {m:Str} (h1:¬m="pairs") (h2:¬m="by_head") (h3:¬m="in_order"):(gfl io bh pr).lookup m=none:=by
 unfold gfl;rw [a0f,if_neg h1,a0f,if_neg h2,a0f,if_neg h3];rfl
def hdF (rs:List Rw) (h:Str):List Rw:=rs.filter fun r=>decide (r.2.2.1=h)
def c0x (t:Adr) (H:Hp) (kvs:List (Key×V)) (rs:List Rw):Prop:=∀h:Str,(a0P kvs (Sum.inr h:Key)=none∧hdF rs h=[])∨∃L ys,a0P kvs (Sum.inr h:Key)=some (.ref L)∧H L=some (.lst ys)∧a1L t H ys (hdF rs h)
theorem c0x.same {t:Adr} {H H':Hp} {kvs:List (Key×V)} {rs:List Rw} (s:a0i H H') (h:c0x t H kvs rs):c0x t H' kvs rs:=fun x=>(h x).imp id fun ⟨L,ys,a,b,c⟩=>⟨L,ys,a,s _ _ b,c.same s⟩
def c0A (kvs:List (List Key×V)) (pl:List (Str×Str)):Prop:=∀a b:Str,a0P kvs [Sum.inr a,Sum.inr b]=if (a,b)∈pl then some (V.bl true) else none
def a3I (t:Adr) (H:Hp) (g:Addr) (rs:List Rw) (pl:List (Str×Str)):Prop:=∃dx io bh pr xs kvs kps,H g=some (.ins t.C_Ground dx (gfl io bh pr))∧H io=some (.tup xs)∧a1L t H xs rs∧H bh=some (.dK kvs)∧c0x t H kvs rs∧H pr=some (.dT kps)∧c0A kps pl
theorem a3I.same {t:Adr} {H H':Hp} {g:Addr} {rs:List Rw} {pl:List (Str×Str)} (s:a0i H H') (h:a3I t H g rs pl):a3I t H' g rs pl:=let ⟨dx,io,bh,pr,xs,kvs,kps,a,b,c,d,e,f,k⟩:=h;⟨dx,io,bh,pr,xs,kvs,kps,s _ _ a,s _ _ b,c.same s,s _ _ d,e.same s,s _ _ f,k⟩
theorem a1L.refs {t:Adr} {H H':Hp} {xs:List V} {rs:List Rw} (h:a1L t H xs rs) {x dx:Addr} {C:Addr} (hx:H x=some (.ins C dx [])) (k:∀c o,H c=some o→c≠x→H' c=some o):a1L t H' xs rs:=⟨h.len,fun i r e=>by
 obtain ⟨v,a,p,rfl,dx',t0,h1,h2⟩:=h.get i r e
 have hp:p≠x:=fun z=>by
  rw [z,hx] at h1
  injection h1 with h1
  injection h1 with _ _ h3
  have:=a1l (.str r.2.1) (.str r.2.2.1) t0
  rw [←h3] at this;cases this
 have ht:t0≠x:=a0E h2 hx (by intro z;cases z)
 exact ⟨_,a,p,rfl,dx',t0,k _ _ h1 hp,k _ _ h2 ht⟩⟩
theorem b3t (io bh pr:Addr):(gfl io bh pr).lookup ("pairs":Str)=some (.ref pr):=by
 unfold gfl;rw [a0f,if_pos rfl]
theorem a0U.same {H H':Hp} {xs:List V} {pl:List (Str×Str)} (s:a0i H H') (h:a0U H xs pl):a0U H' xs pl:=let ⟨as,a,b,c⟩:=h;⟨as,a,b,fun i x p e1 e2=>s _ _ (c i x p e1 e2)⟩
def b9Z (t:Adr):Sp:=fun vs H Q _=>∃(x dx b pb:Addr) (xs:List V) (rs:List Rw) (ps:List V) (pl:List (Str×Str)),vs=[.ref x,.ref b,.ref pb]∧H x=some (.ins t.C_Ground dx [])∧H b=some (.lst xs)∧a1L t H xs rs∧(∀r∈rs,a1B r)∧rs.length≤63∧H pb=some (.lst ps)∧a0U H ps pl∧pl.length≤200∧
 ∀H',(∀c o,H c=some o→c≠x→H' c=some o)→a3I t H' x rs pl→Q .non H'
def a8E (t:Adr):Sp:=fun vs H Q _=>∃(g:Addr) (h:Str) (rs:List Rw) (pl:List (Str×Str)),vs=[.ref g,.str h]∧a3I t H g rs pl∧∀D ys H',a0i H H'→H D=none→H' D=some (.lst ys)→a1L t H' ys (hdF rs h)→Q (.ref D) H'
def b4u:Sp:=fun vs H Q _=>∃z:Str,vs=[.str z]∧z.length≤100∧Q (.str (a0A z)) H
def a2j (b S:List Str):Bool:=b.any fun q=>decide (q∈S)
def spk (r:Rw):Bool:=decide (r.1 < 3)
def btn (pl:List (Str×Str)) (bs:List Rw) (r:Rw):Bool:=bs.any fun b=>decide ((b.2.1,r.2.1)∈pl)
def a0X (rs:List Rw) (U:List Str) (q:Str):List Rw:=((hdF rs q).filter spk).filter fun r=>a2E r.2.2.2 U
def unf (rs:List Rw) (D:List Str) (q:Str):List Rw:=((hdF rs q).filter spk).filter fun r=>!a2j r.2.2.2 D
def a0q (rs:List Rw) (pl:List (Str×Str)) (S U D:List Str) (q:Str):Bool:=if q∈S then true else if a0X rs U q=[]∨a0A q∈S then false else (hdF rs (a0A q)).all fun r=>a2j r.2.2.2 D || btn pl (a0X rs U q) r
def a2k (rs:List Rw) (pl:List (Str×Str)) (S U D:List Str) (q:Str):Bool:=if q∈S then false else if unf rs D q=[]∨a0A q∈S then true else (hdF rs (a0A q)).any fun r=>a2E r.2.2.2 U && !btn pl (unf rs D q) r
def a1q (H:Hp) (v:V) (S:List Str):Prop:=(∃a,v=.ref a∧H a=some (.lst (S.map V.str)))∨∃a kvs,v=.ref a∧H a=some (.dK kvs)∧∀x:Str,(a0P kvs (Sum.inr x:Key)).isSome=decide (x∈S)
theorem a1q.same {H H':Hp} {v:V} {S:List Str} (s:a0i H H') (h:a1q H v S):a1q H' v S:=h.imp (fun ⟨a,e,b⟩=>⟨a,e,s _ _ b⟩) fun ⟨a,k,e,b,c⟩=>⟨a,k,e,s _ _ b,c⟩
theorem b0V {K:Qd} {tl tr:TE} {σ:St} {H:Hp} {Q:VK} {v:V} {S:List Str} {x:Str} (h:a1q H v S) (hl:∀R:VK,R (.str x) H→tl σ H R) (hr:∀R:VK,R v H→tr σ H R) (q:Q (.bl (decide (x∈S))) H):b9w (b2c tl tr) (tOp (b8C K) tl tr) σ H Q:=by
 rcases h with ⟨a,rfl,ha⟩ | ⟨a,kvs,rfl,ha,hk⟩
 ·exact .inr (hl _ (hr _ (a3k (SqL.of ha) q)))
 ·refine .inl (hl _ (hr _ ⟨a,_,rfl,a2n.k (k:=(Sum.inr x:Key)) ha,?_⟩))
  rw [hk];exact q
theorem a3D {K:Qd} {tl tr:TE} {σ:St} {H:Hp} {Q:Bool→Hp→Prop} {v:V} {S:List Str} {x:Str} (h:a1q H v S) (hl:∀R:VK,R (.str x) H→tl σ H R) (hr:∀R:VK,R v H→tr σ H R) (q:Q (decide (x∈S)) H):b6W (tB (b2c tl tr)) (a1f (tOp (b8C K) tl tr)) σ H Q:=by
 rcases h with ⟨a,rfl,ha⟩ | ⟨a,kvs,rfl,ha,hk⟩
 ·exact .inr (hl _ (hr _ (a3k (SqL.of ha) ⟨_,rfl,q⟩)))
 ·refine .inl (hl _ (hr _ ⟨a,_,rfl,a2n.k (k:=(Sum.inr x:Key)) ha,_,rfl,?_⟩))
  rw [hk];exact q
def a7K:Sp:=fun vs H Q _=>∃(t:Addr) (v:V) (bd S:List Str),vs=[.ref t,v]∧H t=some (.tup (bd.map V.str))∧bd.length≤1000∧a1q H v S∧∀H',a0i H H'→Q (.bl (a2E bd S)) H'
def b8k:Sp:=fun vs H Q _=>∃(t:Addr) (v:V) (bd S:List Str),vs=[.ref t,v]∧H t=some (.tup (bd.map V.str))∧bd.length≤1000∧a1q H v S∧∀H',a0i H H'→Q (.bl (a2j bd S)) H'
def b5I (t:Adr):Sp:=fun vs H Q _=>∃(g x y:Addr) (rs:List Rw) (pl:List (Str×Str)) (r1 r2:Rw),vs=[.ref g,.ref x,.ref y]∧a3I t H g rs pl∧a9Q t H (.ref x) r1∧a9Q t H (.ref y) r2∧a1B r1∧a1B r2∧∀H',a0i H H'→Q (.bl (decide ((r1.2.1,r2.2.1)∈pl))) H'
def b1O (t:Adr):Sp:=fun vs H Q _=>∃(g x L:Addr) (rs:List Rw) (pl:List (Str×Str)) (r:Rw) (zr:List VR),vs=[.ref g,.ref x,.ref L]∧a3I t H g rs pl∧a9Q t H (.ref x) r∧a1B r∧H L=some (.lst (zr.map (·.1)))∧a8U t H zr∧zr.length≤63∧∀H',a0i H H'→Q (.bl (btn pl (zr.map (·.2)) r)) H'
def a8s (t:Adr):Sp:=fun vs H Q _=>∃(g:Addr) (h:Str) (rs:List Rw) (pl:List (Str×Str)),vs=[.ref g,.str h]∧a3I t H g rs pl∧(∀r∈rs,a1B r)∧rs.length≤63∧∀D (zr:List VR) H',a0i H H'→H D=none→H' D=some (.lst (zr.map (·.1)))→a8U t H' zr→zr.map (·.2)=(hdF rs h).filter spk→Q (.ref D) H'
def b0H (t:Adr):Sp:=fun vs H Q _=>∃(g:Addr) (h:Str) (rs:List Rw) (pl:List (Str×Str)),vs=[.ref g,.str h]∧a3I t H g rs pl∧(∀r∈rs,a1B r)∧h.length≤100∧∀D (zr:List VR) H',a0i H H'→H D=none→H' D=some (.lst (zr.map (·.1)))→a8U t H' zr→zr.map (·.2)=hdF rs (a0A h)→Q (.ref D) H'
def b1q (t:Adr) (f:List Rw→List (Str×Str)→List Str→List Str→List Str→Str→Bool):Sp:=fun vs H Q _=>∃(g:Addr) (v1 v2 v3:V) (q:Str) (rs:List Rw) (pl:List (Str×Str)) (S U D:List Str),vs=[.ref g,v1,v2,v3,.str q]∧a3I t H g rs pl∧(∀r∈rs,a1B r)∧rs.length≤63∧a1q H v1 S∧a1q H v2 U∧a1q H v3 D∧q.length≤100∧∀H',a0i H H'→Q (.bl (f rs pl S U D q)) H'
theorem a6I {kind:Nat} (h:kind < 4):b5j kind (a0V true) (a0V true) (a0V true) (a0V false)=a0V (decide (kind < 3)):=by
 match kind,h with
 | 0,_=>rfl
 | 1,_=>rfl
 | 2,_=>rfl
 | 3,_=>rfl
def b5x (H:Hp) (d:Addr) (rs:List Rw):Prop:=∃kvs,H d=some (.dK kvs)∧∀h:Str,(a0P kvs (Sum.inr h:Key)=none∧hdF rs h=[])∨∃L ys,a0P kvs (Sum.inr h:Key)=some (.ref L)∧H L=some (.lst ys)∧a2M H ys (hdF rs h)
theorem b5x.same {H H':Hp} {d:Addr} {rs:List Rw} (s:a0i H H') (h:b5x H d rs):b5x H' d rs:=let ⟨k,a,b⟩:=h;⟨k,s _ _ a,fun x=>(b x).imp id fun ⟨L,ys,c,d,e⟩=>⟨L,ys,c,s _ _ d,e.same s⟩⟩
def c5N:Sp:=fun vs H Q _=>∃(a:Addr) (xs:List V) (rs:List Rw),vs=[.ref a]∧H a=some (.lst xs)∧a2M H xs rs∧rs.length≤63∧∀D H',a0i H H'→H D=none→b5x H' D rs→Q (.ref D) H'
abbrev RR:=V×Rw
def b1k (H:Hp) (ws:List RR):Prop:=∀p∈ws,a5h H p.1 p.2∧a1B p.2
theorem b1k.same {H H':Hp} {ws:List RR} (s:a0i H H') (h:b1k H ws):b1k H' ws:=fun p hp=>⟨(h p hp).1.same s,(h p hp).2⟩
def DAt (H:Hp) (a:Addr) (S:List Str):Prop:=∃kvs,H a=some (.dK kvs)∧∀x:Str,(a0P kvs (Sum.inr x:Key)).isSome=decide (x∈S)
theorem DAt.same {H H':Hp} {a:Addr} {S:List Str} (s:a0i H H') (h:DAt H a S):DAt H' a S:=let ⟨k,b,c⟩:=h;⟨k,s _ _ b,c⟩
theorem DAt.some {H:Hp} {a:Addr} {S:List Str} (h:DAt H a S):a1q H (.ref a) S:=let ⟨k,b,c⟩:=h;.inr ⟨a,k,rfl,b,c⟩
theorem DAt.get {H:Hp} {a:Addr} {S:List Str} (h:DAt H a S) (x:Str):∃o,a2n H a (.str x) o∧o.isSome=decide (x∈S):=let ⟨k,b,c⟩:=h;⟨_,a2n.k (k:=(Sum.inr x:Key)) b,c x⟩
def b2W:Sp:=fun vs H Q _=>∃(v:V) (a:Addr) (r:Rw) (U:List Str),vs=[v,.ref a]∧a5h H v r∧a1B r∧DAt H a U∧∀H',a0i H H'→Q (.bl (a2E r.2.2.2 U)) H'
def b4L:Sp:=fun vs H Q _=>∃(v:V) (a:Addr) (r:Rw) (U:List Str),vs=[v,.ref a]∧a5h H v r∧a1B r∧DAt H a U∧∀H',a0i H H'→Q (.bl (a2j r.2.2.2 U)) H'
def b6Y (pl:List (Str×Str)):Prop:=∀p∈pl,Ym p.1=true∧Ym p.2=true
def b0F:Sp:=fun vs H Q _=>∃(P G:Addr) (v:V) (ps:List V) (pl:List (Str×Str)) (r:Rw) (zs:List RR),vs=[.ref P,v,.ref G]∧H P=some (.lst ps)∧a0U H ps pl∧b6Y pl∧a5h H v r∧a1B r∧H G=some (.lst (zs.map (·.1)))∧b1k H zs∧zs.length≤63∧∀H',a0i H H'→Q (.bl (btn pl (zs.map (·.2)) r)) H'
def b0v (f:List Rw→List (Str×Str)→List Str→List Str→List Str→Str→Bool):Sp:=fun vs H Q _=>∃(B P a1 a2 a3:Addr) (q:Str) (rs:List Rw) (ps:List V) (pl:List (Str×Str)) (S U D:List Str),vs=[.ref B,.ref P,.ref a1,.ref a2,.ref a3,.str q]∧b5x H B rs∧(∀r∈rs,a1B r)∧rs.length≤63∧H P=some (.lst ps)∧a0U H ps pl∧b6Y pl∧H a1=some (.lst (S.map V.str))∧DAt H a2 U∧DAt H a3 D∧q.length≤100∧∀H',a0i H H'→Q (.bl (f rs pl S U D q)) H'
def iv (S:List Str):List (Key×V):=S.map fun x=>(Sum.inr x,V.int 0)
theorem b2R {H:Hp} {xs:List V} {pl:List (Str×Str)} {a:Addr} {p:Str×Str} (h:a0U H xs pl) (ha:H a=some (.tup [.str p.1,.str p.2])):a0U H (xs++[.ref a]) (pl++[p]):=by
 obtain ⟨as,rfl,hl,hat⟩:=h
 refine ⟨as++[a],by rw [Xq];rfl,by simp [hl],fun i b q e1 e2=>?_⟩
 by_cases hi:i < as.length
 ·rw [Yb hi] at e1
  rw [Yb (by omega)] at e2
  exact hat i b q e1 e2
 ·have hi2:=(Qp.mp e1).1
  have ei:i=as.length:=by simp at hi2;omega
  subst ei
  rw [Xz (Qk _),Vs] at e1
  rw [Xz (by omega),hl,Vs] at e2
  cases e1;cases e2;exact ha
theorem b2f {H H':Hp} {xs:List V} {pl:List (Str×Str)} {D:Addr} (h:a0U H xs pl) (hD:∃ys,H D=some (.lst ys)) (up:∀b o,b≠D→H b=some o→H' b=some o):a0U H' xs pl:=by
 obtain ⟨as,e,hl,hat⟩:=h
 obtain ⟨ys,hD⟩:=hD
 refine ⟨as,e,hl,fun i b q e1 e2=>?_⟩
 have:=hat i b q e1 e2
 exact up _ _ (a0E this hD (by intro z;cases z)) this
theorem a7Q {H:Hp} {B N:Addr} {rs:List Rw} (h:b5x H B rs) (hN:H N=some (.lst [])) (hO:∀r∈rs,a1B r) (q:Str):IsD H B∧∃o,a2n H B (.str q) o∧∃(L:Addr) (zr:List RR),o.getD (.ref N)=.ref L∧H L=some (.lst (zr.map (·.1)))∧b1k H zr∧zr.map (·.2)=hdF rs q:=by
 obtain ⟨kvs,hk,hh⟩:=h
 refine ⟨a2o hk,_,a2n.k (k:=(Sum.inr q:Key)) hk,?_⟩
 rcases hh q with ⟨e,g⟩ | ⟨L,ys,e,g2,g3⟩
 ·rw [e];exact ⟨N,[],rfl,hN,(fun _ h=>by cases h),g.symm⟩
 ·rw [e]
  obtain ⟨zr,ez1,ez2,hz⟩:=g3.zip (fun r hr=>hO r (Qq.mp hr).1)
  subst ez1
  exact ⟨L,zr,rfl,g2,hz,ez2⟩
theorem a7h {r:Rw} (h:r.1 < 4) (c:¬a2i r.1="block"):spk r=true:=by
 unfold spk
 obtain ⟨n,x⟩:=r
 match n,h with
 | 0,_=>rfl
 | 1,_=>rfl
 | 2,_=>rfl
 | 3,_=>exact absurd rfl c
theorem a7t {r:Rw} (h:r.1 < 4) (c:¬¬a2i r.1="block"):spk r=false:=by
 unfold spk
 obtain ⟨n,x⟩:=r
 match n,h with
 | 0,_=>exact absurd (show ¬a2i 0="block" by decide+kernel) c
 | 1,_=>exact absurd (show ¬a2i 1="block" by decide+kernel) c
 | 2,_=>exact absurd (show ¬a2i 2="block" by decide+kernel) c
 | 3,_=>rfl
theorem b3i {β:Type} {P R:β→Bool} {l:List β}:decide ((l.filter fun p=>!P p).filter (fun p=>!R p)=[])=l.all fun p=>P p || R p:=by
 rw [Xl,decide_eq_true_eq,Zs,Zb,Zc]
 refine forall_congr' fun p=>forall_congr' fun _=>?_
 cases P p<;>cases R p<;>simp
theorem b2n {β:Type} {P R:β→Bool} {l:List β}:(!decide ((l.filter fun p=>P p).filter (fun p=>!R p)=[]))=l.any fun p=>P p && !R p:=by
 rw [Xl,Xy,decide_eq_false_iff_not,Zs,Zb,Yl]
 constructor
 ·intro h
  cases Classical.em (∃x∈l,(P x && !R x)=true) with
  | inl z=>exact z
  | inr z=>exact absurd (fun p hp hh=>z ⟨p,hp,by rw [Ub];exact hh⟩) h
 ·rintro ⟨x,hx,e⟩ h
  exact h x hx (by rw [Ub];exact e)
def b2j (H:Hp) (v:V) (S:List Str):Prop:=(∃a,v=.ref a∧H a=some (.lst (S.map V.str)))∨∃a,v=.ref a∧H a=some (.dK (iv S))
theorem b4F (S:List Str) (x:Str):(a0P (iv S) (Sum.inr x:Key)).isSome=decide (x∈S):=by
 induction S with
 | nil=>rfl
 | cons y S ih=>
  rw [show iv (y::S)=(Sum.inr y,V.int 0)::iv S from rfl]
  by_cases e:y=x
  ·rw [a0F (by rw [e]),decide_eq_true (by rw [e];exact Qs)];rfl
  ·rw [a0x (fun z=>e (Sum.inr.inj z)),ih,Xl,decide_eq_true_eq,decide_eq_true_eq,Qy]
   exact ⟨.inr,fun z=>z.elim (fun w=>absurd w.symm e) id⟩
theorem b2j.some {H:Hp} {v:V} {S:List Str} (h:b2j H v S):a1q H v S:=h.imp id fun ⟨a,e,b⟩=>⟨a,_,e,b,b4F S⟩
theorem b2j.list {K:Qd} {H:Hp} {v:V} {S:List Str} {Q:VK} (h:b2j H v S) (q:∀l,H l=none→Q (.ref l) (upd H l (.lst (S.map V.str)))):b3M K [v] H Q:=by
 rcases h with ⟨a,rfl,ha⟩ | ⟨a,rfl,ha⟩
 ·exact .inl ⟨a,_,rfl,.inl (SqL.of ha),q⟩
 ·refine .inr ⟨a,_,rfl,.inl ha,fun l hl=>?_⟩
  rw [show ((iv S).map fun kv=>kV kv.1)=S.map V.str from by unfold iv;rw [Xi];rfl]
  exact q l hl
def a9L (t:Adr):Sp:=fun vs H Q _=>∃(g:Addr) (rs:List Rw) (pl:List (Str×Str)),vs=[.ref g]∧a3I t H g rs pl∧∀D xs H',a0i H H'→H D=none→H' D=some (.lst xs)→a1L t H' xs rs→Q (.ref D) H'
theorem a7W {rs:List (SR Str)}:∀n x,x∈sS rs [] n→∃b,(true,x,b)∈rs
 | 0,x,h=>by cases h
 | n+1,x,h=>by
  rcases a3V.mp h with z | z
  ·exact a7W n x z
  ·obtain ⟨_,b,hr,_⟩:=a3g.mp z
   exact ⟨b,hr⟩
theorem a9G (rs:List Rw):(FIN (rs.map srW) []).length≤rs.length:=by
 have:=b3S (rs:=rs.map srW) (kn:=[]) (by simp) (rs.map srW).length
 show (sR (rs.map srW) [] (rs.map srW).length).length≤rs.length
 simpa using this
theorem b4I (F:List (Str×Nat)):(dv F).map (·.1)=(F.map (·.1)).map Sum.inr:=by unfold dv;rw [Xi,Xi];rfl
def gF (RS:List (SR Str)) (x:Str):Int:=(((lk (FIN RS []) x).getD 0:Nat):Int)
def b3f (RS:List (SR Str)) (l:List Str):Prop:=l.Perm ((FIN RS []).map (·.1))∧l.Pairwise (fun x y=>ltG (gF RS) x y=true)
theorem b1B {rs:List Rw} {l:List Str} (h:b3f (rs.map srW) l):l.length≤rs.length:=by
 have:=h.1.length_eq
 rw [Qe] at this
 rw [this];exact a9G rs
def b2I (T:Addr) (H:Hp):Hp:=fun a=>if a=T then none else H a
theorem a0W {T x:Addr} {H:Hp} {o:HO} {ps:Array Value} (hT:H T=some (.tbl ps)) (h:H x=some o) (n:∀ps,o≠.tbl ps):b2I T H x=some o:=by
 unfold b2I
 rw [if_neg (fun z=>by rw [z,hT] at h;cases h;exact n _ rfl)]
 exact h
theorem a5l {T:Addr} {H H':Hp} (k:∀a o,a≠T→H a=some o→H' a=some o):a0i (b2I T H) H':=fun a o e=>by
 unfold b2I at e
 by_cases z:a=T
 ·rw [if_pos z] at e;cases e
 ·rw [if_neg z] at e;exact k a o z e
section
variable {T:Addr} {H:Hp} {pt:Array Value} (hT:H T=some (.tbl pt))
include hT
theorem b6o {K:Qd} {a:Addr} {xs:List V} (h:SqL K H a xs):SqL K (b2I T H) a xs:=by
 rcases h with (h | ⟨o,h⟩) | h
 ·exact .inl (.inl (a0W hT h (fun _ z=>nomatch z)))
 ·exact .inl (.inr ⟨o,a0W hT h (fun _ z=>nomatch z)⟩)
 ·exact .inr h
theorem b7i {xs:List V} {rs:List Rw} (h:a2M H xs rs):a2M (b2I T H) xs rs:=⟨h.len,fun i r e=>let ⟨x,a,p,t,b,c,d⟩:=h.get i r e;⟨x,a,p,t,b,a0W hT c (fun _ z=>nomatch z),a0W hT d (fun _ z=>nomatch z)⟩⟩
theorem b3L {t:Adr} {xs:List V} {rs:List Rw} (h:a1L t H xs rs):a1L t (b2I T H) xs rs:=⟨h.len,fun i r e=>let ⟨x,a,p,b,d,t0,c,f⟩:=h.get i r e;⟨x,a,p,b,d,t0,a0W hT c (fun _ z=>nomatch z),a0W hT f (fun _ z=>nomatch z)⟩⟩
theorem b5q {xs:List V} {pl:List (Str×Str)} (h:a0U H xs pl):a0U (b2I T H) xs pl:=let ⟨as,a,b,c⟩:=h;⟨as,a,b,fun i x p e1 e2=>a0W hT (c i x p e1 e2) (fun _ z=>nomatch z)⟩
theorem b3B {t:Adr} {g:Addr} {rs:List Rw} {pl:List (Str×Str)} (h:a3I t H g rs pl):a3I t (b2I T H) g rs pl:=by
 obtain ⟨dx,io,bh,pr,xs,kvs,kps,a,b,c,d,e,f,k⟩:=h
 refine ⟨dx,io,bh,pr,xs,kvs,kps,a0W hT a (fun _ z=>nomatch z),a0W hT b (fun _ z=>nomatch z),b3L hT c,a0W hT d (fun _ z=>nomatch z),fun h=>?_,a0W hT f (fun _ z=>nomatch z),k⟩
 rcases e h with z | ⟨L,ys,z1,z2,z3⟩
 ·exact .inl z
 ·exact .inr ⟨L,ys,z1,a0W hT z2 (fun _ z=>nomatch z),b3L hT z3⟩
end
theorem c0j {t:Adr} {T:Addr} {q:Str} {H H':Hp} {g:Addr} {rs:List Rw} {pl:List (Str×Str)} (lt:a4j T q H) (k:∀a o,a≠T→H a=some o→H' a=some o) (h:a3I t H g rs pl):a3I t H' g rs pl:=by
 obtain ⟨pt,hT,_⟩:=lt
 exact (b3B hT h).same (a5l k)
theorem a7w {T:Addr} {q:Str} {H H':Hp} {x:Addr} {o:HO} (lt:a4j T q H) (k:∀a o,a≠T→H a=some o→H' a=some o) (h:H x=some o) (n:∀ps,o≠.tbl ps):H' x=some o:=by
 obtain ⟨pt,hT,_⟩:=lt
 exact a5l k _ _ (a0W hT h n)
def b5g (t:Adr):Sp:=fun vs H Q _=>∃(g:Addr) (rs:List Rw) (pl:List (Str×Str)),vs=[.ref g]∧a3I t H g rs pl∧(∀r∈rs,a1B r)∧rs.length≤63∧a4j t.TB_z0u a1S H∧
 ∀l ss H',a4j t.TB_z0u a1S H'→(∀a o,a≠t.TB_z0u→H a=some o→H' a=some o)→H l=none→H' l=some (.lst (ss.map V.str))→b3f (rs.map srW) ss→Q (.ref l) H'
theorem b4A {t:Adr} {H:Hp} {R:Addr→Hp→Prop} {E:XK} {L Pr:Addr} {zs ps:List V} {rs:List Rw} {pl:List (Str×Str)} (hL:H L=some (.lst zs)) (hU:a1L t H zs rs) (hO:∀r∈rs,a1B r) (hl:rs.length≤63) (hP:H Pr=some (.lst ps)) (hQ:a0U H ps pl) (hp:pl.length≤200)
  (q:∀g H',a0i H H'→H g=none→a3I t H' g rs pl→R g H'):∀x dx,H x=none→H dx=none→dx≠x→b9Z t [.ref x,.ref L,.ref Pr] (upd (upd H dx (.own x)) x (.ins t.C_Ground dx [])) (fun v H2=>v=.non∧R x H2) E:=by
 intro g dx ng ndx ne
 obtain ⟨H4,e4,s4,h4⟩:∃H4,upd (upd H dx (.own g)) g (.ins t.C_Ground dx [])=H4∧a0i H H4∧H4 g=some (.ins t.C_Ground dx []):=⟨_,rfl,fun c o e=>by rw [a0a (a0c e ng),a0a (a0c e ndx)];exact e,a0d⟩
 rw [e4]
 exact ⟨g,dx,L,Pr,zs,rs,ps,pl,rfl,h4,s4 _ _ hL,hU.same s4,hO,hl,s4 _ _ hP,a0U.same s4 hQ,hp,fun H5 k5 hG5=>⟨rfl,q g H5 (fun c o e=>k5 c o (s4 _ _ e) (a0c e ng)) ng hG5⟩⟩
/-! ### rounds -/
def stt (rs:List Rw) (pl:List (Str×Str)) (S U D:List Str) (q:Str):Option Bool:=if a0q rs pl S U D q=true then some true else if a2k rs pl S U D q=true then some false else none
def tch (rs:List Rw) (came:List Str) (q:Str):Prop:=∃r∈rs,(∃p∈r.2.2.2,p∈came)∧(q=r.2.2.1∨q=a0A r.2.2.1)
def Ext (U came U':List Str):Prop:=∀x,x∉came→(x∈U'↔x∈U)
theorem a7m {b U U' came:List Str} (h:Ext U came U') (hb:∀p∈b,p∉came):a2E b U'=a2E b U:=by
 unfold a2E
 rw [Xl,Zc,Zc]
 exact ⟨fun z p hp=>decide_eq_true ((h p (hb p hp)).mp (of_decide_eq_true (z p hp))),fun z p hp=>decide_eq_true ((h p (hb p hp)).mpr (of_decide_eq_true (z p hp)))⟩
theorem a7j {b U U' came:List Str} (h:Ext U came U') (hb:∀p∈b,p∉came):a2j b U'=a2j b U:=by
 unfold a2j
 rw [Xl,Yl,Yl]
 exact ⟨fun ⟨p,hp,z⟩=>⟨p,hp,decide_eq_true ((h p (hb p hp)).mp (of_decide_eq_true z))⟩,fun ⟨p,hp,z⟩=>⟨p,hp,decide_eq_true ((h p (hb p hp)).mpr (of_decide_eq_true z))⟩⟩
theorem b0c {rs:List Rw} {pl:List (Str×Str)} {S U U' D D' came:List Str} {q:Str} (hU:Ext U came U') (hD:Ext D came D') (ho:a0A (a0A q)=q) (hn:¬tch rs came q):stt rs pl S U' D' q=stt rs pl S U D q:=by
 have h1:∀r∈hdF rs q,∀p∈r.2.2.2,p∉came:=fun r hr p hp hc=>by
  have:=Qq.mp hr
  exact hn ⟨r,this.1,⟨p,hp,hc⟩,.inl (of_decide_eq_true this.2).symm⟩
 have h2:∀r∈hdF rs (a0A q),∀p∈r.2.2.2,p∉came:=fun r hr p hp hc=>by
  have:=Qq.mp hr
  exact hn ⟨r,this.1,⟨p,hp,hc⟩,.inr (by rw [of_decide_eq_true this.2,ho])⟩
 have e1:a0X rs U' q=a0X rs U q:=by
  unfold a0X
  exact Zv fun r hr=>a7m hU (h1 r (Qq.mp hr).1)
 have e2:unf rs D' q=unf rs D q:=by
  unfold unf
  exact Zv fun r hr=>by rw [a7j hD (h1 r (Qq.mp hr).1)]
 have all_congr:∀(l:List Rw) (f g:Rw→Bool),(∀r∈l,f r=g r)→l.all f=l.all g:=fun l f g h=>by
  induction l with
  | nil=>rfl
  | cons a l ih=>rw [Va,Va,h a Qs,ih fun r hr=>h r (Qr _ hr)]
 have any_congr:∀(l:List Rw) (f g:Rw→Bool),(∀r∈l,f r=g r)→l.any f=l.any g:=fun l f g h=>by
  induction l with
  | nil=>rfl
  | cons a l ih=>rw [Jf,Jf,h a Qs,ih fun r hr=>h r (Qr _ hr)]
 have e3:a0q rs pl S U' D' q=a0q rs pl S U D q:=by
  unfold a0q
  rw [e1,all_congr _ _ (fun r=>a2j r.2.2.2 D || btn pl (a0X rs U q) r) fun r hr=>by rw [a7j hD (h2 r hr)]]
 have e4:a2k rs pl S U' D' q=a2k rs pl S U D q:=by
  unfold a2k
  rw [e2,any_congr _ _ (fun r=>a2E r.2.2.2 U && !btn pl (unf rs D q) r) fun r hr=>by rw [a7m hU (h2 r hr)]]
 unfold stt
 rw [e3,e4]
structure RdS where
 T:List (Str×Bool×Nat)
 U:List Str
 D:List Str
def fresh (rs:List Rw) (pl:List (Str×Str)) (S some:List Str) (s:RdS):List (Str×Bool):=some.filterMap fun q=>if q∈s.T.map (·.1) then none else (stt rs pl S s.U s.D q).map fun w=>(q,w)
def ups (F:List (Str×Bool)):List Str:=(F.filter (·.2)).map (·.1)
def a1X (F:List (Str×Bool)):List Str:=(F.filter fun p=>!p.2).map (·.1)
def next (n:Nat) (s:RdS) (F:List (Str×Bool)):RdS:=⟨s.T++F.map fun p=>(p.1,p.2,n),s.U++ups F,s.D++a1X F⟩
def rds (rs:List Rw) (pl:List (Str×Str)) (S some U D:List Str):Nat→RdS
 | 0=>⟨[],U,D⟩
 | n+1=>next (n+1) (rds rs pl S some U D n) (fresh rs pl S some (rds rs pl S some U D n))
theorem a0p {rs:List Rw} {pl:List (Str×Str)} {S some:List Str} {s:RdS} {q:Str} {w:Bool}:(q,w)∈fresh rs pl S some s↔q∈some∧q∉s.T.map (·.1)∧stt rs pl S s.U s.D q=Option.some w:=by
 unfold fresh
 rw [Yj]
 constructor
 ·rintro ⟨x,hx,e⟩
  split at e
  ·cases e
  ·rename_i hn
   obtain ⟨y,hy,e⟩:=Jz.mp e
   cases e
   exact ⟨hx,hn,hy⟩
 ·rintro ⟨h1,h2,h3⟩
  exact ⟨q,h1,by rw [if_neg h2,h3];rfl⟩
theorem a4W {F:List (Str×Bool)} {q:Str}:q∈ups F↔(q,true)∈F:=by
 unfold ups
 rw [Qj]
 constructor
 ·rintro ⟨⟨x,b⟩,h,rfl⟩
  have:=Qq.mp h
  have hb:b=true:=this.2
  subst hb;exact this.1
 ·exact fun h=>⟨_,Qq.mpr ⟨h,rfl⟩,rfl⟩
theorem a2X {F:List (Str×Bool)} {q:Str}:q∈a1X F↔(q,false)∈F:=by
 unfold a1X
 rw [Qj]
 constructor
 ·rintro ⟨⟨x,b⟩,h,rfl⟩
  have:=Qq.mp h
  have hb:b=false:=by simpa using this.2
  subst hb;exact this.1
 ·exact fun h=>⟨_,Qq.mpr ⟨h,rfl⟩,rfl⟩
theorem a9P {rs:List Rw} {pl:List (Str×Str)} {S some U D:List Str} (n:Nat) {q:Str} {w:Bool} (ho:∀q∈some,a0A (a0A q)=q) (h:(q,w)∈fresh rs pl S some (rds rs pl S some U D (n+1))):tch rs ((fresh rs pl S some (rds rs pl S some U D n)).map (·.1)) q:=by
 obtain ⟨h1,h2,h3⟩:=a0p.mp h
 refine Vk fun hn=>?_
 have hT:q∉(rds rs pl S some U D n).T.map (·.1)∧∀w,(q,w)∉fresh rs pl S some (rds rs pl S some U D n):=by
  constructor
  ·intro z
   exact h2 (by show q∈((rds rs pl S some U D n).T++_).map _;rw [Xq];exact Xx _ z)
  ·intro w' z
   refine h2 ?_
   show q∈((rds rs pl S some U D n).T++_).map _
   rw [Xq]
   exact Qx _ (Qj.mpr ⟨_,Qj.mpr ⟨_,z,rfl⟩,rfl⟩)
 have hE:∀(F:List (Str×Bool)) (A B:List Str),(∀x∈B,x∈F.map (·.1))→Ext A (F.map (·.1)) (A++B):=fun F A B hB x hx=>by
  rw [Xa]
  exact ⟨fun z=>z.resolve_right fun y=>hx (hB x y),.inl⟩
 have e:=b0c (pl:=pl) (S:=S) (U:=(rds rs pl S some U D n).U) (D:=(rds rs pl S some U D n).D) (U':=(rds rs pl S some U D (n+1)).U) (D':=(rds rs pl S some U D (n+1)).D) (q:=q)
  (hE _ _ _ fun x hx=>Qj.mpr ⟨_,a4W.mp hx,rfl⟩) (hE _ _ _ fun x hx=>Qj.mpr ⟨_,a2X.mp hx,rfl⟩) (ho q h1) hn
 rw [h3] at e
 exact hT.2 w (a0p.mpr ⟨h1,hT.1,e.symm⟩)
theorem a2s {rs:List Rw} {pl:List (Str×Str)} {S some U D:List Str} {n:Nat} (h:fresh rs pl S some (rds rs pl S some U D n)=[]):∀k,rds rs pl S some U D (n+k)=rds rs pl S some U D n
 | 0=>rfl
 | k+1=>by
  have ih:=a2s h k
  show next _ (rds rs pl S some U D (n+k)) (fresh rs pl S some (rds rs pl S some U D (n+k)))=_
  rw [ih,h]
  unfold next ups a1X
  simp
def b5V (TB:Addr) (K:Qd):Sp:=fun vs H Q _=>∃(a:Addr) (ns:List Int),vs=[.ref a]∧SqL K H a (ns.map V.int)∧ns.length≤63∧a4j TB a1S H∧∀H',Q (.bl true) H'
theorem b3k {TB:Addr} {K:Qd} {H:Hp} {a:Addr} {ns:List Int} (hl:ns.length≤63) (hO:b2y TB H) (hS:SqL K H a (ns.map V.int)):b5V TB K [.ref a] H (fun v _=>v=.bl true) fun _ _ _=>False:=⟨a,ns,rfl,hS,hl,a4j.start hO.1,fun _=>rfl⟩
/-! ### walks of lists and dicts -/
structure a2d (H:Hp) (v:V) (H0:Hp):Prop where
 keep:∀b o,H b=some o→v≠.ref b→H0 b=some o
 non:∀b,H0 b=none→H b=none
 new:∀b,H b=none→H0 b=none
theorem a2d.refl (H:Hp) (v:V):a2d H v H:=⟨fun _ _ e _=>e,fun _ e=>e,fun _ e=>e⟩
theorem a2d.frz {H:Hp} {a:Addr} {o:HO} {x:HO} (h:H a=some o):a2d H (.ref a) (upd H a x):=⟨fun b o e n=>by rw [a0a (fun z=>n (by rw [z]))];exact e,fun b e=>by
 by_cases z:b=a
 ·rw [z,a0d] at e;cases e
 ·rw [a0a z] at e;exact e,fun b e=>by rw [a0a (fun z=>by rw [z,h] at e;cases e)];exact e⟩
def a3H (H:Hp) (D:Addr) (H':Hp):Prop:=∀b o,H b=some o→b≠D→H' b=some o
theorem a3H.refl (H:Hp) (D:Addr):a3H H D H:=fun _ _ e _=>e
theorem b0O {te:TE} {g:TG} {tb:TS} {E:a8b} {σ:St} {H:Hp} {a:Addr} {kvs:List (Key×V)} {kn:List Str} (Pv:Hp→Nat→St→Hp→Prop) (hH:H a=some (.dK kvs)) (hk:kvs.map (·.1)=kn.map (Sum.inr:Str→Key)) (hte:∀R:VK,R (.ref a) H→te σ H R)
  (h0:∀o,Pv (upd H a (.frz o (.dK kvs))) 0 σ (upd H a (.frz o (.dK kvs))))
  (hp:∀o i σ' H',Pv (upd H a (.frz o (.dK kvs))) i σ' H'→H' a=some (.frz o (.dK kvs)))
  (hs:∀o i (hi:i < kn.length) σ' H' rt bk,Pv (upd H a (.frz o (.dK kvs))) i σ' H'→g (.str kn[i]) σ' H' fun σ2 H2=>tb ⟨Pv (upd H a (.frz o (.dK kvs))) (i+1),rt,bk,Pv (upd H a (.frz o (.dK kvs))) (i+1)⟩ σ2 H2)
  (hd:∀o σ' H',Pv (upd H a (.frz o (.dK kvs))) kn.length σ' H'→E.nx σ' (upd H' a (.dK kvs))):b5y (b9s (b0K te) g tb) E σ H:=by
 have hlen:kvs.length=kn.length:=by have:=congrArg Yn hk;simpa using this
 refine ⟨a,kvs,hH,?_⟩
 rw [a0L]
 refine hte _ ⟨a,kvs,rfl,hH,fun o=>?_⟩
 refine ⟨fun i m σ' H'=>m=kn.length - i∧i≤kn.length∧Pv (upd H a (.frz o (.dK kvs))) i σ' H',⟨_,rfl,Xf _,h0 o⟩,?_⟩
 rintro i m σ' H' ⟨rfl,hi,p⟩
 have hf:=hp o i σ' H' p
 by_cases hlt:i < kn.length
 ·refine .inr ⟨⟨hf,by omega⟩,Pv (upd H a (.frz o (.dK kvs))) (i+1),fun σ2 H2 p2=>⟨kn.length - (i+1),by omega,rfl,hlt,p2⟩,?_⟩
  rintro x H2 ⟨rfl,k,v,e,rfl⟩
  have ek:k=Sum.inr kn[i]:=by
   have e1:(kvs.map (·.1))[i]?=some k:=by rw [Qm,e];rfl
   rw [hk,Qm,Qc hlt] at e1
   exact (Option.some.inj e1).symm
  rw [ek]
  exact hs o i hlt σ' _ _ _ p
 ·have ei:i=kn.length:=by omega
  subst ei
  exact .inl ⟨⟨hf,by omega⟩,o,hf,hd o σ' H' p⟩
theorem a4x {K:Qd} {te:TE} {g:TG} {tb:TS} {E:a8b} {σ:St} {H:Hp} {v:V} {kn:List Str} (Pv:Hp→Nat→St→Hp→Prop) (h:a3v K H v kn) (hte:∀R:VK,R v H→te σ H R)
  (h0:∀H0,a2d H v H0→Pv H0 0 σ H0) (hk:∀H0 i σ' H' b o,Pv H0 i σ' H'→v=.ref b→H0 b=some o→H' b=some o)
  (hs:∀H0 i (hi:i < kn.length) σ' H' rt bk,a2d H v H0→Pv H0 i σ' H'→g (.str kn[i]) σ' H' fun σ2 H2=>tb ⟨Pv H0 (i+1),rt,bk,Pv H0 (i+1)⟩ σ2 H2)
  (hd:∀H0 σ' H' H'',a2d H v H0→Pv H0 kn.length σ' H'→(∀b o,H' b=some o→v≠.ref b→H'' b=some o)→(∀b o,v=.ref b→H b=some o→H'' b=some o)→E.nx σ' H''):c1N (b5y (b9s (b0K te) g tb)) (b9s (a1y K te) g tb) E σ H:=by
 rcases h with ⟨a,rfl,ha⟩ | ⟨a,kvs,rfl,ha,hkn⟩
 ·refine .inr ?_
  rw [a0L]
  refine hte _ ⟨a,rfl,⟨_,SqL.of ha⟩,?_⟩
  have hP:∀i σ' H',i≤(kn.map V.str).length→Pv H i σ' H'→SqL K H' a (kn.map V.str):=fun i σ' H' _ p=>by
   exact SqL.of (hk H i σ' H' a _ p rfl ha)
  refine a1v (K:=K) (a:=a) (xs:=kn.map V.str) (Pv H) (h0 H (a2d.refl _ _)) hP (fun i x σ' H' hi p=>?_) (fun σ' H' p=>?_)
  ·have hil:i < kn.length:=by simpa using (Qp.mp hi).1
   have ex:x=V.str kn[i]:=by
    rw [Qm,Qc hil] at hi
    exact (Option.some.inj hi).symm
   subst ex
   exact hs H i hil σ' H' _ _ (a2d.refl _ _) p
  ·rw [Qe] at p
   exact hd H σ' H' H' (a2d.refl _ _) p (fun _ _ e _=>e) fun b o z e=>hk H _ σ' H' b o p z e
 ·refine .inl (b0O Pv ha hkn hte (fun o=>h0 _ (a2d.frz ha)) (fun o i σ' H' p=>hk _ i σ' H' a _ p rfl a0d) (fun o i hi σ' H' rt bk p=>hs _ i hi σ' H' rt bk (a2d.frz ha) p) (fun o σ' H' p=>hd _ σ' H' _ (a2d.frz ha) p (fun b o e n=>?_) fun b o z e=>?_))
  ·rw [a0a (fun z=>n (by rw [z]))];exact e
  ·cases z;rw [a0d,←ha];exact e
theorem a2Z {te:TE} {js:List (Option Nat)} {tt:TT} {σ:St} {H:Hp} {Q:VK} {a:Addr} {kvs:List (Key×V)} {kn:List Str} (hH:H a=some (.dK kvs)) (hk:kvs.map (·.1)=kn.map (Sum.inr:Str→Key)) (hl:kn.length≤1000) (hte:∀R:VK,R (.ref a) H→te σ H R) (σr:St) (hσ:a1G js σ=none::σr) (P:Str→Bool)
  (hs:∀q H0 H' (R:Bool→Hp→Prop),q∈kn→a2d H (.ref a) H0→Rd H' a (.dK kvs)→a0i H0 H'→(∀H'',a0i H' H''→R (P q) H'')→tt (some (.str q)::σr) H' R)
  (hd:∀D H',H D=none→a0i H H'→H' D=some (.lst ((kn.filter P).map V.str))→Q (.ref D) H'):b7o (b2N js (b0K te) (a0l 0) tt (a0k 0)) σ H Q:=by
 have hlen:kvs.length=kn.length:=by have:=congrArg Yn hk;simpa using this
 refine ⟨a,kvs,hH,?_⟩
 rw [a0o]
 refine hte _ ⟨a,kvs,rfl,hH,fun o=>?_⟩
 have hO:a2d H (.ref a) (upd H a (.frz o (.dK kvs))):=a2d.frz hH
 have hf:upd H a (.frz o (.dK kvs)) a=some (.frz o (.dK kvs)):=a0d
 generalize upd H a (.frz o (.dK kvs))=H0 at hO hf
 have ef:∀i,i < kvs.length→∃hi:i < kn.length,((kvs[i]?.map fun p=>kV p.1).getD .non)=.str kn[i]:=fun i hi=>by
  have hi':i < kn.length:=by omega
  refine ⟨hi',?_⟩
  have e1:(kvs.map (·.1))[i]?=some (Sum.inr kn[i]):=by rw [hk,Qm,Qc hi'];rfl
  rw [Qm] at e1
  rw [Qc hi] at e1 ⊢
  have e2:=Option.some.inj e1
  show kV kvs[i].1=_
  rw [show kvs[i].1=Sum.inr kn[i] from e2];rfl
 refine a3Q (a7p (o:=o) (a:=a) (kvs:=kvs)) (Qi (show kvs.length≤1000 by omega) (by decide)) σr hσ (fun i=>P ((kn[i]?).getD "")) (fun i=>V.str ((kn[i]?).getD "")) (fun H' s=>s _ _ hf) (fun i H' R hi s hR=>?_) (fun i H' R hi s hR=>?_) (fun D H' hD s h=>?_)
 ·obtain ⟨hi',e⟩:=ef i hi
  rw [e]
  rw [Qc hi',Xo] at hR
  exact hs _ H0 H' R (Xd hi') hO (.inr ⟨o,s _ _ hf⟩) s hR
 ·obtain ⟨hi',e⟩:=ef i hi
  rw [e]
  rw [Qc hi',Xo] at hR
  exact ⟨_,rfl,hR _ (a0i.refl _)⟩
 ·rw [hlen,a0Q ("":Str) P V.str kn] at h
  refine ⟨o,s _ _ hf,hd D _ (hO.non _ hD) (fun b u e=>?_) ?_⟩
  ·by_cases z:b=a
   ·rw [z,a0d,←hH,←z];exact e
   ·rw [a0a z];exact s _ _ (hO.keep _ _ e fun w=>z (by cases w;rfl))
  ·rw [a0a (fun z=>by rw [z,hf] at hD;cases hD)];exact h
theorem c7O {H:Hp} {a:Addr} {S:List Str} (h:H a=some (.dK (bv S))):a1q H (.ref a) S:=.inr ⟨a,_,rfl,h,fun x=>by
 rw [a1t]
 by_cases z:x∈S
 ·rw [if_pos z,decide_eq_true z];rfl
 ·rw [if_neg z,decide_eq_false z];rfl⟩
theorem a5x (S:List Str):(bv S).map (·.1)=S.map (Sum.inr:Str→Key):=by
 unfold bv;rw [Xi];rfl
theorem a9x {js:List (Option Nat)} {tt:TT} {Q':VK} {σ:St} {H H1:Hp} {a:Addr} {kvs:List (Key×V)} {kn:List Str} (hH:H1 a=some (.dK kvs)) (hk:kvs.map (·.1)=kn.map (Sum.inr:Str→Key)) (hl:kn.length≤1000) (hs1:a0i H H1) (σr:St) (hσ:a1G js σ=none::σr) (P:Str→Bool)
  (hs:∀q H0 H' (R:Bool→Hp→Prop),q∈kn→a2d H1 (.ref a) H0→a0i H0 H'→(∀H'',a0i H' H''→R (P q) H'')→tt (some (.str q)::σr) H' R)
  (hd:∀D H',H1 D=none→a0i H1 H'→H' D=some (.lst ((kn.filter P).map V.str))→Q' (.ref D) H'):∃(a':Addr) (kvs':List (Key×V)),V.ref a=.ref a'∧H1 a'=some (.dK kvs')∧∀o,a5y (Itk o a' kvs') js (a0l 0) tt (a0k 0) σ (upd H1 a' (.frz o (.dK kvs'))) fun v H'=>a6f H (Q' v) H':=by
 have hlen:kvs.length=kn.length:=by have:=congrArg Yn hk;simpa using this
 refine ⟨a,kvs,rfl,hH,fun o=>?_⟩
 have hO:a2d H1 (.ref a) (upd H1 a (.frz o (.dK kvs))):=a2d.frz hH
 have hf:upd H1 a (.frz o (.dK kvs)) a=some (.frz o (.dK kvs)):=a0d
 generalize upd H1 a (.frz o (.dK kvs))=H0 at hO hf
 have ef:∀i,i < kvs.length→∃hi:i < kn.length,((kvs[i]?.map fun p=>kV p.1).getD .non)=.str kn[i]:=fun i hi=>by
  have hi':i < kn.length:=by omega
  refine ⟨hi',?_⟩
  have e1:(kvs.map (·.1))[i]?=some (Sum.inr kn[i]):=by rw [hk,Qm,Qc hi'];rfl
  rw [Qm] at e1
  rw [Qc hi] at e1 ⊢
  have e2:=Option.some.inj e1
  show kV kvs[i].1=_
  rw [show kvs[i].1=Sum.inr kn[i] from e2];rfl
 refine a3Q (a7p (o:=o) (a:=a) (kvs:=kvs)) (Qi (show kvs.length≤1000 by omega) (by decide)) σr hσ (fun i=>P ((kn[i]?).getD "")) (fun i=>V.str ((kn[i]?).getD "")) (fun H' s=>s _ _ hf) (fun i H' R hi s hR=>?_) (fun i H' R hi s hR=>?_) (fun D H' hD s h=>?_)
 ·obtain ⟨hi',e⟩:=ef i hi
  rw [e]
  rw [Qc hi',Xo] at hR
  exact hs _ H0 H' R (Xd hi') hO s hR
 ·obtain ⟨hi',e⟩:=ef i hi
  rw [e]
  rw [Qc hi',Xo] at hR
  exact ⟨_,rfl,hR _ (a0i.refl _)⟩
 ·rw [hlen,a0Q ("":Str) P V.str kn] at h
  refine ⟨a,o,kvs,fun ob u z=>?_,s _ _ hf,hd D _ (hO.non _ hD) (fun b u e=>?_) ?_⟩
  ·have:=hs1 _ _ z;rw [hH] at this;cases this
  ·by_cases z:b=a
   ·rw [z,a0d,←hH,←z];exact e
   ·rw [a0a z];exact s _ _ (hO.keep _ _ e fun w=>z (by cases w;rfl))
  ·rw [a0a (fun z=>by rw [z,hf] at hD;cases hD)];exact h
/-! ### the words of a round -/
def wd:Bool→Str
 | true=>"held"
 | false=>"refused"
def wv (F:List (Str×Bool)):List (Key×V):=F.map fun p=>(Sum.inr p.1,V.str (wd p.2))
theorem a3e (F:List (Str×Bool)):(wv F).map (·.1)=(F.map (·.1)).map (Sum.inr:Str→Key):=by
 unfold wv;rw [Xi,Xi];rfl
theorem b0i {F:List (Str×Bool)} (hn:(F.map (·.1)).Nodup) {q:Str} {b:Bool} (h:(q,b)∈F):a0P (wv F) (Sum.inr q:Key)=some (.str (wd b)):=by
 induction F with
 | nil=>cases h
 | cons p F ih=>
  rw [Xj,Yy] at hn
  rcases Qy.mp h with z | z
  ·subst z;exact a0F rfl
  ·rw [show wv (p::F)=(Sum.inr p.1,V.str (wd p.2))::wv F from rfl,a0x (fun w=>hn.1 (by rw [Sum.inr.inj w];exact Qj.mpr ⟨_,z,rfl⟩)),ih hn.2 z]
theorem b6n {F:List (Str×Bool)} {q:Str} (h:q∉F.map (·.1)):a0P (wv F) (Sum.inr q:Key)=none:=by
 induction F with
 | nil=>rfl
 | cons p F ih=>
  rw [Xj,Qy] at h
  rw [show wv (p::F)=(Sum.inr p.1,V.str (wd p.2))::wv F from rfl,a0x (fun w=>h (.inl (Sum.inr.inj w).symm)),ih fun z=>h (.inr z)]
theorem c7m {H:Hp} {D:Addr} {F:List (Str×Bool)} (h:H D=some (.dK (wv F))) (hl:F.length≤100000) {x:Str} (hx:x∉F.map (·.1)) (b:Bool):a5A H D (.str x) (V.str (wd b)) (upd H D (.dK (wv (F++[(x,b)])))):=by
 have:=a5A.k (k:=(Sum.inr x:Key)) (v:=V.str (wd b)) h (by unfold wv;rw [Qe];exact Xm hl (by decide))
 rw [a5v _ (b6n hx)] at this
 rw [show wv (F++[(x,b)])=wv F++[(Sum.inr x,V.str (wd b))] from by unfold wv;rw [Xq];rfl]
 exact this
def wds (rs:List Rw) (pl:List (Str×Str)) (S U D ask:List Str):List (Str×Bool):=ask.filterMap fun q=>(stt rs pl S U D q).map fun w=>(q,w)
theorem a6E {rs:List Rw} {pl:List (Str×Str)} {S U D ask:List Str} {q:Str} {w:Bool}:(q,w)∈wds rs pl S U D ask↔q∈ask∧stt rs pl S U D q=some w:=by
 unfold wds
 rw [Yj]
 constructor
 ·rintro ⟨x,hx,e⟩
  obtain ⟨y,hy,e⟩:=Jz.mp e
  cases e
  exact ⟨hx,hy⟩
 ·rintro ⟨h1,h2⟩
  exact ⟨q,h1,by rw [h2];rfl⟩
theorem b1V {rs:List Rw} {pl:List (Str×Str)} {S U D ask:List Str} {q:Str} (h:q∈(wds rs pl S U D ask).map (·.1)):q∈ask:=by
 obtain ⟨⟨x,w⟩,hx,rfl⟩:=Qj.mp h
 exact (a6E.mp hx).1
theorem a5j (rs:List Rw) (pl:List (Str×Str)) (S U D:List Str):∀ask:List Str,((wds rs pl S U D ask).map (·.1)).Sublist ask
 | []=>List.Sublist.refl _
 | q::ask=>by
  have ih:=a5j rs pl S U D ask
  unfold wds at ih ⊢
  rw [Zm]
  cases stt rs pl S U D q with
  | none=>exact ih.cons q
  | some w=>exact ih.cons₂ q
theorem b3c (rs:List Rw) (pl:List (Str×Str)) (S U D ask:List Str) (q:Str):wds rs pl S U D (ask++[q])=wds rs pl S U D ask++((stt rs pl S U D q).map fun w=>(q,w)).toList:=by
 unfold wds
 rw [List.filterMap_append,Zm]
 cases stt rs pl S U D q<;>rfl
def Off (H:Hp) (v:V) (H':Hp):Prop:=∀b o,H b=some o→v≠.ref b→H' b=some o
theorem Off.same {H H1 H':Hp} {a:Addr} (h:Off H1 (.ref a) H') (s:a0i H H1) (n:H a=none):a0i H H':=fun b o e=>h b o (s _ _ e) fun z=>by cases z;rw [n] at e;cases e
def b4r (K:Qd) (t:Adr):Sp:=fun vs H Q _=>∃(g:Addr) (v1 v2 v3 va:V) (rs:List Rw) (pl:List (Str×Str)) (S U D ask:List Str),vs=[.ref g,v1,v2,v3,va]∧(∀H',Off H va H'→a3I t H' g rs pl∧a1q H' v1 S∧a1q H' v2 U∧a1q H' v3 D)∧(∀r∈rs,a1B r)∧rs.length≤63∧a3v K H va ask∧ask.Nodup∧ask.length≤1000∧(∀q∈ask,q.length≤100)∧∀W H',a0i H H'→H W=none→H' W=some (.dK (wv (wds rs pl S U D ask)))→Q (.ref W) H'
/-! ### premises and heads -/
def a3Y (H:Hp) (d:Addr) (rs:List Rw):Prop:=∃kvs,H d=some (.dK kvs)∧∀p:Str,(a0P kvs (Sum.inr p:Key)=none∧∀r∈rs,p∉r.2.2.2)∨∃(L:Addr) (hs:List Str),a0P kvs (Sum.inr p:Key)=some (.ref L)∧H L=some (.lst (hs.map V.str))∧hs.length≤300∧∀h:Str,h∈hs↔∃r∈rs,p∈r.2.2.2∧r.2.2.1=h
theorem a3Y.same {H H':Hp} {d:Addr} {rs:List Rw} (s:a0i H H') (h:a3Y H d rs):a3Y H' d rs:=let ⟨k,a,b⟩:=h;⟨k,s _ _ a,fun p=>(b p).imp id fun ⟨L,hs,c,d,e⟩=>⟨L,hs,c,s _ _ d,e⟩⟩
def b5Q (t:Adr):Sp:=fun vs H Q _=>∃(g:Addr) (rs:List Rw) (pl:List (Str×Str)),vs=[.ref g]∧a3I t H g rs pl∧(∀r∈rs,a1B r)∧rs.length≤63∧∀D H',a0i H H'→H D=none→a3Y H' D rs→Q (.ref D) H'
def a9s:Sp:=fun vs H Q _=>∃(hd cm:Addr) (rs:List Rw) (F:List (Str×Bool)),vs=[.ref hd,.ref cm]∧(∀H',Off H (.ref cm) H'→a3Y H' hd rs)∧H cm=some (.dK (wv F))∧F.length≤100∧(∀r∈rs,a1B r)∧rs.length≤63∧
 ∀D kn H',a0i H H'→H D=none→H' D=some (.dK (bv kn))→kn.Nodup→kn.length≤1000→(∀x,x∈kn↔tch rs (F.map (·.1)) x)→Q (.ref D) H'
def a8c (L:List (Str×Str)) (p:Str):List Str:=(L.filter fun x=>decide (x.1=p)).map (·.2)
theorem b2U (L:List (Str×Str)) (p:Str):(a8c L p).length≤L.length:=by
 unfold a8c;rw [Qe];exact Qu _ _
theorem a6o (L:List (Str×Str)) (p h x:Str):a8c (L++[(p,h)]) x=a8c L x++if p=x then [h] else []:=by
 unfold a8c
 rw [Zr,Xq,Yk]
 by_cases e:p=x
 ·rw [if_pos e,if_pos (decide_eq_true e)];rfl
 ·rw [if_neg e,if_neg (by simpa using e)];rfl
structure a8w (H H':Hp) (D:Addr) (kvs:List (Key×V)) (L:List (Str×Str)):Prop where
 d:H' D=some (.dK kvs)
 len:kvs.length≤L.length
 at_:∀p:Str,(a0P kvs (Sum.inr p:Key)=none∧a8c L p=[])∨∃N,a0P kvs (Sum.inr p:Key)=some (.ref N)∧H N=none∧H' N=some (.lst ((a8c L p).map V.str))
 inj:∀(p p':Str) (N:Addr),a0P kvs (Sum.inr p:Key)=some (.ref N)→a0P kvs (Sum.inr p':Key)=some (.ref N)→p=p'
theorem a8w.same {H H' H'':Hp} {D:Addr} {kvs:List (Key×V)} {L:List (Str×Str)} (s:a0i H' H'') (h:a8w H H' D kvs L):a8w H H'' D kvs L:=⟨s _ _ h.d,h.len,fun p=>(h.at_ p).imp id fun ⟨N,a,b,c⟩=>⟨N,a,b,s _ _ c⟩,h.inj⟩
theorem a8w.old {H H':Hp} {D N:Addr} {kvs:List (Key×V)} {L:List (Str×Str)} {p h:Str} (I:a8w H H' D kvs L) (e:a0P kvs (Sum.inr p:Key)=some (.ref N)):H' N=some (.lst ((a8c L p).map V.str))∧H N=none∧a8w H (upd H' N (.lst ((a8c L p).map V.str++[V.str h]))) D kvs (L++[(p,h)]):=by
 rcases I.at_ p with ⟨z,_⟩ | ⟨N',e',n',hN⟩
 ·rw [z] at e;cases e
 rw [e] at e';cases e'
 refine ⟨hN,n',⟨by rw [a0a (a0E hN I.d (by intro z;cases z)).symm];exact I.d,by have:=I.len;simp;omega,fun x=>?_,I.inj⟩⟩
 rw [a6o]
 by_cases z:p=x
 ·subst z
  rw [if_pos rfl]
  exact .inr ⟨N,e,n',by rw [a0d,Xq];rfl⟩
 ·rw [if_neg z,Qf]
  rcases I.at_ x with w | ⟨M,a,b,c⟩
  ·exact .inl w
  ·exact .inr ⟨M,a,b,by rw [a0a (fun w=>z (I.inj p x N e (by rw [←w];exact a)))];exact c⟩
theorem a8w.new {H H':Hp} {D N:Addr} {kvs:List (Key×V)} {L:List (Str×Str)} {p h:Str} (I:a8w H H' D kvs L) (e:a0P kvs (Sum.inr p:Key)=none) (hN:H' N=none) (n:H N=none) (o:HO):a8w H (upd (upd (upd H' N o) D (.dK (a2u kvs (Sum.inr p) (.ref N)))) N (.lst ([]++[V.str h]))) D (a2u kvs (Sum.inr p) (.ref N)) (L++[(p,h)]):=by
 have hDN:D≠N:=fun z=>by rw [←z,I.d] at hN;cases hN
 have hk:=a0K kvs (Sum.inr p:Key) (V.ref N)
 refine ⟨by rw [a0a hDN,a0d],by have:=I.len;simp;omega,fun x=>?_,fun x y M a b=>?_⟩
 ·rw [a6o,a1E]
  by_cases z:p=x
  ·subst z
   rw [if_pos rfl,if_pos rfl]
   rcases I.at_ p with ⟨_,w⟩ | ⟨M,a,_⟩
   ·rw [w];exact .inr ⟨N,rfl,n,a0d⟩
   ·rw [e] at a;cases a
  ·rw [if_neg (fun w=>z (Sum.inr.inj w).symm),if_neg z,Qf]
   rcases I.at_ x with w | ⟨M,a,b,c⟩
   ·exact .inl w
   ·have hMN:M≠N:=fun w=>by rw [w,hN] at c;cases c
    exact .inr ⟨M,a,b,by rw [a0a hMN,a0a (a0E c I.d (by intro z;cases z)),a0a hMN];exact c⟩
 ·have nope:∀y:Str,a0P kvs (Sum.inr y:Key)≠some (.ref N):=fun y w=>by
   rcases I.at_ y with ⟨c,_⟩ | ⟨M',c,_,d⟩
   ·rw [c] at w;cases w
   ·rw [c] at w;cases w;rw [hN] at d;cases d
  rw [a1E] at a b
  by_cases z1:(Sum.inr x:Key)=Sum.inr p
  ·by_cases z2:(Sum.inr y:Key)=Sum.inr p
   ·rw [Sum.inr.inj z1,Sum.inr.inj z2]
   ·rw [if_pos z1] at a;cases a
    rw [if_neg z2] at b;exact absurd b (nope y)
  ·rw [if_neg z1] at a
   by_cases z2:(Sum.inr y:Key)=Sum.inr p
   ·rw [if_pos z2] at b;cases b;exact absurd a (nope x)
   ·rw [if_neg z2] at b;exact I.inj x y M a b
def phs (rs:List Rw):List (Str×Str):=rs.flatMap fun r=>r.2.2.2.map fun p=>(p,r.2.2.1)
theorem a6X:∀{rs:List Rw},(∀r∈rs,a1B r)→(phs rs).length≤4 * rs.length
 | [],_=>Qk _
 | r::rs,h=>by
  have h1:=a6X (rs:=rs) fun x hx=>h x (Qr _ hx)
  have h2:=(h r Qs).2.2.2.2.2
  unfold phs at h1 ⊢
  rw [Zw,Xr,Qe,Qo]
  omega
theorem a8w.hds {H H':Hp} {D:Addr} {kvs:List (Key×V)} {rs:List Rw} (I:a8w H H' D kvs (phs rs)) (hO:∀r∈rs,a1B r) (hl:rs.length≤63):a3Y H' D rs:=by
 have hm:∀p h,h∈a8c (phs rs) p↔∃r∈rs,p∈r.2.2.2∧r.2.2.1=h:=fun p h=>by
  unfold a8c phs
  rw [Qj]
  constructor
  ·rintro ⟨⟨x,y⟩,hx,rfl⟩
   obtain ⟨h1,h2⟩:=Qq.mp hx
   obtain ⟨r,hr,h3⟩:=Zd.mp h1
   obtain ⟨p',hp,e⟩:=Qj.mp h3
   cases e
   have:x=p:=of_decide_eq_true h2
   exact ⟨r,hr,this ▸ hp,rfl⟩
  ·rintro ⟨r,hr,hp,rfl⟩
   exact ⟨(p,r.2.2.1),Qq.mpr ⟨Zd.mpr ⟨r,hr,Qj.mpr ⟨p,hp,rfl⟩⟩,decide_eq_true rfl⟩,rfl⟩
 refine ⟨kvs,I.d,fun p=>?_⟩
 rcases I.at_ p with ⟨a,b⟩ | ⟨N,a,_,c⟩
 ·refine .inl ⟨a,fun r hr hp=>?_⟩
  have:=(hm p r.2.2.1).mpr ⟨r,hr,hp,rfl⟩
  rw [b] at this;cases this
 ·refine .inr ⟨N,_,a,c,?_,hm p⟩
  have h1:(a8c (phs rs) p).length≤(phs rs).length:=by
   unfold a8c;rw [Qe];exact Qu _ _
  have:=a6X hO
  omega
theorem b0s:∀rs:List Rw,(rs.flatMap fun r=>[r.2.2.1,a0A r.2.2.1]).length=2 * rs.length
 | []=>rfl
 | r::rs=>by rw [Zw,Xr,b0s rs];simp;omega
/-! ### the rounds told -/
abbrev Tr:=Str×Bool×Nat
def TAt (H:Hp) (D:Addr) (T:List Tr):Prop:=∃A:List (Addr×Tr),A.map (·.2)=T∧H D=some (.dK (A.map fun e=>(Sum.inr e.2.1,.ref e.1)))∧∀e∈A,H e.1=some (.tup [.str (wd e.2.2.1),.int e.2.2.2])
theorem TAt.same {H H':Hp} {D:Addr} {T:List Tr} (s:a0i H H') (h:TAt H D T):TAt H' D T:=let ⟨A,a,b,c⟩:=h;⟨A,a,s _ _ b,fun e he=>s _ _ (c e he)⟩
theorem a9i {A:List (Addr×Tr)} {q:Str} (h:q∉A.map fun e=>e.2.1):a0P (A.map fun e=>((Sum.inr e.2.1:Key),V.ref e.1)) (Sum.inr q:Key)=none:=by
 induction A with
 | nil=>rfl
 | cons p A ih=>
  rw [Xj,Qy] at h
  rw [Xj,a0x (fun w=>h (.inl (Sum.inr.inj w).symm)),ih fun z=>h (.inr z)]
theorem b6c {A:List (Addr×Tr)} (hn:(A.map fun e=>e.2.1).Nodup) {e:Addr×Tr} (h:e∈A):a0P (A.map fun e=>((Sum.inr e.2.1:Key),V.ref e.1)) (Sum.inr e.2.1:Key)=some (.ref e.1):=by
 induction A with
 | nil=>cases h
 | cons p A ih=>
  rw [Xj,Yy] at hn
  rcases Qy.mp h with z | z
  ·subst z;exact a0F rfl
  ·rw [Xj,a0x (fun w=>hn.1 (by rw [Sum.inr.inj w];exact Qj.mpr ⟨_,z,rfl⟩)),ih hn.2 z]
theorem TAt.keys {H:Hp} {D:Addr} {T:List Tr} (h:TAt H D T):∃kvs,H D=some (.dK kvs)∧kvs.map (·.1)=(T.map (·.1)).map (Sum.inr:Str→Key)∧∀x:Str,(a0P kvs (Sum.inr x:Key)).isSome=decide (x∈T.map (·.1)):=by
 obtain ⟨A,rfl,hD,_⟩:=h
 refine ⟨_,hD,by rw [Xi,Xi,Xi];rfl,fun x=>?_⟩
 rw [←a1Q,Xl,Yl,decide_eq_true_eq,Xi]
 constructor
 ·rintro ⟨p,hp,e⟩
  obtain ⟨y,hy,rfl⟩:=Qj.mp hp
  exact Qj.mpr ⟨y,hy,Sum.inr.inj (of_decide_eq_true e)⟩
 ·intro h
  obtain ⟨y,hy,e⟩:=Qj.mp h
  exact ⟨_,Qj.mpr ⟨y,hy,rfl⟩,decide_eq_true (by rw [←e];rfl)⟩
theorem TAt.put {H H1:Hp} {D p:Addr} {T:List Tr} {q:Str} {b:Bool} {n:Nat} (h:TAt H D T) (s:a0i H H1) (hp:H1 p=some (.tup [.str (wd b),.int n])) (hq:q∉T.map (·.1)) (hl:T.length≤100000):∃kvs',a5A H1 D (.str q) (.ref p) (upd H1 D (.dK kvs'))∧TAt (upd H1 D (.dK kvs')) D (T++[(q,b,n)]):=by
 obtain ⟨A,rfl,hD,hA⟩:=h
 have hq':q∉A.map fun e=>e.2.1:=by rw [Xi] at hq;exact hq
 have hD1:=s _ _ hD
 refine ⟨(A.map fun e=>((Sum.inr e.2.1:Key),V.ref e.1))++[(Sum.inr q,V.ref p)],?_,A++[(p,q,b,n)],by rw [Xq];rfl,by rw [a0d,Xq];rfl,fun e he=>?_⟩
 ·have:=a5A.k (k:=(Sum.inr q:Key)) (v:=V.ref p) hD1 (by rw [Qe];rw [Qe] at hl;exact Xm hl (by decide))
  rw [a5v _ (a9i hq')] at this
  exact this
 ·rcases Xa.mp he with z | z
  ·rw [a0a (a0E (s _ _ (hA e z)) hD1 (by intro z;cases z))];exact s _ _ (hA e z)
  ·rw [Xg.mp z,a0a (a0E hp hD1 (by intro z;cases z))];exact hp
theorem a8B {H:Hp} {a:Addr} {S S':List Str} (h:H a=some (.dK (bv S'))) (hs:∀x,x∈S'↔x∈S):DAt H a S:=⟨_,h,fun x=>by
 rw [a1t]
 by_cases z:x∈S
 ·rw [if_pos ((hs x).mpr z),decide_eq_true z];rfl
 ·rw [if_neg (fun w=>z ((hs x).mp w)),decide_eq_false z];rfl⟩
theorem a4O (k:Key):∀(more kvs:List (Key×V)),(a0P (a1r kvs more) k).isSome=((a0P kvs k).isSome || (a0P more k).isSome)
 | [],kvs=>by rw [show a1r kvs []=kvs from rfl,show a0P ([]:List (Key×V)) k=none from rfl];simp
 | p::r,kvs=>by
  rw [show a1r kvs (p::r)=a1r (a2u kvs p.1 p.2) r from rfl,a4O k r,a1E]
  by_cases e:k=p.1
  ·rw [if_pos e,show p::r=(p.1,p.2)::r from rfl,a0F e.symm];simp
  ·rw [if_neg e,show p::r=(p.1,p.2)::r from rfl,a0x (fun z=>e z.symm)]
/-! ### the rounds by what is in them -/
section
variable {rs:List Rw} {pl:List (Str×Str)} {S W U D:List Str}
def IsF (rs:List Rw) (pl:List (Str×Str)) (S W U D:List Str) (n:Nat) (F:List (Str×Bool)):Prop:=∀e,e∈F↔e∈fresh rs pl S W (rds rs pl S W U D n)
def IsT (rs:List Rw) (pl:List (Str×Str)) (S W U D:List Str) (n:Nat) (T:List Tr):Prop:=∀e,e∈T↔e∈(rds rs pl S W U D n).T
theorem a3h {α β:Type} {l m:List (α×β)} (h:∀e,e∈l↔e∈m) (x:α):x∈l.map (·.1)↔x∈m.map (·.1):=by
 constructor
 ·intro z;obtain ⟨e,he,rfl⟩:=Qj.mp z;exact Qj.mpr ⟨e,(h e).mp he,rfl⟩
 ·intro z;obtain ⟨e,he,rfl⟩:=Qj.mp z;exact Qj.mpr ⟨e,(h e).mpr he,rfl⟩
theorem a7G {n:Nat} {T:List Tr} {F:List (Str×Bool)} (hT:IsT rs pl S W U D n T) (hF:IsF rs pl S W U D n F):IsT rs pl S W U D (n+1) (T++F.map fun p=>(p.1,p.2,n+1)):=fun e=>by
 show e∈_↔e∈(rds rs pl S W U D n).T++(fresh rs pl S W (rds rs pl S W U D n)).map fun p=>(p.1,p.2,n+1)
 rw [Xa,Xa,hT e]
 refine or_congr Iff.rfl ?_
 constructor
 ·intro z;obtain ⟨p,hp,rfl⟩:=Qj.mp z;exact Qj.mpr ⟨p,(hF p).mp hp,rfl⟩
 ·intro z;obtain ⟨p,hp,rfl⟩:=Qj.mp z;exact Qj.mpr ⟨p,(hF p).mpr hp,rfl⟩
theorem b2e {n:Nat} {F:List (Str×Bool)} (hF:IsF rs pl S W U D n F) (x:Str):x∈(rds rs pl S W U D (n+1)).U↔x∈(rds rs pl S W U D n).U∨(x,true)∈F:=by
 show x∈(rds rs pl S W U D n).U++ups _↔_
 rw [Xa,a4W,hF]
theorem b2V {n:Nat} {F:List (Str×Bool)} (hF:IsF rs pl S W U D n F) (x:Str):x∈(rds rs pl S W U D (n+1)).D↔x∈(rds rs pl S W U D n).D∨(x,false)∈F:=by
 show x∈(rds rs pl S W U D n).D++a1X _↔_
 rw [Xa,a2X,hF]
theorem b2J:IsF rs pl S W U D 0 (wds rs pl S U D W):=fun ⟨q,w⟩=>by
 rw [a6E,a0p]
 exact ⟨fun ⟨a,b⟩=>⟨a,(fun z=>by cases z),b⟩,fun ⟨a,_,b⟩=>⟨a,b⟩⟩
theorem b2G {n:Nat} {T:List Tr} {F:List (Str×Bool)} {ask:List Str} (ho:∀q∈W,a0A (a0A q)=q) (hT:IsT rs pl S W U D (n+1) T) (hF:IsF rs pl S W U D n F) (ha:∀q,q∈ask↔tch rs (F.map (·.1)) q∧q∈W∧q∉T.map (·.1)):
  IsF rs pl S W U D (n+1) (wds rs pl S (rds rs pl S W U D (n+1)).U (rds rs pl S W U D (n+1)).D ask):=fun ⟨q,w⟩=>by
 rw [a6E,a0p,ha,←a3h hT]
 refine ⟨fun ⟨⟨_,b,c⟩,d⟩=>⟨b,c,d⟩,fun ⟨b,c,d⟩=>⟨⟨?_,b,c⟩,d⟩⟩
 obtain ⟨r,hr,⟨p,hp,hm⟩,hz⟩:=a9P n ho (a0p.mpr ⟨b,(by rw [←a3h hT];exact c),d⟩)
 exact ⟨r,hr,⟨p,hp,(a3h hF p).mpr hm⟩,hz⟩
theorem b5s {n:Nat} (hF:IsF rs pl S W U D n []):fresh rs pl S W (rds rs pl S W U D n)=[]:=by
 cases e:fresh rs pl S W (rds rs pl S W U D n) with
 | nil=>rfl
 | cons x l=>exact absurd ((hF x).mpr (by rw [e];exact Qs)) (by simp)
theorem a2A:∀(n:Nat) (q:Str),q∈(rds rs pl S W U D n).T.map (·.1)→q∈W
 | 0,q,h=>by cases h
 | n+1,q,h=>by
  have h':q∈((rds rs pl S W U D n).T++(fresh rs pl S W (rds rs pl S W U D n)).map fun p=>(p.1,p.2,n+1)).map (·.1):=h
  rw [Xq,Xa] at h'
  rcases h' with z | z
  ·exact a2A n q z
  ·rw [Xi] at z
   obtain ⟨⟨x,w⟩,hp,rfl⟩:=Qj.mp z
   exact (a0p.mp hp).1
end
def b2u (K:Qd) (t:Adr):Sp:=fun vs H Q _=>∃(g:Addr) (v1 v2:V) (kd:Addr) (rs:List Rw) (pl:List (Str×Str)) (sm S:List Str) (kn:List (Str×Bool)),vs=[.ref g,v1,v2,.ref kd]∧a3I t H g rs pl∧(∀r∈rs,a1B r)∧rs.length≤63∧a3v K H v1 sm∧a3v K H v2 S∧H kd=some (.dK (wv kn))∧(kn.map (·.1)).Nodup∧sm.length≤100∧S.length≤100∧kn.length≤100∧(∀q∈sm,q.length≤100∧a0A (a0A q)=q)∧
 ∀D T n H',a0i H H'→H D=none→TAt H' D T→(T.map (·.1)).Nodup→fresh rs pl S (sm.foldl a1b []) (rds rs pl S (sm.foldl a1b []) (ups kn) (a1X kn) n)=[]→IsT rs pl S (sm.foldl a1b []) (ups kn) (a1X kn) n T→Q (.ref D) H'
theorem b9l {b c:Bool} (h:wd b=wd c):b=c:=by
 cases b<;>cases c
 ·rfl
 ·exact absurd h (by decide+kernel)
 ·exact absurd h (by decide+kernel)
 ·rfl
theorem a2P {K:Qd} {b:Bool} {F:List (Str×Bool)} (hn:(F.map (·.1)).Nodup) {q0:Str} {cm:Addr} {H':Hp} {R:Bool→Hp→Prop} (hq:q0∈F.map (·.1)) (hR:Rd H' cm (.dK (wv F))) (hR':∀H'',a0i H' H''→R (decide ((q0,b)∈F)) H''):a1f (tOp (b3y K) (b2H (a0k 1) (a0k 0)) (tC (V.str (wd b)))) [some (V.str q0),some (V.ref cm)] H' R:=by
 obtain ⟨⟨x,c⟩,hm,rfl⟩:=Qj.mp hq
 have hv:=b0i hn hm
 refine ⟨_,rfl,_,rfl,cm,_,rfl,.inl ⟨_,Sum.inr x,hR,rfl,hv.symm⟩,a2V.mpr ⟨_,rfl,?_⟩⟩
 have:=hR' _ (a0i.refl _)
 rw [show decide (wd c=wd b)=decide ((x,b)∈F) from by
  rw [Xl,decide_eq_true_eq,decide_eq_true_eq]
  refine ⟨fun z=>b9l z ▸ hm,fun z=>?_⟩
  have e:=b0i hn z
  rw [hv] at e
  exact V.str.inj (Option.some.inj e)]
 exact this
theorem a5d {F:List (Str×Bool)} {b:Bool} {x:Str}:x∈((F.map (·.1)).filter fun q=>decide ((q,b)∈F)).foldl a1b []↔(x,b)∈F:=by
 rw [a1O,Qq,decide_eq_true_eq]
 exact ⟨fun h=>h.elim (fun z=>(by cases z)) (·.2),fun h=>.inr ⟨Qj.mpr ⟨_,h,rfl⟩,h⟩⟩
theorem a5z (F:List (Str×Bool)) (b:Bool):((F.map (·.1)).filter fun q=>decide ((q,b)∈F)).length≤F.length:=by
 have:=Qu (fun q=>decide ((q,b)∈F)) (F.map (·.1))
 rw [Qe] at this;exact this
theorem a3Y.keep {H H':Hp} {d:Addr} {rs:List Rw} (h:a3Y H d rs) (k:∀b o,H b=some o→(b=d∨∃xs,o=.lst xs)→H' b=some o):a3Y H' d rs:=let ⟨kv,a,b⟩:=h;⟨kv,k _ _ a (.inl rfl),fun p=>(b p).imp id fun ⟨L,hs,c,d,e⟩=>⟨L,hs,c,k _ _ d (.inr ⟨_,rfl⟩),e⟩⟩
theorem TAt.keep {H H':Hp} {D:Addr} {T:List Tr} (h:TAt H D T) (k:∀b o,H b=some o→(b=D∨∃xs,o=.tup xs)→H' b=some o):TAt H' D T:=let ⟨A,a,b,c⟩:=h;⟨A,a,k _ _ b (.inl rfl),fun e he=>k _ _ (c e he) (.inr ⟨_,rfl⟩)⟩
theorem DAt.merge {kvs:List (Key×V)} {S S':List Str} {F:List (Str×Bool)} {b:Bool} (h:∀x:Str,(a0P kvs (Sum.inr x:Key)).isSome=decide (x∈S)) (hs:∀x,x∈S'↔x∈S∨(x,b)∈F) (x:Str):(a0P (a1r kvs (bv (((F.map (·.1)).filter fun q=>decide ((q,b)∈F)).foldl a1b []))) (Sum.inr x:Key)).isSome=decide (x∈S'):=by
 rw [a4O,h,a1t,Xl,Bool.or_eq_true,decide_eq_true_eq,decide_eq_true_eq,hs]
 refine or_congr Iff.rfl ?_
 by_cases z:(x,b)∈F
 ·rw [if_pos (a5d.mpr z)];exact ⟨fun _=>z,fun _=>rfl⟩
 ·rw [if_neg (fun w=>z (a5d.mp w))];exact ⟨fun w=>(by cases w),fun w=>absurd w z⟩
/-! ### the pairs of a dict walked,its values walked -/
def a8V (H:Hp) (a:Addr) (S:List Str) (n:Nat):Prop:=∃kvs,H a=some (.dK kvs)∧(∀x:Str,(a0P kvs (Sum.inr x:Key)).isSome=decide (x∈S))∧kvs.length≤n
theorem a8V.dat {H:Hp} {a:Addr} {S:List Str} {n:Nat} (h:a8V H a S n):DAt H a S:=let ⟨k,b,c,_⟩:=h;⟨k,b,c⟩
theorem a8V.keep {H H':Hp} {a:Addr} {S:List Str} {n m:Nat} (k:∀o,H a=some o→H' a=some o) (hm:n≤m) (h:a8V H a S n):a8V H' a S m:=let ⟨v,b,c,d⟩:=h;⟨v,k _ b,c,Qi d hm⟩
theorem a8V.put {H:Hp} {a:Addr} {S:List Str} {n:Nat} (h:a8V H a S n) (hn:n≤100000) (q:Str) (v:V):∃kvs',a5A H a (.str q) v (upd H a (.dK kvs'))∧a8V (upd H a (.dK kvs')) a (S++[q]) (n+1):=by
 obtain ⟨kvs,b,c,d⟩:=h
 refine ⟨_,a5A.k (k:=(Sum.inr q:Key)) b (Xm (Qi d hn) (by decide)),_,a0d,fun x=>?_,?_⟩
 ·rw [a1E]
  by_cases e:x=q
  ·rw [if_pos (by rw [e])];simp [e]
  ·rw [if_neg (fun z=>e (Sum.inr.inj z)),c];simp [e]
 ·have:=a0K kvs (Sum.inr q:Key) v
  omega
theorem a5O {rs:List Rw} {pl:List (Str×Str)} {S:List Str} (s:RdS):∀l:List Str,((fresh rs pl S l s).map (·.1)).Sublist l
 | []=>List.Sublist.refl _
 | q::l=>by
  have ih:=a5O (rs:=rs) (pl:=pl) (S:=S) s l
  unfold fresh at ih ⊢
  rw [Zm]
  by_cases h:q∈s.T.map (·.1)
  ·rw [if_pos h];exact ih.cons q
  ·rw [if_neg h]
   cases stt rs pl S s.U s.D q with
   | none=>exact ih.cons q
   | some w=>exact ih.cons₂ q
theorem a5J {rs:List Rw} {pl:List (Str×Str)} {S W U D:List Str} (hn:W.Nodup):∀n,((rds rs pl S W U D n).T.map (·.1)).Nodup
 | 0=>Jb
 | n+1=>by
  show (((rds rs pl S W U D n).T++(fresh rs pl S W (rds rs pl S W U D n)).map fun p=>(p.1,p.2,n+1)).map (·.1)).Nodup
  rw [Xq,Yx]
  refine ⟨a5J hn n,by rw [Xi];exact hn.sublist (a5O _ _),fun x hx y hy z=>?_⟩
  rw [Xi] at hy
  obtain ⟨⟨y',w⟩,hy',rfl⟩:=Qj.mp hy
  exact (a0p.mp hy').2.1 (by rw [show x=y' from z] at hx;exact hx)
theorem b5N {rs:List Rw} {pl:List (Str×Str)} {S W U D:List Str} (hn:W.Nodup) (n:Nat):(rds rs pl S W U D n).T.length≤W.length:=by
 have:=a1A (a5J (rs:=rs) (pl:=pl) (S:=S) (U:=U) (D:=D) hn n) fun x hx=>a2A n x hx
 rw [Qe] at this;exact this
/-! ### what lies about -/
structure Sx (K:Qd) (t:Adr) (H:Hp) (a:Addr) (ns:List Int) (R:Addr) (xs:List V) (rs:List Rw) (Pa:Addr) (po:List Str) (Pr:Addr) (ps:List V) (pl:List (Str×Str)) (g:Addr):Prop where
 S:SqL K H a (ns.map V.int)
 B:H R=some (.lst xs)
 A:a2M H xs rs
 P:H Pa=some (.lst (po.map V.str))
 R:H Pr=some (.lst ps)
 Q:a0U H ps pl
 G:a3I t H g rs pl
section
variable {K:Qd} {t:Adr} {H H':Hp} {a:Addr} {ns:List Int} {R:Addr} {xs:List V} {rs:List Rw} {Pa:Addr} {po:List Str} {Pr:Addr} {ps:List V} {pl:List (Str×Str)} {g:Addr}
theorem Sx.same (s:a0i H H') (h:Sx K t H a ns R xs rs Pa po Pr ps pl g):Sx K t H' a ns R xs rs Pa po Pr ps pl g:=⟨s.seq h.S,s _ _ h.B,h.A.same s,s _ _ h.P,s _ _ h.R,a0U.same s h.Q,h.G.same s⟩
theorem Sx.on {T:Addr} {q:Str} (lt:a4j T q H) (k:∀a o,a≠T→H a=some o→H' a=some o) (h:Sx K t H a ns R xs rs Pa po Pr ps pl g):Sx K t H' a ns R xs rs Pa po Pr ps pl g:=by
 obtain ⟨p,hT,_⟩:=id lt
 have s:=a5l k
 exact ⟨s.seq (b6o hT h.S),s _ _ (a0W hT h.B (fun _ z=>nomatch z)),(b7i hT h.A).same s,s _ _ (a0W hT h.P (fun _ z=>nomatch z)),s _ _ (a0W hT h.R (fun _ z=>nomatch z)),a0U.same s (b5q hT h.Q),(b3B hT h.G).same s⟩
end
theorem a3v.list {K:Qd} {H:Hp} {v:V} {S:List Str} {Q:VK} (h:a3v K H v S) (q:∀l,H l=none→Q (.ref l) (upd H l (.lst (S.map V.str)))):b3M K [v] H Q:=by
 rcases h with ⟨a,rfl,ha⟩ | ⟨a,kvs,rfl,ha,hk⟩
 ·exact .inl ⟨a,_,rfl,.inl (SqL.of ha),q⟩
 ·refine .inr ⟨a,_,rfl,.inl ha,fun l hl=>?_⟩
  have:kvs.map (fun kv=>kV kv.1)=S.map V.str:=by
   have:=congrArg (Ge kV) hk
   rw [Xi,Xi] at this;exact this
  rw [this];exact q l hl
/-! ### words that grow,never both,as few as can be -/
section
variable {rs:List Rw} {pl:List (Str×Str)} {S U U' D D':List Str} {q:Str}
theorem a5P {b:List Str} (h:∀x∈U,x∈U') (e:a2E b U=true):a2E b U'=true:=by
 rw [a3B] at e ⊢;exact fun q hq=>h q (e q hq)
theorem a3z {b:List Str}:a2j b S=true↔∃q∈b,q∈S:=by
 unfold a2j;rw [Yl];simp
theorem a5V {b:List Str} (h:∀x∈U,x∈U') (e:a2j b U=true):a2j b U'=true:=by
 rw [a3z] at e ⊢
 obtain ⟨q,a,c⟩:=e
 exact ⟨q,a,h q c⟩
theorem a5i {bs bs':List Rw} {r:Rw} (h:∀b∈bs,b∈bs') (e:btn pl bs r=true):btn pl bs' r=true:=by
 unfold btn at e ⊢
 rw [Yl] at e ⊢
 obtain ⟨b,hb,c⟩:=e
 exact ⟨b,h b hb,c⟩
theorem a2p {r:Rw}:r∈a0X rs U q↔(r∈hdF rs q∧spk r=true)∧a2E r.2.2.2 U=true:=by
 unfold a0X;rw [Qq,Qq]
theorem b0Q {r:Rw}:r∈unf rs D q↔(r∈hdF rs q∧spk r=true)∧a2j r.2.2.2 D=false:=by
 unfold unf;rw [Qq,Qq,Xy]
theorem a6G {α:Type} {l m:List α} (h:∀r∈l,r∈m) (e:m=[]):l=[]:=Ul.mpr fun r hr=>by
 have:=h r hr;rw [e] at this;cases this
theorem a1Y:a0q rs pl S U D q=true↔q∈S∨(q∉S∧a0X rs U q≠[]∧a0A q∉S∧∀r∈hdF rs (a0A q),a2j r.2.2.2 D=true∨btn pl (a0X rs U q) r=true):=by
 unfold a0q
 by_cases h:q∈S
 ·simp [h]
 ·rw [if_neg h]
  by_cases c:a0X rs U q=[]∨a0A q∈S
  ·rw [if_pos c]
   constructor
   ·intro z;cases z
   ·rintro (z | ⟨_,a,b,_⟩)
    ·exact absurd z h
    ·exact (c.elim a b).elim
  ·rw [if_neg c,Zc]
   rw [not_or] at c
   constructor
   ·intro z;exact .inr ⟨h,c.1,c.2,fun r hr=>Ww.mp (z r hr)⟩
   ·rintro (z | ⟨_,_,_,z⟩)
    ·exact absurd z h
    ·exact fun r hr=>Ww.mpr (z r hr)
theorem a4R:a2k rs pl S U D q=true↔q∉S∧(unf rs D q=[]∨a0A q∈S∨∃r∈hdF rs (a0A q),a2E r.2.2.2 U=true∧btn pl (unf rs D q) r=false):=by
 unfold a2k
 by_cases h:q∈S
 ·simp [h]
 ·rw [if_neg h]
  by_cases c:unf rs D q=[]∨a0A q∈S
  ·rw [if_pos c]
   exact ⟨fun _=>⟨h,c.imp id .inl⟩,fun _=>rfl⟩
  ·rw [if_neg c,Yl]
   rw [not_or] at c
   constructor
   ·rintro ⟨r,hr,z⟩
    rw [Xc,Xy] at z
    exact ⟨h,.inr (.inr ⟨r,hr,z⟩)⟩
   ·rintro ⟨_,z | z | ⟨r,hr,z⟩⟩
    ·exact absurd z c.1
    ·exact absurd z c.2
    ·exact ⟨r,hr,by rw [Xc,Xy];exact z⟩
theorem a3n (hU:∀x∈U,x∈U') (hD:∀x∈D,x∈D') (e:a0q rs pl S U D q=true):a0q rs pl S U' D' q=true:=by
 rw [a1Y] at e ⊢
 rcases e with e | ⟨a,b,c,d⟩
 ·exact .inl e
 ·have hs:∀r∈a0X rs U q,r∈a0X rs U' q:=fun r hr=>by rw [a2p] at hr ⊢;exact ⟨hr.1,a5P hU hr.2⟩
  exact .inr ⟨a,fun z=>b (a6G hs z),c,fun r hr=>(d r hr).imp (a5V hD) (a5i hs)⟩
theorem a4V (hU:∀x∈U,x∈U') (hD:∀x∈D,x∈D') (e:a2k rs pl S U D q=true):a2k rs pl S U' D' q=true:=by
 rw [a4R] at e ⊢
 have hs:∀r∈unf rs D' q,r∈unf rs D q:=fun r hr=>by
  rw [b0Q] at hr ⊢
  refine ⟨hr.1,?_⟩
  cases z:a2j r.2.2.2 D with
  | false=>rfl
  | true=>have:=hr.2;rw [a5V hD z] at this;cases this
 refine ⟨e.1,?_⟩
 rcases e.2 with z | z | ⟨r,hr,a,b⟩
 ·exact .inl (a6G hs z)
 ·exact .inr (.inl z)
 ·refine .inr (.inr ⟨r,hr,a5P hU a,?_⟩)
  cases z:btn pl (unf rs D' q) r with
  | false=>rfl
  | true=>rw [a5i hs z] at b;cases b
theorem a4F (hc:∀x∈U,x∉D) (h:a0q rs pl S U D q=true):a2k rs pl S U D q=false:=by
 cases e:a2k rs pl S U D q with
 | false=>rfl
 | true=>
  exfalso
  rw [a1Y] at h;rw [a4R] at e
  rcases h with h | ⟨_,b,c,d⟩
  ·exact e.1 h
  ·have hs:∀r∈a0X rs U q,r∈unf rs D q:=fun r hr=>by
    rw [a2p] at hr;rw [b0Q]
    refine ⟨hr.1,?_⟩
    cases z:a2j r.2.2.2 D with
    | false=>rfl
    | true=>
     obtain ⟨p,hp,hd⟩:=a3z.mp z
     exact absurd hd (hc p (a3B.mp hr.2 p hp))
   rcases e.2 with z | z | ⟨r,hr,a,b'⟩
   ·exact b (a6G hs z)
   ·exact c z
   ·rcases d r hr with w | w
    ·obtain ⟨p,hp,hd⟩:=a3z.mp w
     exact hc p (a3B.mp a p hp) hd
    ·rw [a5i hs w] at b';cases b'
theorem b7k (hc:∀x∈U',x∉D') (hU:∀x∈U,x∈U') (hD:∀x∈D,x∈D') {b:Bool} (e:stt rs pl S U D q=some b):stt rs pl S U' D' q=some b:=by
 unfold stt at e ⊢
 by_cases h:a0q rs pl S U D q=true
 ·rw [if_pos h] at e
  rw [if_pos (a3n hU hD h)];exact e
 ·rw [if_neg h] at e
  by_cases h2:a2k rs pl S U D q=true
  ·rw [if_pos h2] at e
   have h3:=a4V hU hD h2
   rw [if_neg (fun z=>by rw [a4F hc z] at h3;cases h3),if_pos h3];exact e
  ·rw [if_neg h2] at e;cases e
end
section
variable {rs:List Rw} {pl:List (Str×Str)} {S W U D:List Str}
theorem a1D:∀n,(∀x,x∈(rds rs pl S W U D n).U↔x∈U∨∃k,(x,true,k)∈(rds rs pl S W U D n).T)∧(∀x,x∈(rds rs pl S W U D n).D↔x∈D∨∃k,(x,false,k)∈(rds rs pl S W U D n).T)
 | 0=>⟨fun x=>⟨.inl,fun h=>h.elim id fun ⟨_,z⟩=>by cases z⟩,fun x=>⟨.inl,fun h=>h.elim id fun ⟨_,z⟩=>by cases z⟩⟩
 | n+1=>by
  obtain ⟨h1,h2⟩:=a1D n
  have key:∀x b,(∃k,(x,b,k)∈(rds rs pl S W U D (n+1)).T)↔(∃k,(x,b,k)∈(rds rs pl S W U D n).T)∨(x,b)∈fresh rs pl S W (rds rs pl S W U D n):=fun x b=>by
   show (∃k,(x,b,k)∈(rds rs pl S W U D n).T++(fresh rs pl S W (rds rs pl S W U D n)).map fun p=>(p.1,p.2,n+1))↔_
   constructor
   ·rintro ⟨k,hk⟩
    rcases Xa.mp hk with z | z
    ·exact .inl ⟨k,z⟩
    ·obtain ⟨p,hp,e⟩:=Qj.mp z
     cases e;exact .inr hp
   ·rintro (⟨k,z⟩ | z)
    ·exact ⟨k,Xx _ z⟩
    ·exact ⟨n+1,Qx _ (Qj.mpr ⟨_,z,rfl⟩)⟩
  constructor
  ·intro x
   show x∈(rds rs pl S W U D n).U++ups _↔_
   rw [Xa,h1,a4W,key,or_assoc]
  ·intro x
   show x∈(rds rs pl S W U D n).D++a1X _↔_
   rw [Xa,h2,a2X,key,or_assoc]
theorem a3j {n:Nat} {e:Tr}:e∈(rds rs pl S W U D (n+1)).T↔e∈(rds rs pl S W U D n).T∨((e.1,e.2.1)∈fresh rs pl S W (rds rs pl S W U D n)∧e.2.2=n+1):=by
 show e∈(rds rs pl S W U D n).T++(fresh rs pl S W (rds rs pl S W U D n)).map (fun p=>(p.1,p.2,n+1))↔_
 rw [Xa]
 refine or_congr Iff.rfl ?_
 constructor
 ·intro z;obtain ⟨p,hp,rfl⟩:=Qj.mp z;exact ⟨hp,rfl⟩
 ·rintro ⟨z,h⟩
  obtain ⟨q,b,k⟩:=e
  have h':k=n+1:=h
  subst h'
  exact Qj.mpr ⟨_,z,rfl⟩
theorem b0P:∀(n:Nat) {q:Str} {b b':Bool} {k k':Nat},(q,b,k)∈(rds rs pl S W U D n).T→(q,b',k')∈(rds rs pl S W U D n).T→b=b'∧k=k'
 | 0,_,_,_,_,_,h,_=>by cases h
 | n+1,q,b,b',k,k',h,h'=>by
  rw [a3j] at h h'
  have no:∀{b k},(q,b,k)∈(rds rs pl S W U D n).T→∀{c},(q,c)∉fresh rs pl S W (rds rs pl S W U D n):=fun {b k} z {c} w=>(a0p.mp w).2.1 (Qj.mpr ⟨_,z,rfl⟩)
  rcases h with h | ⟨h,e⟩<;>rcases h' with h' | ⟨h',e'⟩
  ·exact b0P n h h'
  ·exact absurd h' (no h)
  ·exact absurd h (no h')
  ·have:=(a0p.mp h).2.2
   rw [(a0p.mp h').2.2] at this
   exact ⟨(Option.some.inj this).symm,e.trans e'.symm⟩
theorem a3K (h0:∀x∈U,x∉D) (hW:∀x∈W,x∉U∧x∉D) (n:Nat):∀x∈(rds rs pl S W U D n).U,x∉(rds rs pl S W U D n).D:=fun x hu hd=>by
 rw [(a1D n).1] at hu
 rw [(a1D n).2] at hd
 have kk:∀{b k},(x,b,k)∈(rds rs pl S W U D n).T→x∈W:=fun z=>a2A n x (Qj.mpr ⟨_,z,rfl⟩)
 rcases hu with hu | ⟨k,hu⟩<;>rcases hd with hd | ⟨k',hd⟩
 ·exact h0 x hu hd
 ·exact (hW x (kk hd)).1 hu
 ·exact (hW x (kk hu)).2 hd
 ·exact Bool.noConfusion (b0P n hu hd).1
theorem b3E (n:Nat):(∀x∈(rds rs pl S W U D n).U,x∈(rds rs pl S W U D (n+1)).U)∧∀x∈(rds rs pl S W U D n).D,x∈(rds rs pl S W U D (n+1)).D:=⟨fun x h=>Xx _ h,fun x h=>Xx _ h⟩
theorem a6w (h0:∀x∈U,x∉D) (hW:∀x∈W,x∉U∧x∉D):∀(n:Nat) {q:Str} {b:Bool} {k:Nat},(q,b,k)∈(rds rs pl S W U D n).T→stt rs pl S (rds rs pl S W U D n).U (rds rs pl S W U D n).D q=some b
 | 0,_,_,_,h=>by cases h
 | n+1,q,b,k,h=>by
  refine b7k (a3K h0 hW (n+1)) (b3E n).1 (b3E n).2 ?_
  rw [a3j] at h
  rcases h with h | ⟨h,_⟩
  ·exact a6w h0 hW n h
  ·exact (a0p.mp h).2.2
theorem a8t (h0:∀x∈U,x∉D) (hW:∀x∈W,x∉U∧x∉D) {n:Nat} (hf:fresh rs pl S W (rds rs pl S W U D n)=[]) {q:Str} {b:Bool} (hq:q∈W) (e:stt rs pl S (rds rs pl S W U D n).U (rds rs pl S W U D n).D q=some b):∃k,(q,b,k)∈(rds rs pl S W U D n).T:=by
 by_cases h:q∈(rds rs pl S W U D n).T.map (·.1)
 ·obtain ⟨⟨x,b',k⟩,hx,rfl⟩:=Qj.mp h
  have:=a6w h0 hW n hx
  rw [e] at this
  cases this
  exact ⟨k,hx⟩
 ·have:=a0p.mpr ⟨hq,h,e⟩
  rw [hf] at this;cases this
end
/-! ### the statements of the rules,and a pool about them -/
def sts (rs:List Rw):List Str:=rs.flatMap fun r=>(r.2.2.1::r.2.2.2).flatMap fun q=>[q,a0A q]
theorem a2m {rs:List Rw} {x:Str}:x∈sts rs↔∃r∈rs,∃q∈r.2.2.1::r.2.2.2,x=q∨x=a0A q:=by
 unfold sts
 constructor
 ·intro h
  obtain ⟨r,hr,h⟩:=Zd.mp h
  obtain ⟨q,hq,h⟩:=Zd.mp h
  exact ⟨r,hr,q,hq,by simpa using h⟩
 ·rintro ⟨r,hr,q,hq,h⟩
  exact Zd.mpr ⟨r,hr,Zd.mpr ⟨q,hq,by simpa using h⟩⟩
section
variable {rs:List Rw} {pl:List (Str×Str)} {S W po:List Str}
theorem a8W {U D:List Str} {q:Str} (hS:∀x∈S,x∈sts rs) (hq:q∉sts rs):stt rs pl S U D q=some false:=by
 have e:hdF rs q=[]:=Zb.mpr fun r hr z=>hq (a2m.mpr ⟨r,hr,_,Qs,.inl (of_decide_eq_true z).symm⟩)
 have e1:a0X rs U q=[]:=by unfold a0X;rw [e];rfl
 have e2:unf rs D q=[]:=by unfold unf;rw [e];rfl
 have hqS:q∉S:=fun z=>hq (hS q z)
 unfold stt a0q a2k
 rw [if_neg hqS,if_neg hqS,if_pos (Or.inl e1),if_pos (Or.inl e2),if_neg Qn,if_pos rfl]
theorem a3J (hW:∀x,x∈W↔x∈sts rs) (hpo:∀x∈sts rs,x∈po) (ho:∀q∈po,a0A (a0A q)=q) (hS:∀x∈S,x∈sts rs):∀(n:Nat) (q:Str) (b:Bool) (k:Nat),(q,b,k)∈(rds rs pl S po [] [] n).T↔(q,b,k)∈(rds rs pl S W [] [] n).T∨(0 < n∧q∈po∧q∉sts rs∧b=false∧k=1)
 | 0,q,b,k=>⟨fun h=>(by cases h),fun h=>h.elim (fun z=>(by cases z)) fun z=>absurd z.1 (by omega)⟩
 | n+1,q,b,k=>by
  have ih:=a3J hW hpo ho hS n
  have kW:∀{b k},(q,b,k)∈(rds rs pl S W [] [] n).T→q∈sts rs:=fun z=>(hW q).mp (a2A n q (Qj.mpr ⟨_,z,rfl⟩))
  have hk:q∈sts rs→(q∈(rds rs pl S po [] [] n).T.map (·.1)↔q∈(rds rs pl S W [] [] n).T.map (·.1)):=fun hq=>by
   constructor
   ·intro z;obtain ⟨⟨x,b,k⟩,hx,rfl⟩:=Qj.mp z
    rcases (ih _ _ _).mp hx with w | w
    ·exact Qj.mpr ⟨_,w,rfl⟩
    ·exact absurd hq w.2.2.1
   ·intro z;obtain ⟨⟨x,b,k⟩,hx,rfl⟩:=Qj.mp z
    exact Qj.mpr ⟨_,(ih _ _ _).mpr (.inl hx),rfl⟩
  have hs:q∈sts rs→stt rs pl S (rds rs pl S po [] [] n).U (rds rs pl S po [] [] n).D q=stt rs pl S (rds rs pl S W [] [] n).U (rds rs pl S W [] [] n).D q:=fun hq=>by
   have wd:∀(x:Str) (b:Bool),x∉po.filter (fun z=>decide (z∉sts rs))→((∃k,(x,b,k)∈(rds rs pl S po [] [] n).T)↔∃k,(x,b,k)∈(rds rs pl S W [] [] n).T):=fun x b hx=>by
    constructor
    ·rintro ⟨k,z⟩
     rcases (ih _ _ _).mp z with w | w
     ·exact ⟨k,w⟩
     ·exact absurd (Qq.mpr ⟨w.2.1,decide_eq_true w.2.2.1⟩) hx
    ·rintro ⟨k,z⟩;exact ⟨k,(ih _ _ _).mpr (.inl z)⟩
   refine b0c (came:=po.filter fun z=>decide (z∉sts rs)) (fun x hx=>?_) (fun x hx=>?_) (ho q (hpo q hq)) ?_
   ·rw [(a1D n).1,(a1D n).1];exact or_congr Iff.rfl (wd x true hx)
   ·rw [(a1D n).2,(a1D n).2];exact or_congr Iff.rfl (wd x false hx)
   ·rintro ⟨r,hr,⟨p,hp,hc⟩,_⟩
    exact of_decide_eq_true (Qq.mp hc).2 (a2m.mpr ⟨r,hr,p,Qr _ hp,.inl rfl⟩)
  rw [a3j,a3j,ih]
  show (_∨(q,b)∈_∧k=n+1)↔(_∨(q,b)∈_∧k=n+1)∨_
  rw [a0p,a0p]
  by_cases hq:q∈sts rs
  ·rw [hk hq,hs hq]
   constructor
   ·rintro ((z | z) | ⟨⟨_,z⟩,e⟩)
    ·exact .inl (.inl z)
    ·exact absurd hq z.2.2.1
    ·exact .inl (.inr ⟨⟨(hW q).mpr hq,z⟩,e⟩)
   ·rintro ((z | ⟨⟨_,z⟩,e⟩) | z)
    ·exact .inl (.inl z)
    ·exact .inr ⟨⟨hpo q hq,z⟩,e⟩
    ·exact absurd hq z.2.2.1
  ·constructor
   ·rintro ((z | z) | ⟨⟨hp,hn,z⟩,e⟩)
    ·exact .inl (.inl z)
    ·exact .inr ⟨by omega,z.2⟩
    ·rw [a8W hS hq] at z
     have hb:b=false:=(Option.some.inj z).symm
     have hn0:n=0:=by
      rcases Nat.eq_zero_or_pos n with w | w
      ·exact w
      ·exact absurd (Qj.mpr ⟨_,(ih q false 1).mpr (.inr ⟨w,hp,hq,rfl,rfl⟩),rfl⟩) hn
     exact .inr ⟨by omega,hp,hq,hb,by omega⟩
   ·rintro ((z | ⟨⟨z,_⟩,_⟩) | ⟨_,hp,_,hb,hk1⟩)
    ·exact .inl (.inl z)
    ·exact absurd ((hW q).mp z) hq
    ·rcases Nat.eq_zero_or_pos n with w | w
     ·subst w
      exact .inr ⟨⟨hp,(fun z=>by cases z),by rw [a8W hS hq,hb]⟩,by omega⟩
     ·exact .inl (.inr ⟨w,hp,hq,hb,hk1⟩)
theorem b1Q (hW:∀x,x∈W↔x∈sts rs) (hpo:∀x∈sts rs,x∈po) (ho:∀q∈po,a0A (a0A q)=q) (hS:∀x∈S,x∈sts rs) {n:Nat} (hf:fresh rs pl S W (rds rs pl S W [] [] n)=[]):fresh rs pl S po (rds rs pl S po [] [] (n+1))=[]:=by
 refine Ul.mpr fun ⟨q,b⟩ h=>?_
 have h2:(q,b,n+2)∈(rds rs pl S po [] [] (n+2)).T:=by rw [a3j];exact .inr ⟨h,rfl⟩
 rw [a3J hW hpo ho hS] at h2
 rcases h2 with h2 | h2
 ·have e:=a2s hf 2
  rw [e] at h2
  have h3:(q,b,n+2)∈(rds rs pl S po [] [] (n+1)).T:=by
   rw [a3J hW hpo ho hS,a2s hf 1];exact .inl h2
  exact (a0p.mp h).2.1 (Qj.mpr ⟨_,h3,rfl⟩)
 ·omega
end
/-! ### Answers -/
theorem a4t:∀(l m:List Str),(m++l).Nodup→l.foldl a1b m=m++l
 | [],m,_=>(Qf m).symm
 | x::l,m,h=>by
  have hx:x∉m:=fun z=>(Yx.mp h).2.2 x z x Qs rfl
  rw [Jw,a7D hx,a4t l (m++[x]) (by rw [Zk];exact h),Zk];rfl
theorem a3U {l:List Str} (h:l.Nodup):l.foldl a1b []=l:=a4t l [] h
def c0M (t:Adr):Sp:=fun vs H Q _=>∃(g:Addr) (rs:List Rw) (pl:List (Str×Str)) (po:List Str),vs=[.ref g]∧a3I t H g rs pl∧(∀r∈rs,a1B r)∧rs.length≤63∧(∀x∈sts rs,x∈po)∧po.length≤18∧
 ∀D St H',a0i H H'→H D=none→H' D=some (.lst (St.map V.str))→St.Perm ((sts rs).foldl a1b [])→PyProof.Rows.sortedS St=true→Q (.ref D) H'
def afl (st sk cm:Addr):List (Str×V):=a1n "came" (.ref cm) (a1n "sure_keys" (.ref sk) (a1n "standing" (.ref st) []))
theorem b7T (st sk cm:Addr):(afl st sk cm).lookup ("standing":Str)=some (.ref st):=by
 unfold afl;rw [a0f,if_neg (by decide+kernel),a0f,if_neg (by decide+kernel),a0f,if_pos rfl]
theorem b7l (st sk cm:Addr):(afl st sk cm).lookup ("sure_keys":Str)=some (.ref sk):=by
 unfold afl;rw [a0f,if_neg (by decide+kernel),a0f,if_pos rfl]
theorem c0i (st sk cm:Addr):(afl st sk cm).lookup ("came":Str)=some (.ref cm):=by
 unfold afl;rw [a0f,if_pos rfl]
theorem a1C (st sk cm:Addr) {m:Str} (h1:m≠"came") (h2:m≠"sure_keys") (h3:m≠"standing"):(afl st sk cm).lookup m=none:=by
 unfold afl;rw [a0f,if_neg h1,a0f,if_neg h2,a0f,if_neg h3];rfl
def c0Y (rs:List Rw) (pl:List (Str×Str)) (ss:List Str) (T:List Tr):Prop:=(T.map (·.1)).Nodup∧∃n W,(∀q,q∈W↔q∈sts rs)∧fresh rs pl ss W (rds rs pl ss W [] [] n)=[]∧IsT rs pl ss W [] [] n T
def a4S (t:Adr) (H:Hp) (x:Addr) (rs:List Rw) (ss:List Str) (T:List Tr):Prop:=∃dx st sk cm St,H x=some (.ins t.C_Answers dx (afl st sk cm))∧H st=some (.dK (bv St))∧(∀q,q∈St↔q∈sts rs)∧H sk=some (.dK (bv ss))∧TAt H cm T
theorem a4S.same {t:Adr} {H H':Hp} {x:Addr} {rs:List Rw} {ss:List Str} {T:List Tr} (s:a0i H H') (h:a4S t H x rs ss T):a4S t H' x rs ss T:=let ⟨dx,st,sk,cm,St,a,b,c,d,e⟩:=h;⟨dx,st,sk,cm,St,s _ _ a,s _ _ b,c,s _ _ d,e.same s⟩
def c0q (t:Adr):Sp:=fun vs H Q _=>∃(x dx g:Addr) (rs:List Rw) (pl:List (Str×Str)) (po:List Str) (H0:Hp),vs=[.ref x,.ref g]∧H x=some (.ins t.C_Answers dx [])∧a0i H0 H∧H0 x=none∧a3I t H0 g rs pl∧(∀r∈rs,a1B r)∧rs.length≤63∧(∀z∈sts rs,z∈po)∧po.length≤18∧(∀q∈po,q.length≤100∧a0A (a0A q)=q)∧a4j t.TB_z0u a1S H0∧
 ∀H' ss T,(∀c o,c≠t.TB_z0u→H0 c=some o→H' c=some o)→a4j t.TB_z0u a1S H'→b3f (rs.map srW) ss→c0Y rs pl ss T→a4S t H' x rs ss T→Q .non H'
def wr (rs:List Rw) (T:List Tr) (q:Str):Str×Nat:=if q∈sts rs then ((T.find? fun e=>decide (e.1=q)).map fun e=>(wd e.2.1,e.2.2)).getD (("":Str),0) else (("refused":Str),1)
def c5e (t:Adr):Sp:=fun vs H Q _=>∃(x:Addr) (q:Str) (rs:List Rw) (ss:List Str) (T:List Tr),vs=[.ref x,.str q]∧a4S t H x rs ss T∧(T.map (·.1)).Nodup∧∀p H',a0i H H'→H' p=some (.tup [.str (wr rs T q).1,.int ((wr rs T q).2:Nat)])→Q (.ref p) H'
def a9c (t:Adr) (f:List Rw→List Str→List Tr→Str→V):Sp:=fun vs H Q _=>∃(x:Addr) (q:Str) (rs:List Rw) (ss:List Str) (T:List Tr),vs=[.ref x,.str q]∧a4S t H x rs ss T∧(T.map (·.1)).Nodup∧∀H',a0i H H'→Q (f rs ss T q) H'
theorem a2S {rs:List Rw} {T:List Tr} (hn:(T.map (·.1)).Nodup) (hk:∀q∈T.map (·.1),q∈sts rs) (q:Str):(∃b n,wr rs T q=(wd b,n)∧((q,b,n)∈T∨q∉sts rs∧b=false∧n=1))∨(wr rs T q=(("":Str),0)∧q∈sts rs∧∀b n,(q,b,n)∉T):=by
 unfold wr
 by_cases h:q∈sts rs
 ·rw [if_pos h]
  cases e:T.find? (fun e=>decide (e.1=q)) with
  | none=>
   refine .inr ⟨rfl,h,fun b n z=>?_⟩
   have:=Ux.mp e _ z
   simp at this
  | some x=>
   obtain ⟨q',b,n⟩:=x
   have hm:=Vi e
   have hq:q'=q:=by have:=List.find?_some e;simpa using this
   subst hq
   exact .inl ⟨b,n,rfl,.inl hm⟩
 ·rw [if_neg h]
  exact .inl ⟨false,1,rfl,.inr ⟨h,rfl,rfl⟩⟩
theorem b1c {T:List Tr} (hn:(T.map (·.1)).Nodup) {e:Tr} (he:e∈T):T.find? (fun x=>decide (x.1=e.1))=some e:=by
 induction T with
 | nil=>cases he
 | cons p T ih=>
  rw [Xj,Yy] at hn
  rcases Qy.mp he with z | z
  ·subst z;rw [List.find?_cons_of_pos (by simp)]
  ·rw [List.find?_cons_of_neg (by
    intro w
    have w':p.1=e.1:=by simpa using w
    exact hn.1 (Qj.mpr ⟨e,z,w'.symm⟩)),ih hn.2 z]
theorem a9M (b:Bool):¬wd b=("":Str):=by cases b<;>decide+kernel
theorem b0B {T x C dx:Addr} {q:Str} {H:Hp} {fs:List (Str×V)} {o:HO} (h:a4j T q H) (hx:H x=some (.ins C dx fs)):a4j T q (upd H x o):=by
 obtain ⟨ps,a,b,c⟩:=h
 refine ⟨ps,by rw [a0a (a0E a hx (by intro z;cases z))];exact a,b,fun pos cv e=>?_⟩
 obtain ⟨c',o',vs,t,z1,z2,z3⟩:=c pos cv e
 exact ⟨c',o',vs,t,z1,by rw [a0a (a0E z2 hx (by intro z;cases z))];exact z2,z3⟩
/-! ### what the law writes down of the answers -/
def rk (rs:List Rw) (T:List Tr) (q:Str):Option Tr:=if (wr rs T q).1="" then none else some (q,decide ((wr rs T q).1="held"),(wr rs T q).2)
theorem a7H {rs:List Rw} {T:List Tr} {q:Str} {e:Tr} (h:rk rs T q=some e):e.1=q:=by
 unfold rk at h
 split at h
 ·cases h
 ·cases h;rfl
theorem a6s (b:Bool):decide (wd b=("held":Str))=b:=by cases b<;>decide+kernel
theorem a5m {rs:List Rw} {pl:List (Str×Str)} {ss W:List Str} {T:List Tr} {n:Nat} (hW:∀q,q∈W↔q∈sts rs) (hT:IsT rs pl ss W [] [] n T):∀q∈T.map (·.1),q∈sts rs:=fun q hq=>by
 rw [a3h hT] at hq
 exact (hW q).mp (a2A n q hq)
theorem b3Q {rs:List Rw} {pl:List (Str×Str)} {ss W po:List Str} {T:List Tr} {n:Nat} (hn:(T.map (·.1)).Nodup) (hW:∀q,q∈W↔q∈sts rs) (hf:fresh rs pl ss W (rds rs pl ss W [] [] n)=[]) (hT:IsT rs pl ss W [] [] n T) (hpo:∀x∈sts rs,x∈po) (ho:∀q∈po,a0A (a0A q)=q) (hS:∀x∈ss,x∈sts rs) (e:Tr):e∈po.filterMap (rk rs T)↔e∈(rds rs pl ss po [] [] (n+1)).T:=by
 obtain ⟨q,b,k⟩:=e
 rw [a3J hW hpo ho hS,a2s hf 1,←hT,Yj]
 have hk:=a5m hW hT
 constructor
 ·rintro ⟨q',hq',e⟩
  have eq:q=q':=a7H e
  subst eq
  unfold rk at e
  rcases a2S hn hk q with ⟨b',n',ew,h⟩ | ⟨ew,_⟩
  ·rw [ew,if_neg (a9M b')] at e
   have e':=Option.some.inj e
   rw [a6s] at e'
   cases e'
   rcases h with h | ⟨h1,h2,h3⟩
   ·exact .inl h
   ·exact .inr ⟨Nat.succ_pos _,hq',h1,h2,h3⟩
  ·rw [ew,if_pos rfl] at e;cases e
 ·intro h
  have hq:q∈po:=h.elim (fun z=>hpo q (hk q (Qj.mpr ⟨_,z,rfl⟩))) fun z=>z.2.1
  refine ⟨q,hq,?_⟩
  have ew:wr rs T q=(wd b,k):=by
   unfold wr
   rcases h with h | ⟨_,_,h1,h2,h3⟩
   ·rw [if_pos (hk q (Qj.mpr ⟨_,h,rfl⟩)),b1c hn h];rfl
   ·rw [if_neg h1,h2,h3];rfl
  unfold rk
  rw [ew,if_neg (a9M b),a6s]
theorem b5t {rs:List Rw} {ss:List Str} (h:b3f (rs.map srW) ss):∀z∈ss,z∈sts rs:=fun z hz=>by
 have h1:=(b4R z).mp (h.1.mem_iff.mp hz)
 obtain ⟨b,hb⟩:=a7W _ z h1
 obtain ⟨r,hr,e⟩:=Qj.mp hb
 have e2:r.2.2.1=z:=congrArg (fun x:SR Str=>x.2.1) e
 exact a2m.mpr ⟨r,hr,_,Qs,.inl e2.symm⟩
/-! ### pairs without a ring -/
def Acy (pl:List (Str×Str)):Prop:=∀A:List Str,A≠[]→∃x∈A,∀y∈A,(y,x)∉pl
theorem b5E:Acy []:=fun A h=>by
 cases A with
 | nil=>exact absurd rfl h
 | cons x l=>exact ⟨x,Qs,fun y _ z=>by cases z⟩
theorem b2A {pl:List (Str×Str)} {a b:Str} {R:List Str} (h:Acy pl) (hb:b∈R) (ha:a∉R) (hR:∀p∈pl,p.1∈R→p.2∈R):Acy (pl++[(a,b)]):=fun A hA=>by
 by_cases hs:A.filter (fun x=>decide (x∉R))=[]
 ·have hall:∀x∈A,x∈R:=fun x hx=>Vk fun z=>by
   have:x∈A.filter (fun x=>decide (x∉R)):=Qq.mpr ⟨hx,decide_eq_true z⟩
   rw [hs] at this;cases this
  obtain ⟨x,hx,hn⟩:=h A hA
  refine ⟨x,hx,fun y hy z=>?_⟩
  rcases Xa.mp z with w | w
  ·exact hn y hy w
  ·have e:=Xg.mp w
   cases e
   exact ha (hall _ hy)
 ·obtain ⟨x,hx,hn⟩:=h _ hs
  have hx':=Qq.mp hx
  have hxR:x∉R:=of_decide_eq_true hx'.2
  refine ⟨x,hx'.1,fun y hy z=>?_⟩
  rcases Xa.mp z with w | w
  ·by_cases hyR:y∈R
   ·exact hxR (hR _ w hyR)
   ·exact hn y (Qq.mpr ⟨hy,decide_eq_true hyR⟩) w
  ·have e:=Xg.mp w
   cases e
   exact hxR hb
theorem b4v {rs:List Rw} {pl:List (Str×Str)} {S U D:List Str} {q:Str} (hac:Acy pl) (hc:∀x∈U,x∉D) (ho:a0A (a0A q)=q) (h1:a0q rs pl S U D q=true) (h2:a0q rs pl S U D (a0A q)=true):q∈S∧a0A q∈S:=by
 rw [a1Y] at h1 h2
 rw [ho] at h2
 rcases h1 with h1 | ⟨n1,a1,b1,c1⟩
 ·rcases h2 with h2 | ⟨_,_,b2,_⟩
  ·exact ⟨h1,h2⟩
  ·exact absurd h1 b2
 ·rcases h2 with h2 | ⟨_,a2,b2,c2⟩
  ·exact absurd h2 b1
  ·exfalso
   have nod:∀{r:Rw} {z:Str},r∈a0X rs U z→a2j r.2.2.2 D=true→False:=fun {r z} hr hd=>by
    obtain ⟨p,hp,hpd⟩:=a3z.mp hd
    exact hc p (a3B.mp (a2p.mp hr).2 p hp) hpd
   have pred:∀x∈(a0X rs U q++a0X rs U (a0A q)).map (·.2.1),∃y∈(a0X rs U q++a0X rs U (a0A q)).map (·.2.1),(y,x)∈pl:=fun x hx=>by
    obtain ⟨r,hr,rfl⟩:=Qj.mp hx
    have get:∀{bs:List Rw},btn pl bs r=true→∃b∈bs,(b.2.1,r.2.1)∈pl:=fun {bs} hb=>by
     unfold btn at hb
     obtain ⟨b,hb1,hb2⟩:=Yl.mp hb
     exact ⟨b,hb1,of_decide_eq_true hb2⟩
    rcases Xa.mp hr with z | z
    ·rcases c2 r (a2p.mp z).1.1 with w | w
     ·exact (nod z w).elim
     ·obtain ⟨b,hb,e⟩:=get w
      exact ⟨_,Qj.mpr ⟨b,Qx _ hb,rfl⟩,e⟩
    ·rcases c1 r (a2p.mp z).1.1 with w | w
     ·exact (nod z w).elim
     ·obtain ⟨b,hb,e⟩:=get w
      exact ⟨_,Qj.mpr ⟨b,Xx _ hb,rfl⟩,e⟩
   obtain ⟨x,hx,hn⟩:=hac _ (show (a0X rs U q++a0X rs U (a0A q)).map (·.2.1)≠[] by
    intro z
    rw [Ur,List.append_eq_nil_iff] at z
    exact a1 z.1)
   obtain ⟨y,hy,e⟩:=pred x hx
   exact hn y hy e
section
variable {rs:List Rw} {pl:List (Str×Str)} {S W U D:List Str}
theorem a2K:∀(n:Nat) {q:Str} {b:Bool} {k:Nat},(q,b,k)∈(rds rs pl S W U D n).T→1≤k∧k≤n
 | 0,_,_,_,h=>by cases h
 | n+1,q,b,k,h=>by
  rw [a3j] at h
  rcases h with h | ⟨_,h⟩
  ·have:=a2K n h;omega
  ·have h':k=n+1:=h;omega
theorem a3E:∀(d m:Nat) (q:Str) (b:Bool) (k:Nat),((q,b,k)∈(rds rs pl S W U D (m+d)).T∧k≤m)↔(q,b,k)∈(rds rs pl S W U D m).T
 | 0,m,q,b,k=>⟨(·.1),fun h=>⟨h,(a2K m h).2⟩⟩
 | d+1,m,q,b,k=>by
  rw [←a3E d m,show m+(d+1)=(m+d)+1 from rfl,a3j]
  constructor
  ·rintro ⟨h | ⟨_,h⟩,hk⟩
   ·exact ⟨h,hk⟩
   ·have h':k=m+d+1:=h;omega
  ·rintro ⟨h,hk⟩;exact ⟨.inl h,hk⟩
theorem b1X {n:Nat} {q:Str} {b:Bool} {k:Nat} (h:(q,b,k)∈(rds rs pl S W U D n).T):∃m,k=m+1∧m+1≤n∧stt rs pl S (rds rs pl S W U D m).U (rds rs pl S W U D m).D q=some b∧∀l,m=l+1→stt rs pl S (rds rs pl S W U D l).U (rds rs pl S W U D l).D q=none:=by
 obtain ⟨h1,h2⟩:=a2K n h
 obtain ⟨m,rfl⟩:∃m,k=m+1:=⟨k - 1,by omega⟩
 have h3:(q,b,m+1)∈(rds rs pl S W U D (m+1)).T:=by
  rw [←a3E (n - (m+1)) (m+1),show m+1+(n - (m+1))=n by omega];exact ⟨h,Qk _⟩
 rw [a3j] at h3
 have h4:(q,b)∈fresh rs pl S W (rds rs pl S W U D m):=h3.elim (fun z=>by have:=(a2K m z).2;omega) (·.1)
 obtain ⟨hw,hn,hs⟩:=a0p.mp h4
 refine ⟨m,rfl,h2,hs,fun l hl=>?_⟩
 subst hl
 cases e:stt rs pl S (rds rs pl S W U D l).U (rds rs pl S W U D l).D q with
 | none=>rfl
 | some c=>
  exfalso
  refine hn ?_
  by_cases z:q∈(rds rs pl S W U D l).T.map (·.1)
  ·obtain ⟨x,hx,rfl⟩:=Qj.mp z
   exact Qj.mpr ⟨x,by rw [a3j];exact .inl hx,rfl⟩
  ·exact Qj.mpr ⟨(q,c,l+1),by rw [a3j];exact .inr ⟨a0p.mpr ⟨hw,z,e⟩,rfl⟩,rfl⟩
theorem a3A {q:Str} (hc:∀x∈U,x∉D):(∀b,stt rs pl S U D q=some b→a0q rs pl S U D q=b∧a2k rs pl S U D q=!b)∧(stt rs pl S U D q=none→a0q rs pl S U D q=false∧a2k rs pl S U D q=false):=by
 unfold stt
 cases h1:a0q rs pl S U D q with
 | true=>
  rw [if_pos rfl,a4F hc h1]
  exact ⟨fun b e=>(by cases e;exact ⟨rfl,rfl⟩),fun e=>by cases e⟩
 | false=>
  rw [if_neg Qn]
  cases h2:a2k rs pl S U D q with
  | true=>rw [if_pos rfl];exact ⟨fun b e=>(by cases e;exact ⟨rfl,rfl⟩),fun e=>by cases e⟩
  | false=>rw [if_neg Qn];exact ⟨fun b e=>(by cases e),fun _=>⟨rfl,rfl⟩⟩
theorem a5a (hn:W.Nodup):∀(n:Nat) {q:Str} {b:Bool} {k:Nat},(q,b,k)∈(rds rs pl S W U D n).T→k≤(rds rs pl S W U D n).T.length
 | 0,_,_,_,h=>by cases h
 | n+1,q,b,k,h=>by
  have hl:(rds rs pl S W U D (n+1)).T.length=(rds rs pl S W U D n).T.length+(fresh rs pl S W (rds rs pl S W U D n)).length:=by
   show ((rds rs pl S W U D n).T++(fresh rs pl S W (rds rs pl S W U D n)).map fun p=>(p.1,p.2,n+1)).length=_
   rw [Xr,Qe]
  rw [a3j] at h
  rcases h with h | ⟨h,hk⟩
  ·have:=a5a hn n h;omega
  ·have hk':k=n+1:=hk
   have hf:0 < (fresh rs pl S W (rds rs pl S W U D n)).length:=Ua h
   cases n with
   | zero=>omega
   | succ m=>
    -- round m+1 had something new,else nothing comes any more
    cases hfm:fresh rs pl S W (rds rs pl S W U D m) with
    | nil=>
     have:=a2s hfm 1
     rw [this,hfm] at hf
     simp at hf
    | cons e l=>
     have he:(e.1,e.2,m+1)∈(rds rs pl S W U D (m+1)).T:=by
      rw [a3j];exact .inr ⟨by rw [hfm];exact Qs,rfl⟩
     have:=a5a hn (m+1) he
     omega
end
def b4C:Sp:=fun vs H Q _=>∃(P0:Addr) (o q:Str) (ps:List V) (pl:List (Str×Str)),vs=[.ref P0,.str o,.str q]∧H P0=some (.lst ps)∧a0U H ps pl∧pl.length≤60∧∀(b:Bool) H',a0i H H'→(b=false→∃R:List Str,o∈R∧q∉R∧∀p∈pl,p.1∈R→p.2∈R)→Q (.bl b) H'
def b8r:Sp:=fun vs H Q _=>∃(c m:Int),vs=[.int c,.int m]∧(0≤m∧m≤40)∧∀(D:Addr) (ps:List V) (pl:List (Str×Str)) H',a0i H H'→H D=none→H' D=some (.lst ps)→a0U H' ps pl→pl.length≤41→b6Y pl→Acy pl→Q (.ref D) H'
def ahd (rs:List Rw) (T:List Tr) (po:List Str) (lim:Int) (b:Bool):List Str:=po.filter fun q=>decide (0 < (wr rs T q).2) && decide (((wr rs T q).2:Int) < lim) && (decide ((wr rs T q).1="held") == b)
def b4z (t:Adr):Sp:=fun vs H Q _=>∃(x Pa:Addr) (lim:Int) (rs:List Rw) (ss:List Str) (T:List Tr) (po:List Str),vs=[.ref x,.ref Pa,.int lim]∧a4S t H x rs ss T∧(T.map (·.1)).Nodup∧H Pa=some (.lst (po.map V.str))∧po.length≤18∧
 ∀p Up Dn H',a0i H H'→H' p=some (.tup [.ref Up,.ref Dn])→DAt H' Up (ahd rs T po lim true)→DAt H' Dn (ahd rs T po lim false)→Q (.ref p) H'
structure c0w (rs:List Rw) (pl:List (Str×Str)) (ss:List Str) (T:List Tr) (po:List Str):Prop where
 ans:c0Y rs pl ss T
 nd:po.Nodup
 len:po.length≤18
 sts:∀x∈sts rs,x∈po
 opp:∀q∈po,a0A (a0A q)=q
 qlen:∀q∈po,q.length≤100
 ss:∀z∈ss,z∈_root_.K45.sts rs
def b9i (t:Adr):Sp:=fun vs H Q _=>∃(B P0 x Pa:Addr) (q:Str) (rs:List Rw) (ps:List V) (pl:List (Str×Str)) (ss:List Str) (T:List Tr) (po:List Str),vs=[.ref B,.ref P0,.ref x,.ref Pa,.str q]∧b5x H B rs∧(∀r∈rs,a1B r)∧rs.length≤63∧H P0=some (.lst ps)∧a0U H ps pl∧b6Y pl∧a4S t H x rs ss T∧H Pa=some (.lst (po.map V.str))∧c0w rs pl ss T po∧q∈po∧∀H',a0i H H'→Q (.bl true) H'
theorem b5m {rs:List Rw} {pl:List (Str×Str)} {S S' U D:List Str} {q:Str} (h:∀x,x∈S↔x∈S'):a0q rs pl S U D q=a0q rs pl S' U D q∧a2k rs pl S U D q=a2k rs pl S' U D q:=by
 constructor
 ·rw [Xl,a1Y,a1Y,h,h]
 ·rw [Xl,a4R,a4R,h,h]
theorem a7U {rs:List Rw} {pl:List (Str×Str)} {S U U' D D':List Str} {q:Str} (hU:∀x,x∈U↔x∈U') (hD:∀x,x∈D↔x∈D'):a0q rs pl S U D q=a0q rs pl S U' D' q∧a2k rs pl S U D q=a2k rs pl S U' D' q:=by
 constructor
 ·rw [Xl]
  exact ⟨a3n (fun x=>(hU x).mp) fun x=>(hD x).mp,a3n (fun x=>(hU x).mpr) fun x=>(hD x).mpr⟩
 ·rw [Xl]
  exact ⟨a4V (fun x=>(hU x).mp) fun x=>(hD x).mp,a4V (fun x=>(hU x).mpr) fun x=>(hD x).mpr⟩
theorem b0R {rs:List Rw} {pl:List (Str×Str)} {ss:List Str} {T:List Tr} {po F:List Str} {z:Str} (hk:c0w rs pl ss T po) (hF:∀x,x∈F↔x∈ss) (hz:z∈po):
  let f:=fun (g:List Rw→List (Str×Str)→List Str→List Str→List Str→Str→Bool) (l:Int)=>g rs pl F (ahd rs T po l true) (ahd rs T po l false) z
  ((wr rs T z).2=0∧f a0q (po.length+2)=false∧f a2k (po.length+2)=false∧(wr rs T z).1="")∨(0 < (wr rs T z).2∧∃b,(wr rs T z).1=wd b∧f a0q (wr rs T z).2=b∧f a2k (wr rs T z).2=!b∧((wr rs T z).2=1∨f a0q ((wr rs T z).2 - 1)=false∧f a2k ((wr rs T z).2 - 1)=false)):=by
 intro f
 obtain ⟨hTn,n0,W,hW,hf0,hIT0⟩:=hk.ans
 have hRm:=b3Q hTn hW hf0 hIT0 hk.sts hk.opp hk.ss
 have hfF:=b1Q hW hk.sts hk.opp hk.ss hf0
 have hkeys:=a5m hW hIT0
 have e0:∀x∈([]:List Str),x∉([]:List Str):=fun x h=>by cases h
 have eW:∀x∈po,x∉([]:List Str)∧x∉([]:List Str):=fun x _=>⟨(fun h=>by cases h),fun h=>by cases h⟩
 have cF:∀n,∀x∈(rds rs pl ss po [] [] n).U,x∉(rds rs pl ss po [] [] n).D:=fun n=>a3K e0 eW n
 have hlen:(rds rs pl ss po [] [] (n0+1)).T.length≤po.length:=b5N hk.nd (n0+1)
 have pos:∀{q b k},(q,b,k)∈po.filterMap (rk rs T)→0 < k:=fun h=>by have:=(a2K (n0+1) ((hRm _).mp h)).1;omega
 have ahi:∀(l:Int) (x:Str) (b:Bool),x∈ahd rs T po l b↔∃k,(x,b,k)∈(rds rs pl ss po [] [] (n0+1)).T∧(k:Int) < l:=fun l x b=>by
  unfold ahd
  rw [Qq]
  constructor
  ·rintro ⟨hx,h⟩
   simp only [Xc,decide_eq_true_eq,beq_iff_eq] at h
   obtain ⟨⟨h1,h2⟩,h3⟩:=h
   refine ⟨(wr rs T x).2,(hRm _).mp (Yj.mpr ⟨x,hx,?_⟩),h2⟩
   unfold rk
   rw [if_neg,h3]
   intro w
   rcases a2S hTn hkeys x with ⟨b',n',ew,_⟩ | ⟨ew,_⟩
   ·rw [ew] at w;exact a9M b' w
   ·rw [ew] at h1;exact absurd h1 (by decide)
  ·rintro ⟨k,h,hl⟩
   have h':=(hRm _).mpr h
   obtain ⟨x',hx',e⟩:=Yj.mp h'
   have ex:x=x':=a7H e
   subst ex
   refine ⟨hx',?_⟩
   unfold rk at e
   split at e
   ·cases e
   ·have e':=Option.some.inj e
    have e1:decide ((wr rs T x).1="held")=b:=congrArg (fun t:Tr=>t.2.1) e'
    have e2:(wr rs T x).2=k:=congrArg (fun t:Tr=>t.2.2) e'
    have:=pos h'
    simp only [Xc,decide_eq_true_eq,beq_iff_eq]
    rw [e2]
    exact ⟨⟨this,hl⟩,e1⟩
 have sets:∀(m:Nat),m≤n0+1→(∀x,x∈ahd rs T po ((m:Int)+1) true↔x∈(rds rs pl ss po [] [] m).U)∧(∀x,x∈ahd rs T po ((m:Int)+1) false↔x∈(rds rs pl ss po [] [] m).D):=fun m hm=>by
  have key:∀x b,(∃k,(x,b,k)∈(rds rs pl ss po [] [] (n0+1)).T∧(k:Int) < (m:Int)+1)↔∃k,(x,b,k)∈(rds rs pl ss po [] [] m).T:=fun x b=>exists_congr fun k=>by
   rw [←a3E (n0+1 - m) m,show m+(n0+1 - m)=n0+1 by omega]
   exact and_congr Iff.rfl (by omega)
  constructor
  ·intro x;rw [ahi,key,(a1D m).1];exact ⟨.inr,fun h=>h.resolve_left fun w=>by cases w⟩
  ·intro x;rw [ahi,key,(a1D m).2];exact ⟨.inr,fun h=>h.resolve_left fun w=>by cases w⟩
 have asked:∀(m:Nat),m≤n0+1→f a0q ((m:Int)+1)=a0q rs pl ss (rds rs pl ss po [] [] m).U (rds rs pl ss po [] [] m).D z∧f a2k ((m:Int)+1)=a2k rs pl ss (rds rs pl ss po [] [] m).U (rds rs pl ss po [] [] m).D z:=fun m hm=>by
  obtain ⟨a,b⟩:=sets m hm
  obtain ⟨c,d⟩:=a7U (rs:=rs) (pl:=pl) (S:=F) (q:=z) a b
  obtain ⟨c',d'⟩:=b5m (rs:=rs) (pl:=pl) (U:=(rds rs pl ss po [] [] m).U) (D:=(rds rs pl ss po [] [] m).D) (q:=z) hF
  exact ⟨c.trans c',d.trans d'⟩
 rcases a2S hTn hkeys z with ⟨b,k,ew,h⟩ | ⟨ew,hs,hno⟩
 ·have hzF:(z,b,k)∈(rds rs pl ss po [] [] (n0+1)).T:=by
   rw [←hRm]
   refine Yj.mpr ⟨z,hz,?_⟩
   unfold rk
   rw [ew,if_neg (a9M b),a6s]
  obtain ⟨m,rfl,hm,h1,h2⟩:=b1X hzF
  refine .inr ⟨by rw [ew];exact Nat.succ_pos m,b,by rw [ew],?_⟩
  rw [ew]
  obtain ⟨a1,a2⟩:=asked m (by omega)
  obtain ⟨w1,w2⟩:=(a3A (rs:=rs) (pl:=pl) (S:=ss) (q:=z) (cF m)).1 b h1
  refine ⟨a1.trans w1,a2.trans w2,?_⟩
  cases m with
  | zero=>exact .inl rfl
  | succ l=>
   obtain ⟨b1,b2⟩:=asked l (by omega)
   obtain ⟨v1,v2⟩:=(a3A (rs:=rs) (pl:=pl) (S:=ss) (q:=z) (cF l)).2 (h2 l rfl)
   have e:(((l+1+1:Nat):Int) - 1)=(l:Int)+1:=by omega
   exact .inr ⟨by rw [e];exact b1.trans v1,by rw [e];exact b2.trans v2⟩
 ·have big:∀x b,x∈ahd rs T po ((po.length:Int)+2) b↔x∈ahd rs T po (((n0+1:Nat):Int)+1) b:=fun x b=>by
   rw [ahi,ahi]
   refine exists_congr fun k=>and_congr_right fun h=>?_
   have h1:=(a2K (n0+1) h).2
   have h2:=a5a hk.nd (n0+1) h
   omega
  obtain ⟨c,d⟩:=a7U (rs:=rs) (pl:=pl) (S:=F) (q:=z) (fun x=>big x true) (fun x=>big x false)
  obtain ⟨a1,a2⟩:=asked (n0+1) (Qk _)
  have hnone:stt rs pl ss (rds rs pl ss po [] [] (n0+1)).U (rds rs pl ss po [] [] (n0+1)).D z=none:=by
   cases e:stt rs pl ss (rds rs pl ss po [] [] (n0+1)).U (rds rs pl ss po [] [] (n0+1)).D z with
   | none=>rfl
   | some b=>
    obtain ⟨k,h⟩:=a8t e0 eW hfF hz e
    rw [←hRm] at h
    obtain ⟨x',hx',e⟩:=Yj.mp h
    have ex:z=x':=a7H e
    subst ex
    unfold rk at e
    rw [ew,if_pos rfl] at e;cases e
  obtain ⟨v1,v2⟩:=(a3A (rs:=rs) (pl:=pl) (S:=ss) (q:=z) (cF (n0+1))).2 hnone
  exact .inl ⟨by rw [ew],(c.trans a1).trans v1,(d.trans a2).trans v2,by rw [ew]⟩
theorem b4T (b:Bool):decide (wd b=("refused":Str))=!b:=by cases b<;>decide+kernel
theorem b2x {w:Str}:¬(w="held"∧w="refused"):=fun ⟨a,b⟩=>absurd (a.symm.trans b) (by decide+kernel)
theorem b3g {rs:List Rw} {pl:List (Str×Str)} {ss:List Str} {T:List Tr} {po:List Str} (hk:c0w rs pl ss T po) (hac:Acy pl) {q:Str} (hq:q∈po) (hqo:a0A q∈po):
  (q∈ss→(wr rs T q).1="held"∧(wr rs T q).2=1)∧(0 < (wr rs T q).2↔(wr rs T q).1="held"∨(wr rs T q).1="refused")∧((wr rs T q).1="held"→(wr rs T (a0A q)).1="held"→q∈ss∧a0A q∈ss):=by
 obtain ⟨hTn,n0,W,hW,hf0,hIT0⟩:=hk.ans
 have hRm:=b3Q hTn hW hf0 hIT0 hk.sts hk.opp hk.ss
 have hkeys:=a5m hW hIT0
 have e0:∀x∈([]:List Str),x∉([]:List Str):=fun x h=>by cases h
 have eW:∀x∈po,x∉([]:List Str)∧x∉([]:List Str):=fun x _=>⟨(fun h=>by cases h),fun h=>by cases h⟩
 have toWr:∀{x b k},(x,b,k)∈(rds rs pl ss po [] [] (n0+1)).T→wr rs T x=(wd b,k):=fun {x b k} h=>by
  rw [←hRm] at h
  obtain ⟨x',hx',e⟩:=Yj.mp h
  have ex:x=x':=a7H e
  subst ex
  unfold rk at e
  rcases a2S hTn hkeys x with ⟨b',n',ew,_⟩ | ⟨ew,_⟩
  ·rw [ew,if_neg (a9M b'),a6s] at e
   cases e;exact ew
  ·rw [ew,if_pos rfl] at e;cases e
 have ofHeld:∀{x},x∈po→(wr rs T x).1="held"→∃k,(x,true,k)∈(rds rs pl ss po [] [] (n0+1)).T:=fun {x} hx h=>by
  refine ⟨(wr rs T x).2,(hRm _).mp (Yj.mpr ⟨x,hx,?_⟩)⟩
  unfold rk
  rw [if_neg (by rw [h];decide+kernel),decide_eq_true h]
 refine ⟨fun h=>?_,?_,fun h1 h2=>?_⟩
 ·have hst:stt rs pl ss [] [] q=some true:=by
   unfold stt
   rw [if_pos (a1Y.mpr (.inl h))]
  have h1:(q,true,1)∈(rds rs pl ss po [] [] 1).T:=by
   rw [a3j];exact .inr ⟨a0p.mpr ⟨hq,(fun z=>by cases z),hst⟩,rfl⟩
  rw [←a3E n0 1,Wz] at h1
  have:=toWr h1.1
  rw [this];exact ⟨rfl,rfl⟩
 ·rcases a2S hTn hkeys q with ⟨b,k,ew,h⟩ | ⟨ew,_⟩
  ·rw [ew]
   have hpos:0 < k:=by
    rcases h with h | ⟨_,_,h⟩
    ·have:=(a2K n0 ((hIT0 _).mp h)).1;omega
    ·omega
   refine ⟨fun _=>?_,fun _=>hpos⟩
   cases b
   ·exact .inr rfl
   ·exact .inl rfl
  ·rw [ew]
   exact ⟨fun h=>absurd h (by decide),fun h=>h.elim (fun z=>absurd z (by decide+kernel)) fun z=>absurd z (by decide+kernel)⟩
 ·obtain ⟨k,a⟩:=ofHeld hq h1
  obtain ⟨k',a'⟩:=ofHeld hqo h2
  have hh:∀{x k},(x,true,k)∈(rds rs pl ss po [] [] (n0+1)).T→a0q rs pl ss (rds rs pl ss po [] [] (n0+1)).U (rds rs pl ss po [] [] (n0+1)).D x=true:=fun {x k} h=>
   ((a3A (a3K e0 eW (n0+1))).1 true (a6w e0 eW (n0+1) h)).1
  exact b4v hac (a3K e0 eW (n0+1)) (hk.opp q hq) (hh a) (hh a')
end K45
namespace K45
open PySem L2 Tx
local macro_rules | `(‹$n:num›)=>`(@pv _ $n _ _ (by rfl) (by first | exact c5A rfl | exact c6C rfl | exact c5h rfl) (by decide) (by decide))
local macro_rules | `(tactic| trivial)=>`(tactic| first | exact Or.inl rfl | exact Or.inr rfl | assumption)
set_option hygiene false
local macro_rules | `(‹($x)›)=>`(‹$x›)
local macro_rules | `(‹A0 $a $b›)=>`(@b0k _ _ _ _ _ ‹$a› ‹$b› (by rfl))
local macro_rules | `(‹A1›)=>`(@b4i _)
local macro_rules | `(‹A2 $a $b›)=>`(@b2z _ _ _ _ _ ‹$a› ‹$b›)
local macro_rules | `(‹A3›)=>`(@b9V _ _ _ _)
local macro_rules | `(‹A4 $a›)=>`(@b6w _ _ _ ‹$a›)
local macro_rules | `(‹A5 $a $b $c›)=>`(@c0P _ _ _ _ _ _ _ _ $a ‹$b› ‹$c›)
local macro_rules | `(‹A6 $a $b $c $d $e $f›)=>`(@b4N _ _ _ _ _ _ _ _ _ _ _ _ _ _ _ _ $a (hr.mono (by decide)) rfl $b $c $d $e b1p ‹$f› (by decide) (by rfl) (by rfl))
local macro_rules | `(‹A7 $a›)=>`(@c0f _ _ _ _ ‹$a›)
local macro_rules | `(‹A8 $a $b $c›)=>`(@b8P _ _ $a _ _ _ _ $b rfl (by trivial) ‹$c› (by rfl) (by trivial))
local macro_rules | `(‹A9 $a $b›)=>`(@b4X _ _ $a _ $b rfl (by trivial) (by trivial))
local macro_rules | `(‹B0 $a $b $c›)=>`(@c1f _ _ _ _ _ _ _ $a ‹$b› ‹$c› (fun _ _=>rfl))
local macro_rules | `(‹B1›)=>`(@b9b _ _ _ _)
local macro_rules | `(‹B2›)=>`(@c0z _ _ _ _)
local macro_rules | `(‹B3 $a $b $c $d›)=>`(@b6m _ _ _ _ _ _ _ _ $a ‹$b› ‹$c› $d)
local macro_rules | `(‹B4 $a $b $c $d›)=>`(@b0x _ $a $b $c $d _ rfl rfl (by decide+kernel))
local macro_rules | `(‹B5 $a $b $c›)=>`(@c0B _ _ _ _ _ _ _ _ ‹$a› ‹$b› ‹$c›)
local macro_rules | `(‹B6›)=>`(@b5i _)
local macro_rules | `(‹B7 $a›)=>`(@b5B _ _ _ _ ‹$a›)
local macro_rules | `(‹B8 $a›)=>`(@b9N _ _ _ ‹$a› (by intro _;rfl))
local macro_rules | `(‹B9 $a›)=>`(@b7h _ _ _ _ ‹$a›)
local macro_rules | `(‹C0 $a $b $c $d $e $f›)=>`(@b5n _ _ _ _ _ _ _ _ _ _ _ _ _ _ _ _ _ _ _ _ ‹$a› $b $c $d (hr.mono (by decide)) $e .nil b1p ‹$f› (by rfl) (by rfl) (by rfl))
local macro_rules | `(‹C1 $a $b $c›)=>`(@b8S _ _ _ _ _ _ _ _ PassesOwn.never rfl ‹$a› ‹$b› ‹$c› (by intro _;rfl))
local macro_rules | `(‹C2 $a $b $c $d $e›)=>`(@b6s _ _ _ _ _ _ _ _ _ _ _ _ _ ‹$a› rfl ‹$b› (fun _ _ _ _ _=>‹$c›) (fun _ _ _ _ _=>‹$d›) (fun _ _ _ _ _=>‹$e›) (by intro _;rfl))
local macro_rules | `(‹C3 $a›)=>`(@b5w _ _ _ ‹$a›)
local macro_rules | `(‹C4 $a›)=>`(@b7S _ _ _ _ _ ‹$a›)
local macro_rules | `(‹C5 $a›)=>`(@b4b _ _ _ _ _ ‹$a› rfl)
local macro_rules | `(‹C6 $a $b $c›)=>`(@b6q _ _ _ _ _ _ _ _ _ (a2C hr) ‹$a› ‹$b› ‹$c› rfl)
local macro_rules | `(‹C7 $a›)=>`(@PW.pt _ _ _ ‹$a›)
local macro_rules | `(‹C8 $a $b $c $d›)=>`(@b2F _ _ _ _ _ _ _ _ _ $a rfl $b $c ‹$d› (by decide) (by decide) (by rfl) (by rfl))
local macro_rules | `(‹C9 $a›)=>`(@b6C _ _ _ _ _ _ $a (by with_unfolding_all rfl))
local macro_rules | `(‹D0 $a $b $c $d›)=>`(@b5X _ _ _ _ _ _ _ _ $a ‹$b› ‹$c› $d)
local macro_rules | `(‹D1 $a $b $c $d $e $f›)=>`(@c0R _ _ _ _ _ _ _ _ _ _ _ _ $a $b $c $d ‹$e› ‹$f› (by rfl) (by rfl) (by rfl) (by rfl) (by rfl))
local macro_rules | `(‹D2 $a $b $c›)=>`(@b5G _ _ $a _ _ rfl $b $c (by decide))
local macro_rules | `(‹D3›)=>`(@b3l _ _)
local macro_rules | `(‹D4 $a $b $c $d $e›)=>`(@b2s _ _ _ _ _ _ _ _ _ _ _ _ _ _ _ _ _ ‹$a› $b $c $d (hr.mono (by decide)) $e .nil b1p (by rfl))
local macro_rules | `(‹D5 $a›)=>`(@b6i _ _ _ _ ‹$a› (by rfl))
local macro_rules | `(‹D6›)=>`(@b5d _)
local macro_rules | `(‹D7 $a $b›)=>`(@b5F _ _ _ _ _ ‹$a› ‹$b›)
local macro_rules | `(‹D8 $a $b $c $d $e $f $g›)=>`(@a8v _ _ _ _ _ _ _ _ _ _ _ _ _ $a _ _ _ ‹$b› rfl ‹$c› (fun _ _ _ _ _=>‹$d›) (fun _ _ _ _ _=>‹$e›) (fun _ _ _ _ _=>‹$f›) $g rfl (by trivial) rfl (by intro _;rfl) (by trivial))
local macro_rules | `(‹D9 $a $b›)=>`(@b7M _ _ _ _ _ _ _ ‹$a› ‹$b›)
local macro_rules | `(‹E0 $a›)=>`(@b5T _ _ _ _ ‹$a›)
local macro_rules | `(‹E1 $a›)=>`(@b5e _ (K) _ _ _ _ rfl ‹$a› rfl)
local macro_rules | `(‹E2 $a›)=>`(@b5M _ _ _ _ ‹$a›)
local macro_rules | `(‹E3 $a $b›)=>`(@b9p _ _ _ _ _ _ _ _ ‹$a› ‹$b› rfl)
local macro_rules | `(‹E4 $a›)=>`(@b8M _ _ _ _ ‹$a›)
local macro_rules | `(‹E5 $a $b›)=>`(@b7d _ _ _ _ ‹$a› ‹$b›)
local macro_rules | `(‹E6 $a›)=>`(@b8q _ _ _ _ ‹$a›)
local macro_rules | `(‹E7 $a $b›)=>`(@b1Y _ _ _ _ _ ‹$a› ‹$b› (by rfl))
local macro_rules | `(‹E8 $a›)=>`(@b0d _ _ _ _ _ _ rfl T.z_range ‹$a› (by rfl))
local macro_rules | `(‹E9 $a $b›)=>`(@b1o _ _ _ _ _ (a2C hr) ‹$a› ‹$b›)
local macro_rules | `(‹F0 $a $b $c›)=>`(@b2P _ _ _ _ _ _ _ _ _ (a2C hr) ‹$a› ‹$b› ‹$c› ⟨rfl,rfl,rfl,rfl⟩)
local macro_rules | `(‹F1 $a $b $c $d›)=>`(@b1E _ _ _ _ _ _ _ _ _ $a rfl $b $c ‹$d› (by decide) (by decide) (by rfl) (by rfl))
local macro_rules | `(‹F2 $a›)=>`(@b4J _ _ _ ‹$a›)
local macro_rules | `(‹F3 $a $b›)=>`(@c1b _ _ _ _ _ _ _ ‹$a› ‹$b›)
local macro_rules | `(‹F4 $a›)=>`(@b9E _ _ _ _ ‹$a›)
local macro_rules | `(‹F5 $a $b›)=>`(@b4Z _ _ _ _ _ _ (a2C hr) ‹$a› ‹$b› (fun _ _=>rfl))
local macro_rules | `(‹F6 $a $b $c $d $e›)=>`(@b4E _ _ _ _ _ _ _ _ _ _ _ _ _ _ _ _ _ $a $b (hr.mono (by decide)) rfl $c $d .nil b1p ‹$e› (by decide) (by rfl) (by rfl))
local macro_rules | `(‹F7 $a $b $c›)=>`(@b2r _ _ _ _ _ _ _ _ _ _ b8G ‹$a› ‹$b› ‹$c›)
local macro_rules | `(‹F8 $a›)=>`(@b7q _ _ _ _ _ _ $a (by with_unfolding_all rfl))
local macro_rules | `(‹F9 $a›)=>`(@b8d _ _ _ _ _ ‹$a›)
local macro_rules | `(‹G0›)=>`(@b6v _)
local macro_rules | `(‹G1 $a›)=>`(@b5J _ _ _ ‹$a›)
local macro_rules | `(‹G2 $a $b›)=>`(@b7c _ _ _ _ ‹$a› ‹$b›)
local macro_rules | `(‹G3 $a›)=>`(@b5l _ _ _ ‹$a›)
local macro_rules | `(‹G4 $a $b $c›)=>`(@b1R _ _ _ _ _ _ _ _ _ ‹$a› ‹$b› ‹$c› ⟨rfl,rfl,rfl,rfl⟩)
local macro_rules | `(‹G5 $a $b›)=>`(@c1h _ _ _ _ _ _ _ ‹$a› ‹$b›)
local macro_rules | `(‹G6 $a $b›)=>`(@b2M _ _ _ _ _ _ PassesOwn.never ‹$a› ‹$b›)
local macro_rules | `(‹G7›)=>`(@b5a _)
local macro_rules | `(‹G8 $a $b $c›)=>`(@b2q _ _ _ _ _ _ _ _ ‹$a› ‹$b› ‹$c›)
local macro_rules | `(‹G9 $a $b›)=>`(@b9W _ _ _ _ ‹$a› ‹$b›)
local macro_rules | `(‹H0 $a $b›)=>`(@b9u _ _ _ _ _ _ _ ‹$a› ‹$b›)
local macro_rules | `(‹H1 $a $b›)=>`(@c0n _ _ _ _ _ _ ‹$a› ‹$b› (by rfl) (by rfl) (by rfl))
local macro_rules | `(‹H2 $a›)=>`(@b3v _ _ _ _ _ _ rfl ‹$a› (by rfl) (by rfl))
local macro_rules | `(‹H3 $a›)=>`(@b7E _ _ _ _ ‹$a›)
local macro_rules | `(‹H4 $a›)=>`(@b2m _ _ _ ‹$a›)
local macro_rules | `(‹H5›)=>`(@b8L _ _ _)
local macro_rules | `(‹H6 $a $b $c $d $e $f $g $h $i $j $k $l $m $n $o $p $q $r $s $t $u›)=>`(@b2X _ _ _ _ _ _ _ $a _ _ _ _ _ $b $c _ $d $e $f $g $h $i $j $k $l ‹$m› ‹$n› $o $p $q $r $s $t $u (by rfl))
local macro_rules | `(‹H7›)=>`(@b1U _ _)
local macro_rules | `(‹H8 $a $b $c $d $e›)=>`(@b2g _ _ _ _ _ _ _ _ _ _ _ _ $a $b ‹$c› ‹$d› ‹$e› (by with_unfolding_all rfl))
local macro_rules | `(‹H9 $a $b $c›)=>`(@b4K _ _ _ _ _ ‹$a› $b $c (by simp) (by decide))
local macro_rules | `(‹J0 $a $b $c›)=>`(@b2a _ _ _ _ _ _ _ _ _ ‹$a› ‹$b› ‹$c›)
local macro_rules | `(‹J1›)=>`(@b5S _ _)
local macro_rules | `(‹J2 $a $b $c $d $e $f $g $h›)=>`(@b3e _ _ _ _ _ _ _ _ _ _ _ _ _ _ _ _ _ _ _ _ ‹$a› $b $c $d $e $f $g ‹$h› (by rfl) (by rfl) (by rfl))
local macro_rules | `(‹J3 $a $b $c›)=>`(@b5R _ _ _ _ _ _ _ _ $a $b ‹$c› (by rfl))
local macro_rules | `(‹J4 $a $b $c $d $e›)=>`(@b5k _ $a _ _ _ _ $b $c $d ‹$e› (by rfl) (by rfl))

section
variable {P:Program} {w:World} {K:Qd} {mg:Str→Option Value} {base:Heap} {t:Adr}
theorem a9B (T:Txt K mg t):a0S P w K mg base CX0 1 t.f_z00 t.fd_z00 ["self","q"] (c5e t):=by
 refine T.F_z00.ok b6N (fun vs H Q E h=>?_) (fun cdv A outer s H vs Q E hr h=>?_)
 ·obtain ⟨x,z,rs,ss,T0,rfl,hA,hn,q⟩:=h;rfl
 ·obtain ⟨x,z,rs,ss,T0,rfl,hA,hn,q⟩:=h
  obtain ⟨_,k_REFUSED⟩:=T.k_REFUSED
  refine ⟨_,‹A2 (B5 (C9 ‹E9 1 (C5 0)›) (A4 (A7 (C4 (A0 (D2 (.str "refused") k_REFUSED ⟨_,rfl⟩) (A0 A3 A1))))) B6) (A4 (A7 (F0 (C5 0) 1 (C4 (A0 B1 (A0 A3 A1))))))›,?_⟩
  rw [show start b9H [V.ref x,V.str z]=[some (V.ref x),some (V.str z)] from rfl]
  obtain ⟨dx,st,sk,cm,St,hx,hst,hSt,hsk,hcm⟩:=hA
  obtain ⟨A,rfl,hA,hAt⟩:=hcm
  try simp only [a1p,a3b,tB,a2r,a0k,Qb,Qa,a3w,a1a,a6S,a0j,tC,a0t,a1o,a4Q,a0e,a1x,Xy]
  refine ⟨x,_,dx,_,_,rfl,hx,T.cl_Answers,T.nf_Answers_standing,b7T _ _ _,st,_,rfl,a2n.k (k:=(Sum.inr z:Key)) hst,?_⟩
  rw [a1t]
  by_cases hz:z∈sts rs
  ·rw [if_pos ((hSt z).mpr hz)]
   try skip
   refine ⟨x,_,dx,_,_,rfl,hx,T.cl_Answers,T.nf_Answers_came,c0i _ _ _,?_⟩
   try simp only [a0z]
   refine ⟨a2o hA,by simp only [Qo,Qz];decide,fun p hp=>?_⟩
   obtain ⟨H1,e1,s1,h1⟩:=a0Y hp (.tup [V.str "",V.int 0]);rw [e1]
   refine ⟨_,a2n.k (k:=(Sum.inr z:Key)) (s1 _ _ hA),?_⟩
   by_cases hm:z∈(A.map (·.2)).map (·.1)
   ·obtain ⟨e0,he0,ez⟩:=Qj.mp hm
    obtain ⟨e,he,rfl⟩:=Qj.mp he0
    rw [←ez,b6c (by rw [Xi] at hn;exact hn) he]
    refine q e.1 H1 s1 ?_
    unfold wr
    rw [if_pos hz,←ez,b1c hn he0];exact s1 _ _ (hAt e he)
   ·rw [a9i (by rw [Xi] at hm;exact hm)]
    refine q p H1 s1 ?_
    unfold wr
    rw [if_pos hz,Ux.mpr fun x hx w=>hm (Qj.mpr ⟨x,hx,of_decide_eq_true w⟩)];exact h1
  ·rw [if_neg (fun w=>hz ((hSt z).mp w))]
   try skip
   refine ⟨by simp only [Qo,Qz];decide,fun p hp=>?_⟩
   obtain ⟨H1,e1,s1,h1⟩:=a0Y hp (.tup [V.str "refused",V.int 1]);rw [e1]
   refine q p H1 s1 ?_
   unfold wr
   rw [if_neg hz];exact h1
theorem a7M (T:Txt K mg t):a0S P w K mg base CX0 2 t.f_z0d t.fd_z0d ["self","q"] (a9c t fun rs ss T q=>.bl (decide ((wr rs T q).1="held"))):=by
 refine T.F_z0d.ok b7f (fun vs H Q E h=>?_) (fun cdv A outer s H vs Q E hr h=>?_)
 ·obtain ⟨x,z,rs,ss,T0,rfl,hA,hn,q⟩:=h;rfl
 ·obtain ⟨x,z,rs,ss,T0,rfl,hA,hn,q⟩:=h
  obtain ⟨_,k_HELD⟩:=T.k_HELD
  refine ⟨_,‹A4 (A7 (D0 (a1e hr.units) (B0 a0n (C0 0 T.cl_Answers T.me_Answers_word_and_rank (a9B T) T.b_z00 (A0 1 A1)) A3) (D2 (.str "held") k_HELD ⟨_,rfl⟩) (a0r _)))›,?_⟩
  rw [show start b8e [V.ref x,V.str z]=[some (V.ref x),some (V.str z)] from rfl]
  obtain ⟨dx,st,sk,cm,St,hx,_⟩:=id hA
  try simp only [a1a,tOp,a1u,a0k,Qa,a0j,Qb,a0t,Qf,tC,a0e]
  refine ⟨x,dx,_,rfl,hx,a1C _ _ _ (by decide+kernel) (by decide+kernel) (by decide+kernel),x,z,rs,ss,T0,rfl,hA,hn,fun p H1 s1 h1=>a0v (SqT.of h1) rfl ?_⟩
  try simp only [a2V]
  exact q H1 s1
theorem a4d (T:Txt K mg t):a0S P w K mg base CX0 1 t.f_z1d t.fd_z1d ["statement"] b4u:=by
 refine T.F_z1d.ok c0e (fun vs H Q E h=>?_) (fun cdv A outer s H vs Q E hr h=>?_)
 ·obtain ⟨z,rfl,hz,q⟩:=h;rfl
 ·obtain ⟨z,rfl,hz,q⟩:=h
  refine ⟨_,‹A4 (A7 (G8 (B8 (D1 Wj Uy Uz a5F 0 (A0 B1 A1))) (F7 0 (F2 A3) G0) (A5 a0u B1 0)))›,?_⟩
  rw [show start b9r [V.str z]=[some (V.str z)] from rfl]
  unfold a0A at q
  try simp only [a1a,tIf,tB,tBM,a0k,Qa,a0j,tC,a0t,tSl,a9m,a4Y,b2v,a0e,a7y,tOp,a1w,a4D,a1x,b0t]
  refine a2c (fun c=>?_) (fun c=>?_)
  ·rw [if_pos c] at q
   exact ⟨a3F (by omega),q⟩
  ·rw [if_neg c] at q
   exact ⟨Qi (Nat.add_le_add (show (Uj "-").length≤1 by decide+kernel) hz) (by decide),q⟩
theorem b3Z (T:Txt K mg t):a0S P w K mg base CX0 2 t.f_z01 t.fd_z01 ["self"] (c0M t):=by
 refine T.F_z01.ok a7r (fun vs H Q E h=>?_) (fun cdv A outer s H vs Q E hr h=>?_)
 ·obtain ⟨g,rs,pl,po,rfl,hG,hO,hrl,hpo,hpl,q⟩:=h;rfl
 ·obtain ⟨g,rs,pl,po,rfl,hG,hO,hrl,hpo,hpl,q⟩:=h
  refine ⟨_,‹A2 (A8 1 a7r.nd D3) (A2 (C1 (E4 (C5 0)) (A9 2 a7r.nd) (A4 (C1 (E4 (A5 a0u (C4 (A0 (C5 2) A1)) (C5 2))) (A9 3 a7r.nd) (A2 (C6 1 3 B2) (A4 (C6 1 (A6 (a4d T) T.g_z1d T.F_z1d.kp T.b_z1d .nil (A0 3 A1)) B2)))))) (A4 (A7 (C8 (a8m rfl) T.z_sorted a3p (A0 1 A1)))))›,?_⟩
  rw [show start b8x [V.ref g]=[some (V.ref g),none,none,none] from rfl]
  obtain ⟨dx,io,bh,pr,xs,_,_,h1,h2,h3,_⟩:=id hG
  try simp only [a1p,a1J,a2f,a0l,Qg,Qh,a0L,b2L,a3w,a0k,Qa,a0e]
  intro D hD
  obtain ⟨H1,e1,s1,hD1⟩:=a0Y hD (.dK []);rw [e1]
  have hioD:io≠D:=a0c h2 hD
  have hsz:∀A:List Str,(∀x∈A,x∈po)→(A.foldl a1b []).length≤18:=fun A hA=>Qi (a1A (a1H A Jb) (m:=po) fun x hx=>by
   rcases a1O.mp hx with z | z
   ·cases z
   ·exact hA x z) hpl
  refine ⟨g,_,dx,_,_,rfl,s1 _ _ h1,T.cl_Ground,T.nf_Ground_in_order,b4g _ _ _,?_⟩
  try simp only [a0z]
  refine ⟨⟨_,SqT.of (s1 _ _ h2)⟩,?_⟩
  refine a4Z (K:=K) (a:=io) (xs:=xs) (fun i σ H'=>∃(x y:Option V),σ=[some (V.ref g),some (V.ref D),x,y]∧a3H H1 D H'∧H' D=some (.dK (bv ((sts (rs.take i)).foldl a1b []))))
   ⟨_,_,rfl,a3H.refl _ _,hD1⟩ (fun i σ H' _ ⟨_,_,_,k,_⟩=>SqT.of (k _ _ (s1 _ _ h2) hioD)) ?_ ?_
  ·rintro i v σ H3 hi ⟨x,y,rfl,k3,hD3⟩
   have hil:i < rs.length:=by rw [←h3.len];exact (Qp.mp hi).1
   obtain ⟨v',ev,p,rfl,hp⟩:=h3.get i rs[i] (Qc hil)
   rw [hi] at ev;cases ev
   have hrm:=Xd hil
   have hro:=hO _ hrm
   have CF:=a8p T hro.1
   have esn:sts (rs.take (i+1))=sts (rs.take i)++(rs[i].2.2.1::rs[i].2.2.2).flatMap fun q=>[q,a0A q]:=by
    unfold sts
    rw [Qv hil,Ju];simp
   have hA0:∀x∈sts (rs.take i),x∈po:=fun x hx=>hpo x (by
    obtain ⟨r,hr,z⟩:=a2m.mp hx
    exact a2m.mpr ⟨r,Zy hr,z⟩)
   have hA1:∀q∈rs[i].2.2.1::rs[i].2.2.2,q∈po∧a0A q∈po∧q.length≤100:=fun q hq=>⟨hpo q (a2m.mpr ⟨_,hrm,q,hq,.inl rfl⟩),hpo _ (a2m.mpr ⟨_,hrm,q,hq,.inr rfl⟩),by
    rcases Qy.mp hq with z | z
    ·rw [z];have:=hro.2.2.2.1.2;omega
    ·have:=(hro.2.2.2.2.1 q z).2;omega⟩
   generalize rs[i]=r at hp hro CF esn hA1
   generalize sts (rs.take i)=A0 at hD3 esn hA0
   rw [esn]
   clear esn
   obtain ⟨dx',t0,hp1,hp2⟩:=hp
   have hp1':=s1 _ _ hp1
   have hp2':=s1 _ _ hp2
   have hpD:p≠D:=a0c hp1 hD
   have htD:t0≠D:=a0c hp2 hD
   have hbl:=hro.2.2.2.2.2
   try simp only [a0l,Qg,Qh,a0L,b2L,tOp,a6S,a0j,a3w,a0k,Qb,Qa,a0t,a0e]
   refine ⟨p,_,dx',_,_,rfl,k3 _ _ hp1' hpD,CF.cl,CF.nh,a1l _ _ _,by simp only [Qo,Qz];decide,fun c hc=>?_⟩
   obtain ⟨H4,e4,s4,h4⟩:=a0Y hc (.tup [V.str r.2.2.1]);rw [e4]
   have walk:∀(c2:Addr) (H5:Hp),a0i H3 H5→H5 c2=some (.tup ((r.2.2.1::r.2.2.2).map V.str))→c2S (Itt K c2) (a0l 3) (a1p (a3u (a0k 1) (a0k 3) (tC (V.bl true))) (a3u (a0k 1) (a0B b4u [] E0 (a0j (a0k 3) a0t)) (tC (V.bl true)))) {nx:=fun σ H'=>∃(x y:Option V),σ=[some (V.ref g),some (V.ref D),x,y]∧a3H H1 D H'∧H' D=some (.dK (bv ((A0++(r.2.2.1::r.2.2.2).flatMap fun q=>[q,a0A q]).foldl a1b []))),rt:=Q,bk:=a1a (tCB (b3J K) (a0j (a0k 1) a0t)) {nx:=fun x H'=>Q V.non H',rt:=Q},ct:=fun σ H'=>∃(x y:Option V),σ=[some (V.ref g),some (V.ref D),x,y]∧a3H H1 D H'∧H' D=some (.dK (bv ((A0++(r.2.2.1::r.2.2.2).flatMap fun q=>[q,a0A q]).foldl a1b [])))} [some (V.ref g),some (V.ref D),some (V.ref p),y] H5:=fun c2 H5 s5 h5=>by
    have hcD:c2≠D:=a0E h5 (s5 _ _ hD3) (by intro z;cases z)
    generalize r.2.2.1::r.2.2.2=qs at h5 hA1
    refine a4Z (K:=K) (a:=c2) (xs:=qs.map V.str) (fun j σ H'=>∃(y:Option V),σ=[some (V.ref g),some (V.ref D),some (V.ref p),y]∧a3H H5 D H'∧H' D=some (.dK (bv ((A0++(qs.take j).flatMap fun q=>[q,a0A q]).foldl a1b []))))
     ⟨_,rfl,a3H.refl _ _,by rw [Uv,Ue,Qf];exact s5 _ _ hD3⟩ (fun j σ H' _ ⟨_,_,k,_⟩=>SqT.of (k _ _ h5 hcD)) ?_ ?_
    ·rintro j v σ H6 hj ⟨y,rfl,k6,hD6⟩
     have hjl:j < qs.length:=by simpa using (Qp.mp hj).1
     have ex:v=V.str qs[j]:=by
      rw [Qm,Qc hjl] at hj
      exact (Option.some.inj hj).symm
     subst ex
     have hq1:=hA1 _ (Xd hjl)
     have hA2:∀x∈A0++(qs.take j).flatMap (fun q=>[q,a0A q]),x∈po:=fun x hx=>by
      rcases Xa.mp hx with z | z
      ·exact hA0 x z
      ·obtain ⟨q,hq,w⟩:=Zd.mp z
       have:=hA1 q (Zy hq)
       simp only [Qy,Zp,or_false] at w
       rcases w with w | w
       ·rw [w];exact this.1
       ·rw [w];exact this.2.1
     have ej:A0++(qs.take (j+1)).flatMap (fun q=>[q,a0A q])=(A0++(qs.take j).flatMap fun q=>[q,a0A q])++[qs[j],a0A qs[j]]:=by
      rw [Qv hjl,Ju,←Zk];simp
     rw [ej]
     generalize (A0++(qs.take j).flatMap fun q=>[q,a0A q])=A1 at hD6 hA2
     generalize qs[j]=q0 at hq1
     have l1:=hsz A1 hA2
     have l2:=hsz (A1++[q0]) fun x hx=>by
      rcases Xa.mp hx with z | z
      ·exact hA2 x z
      ·rw [Xg.mp z];exact hq1.1
     try simp only [a0l,a1p,a3u,tC,a0k,Qg,Qh,Qb,Qa,a0B,a0j,a0t,Qf,a0e]
     refine ⟨D,_,rfl,b5r hD6 (by omega) q0,q0,rfl,hq1.2.2,D,_,rfl,b5r (x:=a0A q0) (S:=(A1++[q0]).foldl a1b []) (by rw [a0d,Zx];rfl) (by omega),_,rfl,fun b o e n=>?_,?_⟩
     ·rw [a0a n,a0a n];exact k6 _ _ e n
     ·rw [a0d,Zx,Zx];rfl
    ·rintro σ H6 ⟨y,rfl,k6,hD6⟩
     rw [Qe,Xu] at hD6
     exact ⟨_,_,rfl,fun b o e n=>k6 _ _ (s5 _ _ (k3 _ _ e n)) n,hD6⟩
   refine ⟨p,_,dx',_,_,rfl,s4 _ _ (k3 _ _ hp1' hpD),CF.cl,CF.nb,a1K _ _ _,.inr (.inr (.inr ⟨c,t0,_,_,rfl,rfl,SqT.of h4,SqT.of (s4 _ _ (k3 _ _ hp2' htD)),by simp,Qi (show _≤1000 by simp;omega) (by decide),fun e=>?_,fun e c2 hc2=>?_⟩))⟩
   ·refine ⟨c,rfl,⟨_,SqT.of h4⟩,walk c H4 s4 ?_⟩
    rw [Xj,e];exact h4
   ·obtain ⟨H5,e5,s5,h5⟩:=a0Y hc2 (.tup ([V.str r.2.2.1]++r.2.2.2.map V.str));rw [e5]
    exact ⟨c2,rfl,⟨_,SqT.of h5⟩,walk c2 H5 (s4.trans s5) h5⟩
  ·rintro σ H3 ⟨x,y,rfl,k3,hD3⟩
   rw [show rs.take xs.length=rs by rw [h3.len];exact Xu] at hD3
   have hl:=hsz (sts rs) hpo
   try simp only [a1a,tCB,a0j,a0k,Qb,Qa,a0t,a0e]
   refine .inr (.inl ⟨D,_,_,rfl,.inl hD3,a5x _,by omega,fun l ss hl' hp hs=>?_⟩)
   have s3:a0i H H3:=fun b o e=>k3 _ _ (s1 _ _ e) (a0c e hD)
   obtain ⟨H4,e4,s4,h4⟩:=a0Y hl' (.lst (ss.map V.str));rw [e4]
   exact q l ss H4 (s3.trans s4) (none_of s3 hl') h4 hp hs
theorem a2Q (T:Txt K mg t):a0S P w K mg base CX0 1 t.f_z1w t.fd_z1w ["some"] (b5P K):=by
 refine T.F_z1w.ok a7Z (fun vs H Q E h=>?_) (fun cdv A outer s H vs Q E hr h=>?_)
 ·obtain ⟨v,kn,rfl,ha,hl,q⟩:=h;rfl
 ·obtain ⟨v,kn,rfl,ha,hl,q⟩:=h
  refine ⟨_,‹A2 (A8 1 a7Z.nd D3) (A2 (G9 (G1 (C1 (E2 0) (A9 2 a7Z.nd) (A4 (C6 1 2 B2)))) (C1 (B7 0) (A9 2 a7Z.nd) (A4 (C6 1 2 B2)))) (A4 (A7 1)))›,?_⟩
  rw [show start b9O [v]=[some (v),none,none] from rfl]
  try simp only [a1p,a1J,a2f,a0l,Qg,Qh]
  intro D hD
  obtain ⟨H1,e1,s1,h1⟩:=a0Y hD (.dK []);rw [e1]
  have hvD:v≠.ref D:=fun z=>by
   obtain ⟨b,o,e,hb⟩:=ha.at
   rw [z] at e;cases e;rw [hD] at hb;cases hb
  refine a4x (fun H0 i σ' H'=>∃x,σ'=[some v,some (V.ref D),x]∧a3H H0 D H'∧H' D=some (.dK (bv ((kn.take i).foldl a1b [])))) (ha.same s1) (a0I rfl) (fun H0 h0=>⟨_,rfl,a3H.refl _ _,h0.keep _ _ h1 hvD⟩) ?_ ?_ ?_
  ·rintro H0 i σ' H' b o ⟨x,rfl,k,_⟩ z e
   exact k _ _ e fun w=>hvD (by rw [z,w])
  ·rintro H0 i hi σ' H' rt bk h0 ⟨x,rfl,k,hD'⟩
   have hlen:=a1i (kn.take i) []
   try simp only [a0l,a3u,tC,a0k,Qg,Qh,Qb,Qa,a0e]
   refine ⟨D,_,rfl,b5r hD' (by simp at hlen;omega) kn[i],_,rfl,fun b o e n=>?_,?_⟩
   ·rw [a0a n];exact k _ _ e n
   ·rw [a0d,Qv hi,Zx];rfl
  ·rintro H0 σ' H' H'' h0 ⟨x,rfl,k,hD'⟩ k1 k2
   rw [Xu] at hD'
   try simp only [a1a,a0k,Qb,Qa,a0e]
   refine q D H'' (fun b o e=>?_) hD (k1 _ _ hD' hvD)
   by_cases z:v=.ref b
   ·exact k2 b o z (s1 _ _ e)
   ·exact k1 b o (k b o (h0.keep _ _ (s1 _ _ e) z) (a0c e hD)) z
theorem b3x (T:Txt K mg t):a0S P w K mg base CX0 1 t.f_z0k t.fd_z0k ["self"] (a9L t):=by
 refine T.F_z0k.ok b9y (fun vs H Q E h=>?_) (fun cdv A outer s H vs Q E hr h=>?_)
 ·obtain ⟨g,rs,pl,rfl,hG,q⟩:=h;rfl
 ·obtain ⟨g,rs,pl,rfl,hG,q⟩:=h
  refine ⟨_,‹A4 (A7 (F1 a2J T.z_list a3m (A0 (C5 0) A1)))›,?_⟩
  rw [show start c0b [V.ref g]=[some (V.ref g)] from rfl]
  obtain ⟨dx,io,bh,pr,xs,kvs,kps,h1,h2,h3,h4,h5,h6',h7'⟩:=hG
  try simp only [a1a,tCB,a0j,a3w,a0k,Qa,a0t,a0e]
  refine ⟨g,_,dx,_,_,rfl,h1,T.cl_Ground,T.nf_Ground_in_order,b4g _ _ _,io,_,rfl,.inr (SqT.of h2),fun l hl=>?_⟩
  obtain ⟨H6,e6,s6,h6⟩:=a0Y hl (.lst xs);rw [e6]
  exact q l xs _ s6 hl h6 (h3.same s6)
theorem b8K (T:Txt K mg t):a0S P w K mg base CX0 2 t.f_z02 t.fd_z02 ["ground"] (b5Q t):=by
 refine T.F_z02.ok a7T (fun vs H Q E h=>?_) (fun cdv A outer s H vs Q E hr h=>?_)
 ·obtain ⟨g,rs,pl,rfl,hG,hO,hrl,q⟩:=h;rfl
 ·obtain ⟨g,rs,pl,rfl,hG,hO,hrl,q⟩:=h
  refine ⟨_,‹A2 (A8 1 a7T.nd D3) (A2 (C1 (B7 (D4 0 T.cl_Ground T.me_Ground_rules (b3x T) T.b_z0k)) (A9 2 a7T.nd) (A4 (C1 (E4 (C5 2)) (A9 3 a7T.nd) (A4 (D5 (D1 Yh Yc Yd a0Z (G4 1 3 (B9 A1)) (A0 (C5 2) A1))))))) (A4 (A7 1)))›,?_⟩
  rw [show start b9R [V.ref g]=[some (V.ref g),none,none,none] from rfl]
  obtain ⟨dx,io,bh,pr,_,_,_,hg1,_⟩:=id hG
  try simp only [a1p,a1J,a2f,a0l,Qg,Qh,a0L,a1y,a1u,a0k,Qa,a0t,Qf,a0e]
  intro D hD
  obtain ⟨H1,e1,s1,h1⟩:=a0Y hD (.dK []);rw [e1]
  refine ⟨g,dx,_,rfl,s1 _ _ hg1,a2l _ _ _ (by decide+kernel) (by decide+kernel) (by decide+kernel),g,rs,pl,rfl,hG.same s1,fun W ys H2 s2 hWn hW2 hR2=>?_⟩
  have hWD:W≠D:=fun z=>by have e:=s2 _ _ h1;rw [←z,hW2] at e;cases e
  have s02:=s1.trans s2
  have hDn:=s2 _ _ h1
  have hyl:=hR2.len
  try simp only [a0z]
  refine ⟨⟨_,SqL.of hW2⟩,?_⟩
  refine a1v (K:=K) (a:=W) (xs:=ys) (fun i σ H'=>∃(kvs:List (Key×V)) (x y:Option V),σ=[some (V.ref g),some (V.ref D),x,y]∧a3H H2 D H'∧a8w H2 H' D kvs (phs (rs.take i)))
   ⟨[],_,_,rfl,a3H.refl _ _,⟨hDn,Qk _,fun p=>.inl ⟨rfl,rfl⟩,fun p p' N e=>by cases e⟩⟩ (fun i σ H' _ h=>by obtain ⟨_,_,_,_,k,_⟩:=h;exact SqL.of (k _ _ hW2 hWD)) ?_ ?_
  ·rintro i v σ H3 hi ⟨kvs,x,y,rfl,k3,I3⟩
   have hil:i < rs.length:=by rw [←hyl];exact (Qp.mp hi).1
   obtain ⟨v',ev,p,rfl,hp⟩:=hR2.get i rs[i] (Qc hil)
   rw [hi] at ev;cases ev
   have hro:=hO _ (Xd hil)
   have CF:=a8p T hro.1
   have esn:phs (rs.take (i+1))=phs (rs.take i)++rs[i].2.2.2.map fun p=>(p,rs[i].2.2.1):=by
    unfold phs
    rw [Qv hil,Ju];simp
   have hphl:(phs (rs.take i)).length≤252:=by
    have:=a6X (rs:=rs.take i) (fun r hr=>hO r (Zy hr))
    rw [Yp] at this;omega
   generalize rs[i]=r at hp hro CF esn
   generalize phs (rs.take i)=L0 at I3 esn hphl
   obtain ⟨dx',t0,hp1,hp2⟩:=hp
   have hpD:p≠D:=a0E hp1 hDn (by intro z;cases z)
   have htD:t0≠D:=a0E hp2 hDn (by intro z;cases z)
   have hbl:=hro.2.2.2.2.2
   try simp only [a0l,Qg,Qh,a0L,b2L,a3w,a0k,Qb,Qa,a0e]
   refine ⟨p,_,dx',_,_,rfl,k3 _ _ hp1 hpD,CF.cl,CF.nb,a1K _ _ _,?_⟩
   try simp only [a0z]
   refine ⟨⟨_,SqT.of (k3 _ _ hp2 htD)⟩,?_⟩
   refine a4Z (K:=K) (a:=t0) (xs:=r.2.2.2.map V.str) (fun j σ H'=>∃(kvs:List (Key×V)) (y:Option V),σ=[some (V.ref g),some (V.ref D),some (V.ref p),y]∧a3H H2 D H'∧a8w H2 H' D kvs (L0++(r.2.2.2.take j).map fun p=>(p,r.2.2.1)))
    ⟨kvs,_,rfl,k3,by rw [Uv,Jl,Qf];exact I3⟩ (fun i σ H' _ h=>by obtain ⟨_,_,_,k,_⟩:=h;exact SqT.of (k _ _ hp2 htD)) ?_ ?_
   ·clear I3 k3
    rintro j v σ H4 hj ⟨kvs,y,rfl,k4,I4⟩
    have hjl:j < r.2.2.2.length:=by simpa using (Qp.mp hj).1
    have ex:v=V.str r.2.2.2[j]:=by
     rw [Qm,Qc hjl] at hj
     exact (Option.some.inj hj).symm
    subst ex
    have ej:L0++(r.2.2.2.take (j+1)).map (fun p=>(p,r.2.2.1))=(L0++(r.2.2.2.take j).map fun p=>(p,r.2.2.1))++[(r.2.2.2[j],r.2.2.1)]:=by
     rw [Qv hjl,Xq,←Zk];rfl
    have hll:(L0++(r.2.2.2.take j).map fun p=>(p,r.2.2.1)).length≤256:=by
     rw [Xr,Qe,Yp];omega
    rw [ej]
    generalize (L0++(r.2.2.2.take j).map fun p=>(p,r.2.2.1))=L1 at I4 hll
    generalize r.2.2.2[j]=pq
    have hp4:=k4 _ _ hp1 hpD
    have hkl:=I4.len
    try simp only [a0l,a4m,tBM,a7x,a0k,Qg,Qh,Qb,Qa,a3c,a0t,a0j,a3w,a0e,a0z]
    refine ⟨a2o I4.d,by decide,fun N hN=>?_⟩
    obtain ⟨H6,e6,s6,h6⟩:=a0Y hN (.lst []);rw [e6]
    have hNn:H2 N=none:=by
     cases e:H2 N with
     | none=>rfl
     | some o=>
      by_cases z:N=D
      ·rw [z,I4.d] at hN;cases hN
      ·rw [k4 _ _ e z] at hN;cases hN
    have hND:N≠D:=fun z=>by rw [z,I4.d] at hN;cases hN
    have hNp:N≠p:=fun z=>by rw [z,hp4] at hN;cases hN
    refine ⟨kvs,Sum.inr pq,s6 _ _ I4.d,rfl,Xm (show kvs.length≤1000 by omega) (by decide),fun u hu=>?_,fun hu=>?_⟩
    ·rcases I4.at_ pq with ⟨e,_⟩ | ⟨M,e,_⟩
     ·rw [e] at hu;cases hu
     rw [e] at hu;cases hu
     obtain ⟨hM,hMn,I7⟩:=(I4.same s6).old (h:=r.2.2.1) e
     have hsz:=b2U L1 pq
     try skip
     refine ⟨.inl ⟨rfl,_,SqL.of hM⟩,p,_,dx',_,_,rfl,s6 _ _ hp4,CF.cl,CF.nh,a1l _ _ _,M,_,_,rfl,rfl,hM,Xm (show _≤1000 by rw [Qe];omega) (by decide),?_⟩
     exact ⟨kvs,_,rfl,fun b o e n=>by rw [a0a (a0c e hMn)];exact s6 _ _ (k4 _ _ e n),I7⟩
    ·have I7:=I4.new (h:=r.2.2.1) hu hN hNn (.lst [])
     rw [e6] at I7
     have hN7:upd H6 D (.dK (a2u kvs (Sum.inr pq) (V.ref N))) N=some (.lst []):=by rw [a0a hND];exact h6
     try skip
     refine ⟨.inl ⟨rfl,_,SqL.of hN7⟩,p,_,dx',_,_,rfl,(by rw [a0a hpD];exact s6 _ _ hp4),CF.cl,CF.nh,a1l _ _ _,N,_,_,rfl,rfl,hN7,by decide,?_⟩
     exact ⟨_,_,rfl,fun b o e n=>by rw [a0a (a0c e hNn),a0a n];exact s6 _ _ (k4 _ _ e n),I7⟩
   ·rintro σ H4 ⟨kvs,y,rfl,k4,I4⟩
    rw [Qe,Xu,←esn] at I4
    exact ⟨kvs,_,_,rfl,k4,I4⟩
  ·rintro σ H3 ⟨kvs,x,y,rfl,k3,I3⟩
   rw [show rs.take ys.length=rs by rw [hyl];exact Xu] at I3
   try simp only [a1a,a0k,Qb,Qa,a0e]
   exact q D H3 (fun c o e=>k3 _ _ (s02 _ _ e) (a0c e hD)) hD (I3.hds hO hrl)
theorem b7u (T:Txt K mg t):a0S P w K mg base CX0 2 t.f_z1k t.fd_z1k ["heads","came"] a9s:=by
 refine T.F_z1k.ok a7b (fun vs H Q E h=>?_) (fun cdv A outer s H vs Q E hr h=>?_)
 ·obtain ⟨hd,cm,rs,F,rfl,hoff,hcm,hFl,hO,hrl,q⟩:=h;rfl
 ·obtain ⟨hd,cm,rs,F,rfl,hoff,hcm,hFl,hO,hrl,q⟩:=h
  refine ⟨_,‹A2 (A8 2 a7b.nd D3) (A2 (G1 (C1 (E2 1) (A9 3 a7b.nd) (A4 (C1 (B7 (F0 0 3 (B9 A1))) (A9 4 a7b.nd) (A2 (C6 2 4 B2) (A4 (C6 2 (A6 (a4d T) T.g_z1d T.F_z1d.kp T.b_z1d .nil (A0 4 A1)) B2))))))) (A4 (A7 2)))›,?_⟩
  rw [show start b9X [V.ref hd,V.ref cm]=[some (V.ref hd),some (V.ref cm),none,none,none] from rfl]
  try simp only [a1p,a1J,a2f,a0l,Qg,Qh]
  intro D hD
  obtain ⟨H1,e1,s1,h1⟩:=a0Y hD (.dK []);rw [e1]
  have hcD:cm≠D:=fun z=>by rw [z,hD] at hcm;cases hcm
  refine b0O (kn:=F.map (·.1)) (fun H0 i σ' H'=>∃(x y:Option V) (T:List Str),σ'=[some (V.ref hd),some (V.ref cm),some (V.ref D),x,y]∧a3H H0 D H'∧H' D=some (.dK (bv T))∧T.Nodup∧T.length≤600 * i∧∀z,z∈T↔tch rs ((F.map (·.1)).take i) z) (s1 _ _ hcm) (a3e F) (a0I rfl) (fun o=>⟨_,_,[],rfl,a3H.refl _ _,by rw [a0a hcD.symm];exact h1,Jb,Xf _,fun z=>⟨fun w=>(by cases w),fun ⟨r,_,⟨p,_,w⟩,_⟩=>(by cases w)⟩⟩) ?_ ?_ ?_
  ·rintro o i σ' H' ⟨x,y,T,rfl,k,_⟩
   exact k _ _ a0d hcD
  ·rintro o i hi σ' H' rt bk ⟨x,y,T,rfl,k,hT,hnd,hTl,hTm⟩
   have hoff':∀H2,a3H H' D H2→a3Y H2 hd rs:=fun H2 k2=>hoff H2 fun b o e n=>k2 _ _ (k _ _ (by rw [a0a (fun z=>n (by rw [z]))];exact s1 _ _ e) (a0c e hD)) (a0c e hD)
   have hi100:i < 100:=by rw [Qe] at hi;omega
   have esn:∀z,tch rs ((F.map (·.1)).take (i+1)) z↔tch rs ((F.map (·.1)).take i) z∨∃r∈rs,(F.map (·.1))[i]∈r.2.2.2∧(z=r.2.2.1∨z=a0A r.2.2.1):=fun z=>by
    rw [Qv hi]
    constructor
    ·rintro ⟨r,hr,⟨p,hp,hm⟩,hz⟩
     rcases Xa.mp hm with w | w
     ·exact .inl ⟨r,hr,⟨p,hp,w⟩,hz⟩
     ·exact .inr ⟨r,hr,Xg.mp w ▸ hp,hz⟩
    ·rintro (⟨r,hr,⟨p,hp,hm⟩,hz⟩ | ⟨r,hr,hp,hz⟩)
     ·exact ⟨r,hr,⟨p,hp,Xx _ hm⟩,hz⟩
     ·exact ⟨r,hr,⟨_,hp,Qx _ (Xg.mpr rfl)⟩,hz⟩
   generalize (F.map (·.1))[i]=pq at esn
   obtain ⟨kvs,hk,hv⟩:=hoff' H' (a3H.refl _ _)
   have hdD:hd≠D:=fun z=>by
    obtain ⟨kvs2,hk2,_⟩:=hoff H (fun _ _ e _=>e)
    rw [z,hD] at hk2;cases hk2
   try simp only [a0l,Qg,Qh,a0L,a1y,a4Q,a0k,Qa,Qb,a3c,a0t,a0e,a0z]
   refine ⟨a2o hk,by decide,fun N hN=>?_⟩
   obtain ⟨H2,e2,s2,h2⟩:=a0Y hN (.lst []);rw [e2]
   refine ⟨_,a2n.k (k:=(Sum.inr pq:Key)) (s2 _ _ hk),?_⟩
   have hND:N≠D:=fun z=>by rw [z,hT] at hN;cases hN
   have hcase:∃(L:Addr) (hs:List Str),(a0P kvs (Sum.inr pq:Key)).getD (.ref N)=.ref L∧H2 L=some (.lst (hs.map V.str))∧hs.length≤300∧∀h:Str,h∈hs↔∃r∈rs,pq∈r.2.2.2∧r.2.2.1=h:=by
    rcases hv pq with ⟨e,g⟩ | ⟨L,hs,e,g1,g2,g3⟩
    ·rw [e];exact ⟨N,[],rfl,h2,Xf _,fun h=>⟨fun w=>(by cases w),fun ⟨r,hr,hp,_⟩=>absurd hp (g r hr)⟩⟩
    ·rw [e];exact ⟨L,hs,rfl,s2 _ _ g1,g2,g3⟩
   obtain ⟨L,hs,eL,hL,hsl,hsm⟩:=hcase
   have hT2:=s2 _ _ hT
   have hLD:L≠D:=a0E hL hT2 (by intro z;cases z)
   have hho:∀h∈hs,h.length≤40:=fun h hh=>by
    obtain ⟨r,hr,_,rfl⟩:=(hsm h).mp hh
    exact (hO r hr).2.2.2.1.2
   rw [eL]
   try simp only [a0z]
   refine ⟨⟨_,SqL.of hL⟩,?_⟩
   refine a1v (K:=K) (a:=L) (xs:=hs.map V.str) (fun j σ H'=>∃(y:Option V) (T':List Str),σ=[some (V.ref hd),some (V.ref cm),some (V.ref D),some (V.str pq),y]∧a3H H2 D H'∧H' D=some (.dK (bv T'))∧T'.Nodup∧T'.length≤600 * i+2 * j∧∀z,z∈T'↔z∈T∨∃h∈hs.take j,z=h∨z=a0A h)
    ⟨_,T,rfl,a3H.refl _ _,hT2,hnd,by omega,fun z=>⟨.inl,fun w=>w.elim id fun ⟨_,h,_⟩=>(by cases h)⟩⟩ (fun j σ H' _ h=>by obtain ⟨_,_,_,k,_⟩:=h;exact SqL.of (k _ _ hL hLD)) ?_ ?_
   ·rintro j v σ H3 hj ⟨y,T',rfl,k3,hT3,hnd3,hTl3,hTm3⟩
    have hjl:j < hs.length:=by simpa using (Qp.mp hj).1
    have ex:v=V.str hs[j]:=by
     rw [Qm,Qc hjl] at hj
     exact (Option.some.inj hj).symm
    subst ex
    have hho':=hho _ (Xd hjl)
    rw [Qv hjl]
    generalize hs[j]=h0 at hho'
    have l1:=a1i [h0] T'
    have l2:=a1i [a0A h0] (a1b T' h0)
    try simp only [a0l,a1p,a3u,tC,a0k,Qg,Qh,Qb,Qa,a0B,a0j,a0t,Qf,a0e]
    refine ⟨D,_,rfl,b5r hT3 (by omega) h0,h0,rfl,by omega,?_⟩
    try simp only []
    refine ⟨D,_,rfl,b5r a0d (by simp at l1;show (a1b T' h0).length≤_;omega) (a0A h0),_,a1b (a1b T' h0) (a0A h0),rfl,fun b o e n=>?_,a0d,?_,?_,fun z=>?_⟩
    ·rw [a0a n,a0a n];exact k3 _ _ e n
    ·exact a1H [h0,a0A h0] hnd3
    ·have:=a1i [h0,a0A h0] T'
     simp at this
     show (a1b (a1b T' h0) (a0A h0)).length≤_
     omega
    ·rw [a5g,a5g,hTm3]
     constructor
     ·rintro (((w | ⟨h,hh,w⟩) | w) | w)
      ·exact .inl w
      ·exact .inr ⟨h,Xx _ hh,w⟩
      ·exact .inr ⟨h0,Qx _ (Xg.mpr rfl),.inl w⟩
      ·exact .inr ⟨h0,Qx _ (Xg.mpr rfl),.inr w⟩
     ·rintro (w | ⟨h,hh,w⟩)
      ·exact .inl (.inl (.inl w))
      ·rcases Xa.mp hh with m | m
       ·exact .inl (.inl (.inr ⟨h,m,w⟩))
       ·rw [Xg.mp m] at w
        exact w.elim (fun w=>.inl (.inr w)) .inr
   ·rintro σ H3 ⟨y,T',rfl,k3,hT3,hnd3,hTl3,hTm3⟩
    rw [Qe,Xu] at hTm3
    refine ⟨_,_,T',rfl,fun b o e n=>k3 _ _ (s2 _ _ (k _ _ e n)) n,hT3,hnd3,by rw [Qe] at hTl3;omega,fun z=>?_⟩
    rw [hTm3,hTm,esn]
    refine or_congr Iff.rfl ⟨fun ⟨h,hh,w⟩=>?_,fun ⟨r,hr,hp,w⟩=>⟨r.2.2.1,(hsm _).mpr ⟨r,hr,hp,rfl⟩,w⟩⟩
    obtain ⟨r,hr,hp,rfl⟩:=(hsm h).mp hh
    exact ⟨r,hr,hp,w⟩
  ·rintro o σ' H' ⟨x,y,T,rfl,k,hT,hnd,hTl,hTm⟩
   rw [Xu] at hTm
   try simp only [a1a,a0k,Qb,Qa,a0e]
   refine q D T _ (fun b u e=>?_) hD (by rw [a0a hcD.symm];exact hT) hnd ?_ hTm
   ·by_cases z:b=cm
    ·subst z;rw [a0d,←hcm];exact e
    ·rw [a0a z];exact k _ _ (by rw [a0a z];exact s1 _ _ e) (a0c e hD)
   ·have:=a1A hnd (m:=rs.flatMap fun r=>[r.2.2.1,a0A r.2.2.1]) fun z hz=>by
     obtain ⟨r,hr,_,w⟩:=(hTm z).mp hz
     exact Zd.mpr ⟨r,hr,by simpa using w⟩
    have h2:=b0s rs
    omega
theorem b3s (T:Txt K mg t):a0S P w K mg base CX0 1 t.f_z0a t.fd_z0a ["self","statement"] (a8E t):=by
 refine T.F_z0a.ok b7H (fun vs H Q E h=>?_) (fun cdv A outer s H vs Q E hr h=>?_)
 ·obtain ⟨g,h,rs,pl,rfl,hG,q⟩:=h;rfl
 ·obtain ⟨g,h,rs,pl,rfl,hG,q⟩:=h
  refine ⟨_,‹A4 (A7 (F1 a2J T.z_list a3m (A0 (F0 (C5 0) 1 (B9 A1)) A1)))›,?_⟩
  rw [show start b6L [V.ref g,V.str h]=[some (V.ref g),some (V.str h)] from rfl]
  obtain ⟨dx,io,bh,pr,xs,kvs,kps,h1,h2,h3,h4,h5,_⟩:=hG
  try simp only [a1a,tCB,a0j,a4Q,a3w,a0k,Qa,Qb,a3c,a0t,a0e]
  refine ⟨g,_,dx,_,_,rfl,h1,T.cl_Ground,T.nf_Ground_by_head,b9x _ _ _,?_⟩
  try simp only [a0z]
  refine ⟨a2o h4,by decide,fun N hN=>?_⟩
  obtain ⟨H6,e6,s6,h6⟩:=a0Y hN (.lst []);rw [e6]
  refine ⟨_,a2n.k (k:=(Sum.inr h:Key)) (s6 _ _ h4),?_⟩
  rcases h5 h with ⟨e,g5⟩ | ⟨L,ys,e,g2,g4⟩
  ·rw [e]
   refine ⟨N,_,rfl,.inl (SqL.of h6),fun l hl=>?_⟩
   obtain ⟨H7,e7,s7,h7⟩:=a0Y hl (.lst []);rw [e7]
   refine q l [] _ (s6.trans s7) (none_of s6 hl) h7 ?_
   rw [g5];exact ⟨rfl,fun i r e=>by simp at e⟩
  ·rw [e]
   refine ⟨L,_,rfl,.inl (SqL.of (s6 _ _ g2)),fun l hl=>?_⟩
   obtain ⟨H7,e7,s7,h7⟩:=a0Y hl (.lst ys);rw [e7]
   exact q l ys _ (s6.trans s7) (none_of s6 hl) h7 (g4.same (s6.trans s7))
theorem b3u (T:Txt K mg t):a0S P w K mg base CX0 2 t.f_z08 t.fd_z08 ["self","statement"] (b0H t):=by
 refine T.F_z08.ok b7z (fun vs H Q E h=>?_) (fun cdv A outer s H vs Q E hr h=>?_)
 ·obtain ⟨g,h,rs,pl,rfl,hG,hO,hhl,q⟩:=h;rfl
 ·obtain ⟨g,h,rs,pl,rfl,hG,hO,hhl,q⟩:=h
  refine ⟨_,‹A4 (A7 (C0 0 T.cl_Ground T.me_Ground_ruling (b3s T) T.b_z0a (A0 (A6 (a4d T) T.g_z1d T.F_z1d.kp T.b_z1d .nil (A0 1 A1)) A1)))›,?_⟩
  rw [show start b7w [V.ref g,V.str h]=[some (V.ref g),some (V.str h)] from rfl]
  obtain ⟨dx,io,bh,pr,_,_,_,hg1,_⟩:=id hG
  try simp only [a1a,a1u,a0k,Qa,a0j,a0B,Qb,a0t,Qf,a0e]
  refine ⟨g,dx,_,rfl,hg1,a2l _ _ _ (by decide+kernel) (by decide+kernel) (by decide+kernel),h,rfl,hhl,?_⟩
  refine ⟨g,a0A h,rs,pl,rfl,hG,fun W ys H3 s3 hWn hW3 hR3=>?_⟩
  obtain ⟨zr,ez1,ez2,hz⟩:=hR3.zip (fun r hr=>hO r (Qq.mp hr).1)
  subst ez1
  exact q W zr H3 s3 hWn hW3 hz ez2
theorem c0k (T:Txt K mg t):a0S P w K mg base CX0 1 t.f_z0j t.fd_z0j ["self"] (a0V false):=by
 refine T.F_z0j.ok b8v (fun vs H Q E h=>?_) (fun cdv A outer s H vs Q E hr h=>?_)
 ·obtain ⟨x,rfl,q⟩:=h;rfl
 ·obtain ⟨x,rfl,q⟩:=h
  refine ⟨_,‹A4 (A7 B2)›,?_⟩
  rw [show start b7D [x]=[some (x)] from rfl]
  try simp only [a1a,tC]
  exact q
theorem b0e (T:Txt K mg t):a0S P w K mg base CX0 1 t.f_z0p t.fd_z0p ["self"] (a0V true):=by
 refine T.F_z0p.ok b9t (fun vs H Q E h=>?_) (fun cdv A outer s H vs Q E hr h=>?_)
 ·obtain ⟨x,rfl,q⟩:=h;rfl
 ·obtain ⟨x,rfl,q⟩:=h
  refine ⟨_,‹A4 (A7 B2)›,?_⟩
  rw [show start b7G [x]=[some (x)] from rfl]
  try simp only [a1a,tC]
  exact q
theorem b3I (T:Txt K mg t):a0S P w K mg base CX0 2 t.f_z04 t.fd_z04 ["self","statement"] (a8s t):=by
 refine T.F_z04.ok b9g (fun vs H Q E h=>?_) (fun cdv A outer s H vs Q E hr h=>?_)
 ·obtain ⟨g,h,rs,pl,rfl,hG,hO,hrl,q⟩:=h;rfl
 ·obtain ⟨g,h,rs,pl,rfl,hG,hO,hrl,q⟩:=h
  refine ⟨_,‹A4 (A7 (C2 (B4 (a0b a8g) b6z ["rule"] [none]) (B7 (C0 0 T.cl_Ground T.me_Ground_ruling (b3s T) T.b_z0a (A0 1 A1))) (A9 0 (show Xk (["rule"]:List Str) by decide+kernel)) (C3 (B8 (E5 (D4 0 T.cl_Fact T.me_Fact_speaks (b0e T) T.b_z0p) (E5 (D4 0 T.cl_Sure T.me_Sure_speaks (b0e T) T.b_z0p) (E5 (D4 0 T.cl_Most T.me_Most_speaks (b0e T) T.b_z0p) (D4 0 T.cl_Block T.me_Block_speaks (c0k T) T.b_z0j)))))) 0))›,?_⟩
  rw [show start b6z [V.ref g,V.str h]=[some (V.ref g),some (V.str h)] from rfl]
  obtain ⟨dx,io,bh,pr,_,_,_,hg1,_⟩:=id hG
  try simp only [a1a,a0o,a1y,a1u,a0k,Qa,a0j,Qb,a0t,Qf,a0e]
  refine ⟨g,dx,_,rfl,hg1,a2l _ _ _ (by decide+kernel) (by decide+kernel) (by decide+kernel),g,h,rs,pl,rfl,hG,fun W ys H3 s3 hWn hW3 hR3=>?_⟩
  obtain ⟨zr,ez1,ez2,hz⟩:=hR3.zip (fun r hr=>hO r (Qq.mp hr).1)
  subst ez1
  have hzl:zr.length≤63:=by
   have:=congrArg Yn ez2
   rw [Qe] at this
   rw [this];exact Qi (Qu _ _) hrl
  try simp only [a0z]
  refine ⟨⟨_,SqL.of hW3⟩,?_⟩
  refine a1V zr hW3 (by omega) hz [] rfl spk (fun p=>p.1) (fun x r H' R ho hr s' hR=>?_) (fun x r H' R ho hr s' hR=>?_) (fun W2 H4 hW2n s4 hW4=>?_)
  ·try simp only [tB]
   refine c4C ho.1 (a0I rfl) hr ⟨by decide+kernel,by decide+kernel,by decide+kernel⟩ ?_
   rw [a6I ho.1]
   try simp only [a4u,a1x]
   exact hR _ (a0i.refl _)
  ·try simp only [a0k,Qa,a0e]
   exact hR _ (a0i.refl _)
  refine q W2 (zr.filter fun p=>spk p.2) H4 (s3.trans s4) (none_of s3 hW2n) hW4 (fun p hp=>(hz.same s4) p (Qq.mp hp).1) ?_
  rw [←ez2,Zh];rfl
theorem a7n (T:Txt K mg t):a0S P w K mg base CX0 1 t.f_z11 t.fd_z11 ["statements","some"] a7K:=by
 refine T.F_z11.ok b7X (fun vs H Q E h=>?_) (fun cdv A outer s H vs Q E hr h=>?_)
 ·obtain ⟨t0,v,bd,S,rfl,ht,hl,hD,q⟩:=h;rfl
 ·obtain ⟨t0,v,bd,S,rfl,ht,hl,hD,q⟩:=h
  refine ⟨_,‹A4 (A7 (C8 (a2H rfl) T.z_all a5W (A0 (C2 (B4 (a0b a8e) b6h ["statement","some"] [none,some 1]) (E4 0) (A9 0 (show Xk (["statement","some"]:List Str) by decide+kernel)) D6 (E5 (F8 (a2g (a2C hr) ‹0› ‹1›)) (D0 (b3m (K:=K) rfl) 0 1 (by with_unfolding_all rfl)))) A1)))›,?_⟩
  rw [show start b6h [V.ref t0,v]=[some (V.ref t0),some (v)] from rfl]
  try simp only [a1a,tCB,a0j,a0t,a0o,b2L,a0k,Qa,a0e,a0z]
  refine ⟨⟨_,SqT.of ht⟩,?_⟩
  refine a4M (a5r (xs:=bd.map V.str)) (Qi (show (bd.map V.str).length≤1000 by simpa using hl) (by decide)) [some v] rfl (fun i v=>∃hi:i < bd.length,v=.bl (decide (bd[i]∈S))) (fun H' s=>SqT.of (s _ _ ht)) (fun i H' R hi s hR=>?_) (fun E1 H1 ys hEn s1 hE hl1 hv1=>?_)
  ·have hi':i < bd.length:=by simpa using hi
   have e2:((bd.map V.str)[i]?).getD .non=V.str bd[i]:=by rw [Qm,Qc hi'];rfl
   rw [e2]
   exact b0V (hD.same s) (a0I rfl) (a0I rfl) (hR _ _ (a0i.refl _) ⟨hi',rfl⟩)
  have eys:ys=(bd.map fun q=>decide (q∈S)).map V.bl:=by
   refine Vf fun i=>?_
   rw [Qm,Qm]
   by_cases hi:i < ys.length
   ·obtain ⟨hi',e⟩:=hv1 i _ (Qc hi)
    rw [Qc hi,e,Qc hi'];rfl
   ·rw [Yr (by omega),Yr (by rw [Qe] at hl1;omega)];rfl
  subst eys
  refine ⟨E1,_,rfl,SqL.of hE,?_⟩
  have:=q _ s1
  rw [Vw];exact this
theorem b4a (T:Txt K mg t):a0S P w K mg base CX0 1 t.f_z12 t.fd_z12 ["statements","some"] b8k:=by
 refine T.F_z12.ok b8s (fun vs H Q E h=>?_) (fun cdv A outer s H vs Q E hr h=>?_)
 ·obtain ⟨t0,v,bd,S,rfl,ht,hl,hD,q⟩:=h;rfl
 ·obtain ⟨t0,v,bd,S,rfl,ht,hl,hD,q⟩:=h
  refine ⟨_,‹A4 (A7 (C8 (a1T rfl) T.z_any a3R (A0 (C2 (B4 (a0b a8z) b5p ["statement","some"] [none,some 1]) (E4 0) (A9 0 (show Xk (["statement","some"]:List Str) by decide+kernel)) D6 (E5 (F8 (a2g (a2C hr) ‹0› ‹1›)) (D0 (b3m (K:=K) rfl) 0 1 (by with_unfolding_all rfl)))) A1)))›,?_⟩
  rw [show start b5p [V.ref t0,v]=[some (V.ref t0),some (v)] from rfl]
  try simp only [a1a,tCB,a0j,a0t,a0o,b2L,a0k,Qa,a0e,a0z]
  refine ⟨⟨_,SqT.of ht⟩,?_⟩
  refine a4M (a5r (xs:=bd.map V.str)) (Qi (show (bd.map V.str).length≤1000 by simpa using hl) (by decide)) [some v] rfl (fun i v=>∃hi:i < bd.length,v=.bl (decide (bd[i]∈S))) (fun H' s=>SqT.of (s _ _ ht)) (fun i H' R hi s hR=>?_) (fun E1 H1 ys hEn s1 hE hl1 hv1=>?_)
  ·have hi':i < bd.length:=by simpa using hi
   have e2:((bd.map V.str)[i]?).getD .non=V.str bd[i]:=by rw [Qm,Qc hi'];rfl
   rw [e2]
   exact b0V (hD.same s) (a0I rfl) (a0I rfl) (hR _ _ (a0i.refl _) ⟨hi',rfl⟩)
  have eys:ys=(bd.map fun q=>decide (q∈S)).map V.bl:=by
   refine Vf fun i=>?_
   rw [Qm,Qm]
   by_cases hi:i < ys.length
   ·obtain ⟨hi',e⟩:=hv1 i _ (Qc hi)
    rw [Qc hi,e,Qc hi'];rfl
   ·rw [Yr (by omega),Yr (by rw [Qe] at hl1;omega)];rfl
  subst eys
  refine ⟨E1,_,rfl,SqL.of hE,?_⟩
  have:=q _ s1
  rw [Jc];exact this
theorem b8c (T:Txt K mg t):a0S P w K mg base CX0 1 t.f_z0l t.fd_z0l ["self","one","other"] (b5I t):=by
 refine T.F_z0l.ok b6J (fun vs H Q E h=>?_) (fun cdv A outer s H vs Q E hr h=>?_)
 ·obtain ⟨g,x,y,rs,pl,r1,r2,rfl,hG,h1,h2,o1,o2,q⟩:=h;rfl
 ·obtain ⟨g,x,y,rs,pl,r1,r2,rfl,hG,h1,h2,o1,o2,q⟩:=h
  refine ⟨_,‹A4 (A7 (F8 (a2g (a2C hr) ‹C4 (A0 (C5 1) (A0 (C5 2) A1))› ‹C5 0›)))›,?_⟩
  rw [show start b6Z [V.ref g,V.ref x,V.ref y]=[some (V.ref g),some (V.ref x),some (V.ref y)] from rfl]
  obtain ⟨dx,io,bh,pr,_,_,kps,hg1,_,_,_,_,hk,hp⟩:=id hG
  obtain ⟨_,e1,dx1,t1,a1,b1⟩:=h1
  cases e1
  obtain ⟨_,e2,dx2,t2,a2,b2⟩:=h2
  cases e2
  have C1:=a8p T o1.1
  have C2:=a8p T o2.1
  try simp only [a1a,b2c,a6S,a0j,a3w,a0k,Qb,Qa,a0t,a0e]
  refine ⟨x,_,dx1,_,_,rfl,a1,C1.cl,C1.nl,a4r _ _ _,y,_,dx2,_,_,rfl,a2,C2.cl,C2.nl,a4r _ _ _,by simp only [Qo,Qz];decide,fun c hc=>?_⟩
  obtain ⟨H1,e1,s1,h1⟩:=a0Y hc (.tup [V.str r1.2.1,V.str r2.2.1]);rw [e1]
  refine ⟨g,_,dx,_,_,rfl,s1 _ _ hg1,T.cl_Ground,T.nf_Ground_pairs,b3t _ _ _,pr,_,rfl,a2n.t (k:=[Sum.inr r1.2.1,Sum.inr r2.2.1]) (s1 _ _ hk) h1,?_⟩
  have:=q _ s1
  rw [hp]
  by_cases z:(r1.2.1,r2.2.1)∈pl
  ·rw [if_pos z];rw [decide_eq_true z] at this;exact this
  ·rw [if_neg z];rw [decide_eq_false z] at this;exact this
theorem b3Y (T:Txt K mg t):a0S P w K mg base CX0 2 t.f_z13 t.fd_z13 ["ground","rule","beaters"] (b1O t):=by
 refine T.F_z13.ok b8h (fun vs H Q E h=>?_) (fun cdv A outer s H vs Q E hr h=>?_)
 ·obtain ⟨g,x,L,rs,pl,r,zr,rfl,hG,hx,hro,hL,hz,hzl,q⟩:=h;rfl
 ·obtain ⟨g,x,L,rs,pl,r,zr,rfl,hG,hx,hro,hL,hz,hzl,q⟩:=h
  refine ⟨_,‹A4 (A7 (C8 (a1T rfl) T.z_any a3R (A0 (C2 (B4 (a0b a8M) b4Y ["beater","rule","ground"] [none,some 1,some 0]) (B7 2) (A9 0 (show Xk (["beater","rule","ground"]:List Str) by decide+kernel)) D6 (C0 2 T.cl_Ground T.me_Ground_beats (b8c T) T.b_z0l (A0 0 (A0 1 A1)))) A1)))›,?_⟩
  rw [show start b4Y [V.ref g,V.ref x,V.ref L]=[some (V.ref g),some (V.ref x),some (V.ref L)] from rfl]
  try simp only [a1a,tCB,a0j,a0t,a0o,a1y,a0k,Qb,Qa,a0e,a0z]
  refine ⟨⟨_,SqL.of hL⟩,?_⟩
  refine a1V zr hL (by omega) hz [some (V.ref x),some (V.ref g)] rfl (fun _=>true) (fun p=>V.bl (decide ((p.2.2.1,r.2.1)∈pl))) (fun y r' H' R ho hr s' hR=>hR _ (a0i.refl _)) (fun y r' H' R ho hr s' hR=>?_) (fun B H5 hBn s5 hB5=>?_)
  ·obtain ⟨dx,io,bh,pr,_,_,_,hg1,_⟩:=id (hG.same s')
   try simp only [a1u,a0k,Qb,Qa,a0j,a0t,Qf,a0e]
   exact ⟨g,dx,_,rfl,hg1,a2l _ _ _ (by decide+kernel) (by decide+kernel) (by decide+kernel),g,y,x,rs,pl,r',r,rfl,hG.same s',⟨y,rfl,hr⟩,hx.same s',ho,hro,fun H'' s''=>hR _ s''⟩
  have hB5':H5 B=some (.lst ((zr.map fun p=>decide ((p.2.2.1,r.2.1)∈pl)).map V.bl)):=by
   rw [hB5,Us.mpr (fun _ _=>rfl),Xi];rfl
  refine ⟨B,_,rfl,SqL.of hB5',?_⟩
  have:=q _ s5
  rw [show ((zr.map fun p=>decide ((p.2.2.1,r.2.1)∈pl)).any id)=btn pl (zr.map (·.2)) r from by unfold btn;rw [Jc,Jc];rfl]
  exact this
theorem b3z (T:Txt K mg t):a0S P w K mg base CX0 3 t.f_z1e t.fd_z1e ["ground","sures","held","refused","q"] (b1q t a0q):=by
 refine T.F_z1e.ok b4f (fun vs H Q E h=>?_) (fun cdv A outer s H vs Q E hr h=>?_)
 ·obtain ⟨g,v1,v2,v3,q0,rs,pl,S,U,D,rfl,hG,hO,hrl,h1,h2,h3,hql,q⟩:=h;rfl
 ·obtain ⟨g,v1,v2,v3,q0,rs,pl,S,U,D,rfl,hG,hO,hrl,h1,h2,h3,hql,q⟩:=h
  refine ⟨_,‹A2 (B5 (G2 (C9 (a2g (a2C hr) ‹4› ‹1›)) (B3 a3a 4 1 (by with_unfolding_all rfl))) (A4 (A7 B2)) B6) (A2 (A8 5 b4f.nd (C2 (B4 (a0b a6L) b1Z ["rule","held"] [none,some 2]) (B7 (C0 0 T.cl_Ground T.me_Ground_speaking (b3I T) T.b_z04 (A0 4 A1))) (A9 0 (show Xk (["rule","held"]:List Str) by decide+kernel)) (C3 (B8 (A6 (a7n T) T.g_z11 T.F_z11.kp T.b_z11 .nil (A0 (E1 0) (A0 1 A1))))) 0)) (D7 (B5 (C7 (F3 (B3 (a1e hr.units) (C8 a1m T.z_len a1k (A0 5 A1)) A3 (a0r _)) (F4 (G2 (C9 (a2g (a2C hr) ‹A6 (a4d T) T.g_z1d T.F_z1d.kp T.b_z1d .nil (A0 4 A1)› ‹1›)) (B3 a3a (A6 (a4d T) T.g_z1d T.F_z1d.kp T.b_z1d .nil (A0 4 A1)) 1 (by with_unfolding_all rfl)))))) (A4 (A7 B2)) B6) (A4 (A7 (C8 (a2H rfl) T.z_all a5W (A0 (C2 (B4 (a0b a6L) b1Z ["rule","refused","ground","standing"] [none,some 3,some 0,some 5]) (B7 (C0 0 T.cl_Ground T.me_Ground_against (b3u T) T.b_z08 (A0 4 A1))) (A9 0 (show Xk (["rule","refused","ground","standing"]:List Str) by decide+kernel)) D6 (G5 (A6 (b4a T) T.g_z12 T.F_z12.kp T.b_z12 .nil (A0 (E1 0) (A0 1 A1))) (F9 (A6 (b3Y T) T.g_z13 T.F_z13.kp T.b_z13 .nil (A0 2 (A0 0 (A0 3 A1))))))) A1))))))›,?_⟩
  rw [show start b1Z [V.ref g,v1,v2,v3,V.str q0]=[some (V.ref g),some (v1),some (v2),some (v3),some (V.str q0),none] from rfl]
  obtain ⟨dx,io,bh,pr,_,_,_,hg1,_⟩:=id hG
  try simp only [a1p,a3b,a1a,tC,a1o,a1J,a0l,Qg,Qh,a0o,a1y,a1u,a0k,Qa,a0j,Qb,a0t,Qf,a0e]
  refine a3D h1 (a0I rfl) (a0I rfl) ?_
  try simp only [decide_eq_true_eq]
  refine a2c (fun c0=>?_) (fun c0=>?_)
  ·have:=q H (a0i.refl _)
   unfold a0q at this
   rw [if_pos c0] at this
   exact this
  refine ⟨g,dx,_,rfl,hg1,a2l _ _ _ (by decide+kernel) (by decide+kernel) (by decide+kernel),g,q0,rs,pl,rfl,hG,hO,hrl,fun W zr H3 s3 hWn hW3 hz ez=>?_⟩
  have hzl:zr.length≤63:=by
   have:=congrArg Yn ez
   rw [Qe] at this
   rw [this];exact Qi (Qu _ _) (Qi (Qu _ _) hrl)
  try simp only [a0z]
  refine ⟨⟨_,SqL.of hW3⟩,?_⟩
  refine a1V zr hW3 (by omega) hz [some v2] rfl (fun r=>a2E r.2.2.2 U) (fun p=>p.1) (fun x r H' R ho hr s' hR=>?_) (fun x r H' R ho hr s' hR=>?_) (fun W2 H4 hW2n s4 hW4=>?_)
  ·have CF:=a8p T ho.1
   obtain ⟨dx',t0,g1,g2⟩:=hr
   try simp only [tB,a0B,a0j,a3w,a0k,Qa,Qb,a0t,Qf,a0e]
   refine ⟨x,_,dx',_,_,rfl,g1,CF.cl,CF.nb,a1K _ _ _,t0,v2,r.2.2.2,U,rfl,g2,by have:=ho.2.2.2.2.2;omega,h2.same (s3.trans s'),fun H'' s''=>?_⟩
   try simp only [a1x]
   exact hR _ s''
  ·try simp only [a0k,Qa,a0e]
   exact hR _ (a0i.refl _)
  have s04:=s3.trans s4
  have hz4:a8U t H4 (zr.filter fun p=>a2E p.2.2.2.2 U):=fun p hp=>(hz.same s4) p (Qq.mp hp).1
  have hzl4:(zr.filter fun p=>a2E p.2.2.2.2 U).length≤63:=Qi (Qu _ _) hzl
  have est:(zr.filter fun p=>a2E p.2.2.2.2 U).map (·.2)=a0X rs U q0:=by
   unfold a0X
   rw [←ez,Zh];rfl
  generalize (zr.filter fun p=>a2E p.2.2.2.2 U)=zs at hW4 hz4 hzl4 est
  have hneed:∀H',a0i H H'→(a0X rs U q0=[]∨a0A q0∈S)→Q (.bl false) H':=fun H' s' hc=>by
   have:=q H' s'
   unfold a0q at this
   rw [if_neg c0,if_pos hc] at this
   exact this
  refine ⟨fun σ' H'=>σ'=[some (V.ref g),some v1,some v2,some v3,some (V.str q0),some (V.ref W2)]∧H'=H4∧¬(a0X rs U q0=[]∨a0A q0∈S),?_,?_⟩
  ·try simp only [a3b,tOr,a1f,tOp,tCB,a0j,a0k,Qb,Qa,a0t,tC,a1a,a1o,if_true,a0e]
   refine a1P (SqL.of hW4) ?_
   try simp only [a2y,a1x,decide_eq_true_eq]
   refine a2c (fun c1=>?_) (fun c1=>?_)
   ·refine hneed _ s04 (.inl ?_)
    rw [←est]
    have:zs.length=0:=by rw [Qe] at c1;omega
    rw [Wb.mp this];rfl
   refine a3D (h1.same s04) (x:=a0A q0) (fun R hR=>?_) (a0I rfl) ?_
   ·try simp only [a0B,a0j,a0k,Qb,Qa,a0t,Qf,a0e]
    exact ⟨q0,rfl,hql,hR⟩
   try simp only [decide_eq_true_eq]
   refine a2c (fun c2=>hneed _ s04 (.inr c2)) (fun c2=>⟨(by trivial),(by trivial),fun z=>z.elim (fun w=>c1 ?_) c2⟩)
   rw [←est] at w
   have:zs.length=0:=by have:=congrArg Yn w;rw [Qe] at this;exact this
   rw [Qe,this];rfl
  rintro σ' H5 ⟨rfl,rfl,hc⟩
  try simp only [a1a,tCB,a0j,a0t,a0o,a1y,a1u,a0k,Qa,Qb,Qf,a0e]
  refine ⟨g,dx,_,rfl,s04 _ _ hg1,a2l _ _ _ (by decide+kernel) (by decide+kernel) (by decide+kernel),g,q0,rs,pl,rfl,hG.same s04,hO,hql,fun B zb H6 s6 hBn hB6 hzb eb=>?_⟩
  have hbl:zb.length≤63:=by
   have:=congrArg Yn eb
   rw [Qe] at this
   rw [this];exact Qi (Qu _ _) hrl
  have s06:=s04.trans s6
  try simp only [a0z]
  refine ⟨⟨_,SqL.of hB6⟩,?_⟩
  refine a1V zb hB6 (by omega) hzb [some v3,some (V.ref g),some (V.ref W2)] rfl (fun _=>true) (fun p=>V.bl (a2j p.2.2.2.2 D || btn pl (zs.map (·.2)) p.2)) (fun x r H' R ho hr s' hR=>hR _ (a0i.refl _)) (fun x r H' R ho hr s' hR=>?_) (fun C H7 hCn s7 hC7=>?_)
  ·have CF:=a8p T ho.1
   have hru:a9Q t H' (.ref x) r:=⟨x,rfl,hr⟩
   obtain ⟨dx',t0,g1,g2⟩:=hr
   try simp only [c0s,a0B,a0j,a3w,a0k,Qa,Qb,a0t,Qf,a0e]
   refine ⟨x,_,dx',_,_,rfl,g1,CF.cl,CF.nb,a1K _ _ _,t0,v3,r.2.2.2,D,rfl,g2,by have:=ho.2.2.2.2.2;omega,h3.same (s06.trans s'),fun H'' s''=>?_⟩
   have s48:=(s6.trans s').trans s''
   have hh:=fun H'' s''=>hR H'' s''
   try simp only [a1x]
   refine a2c (fun c5=>?_) (fun c5=>?_)
   ·have:=hR _ s''
    rw [c5,Bool.true_or] at this;exact this
   ·have c6:a2j r.2.2.2 D=false:=by simpa using c5
    rw [c6] at hR
    exact ⟨g,x,W2,rs,pl,r,zs,rfl,(hG.same s04).same s48,hru.same s'',ho,s48 _ _ hW4,hz4.same s48,hzl4,fun H9 s9=>hR _ (s''.trans s9)⟩
  have hC7':H7 C=some (.lst ((zb.map fun p=>(a2j p.2.2.2.2 D || btn pl (zs.map (·.2)) p.2)).map V.bl)):=by
   rw [hC7,Us.mpr (fun _ _=>rfl),Xi];rfl
  refine ⟨C,_,rfl,SqL.of hC7',?_⟩
  have:=q _ (s06.trans s7)
  unfold a0q at this
  rw [if_neg c0,if_neg hc,←eb,Vw,←est] at this
  rw [Vw]
  exact this
theorem b3G (T:Txt K mg t):a0S P w K mg base CX0 3 t.f_z0v t.fd_z0v ["ground","sures","held","refused","q"] (b1q t a2k):=by
 refine T.F_z0v.ok b3R (fun vs H Q E h=>?_) (fun cdv A outer s H vs Q E hr h=>?_)
 ·obtain ⟨g,v1,v2,v3,q0,rs,pl,S,U,D,rfl,hG,hO,hrl,h1,h2,h3,hql,q⟩:=h;rfl
 ·obtain ⟨g,v1,v2,v3,q0,rs,pl,S,U,D,rfl,hG,hO,hrl,h1,h2,h3,hql,q⟩:=h
  refine ⟨_,‹A2 (B5 (G2 (C9 (a2g (a2C hr) ‹4› ‹1›)) (B3 a3a 4 1 (by with_unfolding_all rfl))) (A4 (A7 B2)) B6) (A2 (A8 5 b3R.nd (C2 (B4 (a0b a6Y) b2Q ["rule","refused"] [none,some 3]) (B7 (C0 0 T.cl_Ground T.me_Ground_speaking (b3I T) T.b_z04 (A0 4 A1))) (A9 0 (show Xk (["rule","refused"]:List Str) by decide+kernel)) (C3 (E6 (B8 (A6 (b4a T) T.g_z12 T.F_z12.kp T.b_z12 .nil (A0 (E1 0) (A0 1 A1)))))) 0)) (D7 (B5 (C7 (F3 (B3 (a1e hr.units) (C8 a1m T.z_len a1k (A0 5 A1)) A3 (a0r _)) (F4 (G2 (C9 (a2g (a2C hr) ‹A6 (a4d T) T.g_z1d T.F_z1d.kp T.b_z1d .nil (A0 4 A1)› ‹1›)) (B3 a3a (A6 (a4d T) T.g_z1d T.F_z1d.kp T.b_z1d .nil (A0 4 A1)) 1 (by with_unfolding_all rfl)))))) (A4 (A7 B2)) B6) (A4 (A7 (C8 (a1T rfl) T.z_any a3R (A0 (C2 (B4 (a0b a6Y) b2Q ["rule","held","ground","unfallen"] [none,some 2,some 0,some 5]) (B7 (C0 0 T.cl_Ground T.me_Ground_against (b3u T) T.b_z08 (A0 4 A1))) (A9 0 (show Xk (["rule","held","ground","unfallen"]:List Str) by decide+kernel)) D6 (H0 (A6 (a7n T) T.g_z11 T.F_z11.kp T.b_z11 .nil (A0 (E1 0) (A0 1 A1))) (F9 (H3 (A6 (b3Y T) T.g_z13 T.F_z13.kp T.b_z13 .nil (A0 2 (A0 0 (A0 3 A1)))))))) A1))))))›,?_⟩
  rw [show start b2Q [V.ref g,v1,v2,v3,V.str q0]=[some (V.ref g),some (v1),some (v2),some (v3),some (V.str q0),none] from rfl]
  obtain ⟨dx,io,bh,pr,_,_,_,hg1,_⟩:=id hG
  try simp only [a1p,a3b,a1a,tC,a1o,a1J,a0l,Qg,Qh,a0o,a1y,a1u,a0k,Qa,a0j,Qb,a0t,Qf,a0e]
  refine a3D h1 (a0I rfl) (a0I rfl) ?_
  try simp only [decide_eq_true_eq]
  refine a2c (fun c0=>?_) (fun c0=>?_)
  ·have:=q H (a0i.refl _)
   unfold a2k at this
   rw [if_pos c0] at this
   exact this
  refine ⟨g,dx,_,rfl,hg1,a2l _ _ _ (by decide+kernel) (by decide+kernel) (by decide+kernel),g,q0,rs,pl,rfl,hG,hO,hrl,fun W zr H3 s3 hWn hW3 hz ez=>?_⟩
  have hzl:zr.length≤63:=by
   have:=congrArg Yn ez
   rw [Qe] at this
   rw [this];exact Qi (Qu _ _) (Qi (Qu _ _) hrl)
  try simp only [a0z]
  refine ⟨⟨_,SqL.of hW3⟩,?_⟩
  refine a1V zr hW3 (by omega) hz [some v3] rfl (fun r=>!a2j r.2.2.2 D) (fun p=>p.1) (fun x r H' R ho hr s' hR=>?_) (fun x r H' R ho hr s' hR=>?_) (fun W2 H4 hW2n s4 hW4=>?_)
  ·have CF:=a8p T ho.1
   obtain ⟨dx',t0,g1,g2⟩:=hr
   try simp only [b2E,tB,a0B,a0j,a3w,a0k,Qa,Qb,a0t,Qf,a0e]
   refine ⟨x,_,dx',_,_,rfl,g1,CF.cl,CF.nb,a1K _ _ _,t0,v3,r.2.2.2,D,rfl,g2,by have:=ho.2.2.2.2.2;omega,h3.same (s3.trans s'),fun H'' s''=>?_⟩
   try simp only [a1x]
   exact hR _ s''
  ·try simp only [a0k,Qa,a0e]
   exact hR _ (a0i.refl _)
  have s04:=s3.trans s4
  have hz4:a8U t H4 (zr.filter fun p=>!a2j p.2.2.2.2 D):=fun p hp=>(hz.same s4) p (Qq.mp hp).1
  have hzl4:(zr.filter fun p=>!a2j p.2.2.2.2 D).length≤63:=Qi (Qu _ _) hzl
  have est:(zr.filter fun p=>!a2j p.2.2.2.2 D).map (·.2)=unf rs D q0:=by
   unfold unf
   rw [←ez,Zh];rfl
  generalize (zr.filter fun p=>!a2j p.2.2.2.2 D)=zs at hW4 hz4 hzl4 est
  have hneed:∀H',a0i H H'→(unf rs D q0=[]∨a0A q0∈S)→Q (.bl true) H':=fun H' s' hc=>by
   have:=q H' s'
   unfold a2k at this
   rw [if_neg c0,if_pos hc] at this
   exact this
  refine ⟨fun σ' H'=>σ'=[some (V.ref g),some v1,some v2,some v3,some (V.str q0),some (V.ref W2)]∧H'=H4∧¬(unf rs D q0=[]∨a0A q0∈S),?_,?_⟩
  ·try simp only [a3b,tOr,a1f,tOp,tCB,a0j,a0k,Qb,Qa,a0t,tC,a1a,a1o,if_true,a0e]
   refine a1P (SqL.of hW4) ?_
   try simp only [a2y,a1x,decide_eq_true_eq]
   refine a2c (fun c1=>?_) (fun c1=>?_)
   ·refine hneed _ s04 (.inl ?_)
    rw [←est]
    have:zs.length=0:=by rw [Qe] at c1;omega
    rw [Wb.mp this];rfl
   refine a3D (h1.same s04) (x:=a0A q0) (fun R hR=>?_) (a0I rfl) ?_
   ·try simp only [a0B,a0j,a0k,Qb,Qa,a0t,Qf,a0e]
    exact ⟨q0,rfl,hql,hR⟩
   try simp only [decide_eq_true_eq]
   refine a2c (fun c2=>hneed _ s04 (.inr c2)) (fun c2=>⟨(by trivial),(by trivial),fun z=>z.elim (fun w=>c1 ?_) c2⟩)
   rw [←est] at w
   have:zs.length=0:=by have:=congrArg Yn w;rw [Qe] at this;exact this
   rw [Qe,this];rfl
  rintro σ' H5 ⟨rfl,rfl,hc⟩
  try simp only [a1a,tCB,a0j,a0t,a0o,a1y,a1u,a0k,Qa,Qb,Qf,a0e]
  refine ⟨g,dx,_,rfl,s04 _ _ hg1,a2l _ _ _ (by decide+kernel) (by decide+kernel) (by decide+kernel),g,q0,rs,pl,rfl,hG.same s04,hO,hql,fun B zb H6 s6 hBn hB6 hzb eb=>?_⟩
  have hbl:zb.length≤63:=by
   have:=congrArg Yn eb
   rw [Qe] at this
   rw [this];exact Qi (Qu _ _) hrl
  have s06:=s04.trans s6
  try simp only [a0z]
  refine ⟨⟨_,SqL.of hB6⟩,?_⟩
  refine a1V zb hB6 (by omega) hzb [some v2,some (V.ref g),some (V.ref W2)] rfl (fun _=>true) (fun p=>V.bl (a2E p.2.2.2.2 U && !btn pl (zs.map (·.2)) p.2)) (fun x r H' R ho hr s' hR=>hR _ (a0i.refl _)) (fun x r H' R ho hr s' hR=>?_) (fun C H7 hCn s7 hC7=>?_)
  ·have CF:=a8p T ho.1
   have hru:a9Q t H' (.ref x) r:=⟨x,rfl,hr⟩
   obtain ⟨dx',t0,g1,g2⟩:=hr
   try simp only [b5v,a0B,a0j,a3w,a0k,Qa,Qb,a0t,Qf,b6P,a0e]
   refine ⟨x,_,dx',_,_,rfl,g1,CF.cl,CF.nb,a1K _ _ _,t0,v2,r.2.2.2,U,rfl,g2,by have:=ho.2.2.2.2.2;omega,h2.same (s06.trans s'),fun H'' s''=>?_⟩
   have s48:=(s6.trans s').trans s''
   try simp only [a1x]
   refine a2c (fun c5=>?_) (fun c5=>?_)
   ·rw [c5,Jt] at hR
    refine ⟨g,x,W2,rs,pl,r,zs,rfl,(hG.same s04).same s48,hru.same s'',ho,s48 _ _ hW4,hz4.same s48,hzl4,fun H9 s9=>?_⟩
    try simp only [a1x]
    exact hR _ (s''.trans s9)
   ·have c6:a2E r.2.2.2 U=false:=by simpa using c5
    have:=hR _ s''
    rw [c6,Ja] at this
    exact this
  have hC7':H7 C=some (.lst ((zb.map fun p=>(a2E p.2.2.2.2 U && !btn pl (zs.map (·.2)) p.2)).map V.bl)):=by
   rw [hC7,Us.mpr (fun _ _=>rfl),Xi];rfl
  refine ⟨C,_,rfl,SqL.of hC7',?_⟩
  have:=q _ (s06.trans s7)
  unfold a2k at this
  rw [if_neg c0,if_neg hc,←eb,Jc,←est] at this
  rw [Jc]
  exact this
theorem b4j (T:Txt K mg t):a0S P w K mg base CX0 4 t.f_z14 t.fd_z14 ["ground","sures","held","refused","asked"] (b4r K t):=by
 refine T.F_z14.ok a7o (fun vs H Q E h=>?_) (fun cdv A outer s H vs Q E hr h=>?_)
 ·obtain ⟨g,v1,v2,v3,va,rs,pl,S,U,D,ask,rfl,hoff,hO,hrl,hA,hnd,hal,hql,q⟩:=h;rfl
 ·obtain ⟨g,v1,v2,v3,va,rs,pl,S,U,D,ask,rfl,hoff,hO,hrl,hA,hnd,hal,hql,q⟩:=h
  obtain ⟨_,k_HELD⟩:=T.k_HELD
  obtain ⟨_,k_REFUSED⟩:=T.k_REFUSED
  refine ⟨_,‹A2 (A8 5 a7o.nd D3) (A2 (G9 (G1 (C1 (E2 4) (A9 6 a7o.nd) (A4 (B5 (B8 (A6 (b3z T) T.g_z1e T.F_z1e.kp T.b_z1e .nil (A0 0 (A0 1 (A0 2 (A0 3 (A0 6 A1))))))) (A4 (C6 5 6 (D2 (.str "held") k_HELD ⟨_,rfl⟩))) (A4 (B5 (B8 (A6 (b3G T) T.g_z0v T.F_z0v.kp T.b_z0v .nil (A0 0 (A0 1 (A0 2 (A0 3 (A0 6 A1))))))) (A4 (C6 5 6 (D2 (.str "refused") k_REFUSED ⟨_,rfl⟩))) B6)))))) (C1 (B7 4) (A9 6 a7o.nd) (A4 (B5 (B8 (A6 (b3z T) T.g_z1e T.F_z1e.kp T.b_z1e .nil (A0 0 (A0 1 (A0 2 (A0 3 (A0 6 A1))))))) (A4 (C6 5 6 (D2 (.str "held") k_HELD ⟨_,rfl⟩))) (A4 (B5 (B8 (A6 (b3G T) T.g_z0v T.F_z0v.kp T.b_z0v .nil (A0 0 (A0 1 (A0 2 (A0 3 (A0 6 A1))))))) (A4 (C6 5 6 (D2 (.str "refused") k_REFUSED ⟨_,rfl⟩))) B6)))))) (A4 (A7 5)))›,?_⟩
  rw [show start b7U [V.ref g,v1,v2,v3,va]=[some (V.ref g),some (v1),some (v2),some (v3),some (va),none,none] from rfl]
  try simp only [a1p,a1J,a2f,a0l,Qg,Qh]
  intro W hW
  obtain ⟨H1,e1,s1,h1⟩:=a0Y hW (.dK []);rw [e1]
  have hvW:va≠.ref W:=fun z=>by
   obtain ⟨b,o,e,hb⟩:=hA.at
   rw [z] at e;cases e;rw [hW] at hb;cases hb
  refine a4x (fun H0 i σ' H'=>∃x,σ'=[some (V.ref g),some v1,some v2,some v3,some va,some (V.ref W),x]∧a3H H0 W H'∧H' W=some (.dK (wv (wds rs pl S U D (ask.take i))))) (hA.same s1) (a0I rfl) (fun H0 h0=>⟨_,rfl,a3H.refl _ _,h0.keep _ _ h1 hvW⟩) ?_ ?_ ?_
  ·rintro H0 i σ' H' b o ⟨x,rfl,k,_⟩ z e
   exact k _ _ e fun w=>hvW (by rw [z,w])
  ·rintro H0 i hi σ' H' rt bk h0 ⟨x,rfl,k,hW'⟩
   have off:∀H2,a0i H' H2→Off H va H2:=fun H2 s2 b o e n=>s2 _ _ (k _ _ (h0.keep _ _ (s1 _ _ e) n) (a0c e hW))
   have hiq:=hql _ (Xd hi)
   have hlen:(wds rs pl S U D (ask.take i)).length≤1000:=by
    have:=(a5j rs pl S U D (ask.take i)).length_le
    rw [Qe,Yp] at this;omega
   have hnew:ask[i]∉(wds rs pl S U D (ask.take i)).map (·.1):=fun z=>by
    have:=b1V z
    obtain ⟨j,hj,e⟩:=Jd this
    rw [List.getElem_take] at e
    rw [Yp] at hj
    have:=(Jn (h₀:=by omega) (h₁:=hi) hnd).mp e
    omega
   have hst:wds rs pl S U D (ask.take (i+1))=wds rs pl S U D (ask.take i)++((stt rs pl S U D ask[i]).map fun w=>(ask[i],w)).toList:=by rw [Qv hi,b3c]
   generalize wds rs pl S U D (ask.take i)=F at hW' hlen hnew hst
   generalize ask[i]=q0 at hiq hnew hst
   have hend:∀(b:Bool) (H2:Hp),a0i H' H2→stt rs pl S U D q0=some b→a5A H2 W (.str q0) (V.str (wd b)) (upd H2 W (.dK (wv (F++[(q0,b)]))))∧(a3H H0 W (upd H2 W (.dK (wv (F++[(q0,b)]))))∧upd H2 W (.dK (wv (F++[(q0,b)]))) W=some (.dK (wv (wds rs pl S U D (ask.take (i+1)))))):=fun b H2 s2 e=>
    ⟨c7m (s2 _ _ hW') (by omega) hnew b,fun c o e n=>by rw [a0a n];exact s2 _ _ (k _ _ e n),by rw [a0d,hst,e];rfl⟩
   obtain ⟨hG,k1,k2,k3⟩:=hoff H' (off H' (a0i.refl _))
   try simp only [a0l,a3b,tB,a0B,a0j,a0k,Qg,Qh,Qa,Qb,a0t,Qf,a3u,tC,a0e,a1o]
   refine ⟨g,v1,v2,v3,q0,rs,pl,S,U,D,rfl,hG,hO,hrl,k1,k2,k3,hiq,fun H2 s2=>?_⟩
   try simp only [a1x]
   refine a2c (fun c1=>?_) (fun c1=>?_)
   ·obtain ⟨a1,a2,a3⟩:=hend true H2 s2 (by unfold stt;rw [if_pos c1])
    exact ⟨W,_,rfl,a1,_,rfl,a2,a3⟩
   obtain ⟨hG,k1,k2,k3⟩:=hoff H2 (off H2 s2)
   refine ⟨g,v1,v2,v3,q0,rs,pl,S,U,D,rfl,hG,hO,hrl,k1,k2,k3,hiq,fun H3 s3=>?_⟩
   try simp only [a1x]
   refine a2c (fun c2=>?_) (fun c2=>?_)
   ·obtain ⟨a1,a2,a3⟩:=hend false H3 (s2.trans s3) (by unfold stt;rw [if_neg c1,if_pos c2])
    exact ⟨W,_,rfl,a1,_,rfl,a2,a3⟩
   ·refine ⟨_,rfl,fun c o e n=>s3 _ _ (s2 _ _ (k _ _ e n)),?_⟩
    rw [hst,show stt rs pl S U D q0=none from by unfold stt;rw [if_neg c1,if_neg c2]]
    show _=some (HO.dK (wv (F++[])))
    rw [Qf];exact s3 _ _ (s2 _ _ hW')
  ·rintro H0 σ' H' H'' h0 ⟨x,rfl,k,hW'⟩ k1 k2
   rw [Xu] at hW'
   try simp only [a1a,a0k,Qb,Qa,a0e]
   refine q W H'' (fun b o e=>?_) hW (k1 _ _ hW' hvW)
   by_cases z:va=.ref b
   ·exact k2 b o z (s1 _ _ e)
   ·exact k1 b o (k b o (h0.keep _ _ (s1 _ _ e) z) (a0c e hW)) z
theorem b6X (T:Txt K mg t):a0S P w K mg base CX0 5 t.f_z0o t.fd_z0o ["ground","some","sures","known"] (b2u K t):=by
 refine T.F_z0o.ok a1Z (fun vs H Q E h=>?_) (fun cdv A outer s H vs Q E hr h=>?_)
 ·obtain ⟨g,v1,v2,kd,rs,pl,sm,S,kn,rfl,hG,hO,hrl,h1,h2,hkd,hkn,hsl,hSl,hkl,hsm,q⟩:=h;rfl
 ·obtain ⟨g,v1,v2,kd,rs,pl,sm,S,kn,rfl,hG,hO,hrl,h1,h2,hkd,hkn,hsl,hSl,hkl,hsm,q⟩:=h
  obtain ⟨_,k_HELD⟩:=T.k_HELD
  obtain ⟨_,k_REFUSED⟩:=T.k_REFUSED
  refine ⟨_,‹A2 (A8 4 a1Z.nd (A6 (a2Q T) T.g_z1w T.F_z1w.kp T.b_z1w .nil (A0 2 A1))) (A2 (A8 5 a1Z.nd (A6 (a2Q T) T.g_z1w T.F_z1w.kp T.b_z1w .nil (A0 (G3 (C2 (B4 (a0b a4n) a6z ["q","known"] [none,some 3]) (E2 3) (A9 0 (show Xk (["q","known"]:List Str) by decide+kernel)) (C3 (B3 (a7s hr.units (K:=K) rfl) (F5 1 0) (D2 (.str "held") k_HELD ⟨_,rfl⟩) (a0r _))) 0)) A1))) (A2 (A8 6 a1Z.nd (A6 (a2Q T) T.g_z1w T.F_z1w.kp T.b_z1w .nil (A0 (G3 (C2 (B4 (a0b a4n) a6z ["q","known"] [none,some 3]) (E2 3) (A9 0 (show Xk (["q","known"]:List Str) by decide+kernel)) (C3 (B3 (a7s hr.units (K:=K) rfl) (F5 1 0) (D2 (.str "refused") k_REFUSED ⟨_,rfl⟩) (a0r _))) 0)) A1))) (A2 (A8 7 a1Z.nd (A6 (b8K T) T.g_z02 T.F_z02.kp T.b_z02 .nil (A0 0 A1))) (A2 (A8 8 a1Z.nd (A6 (a2Q T) T.g_z1w T.F_z1w.kp T.b_z1w .nil (A0 1 A1))) (A2 (A8 9 a1Z.nd D3) (A2 (A8 10 a1Z.nd A3) (A2 (A8 11 a1Z.nd (A6 (b4j T) T.g_z14 T.F_z14.kp T.b_z14 .nil (A0 0 (A0 4 (A0 5 (A0 6 (A0 8 A1))))))) (A2 (G6 (B3 a9Y (C8 a1m T.z_len a1k (A0 11 A1)) A3 (a0r _)) (A2 (G1 (C1 (E2 11) (A9 12 a1Z.nd) (A4 (C6 9 12 (C4 (A0 (F5 11 12) (A0 10 A1))))))) (A2 (D5 (D1 Je Jy Vx a4J 5 (A0 (A6 (a2Q T) T.g_z1w T.F_z1w.kp T.b_z1w .nil (A0 (G3 (C2 (B4 (a0b a4n) a6z ["q","came"] [none,some 11]) (E2 11) (A9 0 (show Xk (["q","came"]:List Str) by decide+kernel)) (C3 (B3 (a7s hr.units (K:=K) rfl) (F5 1 0) (D2 (.str "held") k_HELD ⟨_,rfl⟩) (a0r _))) 0)) A1)) A1))) (A2 (D5 (D1 Je Jy Vx a4J 6 (A0 (A6 (a2Q T) T.g_z1w T.F_z1w.kp T.b_z1w .nil (A0 (G3 (C2 (B4 (a0b a4n) a6z ["q","came"] [none,some 11]) (E2 11) (A9 0 (show Xk (["q","came"]:List Str) by decide+kernel)) (C3 (B3 (a7s hr.units (K:=K) rfl) (F5 1 0) (D2 (.str "refused") k_REFUSED ⟨_,rfl⟩) (a0r _))) 0)) A1)) A1))) (A2 (A8 10 a1Z.nd (A5 a0u 10 A3)) (A2 (H4 (D8 13 (B4 (a0b a4n) a6z ["q","wanted","told"] [none,some 8,some 9]) (E2 (A6 (b7u T) T.g_z1k T.F_z1k.kp T.b_z1k .nil (A0 7 (A0 11 A1)))) (A9 0 (show Xk (["q","wanted","told"]:List Str) by decide+kernel)) (C3 (C7 (D9 (C9 (a2g (a2C hr) ‹0› ‹1›)) (E0 (C9 ‹E9 0 2›))))) 0 a1Z.nd)) (A4 (A8 11 a1Z.nd (A6 (b4j T) T.g_z14 T.F_z14.kp T.b_z14 .nil (A0 0 (A0 4 (A0 5 (A0 6 (A0 13 A1)))))))))))))) (A4 (A7 9))))))))))›,?_⟩
  rw [show start a6z [V.ref g,v1,v2,V.ref kd]=[some (V.ref g),some (v1),some (v2),some (V.ref kd),none,none,none,none,none,none,none,none,none,none] from rfl]
  try simp only [a1p,a1J,a0B,a0j,a0k,Qb,Qa,a0t,Qf,a0l,Qg,Qh,a2f,tC,a0o,b0K,a0e]
  refine ⟨v2,S,rfl,h2,by omega,fun Su H1 s1 hSn hSu=>?_⟩
  have f1:=a5z kn true
  have f2:=a5z kn false
  try simp only []
  refine a2Z (s1 _ _ hkd) (a3e kn) (by rw [Qe];omega) (a0I rfl) [some (V.ref kd)] rfl (fun q=>decide ((q,true)∈kn)) (fun q0 H0 H' R hq off hR s hR'=>a2P (b:=true) hkn hq hR hR') fun L1 H2 hL1 s2 hL2=>?_
  refine ⟨_,_,rfl,.inl ⟨L1,rfl,hL2⟩,by omega,fun He H3 s3 hHen hHe=>?_⟩
  have s13:=s2.trans s3
  try simp only []
  refine a2Z ((s1.trans s13) _ _ hkd) (a3e kn) (by rw [Qe];omega) (a0I rfl) [some (V.ref kd)] rfl (fun q=>decide ((q,false)∈kn)) (fun q0 H0 H' R hq off hR s hR'=>a2P (b:=false) hkn hq hR hR') fun L2 H4 hL2n s4 hL4=>?_
  refine ⟨_,_,rfl,.inl ⟨L2,rfl,hL4⟩,by omega,fun Re H5 s5 hRen hRe=>?_⟩
  have s35:=s4.trans s5
  have s05:=(s1.trans s13).trans s35
  try simp only []
  refine ⟨g,rs,pl,rfl,hG.same s05,hO,hrl,fun Hd H6 s6 hHdn hHd=>?_⟩
  have s06:=s05.trans s6
  have hWl:(sm.foldl a1b []).length≤100:=Qi (a1i sm []) (by simpa using hsl)
  have hWn:(sm.foldl a1b []).Nodup:=a1H sm (by simp)
  have hWm:∀x,x∈sm.foldl a1b []↔x∈sm:=fun x=>by rw [a1O];exact ⟨fun h=>h.elim (fun z=>(by cases z)) id,.inr⟩
  try simp only []
  refine ⟨v1,sm,rfl,h1.same s06,by omega,fun Wa H7 s7 hWan hWa=>?_⟩
  generalize sm.foldl a1b []=W at hWl hWn hWm hWa q
  try skip
  intro To hTo
  obtain ⟨H8,e8,s8,hTo8⟩:=a0Y hTo (.dK []);rw [e8]
  have s68:=s7.trans s8
  have s08:=s06.trans s68
  have hHe6:=s6 _ _ (s35 _ _ hHe)
  have hRe6:=s6 _ _ hRe
  have hSu6:=s6 _ _ (s35 _ _ (s13 _ _ hSu))
  have aSu:∀H',a0i H6 H'→a1q H' (.ref Su) S:=fun H' s=>(a8B (s _ _ hSu6) fun x=>by rw [a1O];exact ⟨fun h=>h.elim (fun z=>(by cases z)) id,.inr⟩).some
  have aHe:∀x,x∈((kn.map (·.1)).filter fun q=>decide ((q,true)∈kn)).foldl a1b []↔x∈ups kn:=fun x=>by rw [a5d,a4W]
  have aRe:∀x,x∈((kn.map (·.1)).filter fun q=>decide ((q,false)∈kn)).foldl a1b []↔x∈a1X kn:=fun x=>by rw [a5d,a2X]
  have lHe:=a1i ((kn.map (·.1)).filter fun q=>decide ((q,true)∈kn)) []
  have lRe:=a1i ((kn.map (·.1)).filter fun q=>decide ((q,false)∈kn)) []
  refine ⟨g,_,_,_,_,rs,pl,S,ups kn,a1X kn,W,rfl,fun H' off=>?_,hO,hrl,.inr ⟨Wa,_,rfl,s8 _ _ hWa,a5x _⟩,hWn,by omega,fun q0 hq0=>(hsm q0 ((hWm q0).mp hq0)).1,fun Cm H9 s9 hCmn hCm=>?_⟩
  ·have s6':a0i H6 H':=off.same s68 hWan
   exact ⟨hG.same (s06.trans s6'),aSu _ s6',(a8B (s6' _ _ hHe6) aHe).some,(a8B (s6' _ _ hRe6) aRe).some⟩
  have hHe8:=s68 _ _ hHe6
  have hRe8:=s68 _ _ hRe6
  have nST:Su≠To:=fun z=>by have:=s7 _ _ hSu6;rw [z,hTo] at this;cases this
  have nSH:Su≠He:=fun z=>by rw [←z,s2 _ _ hSu] at hHen;cases hHen
  have nSR:Su≠Re:=fun z=>by rw [←z,s4 _ _ (s13 _ _ hSu)] at hRen;cases hRen
  have nHT:He≠To:=fun z=>by have:=s7 _ _ hHe6;rw [z,hTo] at this;cases this
  have nRT:Re≠To:=fun z=>by have:=s7 _ _ hRe6;rw [z,hTo] at this;cases this
  have nHR:He≠Re:=fun z=>by rw [←z,s4 _ _ hHe] at hRen;cases hRen
  have hHd6:∃o,H6 Hd=some o:=let ⟨k,a,_⟩:=hHd;⟨_,a⟩
  have nDT:Hd≠To:=fun z=>by obtain ⟨o,e⟩:=hHd6;have:=s7 _ _ e;rw [z,hTo] at this;cases this
  have nDH:Hd≠He:=fun z=>by rw [z,s35 _ _ hHe] at hHdn;cases hHdn
  have nDR:Hd≠Re:=fun z=>by rw [z,hRe] at hHdn;cases hHdn
  have nWT:Wa≠To:=fun z=>by rw [z,hTo] at hWa;cases hWa
  have nWH:Wa≠He:=fun z=>by rw [z,hHe6] at hWan;cases hWan
  have nWR:Wa≠Re:=fun z=>by rw [z,hRe6] at hWan;cases hWan
  try simp only []
  obtain ⟨K3,eK3⟩:∃K3:Hp→Prop,K3=fun H'=>∀b o,H8 b=some o→b≠To→b≠He→b≠Re→H' b=some o:=⟨_,rfl⟩
  have k3of:∀H',K3 H'→∀b o,H8 b=some o→b≠To→b≠He→b≠Re→H' b=some o:=fun H' h=>by rw [eK3] at h;exact h
  have k3to:∀H',(∀b o,H8 b=some o→b≠To→b≠He→b≠Re→H' b=some o)→K3 H':=fun H' h=>by rw [eK3];exact h
  have k3H:∀H',K3 H'→a0i H H':=fun H' k b o e=>k3of _ k b o (s08 _ _ e) (a0c e (none_of s06 (none_of s7 hTo))) (a0c e (none_of (s1.trans s2) hHen)) (a0c e (none_of ((s1.trans s13).trans s4) hRen))
  have k3D:∀H',K3 H'→a3Y H' Hd rs:=fun H' k=>(hHd.same s68).keep fun b o e hb=>by
   rcases hb with rfl | ⟨xs,rfl⟩
   ·exact k3of _ k _ _ e nDT nDH nDR
   ·exact k3of _ k _ _ e (a0E e hTo8 (by intro z;cases z)) (a0E e hHe8 (by intro z;cases z)) (a0E e hRe8 (by intro z;cases z))
  have k3S:∀H',K3 H'→a1q H' (.ref Su) S:=fun H' k=>(a8B (k3of _ k _ _ (s68 _ _ hSu6) nST nSH nSR) fun x=>by rw [a1O];exact ⟨fun h=>h.elim (fun z=>(by cases z)) id,.inr⟩).some
  refine a6A (fun m σ H'=>∃(n:Nat) (T:List Tr) (F:List (Str×Bool)) (cm:Addr) (x12 x13:Option V) (kH kR:List (Key×V)),σ=[some (V.ref g),some v1,some v2,some (V.ref kd),some (V.ref Su),some (V.ref He),some (V.ref Re),some (V.ref Hd),some (V.ref Wa),some (V.ref To),some (V.int ((n:Int)+1)),some (V.ref cm),x12,x13]∧K3 H'∧TAt H' To T∧(T.map (·.1)).Nodup∧IsT rs pl S W (ups kn) (a1X kn) n T∧H' He=some (.dK kH)∧(∀x:Str,(a0P kH (Sum.inr x:Key)).isSome=decide (x∈(rds rs pl S W (ups kn) (a1X kn) n).U))∧kH.length≤100+T.length∧H' Re=some (.dK kR)∧(∀x:Str,(a0P kR (Sum.inr x:Key)).isSome=decide (x∈(rds rs pl S W (ups kn) (a1X kn) n).D))∧kR.length≤100+T.length∧H' cm=some (.dK (wv F))∧(cm≠To∧cm≠He∧cm≠Re∧cm≠Hd)∧(F.map (·.1)).Nodup∧IsF rs pl S W (ups kn) (a1X kn) n F∧m=W.length - T.length)
   W.length ⟨0,[],_,Cm,_,_,_,_,rfl,k3to _ fun b o e _ _ _=>s9 _ _ e,⟨[],rfl,s9 _ _ hTo8,fun _ h=>by cases h⟩,Jb,fun _=>Iff.rfl,s9 _ _ hHe8,(fun x=>by obtain ⟨k,e,h⟩:=a8B (H:=H8) hHe8 aHe;rw [hHe8] at e;cases e;exact h x),(by unfold bv;rw [Qe];simp at lHe;omega),s9 _ _ hRe8,(fun x=>by obtain ⟨k,e,h⟩:=a8B (H:=H8) hRe8 aRe;rw [hRe8] at e;cases e;exact h x),(by unfold bv;rw [Qe];simp at lRe;omega),hCm,⟨fun z=>(by rw [z,hTo8] at hCmn;cases hCmn),fun z=>(by rw [z,hHe8] at hCmn;cases hCmn),fun z=>(by rw [z,hRe8] at hCmn;cases hCmn),fun z=>(by obtain ⟨o,e⟩:=hHd6;rw [z,s68 _ _ e] at hCmn;cases hCmn)⟩,hWn.sublist (a5j _ _ _ _ _ _),b2J,rfl⟩ ?_
  clear hCm hCmn
  rintro m σ H10 ⟨n,T,F,cm,x12,x13,kH,kR,rfl,kk,hT,hTn,hIT,hH,hHm,hHl,hR,hRm,hRl,hC,⟨nCT,nCH,nCR,nCD⟩,hFn,hIF,hm⟩
  have hkey:∀x,x∈(T++F.map fun p=>(p.1,p.2,n+1)).map (·.1)→x∈W:=fun x hx=>by
   rw [a3h (a7G hIT hIF)] at hx
   exact a2A _ _ hx
  have hnew:∀x∈F.map (·.1),x∉T.map (·.1):=fun x hx=>by
   obtain ⟨⟨y,w⟩,hy,rfl⟩:=Qj.mp hx
   have:=(a0p.mp ((hIF _).mp hy)).2.1
   rw [a3h hIT];exact this
  have hnd:((T++F.map fun p=>(p.1,p.2,n+1)).map (·.1)).Nodup:=by
   rw [Xq,Yx]
   refine ⟨hTn,by rw [Xi];exact hFn,fun x hx y hy z=>hnew y (by rw [Xi] at hy;exact hy) (z ▸ hx)⟩
  have hTF:T.length+F.length≤W.length:=by
   have:=a1A hnd hkey
   simpa using this
  try simp only [a1f,tOp,tCB,a0j,a0k,Qb,Qa,a0t,tC,a1p,a1a,a0e]
  refine .inr ⟨cm,_,rfl,hC,?_⟩
  rw [show (wv F).length=F.length from by unfold wv;rw [Qe]]
  try simp only [a3i,a1x,decide_eq_true_eq]
  refine a2c (fun c1=>?_) (fun c1=>?_)
  ·refine ⟨fun σ H'=>∃m',m' < m∧∃(n:Nat) (T:List Tr) (F:List (Str×Bool)) (cm:Addr) (x12 x13:Option V) (kH kR:List (Key×V)),σ=[some (V.ref g),some v1,some v2,some (V.ref kd),some (V.ref Su),some (V.ref He),some (V.ref Re),some (V.ref Hd),some (V.ref Wa),some (V.ref To),some (V.int ((n:Int)+1)),some (V.ref cm),x12,x13]∧K3 H'∧TAt H' To T∧(T.map (·.1)).Nodup∧IsT rs pl S W (ups kn) (a1X kn) n T∧H' He=some (.dK kH)∧(∀x:Str,(a0P kH (Sum.inr x:Key)).isSome=decide (x∈(rds rs pl S W (ups kn) (a1X kn) n).U))∧kH.length≤100+T.length∧H' Re=some (.dK kR)∧(∀x:Str,(a0P kR (Sum.inr x:Key)).isSome=decide (x∈(rds rs pl S W (ups kn) (a1X kn) n).D))∧kR.length≤100+T.length∧H' cm=some (.dK (wv F))∧(cm≠To∧cm≠He∧cm≠Re∧cm≠Hd)∧(F.map (·.1)).Nodup∧IsF rs pl S W (ups kn) (a1X kn) n F∧m'=W.length - T.length,fun _ _ h=>h,?_⟩
   refine b0O (kn:=F.map (·.1)) (fun H0 i σ' H'=>∃(x12:Option V),σ'=[some (V.ref g),some v1,some v2,some (V.ref kd),some (V.ref Su),some (V.ref He),some (V.ref Re),some (V.ref Hd),some (V.ref Wa),some (V.ref To),some (V.int ((n:Int)+1)),some (V.ref cm),x12,x13]∧a3H H0 To H'∧TAt H' To (T++(F.take i).map fun p=>(p.1,p.2,n+1))) hC (a3e F) (a0I rfl) (fun o=>⟨_,rfl,a3H.refl _ _,?_⟩) ?_ ?_ ?_
   ·rw [Uv,Jl,Qf]
    refine hT.keep fun b o e hb=>?_
    rcases hb with rfl | ⟨xs,rfl⟩
    ·rw [a0a nCT.symm];exact e
    ·rw [a0a (a0E e hC (by intro z;cases z))];exact e
   ·rintro o i σ' H' ⟨_,rfl,k,_⟩
    exact k _ _ a0d nCT
   ·rintro o i hi σ' H' rt bk ⟨_,rfl,k,hT'⟩
    have hi':i < F.length:=by simpa using hi
    have hcm':H' cm=some (.frz o (.dK (wv F))):=k _ _ a0d nCT
    have hv:=b0i hFn (show (F[i].1,F[i].2)∈F from Xd hi')
    have hq:F[i].1∉(T++(F.take i).map fun p=>(p.1,p.2,n+1)).map (·.1):=fun z=>by
     rw [Xq,Xa] at z
     rcases z with z | z
     ·exact hnew _ (Qj.mpr ⟨_,Xd hi',rfl⟩) z
     ·rw [Xi] at z
      obtain ⟨x,hx,e⟩:=Qj.mp z
      obtain ⟨j,hj,rfl⟩:=Jd hx
      rw [Yp] at hj
      have e':(F.map (·.1))[j]'(by rw [Qe];omega)=(F.map (·.1))[i]'hi:=by rw [Js,Js,←e,List.getElem_take];rfl
      have:=(Jn hFn).mp e'
      omega
    have hll:(T++(F.take i).map fun p=>(p.1,p.2,n+1)).length≤100000:=by
     rw [Xr,Qe,Yp];omega
    rw [Js,Qv hi',Xq,←Zk]
    try simp only [a0l,a3u,a6S,a0j,b2H,a0k,Qg,Qh,Qb,Qa,a0t,a0e]
    refine ⟨cm,_,rfl,.inl ⟨_,Sum.inr F[i].1,.inr ⟨o,hcm'⟩,rfl,hv.symm⟩,by simp only [Qo,Qz];decide,fun p hp=>?_⟩
    obtain ⟨H11,e11,s11,h11⟩:=a0Y hp (.tup [V.str (wd F[i].2),V.int ((n:Int)+1)]);rw [e11]
    obtain ⟨kv,hput,hT2⟩:=hT'.put (n:=n+1) s11 h11 hq hll
    exact ⟨To,_,rfl,hput,_,rfl,fun b o e n=>by rw [a0a n];exact s11 _ _ (k _ _ e n),hT2⟩
   ·rintro o σ' H' ⟨y12,rfl,k,hT'⟩
    rw [Qe,Xu] at hT'
    have k11:∀b o',H10 b=some o'→b≠To→upd H' cm (.dK (wv F)) b=some o':=fun b o' e nb=>by
     by_cases z:b=cm
     ·rw [z,a0d,←hC,←z];exact e
     ·rw [a0a z];exact k _ _ (by rw [a0a z];exact e) nb
    have hT11:TAt (upd H' cm (.dK (wv F))) To (T++F.map fun p=>(p.1,p.2,n+1)):=hT'.keep fun b o' e hb=>by
     have hcf:H' cm=some (.frz o (.dK (wv F))):=k _ _ a0d nCT
     rcases hb with rfl | ⟨xs,rfl⟩
     ·rw [a0a nCT.symm];exact e
     ·rw [a0a (a0E e hcf (by intro z;cases z))];exact e
    generalize upd H' cm (.dK (wv F))=H11 at k11 hT11
    clear hT' k
    have hC11:=k11 _ _ hC nCT
    have hH11:=k11 _ _ hH nHT
    have hR11:=k11 _ _ hR nRT
    have g1:=a5z F true
    have g2:=a5z F false
    have g3:=a1i ((F.map (·.1)).filter fun q=>decide ((q,true)∈F)) []
    have g4:=a1i ((F.map (·.1)).filter fun q=>decide ((q,false)∈F)) []
    have bvl:∀l:List Str,(bv l).length=l.length:=fun l=>by unfold bv;rw [Qe]
    try simp only [a1p,a4m,tBM,a0k,Qb,Qa,a0j,a0B,a0t,Qf,a1J,tOp,tC,a0l,b3H,Qg,Qh,a0e,a0R]
    refine ⟨.inr (.inr (.inl ⟨rfl,.inl ⟨_,hH11⟩⟩)),a2Z hC11 (a3e F) (by rw [Qe];omega) (a0I rfl) [some (V.ref cm)] rfl (fun q=>decide ((q,true)∈F)) (fun q0 H0 H' R hq off hR s hR'=>a2P (b:=true) hFn hq hR hR') fun L3 H12 hL3 s12 hL12=>?_⟩
    refine ⟨_,_,rfl,.inl ⟨L3,rfl,hL12⟩,by omega,fun KD H13 s13' hKn hKD=>?_⟩
    have s1113:=s12.trans s13'
    have nHK:He≠KD:=fun z=>by rw [←z,s12 _ _ hH11] at hKn;cases hKn
    refine ⟨He,KD,kH,_,rfl,rfl,nHK,s1113 _ _ hH11,hKD,Qi (show _≤1000 by rw [bvl];simp at g3;omega) (by decide),?_⟩
    have hml:=a1j (bv (((F.map (·.1)).filter fun q=>decide ((q,true)∈F)).foldl a1b [])) kH
    obtain ⟨H14,e14,k14,hH14⟩:∃H',upd H13 He (.dK (a1r kH (bv (((F.map (·.1)).filter fun q=>decide ((q,true)∈F)).foldl a1b []))))=H'∧(∀b o,H11 b=some o→b≠He→H' b=some o)∧H' He=some (.dK (a1r kH (bv (((F.map (·.1)).filter fun q=>decide ((q,true)∈F)).foldl a1b [])))):=⟨_,rfl,fun b o e n=>by rw [a0a n];exact s1113 _ _ e,a0d⟩
    rw [e14]
    have hC14:=k14 _ _ hC11 nCH
    have hR14:=k14 _ _ hR11 nHR.symm
    try simp only []
    refine ⟨.inr (.inr (.inl ⟨rfl,.inl ⟨_,hR14⟩⟩)),a2Z hC14 (a3e F) (by rw [Qe];omega) (a0I rfl) [some (V.ref cm)] rfl (fun q=>decide ((q,false)∈F)) (fun q0 H0 H' R hq off hR s hR'=>a2P (b:=false) hFn hq hR hR') fun L4 H15 hL4 s15 hL15=>?_⟩
    refine ⟨_,_,rfl,.inl ⟨L4,rfl,hL15⟩,by omega,fun KE H16 s16 hKEn hKE=>?_⟩
    have s1416:=s15.trans s16
    have nRK:Re≠KE:=fun z=>by rw [←z,s15 _ _ hR14] at hKEn;cases hKEn
    refine ⟨Re,KE,kR,_,rfl,rfl,nRK,s1416 _ _ hR14,hKE,Qi (show _≤1000 by rw [bvl];simp at g4;omega) (by decide),?_⟩
    have hml2:=a1j (bv (((F.map (·.1)).filter fun q=>decide ((q,false)∈F)).foldl a1b [])) kR
    obtain ⟨H17,e17,k17,hR17⟩:∃H',upd H16 Re (.dK (a1r kR (bv (((F.map (·.1)).filter fun q=>decide ((q,false)∈F)).foldl a1b []))))=H'∧(∀b o,H14 b=some o→b≠Re→H' b=some o)∧H' Re=some (.dK (a1r kR (bv (((F.map (·.1)).filter fun q=>decide ((q,false)∈F)).foldl a1b [])))):=⟨_,rfl,fun b o e n=>by rw [a0a n];exact s1416 _ _ e,a0d⟩
    rw [e17]
    rw [bvl] at hml hml2
    have hC17:=k17 _ _ hC14 nCR
    have hH17:=k17 _ _ hH14 nHR
    have hHm17:=DAt.merge hHm (b2e hIF)
    have hRm17:=DAt.merge hRm (b2V hIF)
    have hIT1:=a7G hIT hIF
    have hT17:TAt H17 To (T++F.map fun p=>(p.1,p.2,n+1)):=hT11.keep fun b o' e hb=>by
     rcases hb with rfl | ⟨xs,rfl⟩
     ·exact k17 _ _ (k14 _ _ e nHT.symm) nRT.symm
     ·exact k17 _ _ (k14 _ _ e (a0E e hH11 (by intro z;cases z))) (a0E e hR11 (by intro z;cases z))
    have kk17:K3 H17:=k3to _ fun b o e n1 n2 n3=>k17 _ _ (k14 _ _ (k11 _ _ (k3of _ kk _ _ e n1 n2 n3) n1) n2) n3
    generalize a1r kH (bv (((F.map (·.1)).filter fun q=>decide ((q,true)∈F)).foldl a1b []))=kH' at hml hH17 hHm17
    generalize a1r kR (bv (((F.map (·.1)).filter fun q=>decide ((q,false)∈F)).foldl a1b []))=kR' at hml2 hR17 hRm17
    have hTl1:(T++F.map fun p=>(p.1,p.2,n+1)).length=T.length+F.length:=by rw [Xr,Qe]
    generalize hTe:(T++F.map fun p=>(p.1,p.2,n+1))=T1 at hT17 hIT1 hnd hkey hTl1
    have hW17:=k3of _ kk17 _ _ (s8 _ _ hWa) nWT nWH nWR
    obtain ⟨kT,hkT,_,hkTm⟩:=hT17.keys
    try simp only []
    refine ⟨Hd,cm,rs,F,rfl,fun H' off=>(k3D _ kk17).keep fun b o e hb=>off b o e fun z=>?_,hC17,by omega,hO,hrl,fun Dt kt H18 s18 hDtn hDt hktn hktl hktm=>?_⟩
    ·cases z
     rcases hb with w | ⟨xs,rfl⟩
     ·exact nCD w
     ·rw [hC17] at e;cases e
    refine a9x hDt (a5x kt) hktl s18 [some (V.ref Wa),some (V.ref To)] (by rfl) (fun q=>decide (q∈W) && decide (q∉T1.map (·.1))) (fun q0 H0 H' R hq off s hR'=>?_) fun As H19 hAsn s19 hAs=>?_
    ·have hW':=s _ _ (off.keep _ _ (s18 _ _ hW17) fun z=>by cases z;rw [hW17] at hDtn;cases hDtn)
     have hT':=s _ _ (off.keep _ _ (s18 _ _ hkT) fun z=>by cases z;rw [hkT] at hDtn;cases hDtn)
     have:=hR' _ (a0i.refl _)
     try simp only [b1K,tB,b2c,a0k,Qa,Qb,a2r,a1x,a0e]
     refine ⟨Wa,_,rfl,a2n.k (k:=(Sum.inr q0:Key)) hW',?_⟩
     rw [a1t]
     by_cases z1:q0∈W
     ·rw [if_pos z1]
      rw [decide_eq_true z1,Jt] at this
      refine ⟨To,_,rfl,a2n.k (k:=(Sum.inr q0:Key)) hT',?_⟩
      rw [hkTm,show (!decide (q0∈T1.map (·.1)))=decide (q0∉T1.map (·.1)) from by simp]
      exact this
     ·rw [if_neg z1]
      rw [decide_eq_false z1,Ja] at this
      exact this
    try simp only [a1J,a0B,a0j,a0k,Qa,Qb,a0t,Qf,a0l,Qg,Qh,a0e]
    have ha:∀x,x∈kt.filter (fun q=>decide (q∈W) && decide (q∉T1.map (·.1)))↔tch rs (F.map (·.1)) x∧x∈W∧x∉T1.map (·.1):=fun x=>by
     rw [Qq,hktm,Xc,decide_eq_true_eq,decide_eq_true_eq]
    have hfl:=Qu (fun q=>decide (q∈W) && decide (q∉T1.map (·.1))) kt
    have hfn:(kt.filter (fun q=>decide (q∈W) && decide (q∉T1.map (·.1)))).Nodup:=hktn.sublist List.filter_sublist
    generalize kt.filter (fun q=>decide (q∈W) && decide (q∉T1.map (·.1)))=ask at ha hfl hfn hAs
    have hlt:W.length - T1.length < m:=by
     have:0 < F.length:=by omega
     omega
    refine ⟨g,_,_,_,_,rs,pl,S,(rds rs pl S W (ups kn) (a1X kn) (n+1)).U,(rds rs pl S W (ups kn) (a1X kn) (n+1)).D,ask,rfl,fun H' off=>?_,hO,hrl,.inl ⟨As,rfl,hAs⟩,hfn,by omega,fun q0 hq0=>(hsm q0 ((hWm q0).mp ((ha q0).mp hq0).2.1)).1,fun C2 H20 s20 hC2n hC2=>?_⟩
    ·have s18':a0i H18 H':=off.same s19 hAsn
     have kk':K3 H':=k3to _ fun b o e n1 n2 n3=>s18' _ _ (s18 _ _ (k3of _ kk17 _ _ e n1 n2 n3))
     exact ⟨hG.same (k3H _ kk'),k3S _ kk',.inr ⟨He,_,rfl,s18' _ _ (s18 _ _ hH17),hHm17⟩,.inr ⟨Re,_,rfl,s18' _ _ (s18 _ _ hR17),hRm17⟩⟩
    have s1720:=(s18.trans s19).trans s20
    have hn19:∀{x:Addr} {o:HO},H17 x=some o→C2≠x:=fun {x o} e z=>by rw [z,s19 _ _ (s18 _ _ e)] at hC2n;cases hC2n
    refine ⟨_,hlt,n+1,T1,_,C2,_,_,kH',kR',rfl,k3to _ fun b o e n1 n2 n3=>s1720 _ _ (k3of _ kk17 _ _ e n1 n2 n3),hT17.same s1720,hnd,hIT1,s1720 _ _ hH17,hHm17,by simp at g3;omega,s1720 _ _ hR17,hRm17,by simp at g4;omega,hC2,⟨hn19 hkT,hn19 hH17,hn19 hR17,?_⟩,hfn.sublist (a5j _ _ _ _ _ _),b2G (fun q0 hq0=>(hsm q0 ((hWm q0).mp hq0)).2) hIT1 hIF ha,rfl⟩
    obtain ⟨kv,e,_⟩:=k3D _ kk17
    exact hn19 e
  ·have hF0:F=[]:=by
    cases F with
    | nil=>rfl
    | cons x l=>exact absurd (by simp only [Qo];omega) c1
   subst hF0
   try skip
   exact q To T n H10 (k3H _ kk) (none_of s06 (none_of s7 hTo)) hT hTn (b5s hIF) hIT
theorem b7N (T:Txt K mg t):a0S P w K mg base CX0 1 t.f_z0h t.fd_z0h ["self"] (a0V true):=by
 refine T.F_z0h.ok b9Y (fun vs H Q E h=>?_) (fun cdv A outer s H vs Q E hr h=>?_)
 ·obtain ⟨x,rfl,q⟩:=h;rfl
 ·obtain ⟨x,rfl,q⟩:=h
  refine ⟨_,‹A4 (A7 B2)›,?_⟩
  rw [show start b7Y [x]=[some (x)] from rfl]
  try simp only [a1a,tC]
  exact q
theorem b3p (T:Txt K mg t):a0S P w K mg base CX0 1 t.f_z0f t.fd_z0f ["self"] (a0V false):=by
 refine T.F_z0f.ok b6K (fun vs H Q E h=>?_) (fun cdv A outer s H vs Q E hr h=>?_)
 ·obtain ⟨x,rfl,q⟩:=h;rfl
 ·obtain ⟨x,rfl,q⟩:=h
  refine ⟨_,‹A4 (A7 B2)›,?_⟩
  rw [show start b8y [x]=[some (x)] from rfl]
  try simp only [a1a,tC]
  exact q
theorem b6I (T:Txt K mg t):a0S P w K mg base CX0 1 t.f_z0i t.fd_z0i ["self"] (a0V true):=by
 refine T.F_z0i.ok b7A (fun vs H Q E h=>?_) (fun cdv A outer s H vs Q E hr h=>?_)
 ·obtain ⟨x,rfl,q⟩:=h;rfl
 ·obtain ⟨x,rfl,q⟩:=h
  refine ⟨_,‹A4 (A7 B2)›,?_⟩
  rw [show start b6H [x]=[some (x)] from rfl]
  try simp only [a1a,tC]
  exact q
theorem b9I (T:Txt K mg t):a0S P w K mg base CX0 3 t.f_z0n t.fd_z0n ["rules","known"] (c0p K t):=by
 refine T.F_z0n.ok a2F (fun vs H Q E h=>?_) (fun cdv A outer s H vs Q E hr h=>?_)
 ·obtain ⟨a,kv,xs,rs,kn,rfl,ha,hA,hO,hrl,hk,hkl,q⟩:=h;rfl
 ·obtain ⟨a,kv,xs,rs,kn,rfl,ha,hA,hO,hrl,hk,hkl,q⟩:=h
  refine ⟨_,‹D7 (A8 2 a2F.nd (A6 (a2Q T) T.g_z1w T.F_z1w.kp T.b_z1w .nil (A0 (G8 (B3 b9z 1 H5 (a0r _)) (B9 A1) 1) A1))) (A2 (D8 3 (B4 (a0b a2B) a8C ["rule","sure"] [none,some 2]) (B7 0) (A9 0 (show Xk (["rule","sure"]:List Str) by decide+kernel)) (C3 (C7 (D9 (B8 (E5 (D4 0 T.cl_Fact T.me_Fact_is_sure (b7N T) T.b_z0h) (E5 (D4 0 T.cl_Sure T.me_Sure_is_sure (b6I T) T.b_z0i) (E5 (D4 0 T.cl_Most T.me_Most_is_sure (b3p T) T.b_z0f) (D4 0 T.cl_Block T.me_Block_is_sure (b3p T) T.b_z0f))))) (E0 (C9 ‹E9 (E1 0) 1›))))) 0 a2F.nd) (A2 (A8 4 a2F.nd D3) (A2 (A8 5 a2F.nd A3) (A2 (D8 6 (B4 (a0b a2B) a8C ["rule","sure"] [none,some 2]) (B7 3) (A9 0 (show Xk (["rule","sure"]:List Str) by decide+kernel)) (C3 (B8 (A6 (a7n T) T.g_z11 T.F_z11.kp T.b_z11 .nil (A0 (E1 0) (A0 1 A1))))) (E1 0) a2F.nd) (A2 (G6 (B3 a9Y (C8 a1m T.z_len a1k (A0 6 A1)) A3 (a0r _)) (A2 (C1 (B7 6) (A9 7 a2F.nd) (A2 (C6 4 7 5) (A4 (C6 2 7 B2)))) (A2 (D8 3 (B4 (a0b a2B) a8C ["rule","sure"] [none,some 2]) (B7 3) (A9 0 (show Xk (["rule","sure"]:List Str) by decide+kernel)) (C3 (C9 ‹E9 (E1 0) 1›)) 0 a2F.nd) (A2 (A8 5 a2F.nd (A5 a0u 5 A3)) (A4 (D8 6 (B4 (a0b a2B) a8C ["rule","sure"] [none,some 2]) (B7 3) (A9 0 (show Xk (["rule","sure"]:List Str) by decide+kernel)) (C3 (B8 (A6 (a7n T) T.g_z11 T.F_z11.kp T.b_z11 .nil (A0 (E1 0) (A0 1 A1))))) (E1 0) a2F.nd)))))) (A4 (A7 4)))))))›,?_⟩
  rw [show start a8C [V.ref a,kv]=[some (V.ref a),some (kv),none,none,none,none,none,none] from rfl]
  have hkl':(kn.foldl a1b []).length≤100:=Qi (a1i kn []) (by simpa using hkl)
  have hkn:(kn.foldl a1b []).Nodup:=a1H kn (by simp)
  try simp only [a0o,a1y,a0k]
  refine ⟨fun σ' H'=>∃D,σ'=[some (V.ref a),some kv,some (V.ref D),none,none,none,none,none]∧a0i H H'∧H D=none∧H' D=some (.dK (bv (kn.foldl a1b []))),?_,?_⟩
  ·rcases hk with ⟨rfl,rfl⟩ | ⟨b,rfl,hb⟩
   ·try simp only [a1J,a0B,a0j,tIf,a1f,tOp,a0k,Qb,Qa,tC,a3c,a0t,Qf,a0l,Qg,Qh,a0e,b1P,a1x,if_true]
    refine ⟨by decide,fun p hp=>?_⟩
    obtain ⟨H1,e1,s1,h1⟩:=a0Y hp (.lst []);rw [e1]
    exact ⟨_,[],rfl,.inl ⟨p,rfl,h1⟩,by decide,fun D H' s hD hD'=>⟨D,rfl,s1.trans s,none_of s1 hD,hD'⟩⟩
   ·try simp only [a1J,a0B,a0j,tIf,a1f,tOp,a0k,Qb,Qa,tC,a3c,a0t,Qf,a0l,Qg,Qh,a0e,b1M,a1x,a3M]
    exact ⟨_,kn,rfl,.inl ⟨b,rfl,hb⟩,by omega,fun D H' s hD hD'=>⟨D,rfl,s,hD,hD'⟩⟩
  rintro σ H1 ⟨D,rfl,s1,hD,hD1⟩
  generalize kn.foldl a1b []=k0 at hD1 hkl' hkn q
  obtain ⟨zr,ez1,ez2,hz⟩:=hA.zip hO
  subst ez1 ez2
  have hzl:zr.length≤100:=by simpa using hrl
  try simp only [a1p,Qa,a1J,a2f,a0l,tC,Qg,Qh,Qb,a0e,a0z]
  refine ⟨⟨_,SqL.of (s1 _ _ ha)⟩,?_⟩
  refine a1V zr (s1 _ _ ha) (by omega) (hz.same s1) [some (V.ref D)] rfl (fun r=>(srW r).1 && decide ((srW r).2.1∉k0)) (fun p=>p.1) (fun x r H' R ho hr s hR=>?_) (fun x r H' R ho hr s hR=>?_) (fun W H2 hWn s2 hW2=>?_)
  ·try simp only [b1K,tB,a2r,a3w,a0k,Qa,Qb,a1x,a0e]
   have CF:=a8p T ho.1
   refine c4C ho.1 (a0I rfl) hr ⟨by decide+kernel,by decide+kernel,by decide+kernel⟩ ?_
   rw [b1a ho.1]
   try simp only [a4u,a1x,decide_eq_true_eq]
   obtain ⟨dx,t0,h1,h2⟩:=hr
   have:=hR _ (a0i.refl _)
   refine a2c (fun c=>?_) (fun c=>?_)
   ·have e1:(srW r).1=true:=decide_eq_true (by have:=c;omega)
    refine ⟨x,_,dx,_,_,rfl,h1,CF.cl,CF.nh,a1l _ _ _,D,_,rfl,c3K (s _ _ hD1) _,?_⟩
    rw [e1,Jt] at this
    by_cases h:r.2.2.1∈k0
    ·rw [if_pos h];rw [decide_eq_false (show ¬¬(srW r).2.1∈k0 from fun z=>z h)] at this;exact this
    ·rw [if_neg h];rw [decide_eq_true (show ¬(srW r).2.1∈k0 from h)] at this;exact this
   ·have e1:(srW r).1=false:=decide_eq_false (by have:=c;omega)
    rw [e1,Ja] at this;exact this
  ·try simp only [a0k,Qa,a0e]
   exact hR _ (a0i.refl _)
  try simp only [a0z]
  obtain ⟨RS,eRS⟩:∃RS,(zr.map (·.2)).map srW=RS:=⟨_,rfl⟩
  rw [eRS] at q
  have hRl:RS.length≤100:=by rw [←eRS];simpa using hzl
  intro R hR0
  obtain ⟨H3,e3,s3,hR3⟩:=a0Y hR0 (.dK []);rw [e3]
  have hD3:=s3 _ _ (s2 _ _ hD1)
  have hW3:=s3 _ _ hW2
  have s03:=(s1.trans s2).trans s3
  have hRn:H R=none:=none_of (s1.trans s2) hR0
  have hDR:D≠R:=fun z=>by have e:=s2 _ _ hD1;rw [z,hR0] at e;cases e
  refine ⟨⟨_,SqL.of hW3⟩,?_⟩
  have hAm:∀(S:List Str) (x:Addr) (r:Rw) (H':Hp) (R:Bool→Hp→Prop),a1B r→a1R H' x (a4o t r.1) (.str r.2.1) (.str r.2.2.1) (r.2.2.2.map V.str)→H' D=some (.dK (bv S))→(∀H'',a0i H' H''→R ((srW r).2.2.all fun q=>decide (q∈S)) H'')→tB (a0B a7K [] E0 (a0j (a3w K (a0k 0) "body") (a0j (a0k 1) a0t))) [some (V.ref x),some (V.ref D)] H' R:=by
   intro S x r H' R ho hr hD' hR
   have CF:=a8p T ho.1
   obtain ⟨dx,t0,h1,h2⟩:=hr
   try simp only [tB,a0B,a0j,a3w,a0k,Qa,Qb,a0t,Qf,a0e]
   refine ⟨x,_,dx,_,_,rfl,h1,CF.cl,CF.nb,a1K _ _ _,?_⟩
   refine ⟨t0,_,r.2.2.2,S,rfl,h2,by have:=ho.2.2.2.2.2;omega,c7O hD',fun H'' s''=>?_⟩
   try simp only [a1x]
   exact hR _ s''
  have hHd:∀(x:Addr) (r:Rw) (H':Hp) (R:V→Hp→Prop),a1B r→a1R H' x (a4o t r.1) (.str r.2.1) (.str r.2.2.1) (r.2.2.2.map V.str)→(∀H'',a0i H' H''→R (V.str (srW r).2.1) H'')→a3w K (a0k 0) "head" [some (V.ref x),some (V.ref D)] H' R:=by
   intro x r H' R ho hr hR
   have CF:=a8p T ho.1
   obtain ⟨dx,t0,h1,h2⟩:=hr
   try simp only [a3w,a0k,Qa,a0e]
   exact ⟨x,_,dx,_,_,rfl,h1,CF.cl,CF.nh,a1l _ _ _,hR _ (a0i.refl _)⟩
  refine a1V (wat zr k0) hW3 (Qi (a6U _ _) (by omega)) ((b0p hz).same s03) [some (V.ref D)] rfl (fun r=>(srW r).2.2.all fun q=>decide (q∈k0)) (fun p=>V.str (srW p.2).2.1) (fun x r H' R ho hr s hR=>hAm k0 x r H' R ho hr (s _ _ hD3) hR) (fun x r H' R ho hr s hR=>hHd x r H' R ho hr hR) (fun F H4 hFn s4 hF4=>?_)
  rw [a7S,eRS] at hF4
  refine a6A (fun m σ H'=>∃(n:Nat) (W F:Addr) (x7:Option V),σ=[some (V.ref a),some kv,some (V.ref D),some (V.ref W),some (V.ref R),some (V.int ((n:Int)+1)),some (V.ref F),x7]∧a0i H H'∧H' D=some (.dK (bv (sS RS k0 n)))∧H' R=some (.dK (dv (sR RS k0 n)))∧H' W=some (.lst ((wat zr (sS RS k0 n)).map (·.1)))∧H' F=some (.lst ((frs RS (sS RS k0 n)).map V.str))∧m=b4d RS (sS RS k0 n))
   (b4d RS k0) ⟨0,W,F,_,rfl,s03.trans s4,s4 _ _ hD3,s4 _ _ hR3,s4 _ _ hW3,hF4,rfl⟩ ?_
  clear hF4 hFn s4 hW3 hW2 hWn
  rintro m σ H4 ⟨n,W,F,x7,rfl,s4,hD4,hR4,hW4,hF4,hm⟩
  have hfl:=b5H RS (sS RS k0 n)
  have hSl:=b3W (rs:=RS) hkn n
  have hRl':=b3S (rs:=RS) hkn n
  try simp only [a1f,tOp,tCB,a0j,a0k,Qb,Qa,a0t,tC,a1p,a0L,a1y,a0e,a0z,a1a]
  refine a1P (SqL.of hF4) ?_
  rw [Qe]
  try simp only [a3i,a1x,decide_eq_true_eq]
  refine a2c (fun c1=>?_) (fun c1=>?_)
  ·have hne:frs RS (sS RS k0 n)≠[]:=fun z=>by rw [z] at c1;exact absurd c1 (by decide)
   refine ⟨fun σ' H'=>∃m',m' < m∧∃(n:Nat) (W F:Addr) (x7:Option V),σ'=[some (V.ref a),some kv,some (V.ref D),some (V.ref W),some (V.ref R),some (V.int ((n:Int)+1)),some (V.ref F),x7]∧a0i H H'∧H' D=some (.dK (bv (sS RS k0 n)))∧H' R=some (.dK (dv (sR RS k0 n)))∧H' W=some (.lst ((wat zr (sS RS k0 n)).map (·.1)))∧H' F=some (.lst ((frs RS (sS RS k0 n)).map V.str))∧m'=b4d RS (sS RS k0 n),fun _ _ h=>h,⟨_,SqL.of hF4⟩,?_⟩
   have hFD:F≠D:=a0E hF4 hD4 (by intro z;cases z)
   have hFR:F≠R:=a0E hF4 hR4 (by intro z;cases z)
   have hWD:W≠D:=a0E hW4 hD4 (by intro z;cases z)
   have hWR:W≠R:=a0E hW4 hR4 (by intro z;cases z)
   refine a1v (K:=K) (a:=F) (xs:=(frs RS (sS RS k0 n)).map V.str) (fun j σ H'=>∃(x7:Option V),σ=[some (V.ref a),some kv,some (V.ref D),some (V.ref W),some (V.ref R),some (V.int ((n:Int)+1)),some (V.ref F),x7]∧a0i H H'∧H' D=some (.dK (bv (((frs RS (sS RS k0 n)).take j).foldl a1b (sS RS k0 n))))∧H' R=some (.dK (dv (((frs RS (sS RS k0 n)).take j).foldl (a4i (n+1)) (sR RS k0 n))))∧H' W=some (.lst ((wat zr (sS RS k0 n)).map (·.1)))∧H' F=some (.lst ((frs RS (sS RS k0 n)).map V.str)))
    ⟨_,rfl,s4,hD4,hR4,hW4,hF4⟩ (fun j σ H' _ h=>by obtain ⟨_,_,_,_,_,_,h⟩:=h;exact SqL.of h) ?_ ?_
   ·rintro j x σ H5 hj ⟨x9,rfl,s5,hD5,hR5,hW5,hF5⟩
    have hjl:j < (frs RS (sS RS k0 n)).length:=by simpa using (Qp.mp hj).1
    have ex:x=V.str (frs RS (sS RS k0 n))[j]:=by
     rw [Qm,Qc hjl] at hj
     exact (Option.some.inj hj).symm
    subst ex
    have hnew:=a6D (Xd hjl)
    rw [Qv hjl,Zx,Zx]
    have hlkt:lk (((frs RS (sS RS k0 n)).take j).foldl (a4i (n+1)) (sR RS k0 n)) (frs RS (sS RS k0 n))[j]=none∨lk (((frs RS (sS RS k0 n)).take j).foldl (a4i (n+1)) (sR RS k0 n)) (frs RS (sS RS k0 n))[j]=some (n+1):=by
     rw [a5t fun h hh=>.inl (a6D (Zy hh)),hnew]
     split
     ·exact .inr rfl
     ·exact .inl rfl
    have l1:=a1i ((frs RS (sS RS k0 n)).take j) (sS RS k0 n)
    have l2:=a5D (n+1) ((frs RS (sS RS k0 n)).take j) (sR RS k0 n)
    have l3:((frs RS (sS RS k0 n)).take j).length≤100:=by rw [Yp];omega
    have nd:=a4c (n+1) ((frs RS (sS RS k0 n)).take j) (a1c (rs:=RS) (kn:=k0) n)
    generalize ((frs RS (sS RS k0 n)).take j).foldl (a4i (n+1)) (sR RS k0 n)=R5 at hR5 l2 nd hlkt
    generalize ((frs RS (sS RS k0 n)).take j).foldl a1b (sS RS k0 n)=S5 at hD5 l1
    try simp only [a0l,a1p,a3u,a0k,Qg,Qh,Qb,Qa,tC,a0e]
    refine ⟨R,_,rfl,c5B (n:=n+1) hR5 (by omega) nd hlkt,?_⟩
    refine ⟨D,_,rfl,b5r (by rw [a0a hDR];exact hD5) (by omega) _,_,rfl,?_,a0d,?_,?_,?_⟩
    ·intro b o e;rw [a0a (a0c e hD),a0a (a0c e hRn)];exact s5 _ _ e
    ·rw [a0a hDR.symm,a0d];rfl
    ·rw [a0a hWD,a0a hWR];exact hW5
    ·rw [a0a hFD,a0a hFR];exact hF5
   ·rintro σ H5 ⟨x9,rfl,s5,hD5,hR5,hW5,hF5⟩
    rw [Qe,Xu] at hD5 hR5
    have hD5':H5 D=some (.dK (bv (sS RS k0 (n+1)))):=hD5
    have hR5':H5 R=some (.dK (dv (sR RS k0 (n+1)))):=hR5
    clear hD5 hR5
    have hsub:∀x,x∈sS RS k0 n→x∈sS RS k0 (n+1):=fun x hx=>a3V.mpr (.inl hx)
    have hlack:=a6h hne
    try simp only [a1p,Qb,Qa,a1J,tOp,a0k,Qg,Qh,tC,a0l,a0e,a0R,a0z]
    refine ⟨⟨_,SqL.of hW5⟩,?_⟩
    refine a1V (wat zr (sS RS k0 n)) hW5 (Qi (a6U _ _) (by omega)) ((b0p hz).same s5) [some (V.ref D)] rfl (fun r=>decide ((srW r).2.1∉sS RS k0 (n+1))) (fun p=>p.1) (fun x r H' R ho hr s hR=>?_) (fun x r H' R ho hr s hR=>?_) (fun W' H6 hWn s6 hW6=>?_)
    ·have CF:=a8p T ho.1
     obtain ⟨dx,t0,h1,h2⟩:=hr
     try simp only [tB,a2r,a3w,a0k,Qa,Qb,a1x,a0e]
     refine ⟨x,_,dx,_,_,rfl,h1,CF.cl,CF.nh,a1l _ _ _,D,_,rfl,c3K (s _ _ hD5') _,?_⟩
     have:=hR _ (a0i.refl _)
     by_cases h:r.2.2.1∈sS RS k0 (n+1)
     ·rw [if_pos h];rw [decide_eq_false (show ¬¬(srW r).2.1∈sS RS k0 (n+1) from fun z=>z h)] at this;exact this
     ·rw [if_neg h];rw [decide_eq_true (show ¬(srW r).2.1∈sS RS k0 (n+1) from h)] at this;exact this
    ·try simp only [a0k,Qa,a0e]
     exact hR _ (a0i.refl _)
    rw [b8b zr hsub] at hW6
    have hD6:=s6 _ _ hD5'
    try simp only [a0z]
    refine ⟨⟨_,SqL.of hW6⟩,?_⟩
    refine a1V (wat zr (sS RS k0 (n+1))) hW6 (Qi (a6U _ _) (by omega)) ((b0p hz).same (s5.trans s6)) [some (V.ref D)] rfl (fun r=>(srW r).2.2.all fun q=>decide (q∈sS RS k0 (n+1))) (fun p=>V.str (srW p.2).2.1) (fun x r H' R ho hr s hR=>hAm _ x r H' R ho hr (s _ _ hD6) hR) (fun x r H' R ho hr s hR=>hHd x r H' R ho hr hR) (fun F' H7 hFn s7 hF7=>?_)
    rw [a7S,eRS] at hF7
    have s57:=s6.trans s7
    exact ⟨_,by rw [hm];exact hlack,n+1,W',F',_,rfl,s5.trans s57,s57 _ _ hD5',s57 _ _ hR5',s7 _ _ hW6,hF7,rfl⟩
  ·have he:frs RS (sS RS k0 n)=[]:=by
    cases e:frs RS (sS RS k0 n) with
    | nil=>rfl
    | cons x l=>rw [e] at c1;exact absurd (by simp only [Qo];omega) c1
   rw [b6G he] at hR4
   try skip
   exact q R H4 s4 hRn hR4
theorem b7n (T:Txt K mg t):a0S P w K mg base CX0 4 t.f_z0u t.fd_z0u ["ground"] (b5g t):=by
 refine T.F_z0u.okC b3o (fun vs H Q E h=>?_) (fun A outer s H vs Q E hr h=>?_)
 ·obtain ⟨g,rs,pl,rfl,hG,hO,hrl,lt,q⟩:=h;rfl
 ·obtain ⟨g,rs,pl,rfl,hG,hO,hrl,lt,q⟩:=h
  refine ⟨_,‹A2 (A8 1 b3o.nd (A6 (b9I T) T.g_z0n T.F_z0n.kp T.bd_z0n (.cons (show a0O .non Value.none from rfl) .nil) (A0 (D4 0 T.cl_Ground T.me_Ground_rules (b3x T) T.b_z0k) A1))) (A4 (A7 (H6 ("statement") ["ranks"] [some 1] a1S 0 rfl rfl (hr.mono (by decide)) rfl T.z_sorted T.L_z0u T.LB 1 (B4 (a0b a8l) b5f ["statement","ranks"] [none,some 1]) rfl rfl rfl (fun _ _ _ _ _ _=>rfl) a2D rfl (fun _ _ _ _ _ _ hr=>‹C4 (A0 (F5 1 0) (A0 0 A1))›))))›,?_⟩
  rw [show start b5f [V.ref g]=[some (V.ref g),none] from rfl]
  obtain ⟨dx,io,bh,pr,_,_,_,hg1,_⟩:=id hG
  try simp only [a1p,a1J,a0B,a0j,a1u,a0k,Qa,a0t,Qf,Jp,Uk,a0l,a1a,b4l,Qg,Qh,Qb,a0e]
  refine ⟨g,dx,_,rfl,hg1,a2l _ _ _ (by decide+kernel) (by decide+kernel) (by decide+kernel),g,rs,pl,rfl,hG,fun W ys H1 s1 hWn hW1 hR1=>?_⟩
  refine ⟨W,_,ys,rs,[],rfl,hW1,hR1,hO,by omega,.inl ⟨rfl,rfl⟩,by decide,fun Fd H2 s2 hFn hF2=>?_⟩
  obtain ⟨F,eF⟩:∃F,FIN (rs.map srW) []=F:=⟨_,rfl⟩
  have hF2':H2 Fd=some (.dK (dv F)):=by rw [←eF];exact hF2
  have hFn':(F.map (·.1)).Nodup:=by rw [←eF];exact a9T _ _
  have hFl:F.length≤63:=by rw [←eF];exact Qi (a9G rs) hrl
  have lt2:=lt.mono (s1.trans s2)
  try skip
  refine ⟨Fd,dv F,F.map (·.1),gF (rs.map srW),rfl,hF2',b4I F,by rw [Qe];omega,hFn',lt2,fun z hz H3 k3=>?_,fun l H' ss lt' k' hln hl' hp hs=>?_⟩
  ·have hF3:=a7w lt2 k3 hF2' (by intro _ z;cases z)
   try simp only [a6S,a0j,b2H,a0k,Qb,Qa,a0t,a0z,a0e]
   obtain ⟨p0,hp0,rfl⟩:=Qj.mp hz
   have hlk:=b1A hFn' hp0
   have hg:gF (rs.map srW) p0.1=(p0.2:Int):=by unfold gF;rw [eF,hlk];rfl
   have hd:=a2n.k (k:=(Sum.inr p0.1:Key)) hF3
   rw [a5u,hlk] at hd
   exact ⟨_,rfl,Fd,_,rfl,hd,by simp only [Qo,Qz];decide,fun p hp=>⟨by rw [a0d,hg],a0i.upd hp⟩⟩
  ·exact q l ss H' lt' (fun a o n e=>k' a o n (s2 _ _ (s1 _ _ e))) (none_of (s1.trans s2) hln) hl' ⟨by rw [eF];exact hp,hs⟩
theorem b7Q (T:Txt K mg t):a0S P w K mg base CX0 6 t.f_z0b t.fd_z0b ["self","ground"] (c0q t):=by
 refine T.F_z0b.ok b9B (fun vs H Q E h=>?_) (fun cdv A outer s H vs Q E hr h=>?_)
 ·obtain ⟨x,dx,g,rs,pl,po,H0,rfl,hx,s0,hxn,hG0,hO,hrl,hpo,hpl,hqs,lt0,q⟩:=h;rfl
 ·obtain ⟨x,dx,g,rs,pl,po,H0,rfl,hx,s0,hxn,hG0,hO,hrl,hpo,hpl,hqs,lt0,q⟩:=h
  refine ⟨_,‹A2 (E3 0 (A6 (a2Q T) T.g_z1w T.F_z1w.kp T.b_z1w .nil (A0 (D4 1 T.cl_Ground T.me_Ground_statements (b3Z T) T.b_z01) A1))) (A2 (E3 0 (A6 (a2Q T) T.g_z1w T.F_z1w.kp T.b_z1w .nil (A0 (A6 (b7n T) T.g_z0u T.F_z0u.kp T.b_z0u .nil (A0 1 A1)) A1))) (A4 (E3 0 (A6 (b6X T) T.g_z0o T.F_z0o.kp T.b_z0o .nil (A0 1 (A0 (D4 1 T.cl_Ground T.me_Ground_statements (b3Z T) T.b_z01) (A0 (C5 0) (A0 D3 A1))))))))›,?_⟩
  rw [show start b6F [V.ref x,V.ref g]=[some (V.ref x),some (V.ref g)] from rfl]
  obtain ⟨gx,io,bh,pr,_,_,_,hg0,_⟩:=id hG0
  have ngx:g≠x:=a0c hg0 hxn
  try simp only [a1p,b9d,a0B,a0j,a1u,a0k,Qb,Qa,a0t,Qf,a3w,a2f,a0e]
  refine ⟨g,gx,_,rfl,s0 _ _ hg0,a2l _ _ _ (by decide+kernel) (by decide+kernel) (by decide+kernel),g,rs,pl,po,rfl,hG0.same s0,hO,hrl,hpo,hpl,fun S1 St H1 s1 hS1n hS1 hSp hSs=>?_⟩
  have mem0:∀{l:List Str},l.Perm ((sts rs).foldl a1b [])→(∀q,q∈l↔q∈sts rs)∧l.Nodup∧l.length≤18:=fun {l} h=>by
   have h1:∀q,q∈l↔q∈sts rs:=fun q=>h.mem_iff.trans (by rw [a1O];exact ⟨fun h=>h.elim (fun z=>(by cases z)) id,.inr⟩)
   have h2:=h.nodup_iff.mpr (a1H (sts rs) Jb)
   exact ⟨h1,h2,Qi (a1A h2 fun x hx=>hpo x ((h1 x).mp hx)) hpl⟩
  obtain ⟨hStm,hStn,hStl⟩:=mem0 hSp
  refine ⟨_,St,rfl,.inl ⟨S1,rfl,hS1⟩,by omega,fun st H2 s2 hstn hst=>?_⟩
  rw [a3U hStn] at hst
  have s02:=s1.trans s2
  have nstx:st≠x:=fun z=>by rw [z,s1 _ _ hx] at hstn;cases hstn
  refine ⟨x,t.C_Answers,dx,_,rfl,s02 _ _ hx,T.cl_Answers,T.nf_Answers_standing,by show 0 < 1000;decide,?_⟩
  obtain ⟨H3,e3,s3,h3x,h3st⟩:∃H3,upd H2 x (.ins t.C_Answers dx (a1n "standing" (.ref st) []))=H3∧a0i H0 H3∧H3 x=some (.ins t.C_Answers dx (a1n "standing" (.ref st) []))∧H3 st=some (.dK (bv St)):=⟨_,rfl,fun c o e=>by rw [a0a (a0c e hxn)];exact s02 _ _ (s0 _ _ e),a0d,by rw [a0a nstx];exact hst⟩
  rw [e3]
  have lt3:=lt0.mono s3
  refine ⟨g,rs,pl,rfl,hG0.same s3,hO,hrl,lt3,fun Fo ss H4 lt4 k4 hFn hF4 hdue=>?_⟩
  have hssn:ss.Nodup:=hdue.1.nodup_iff.mpr (a1c _)
  have hssl:=b1B hdue
  refine ⟨_,ss,rfl,.inl ⟨Fo,rfl,hF4⟩,by omega,fun sk H5 s5 hskn hsk=>?_⟩
  rw [a3U hssn] at hsk
  have h4x:=a7w lt3 k4 h3x (fun _ z=>nomatch z)
  have h4st:=a7w lt3 k4 h3st (fun _ z=>nomatch z)
  have nskx:sk≠x:=fun z=>by rw [z,h4x] at hskn;cases hskn
  refine ⟨x,t.C_Answers,dx,_,rfl,s5 _ _ h4x,T.cl_Answers,T.nf_Answers_sure_keys,by show 1 < 1000;decide,?_⟩
  obtain ⟨H6,e6,k6,lt6,h6x,h6st,h6sk⟩:∃H6,upd H5 x (.ins t.C_Answers dx (a1n "sure_keys" (.ref sk) (a1n "standing" (.ref st) [])))=H6∧(∀c o,c≠t.TB_z0u→H0 c=some o→H6 c=some o)∧a4j t.TB_z0u a1S H6∧H6 x=some (.ins t.C_Answers dx (a1n "sure_keys" (.ref sk) (a1n "standing" (.ref st) [])))∧H6 st=some (.dK (bv St))∧H6 sk=some (.dK (bv ss)):=⟨_,rfl,fun c o n e=>by rw [a0a (a0c e hxn)];exact s5 _ _ (k4 _ _ n (s3 _ _ e)),b0B (lt4.mono s5) (s5 _ _ h4x),a0d,by rw [a0a nstx];exact s5 _ _ h4st,by rw [a0a nskx];exact hsk⟩
  rw [e6]
  try skip
  refine ⟨g,gx,_,rfl,a7w lt0 k6 hg0 (fun _ z=>nomatch z),a2l _ _ _ (by decide+kernel) (by decide+kernel) (by decide+kernel),g,rs,pl,po,rfl,c0j lt0 k6 hG0,hO,hrl,hpo,hpl,fun S2 St2 H7 s7 hS2n hS2 hSp2 hSs2=>?_⟩
  obtain ⟨hStm2,hStn2,hStl2⟩:=mem0 hSp2
  refine ⟨x,_,dx,_,_,rfl,s7 _ _ h6x,T.cl_Answers,T.nf_Answers_sure_keys,by rw [a0f,if_pos rfl],fun kd hkd=>?_⟩
  obtain ⟨H8,e8,s8,h8⟩:=a0Y hkd (.dK []);rw [e8]
  have s68:=s7.trans s8
  have k8:∀c o,c≠t.TB_z0u→H0 c=some o→H8 c=some o:=fun c o n e=>s68 _ _ (k6 c o n e)
  refine ⟨g,V.ref S2,V.ref sk,kd,rs,pl,St2,ss,[],rfl,c0j lt0 k8 hG0,hO,hrl,.inl ⟨S2,rfl,s8 _ _ hS2⟩,.inr ⟨sk,_,rfl,s68 _ _ h6sk,a5x _⟩,h8,Jb,by omega,by omega,by decide,fun q hq=>hqs q (hpo q ((hStm2 q).mp hq)),fun cm T0 n H9 s9 hcmn hTA hTn hfr hIT=>?_⟩
  have s69:=s68.trans s9
  have h9x:=s69 _ _ h6x
  refine ⟨x,t.C_Answers,dx,_,rfl,h9x,T.cl_Answers,T.nf_Answers_came,by show 2 < 1000;decide,?_⟩
  have hW:∀q,q∈St2.foldl a1b []↔q∈sts rs:=fun q=>by rw [a3U hStn2];exact hStm2 q
  refine q _ ss T0 (fun c o n e=>?_) (b0B (lt6.mono s69) h9x) hdue ⟨hTn,n,_,hW,hfr,hIT⟩ ⟨dx,st,sk,cm,St,a0d,?_,hStm,?_,hTA.keep fun b o e hb=>?_⟩
  ·rw [a0a (a0c e hxn)];exact s69 _ _ (k6 c o n e)
  ·rw [a0a nstx];exact s69 _ _ h6st
  ·rw [a0a nskx];exact s69 _ _ h6sk
  ·rcases hb with rfl | ⟨xs,rfl⟩
   ·rw [a0a (fun z=>by rw [z,s68 _ _ h6x] at hcmn;cases hcmn)];exact e
   ·rw [a0a (a0E e h9x (by intro z;cases z))];exact e
theorem a7P (T:Txt K mg t):a0S P w K mg base CX0 2 t.f_z0e t.fd_z0e ["self","q"] (a9c t fun rs ss T q=>.int ((wr rs T q).2:Nat)):=by
 refine T.F_z0e.ok b7s (fun vs H Q E h=>?_) (fun cdv A outer s H vs Q E hr h=>?_)
 ·obtain ⟨x,z,rs,ss,T0,rfl,hA,hn,q⟩:=h;rfl
 ·obtain ⟨x,z,rs,ss,T0,rfl,hA,hn,q⟩:=h
  refine ⟨_,‹A4 (A7 (B0 a0n (C0 0 T.cl_Answers T.me_Answers_word_and_rank (a9B T) T.b_z00 (A0 1 A1)) A3))›,?_⟩
  rw [show start b8B [V.ref x,V.str z]=[some (V.ref x),some (V.str z)] from rfl]
  obtain ⟨dx,st,sk,cm,St,hx,_⟩:=id hA
  try simp only [a1a,tOp,a1u,a0k,Qa,a0j,Qb,a0t,Qf,tC,a0e]
  refine ⟨x,dx,_,rfl,hx,a1C _ _ _ (by decide+kernel) (by decide+kernel) (by decide+kernel),x,z,rs,ss,T0,rfl,hA,hn,fun p H1 s1 h1=>a0v (SqT.of h1) rfl ?_⟩
  exact q H1 s1
theorem b3O (T:Txt K mg t):a0S P w K mg base CX0 2 t.f_z03 t.fd_z03 ["self","q"] (a9c t fun rs ss T q=>.bl (decide ((wr rs T q).1="refused"))):=by
 refine T.F_z03.ok b9c (fun vs H Q E h=>?_) (fun cdv A outer s H vs Q E hr h=>?_)
 ·obtain ⟨x,z,rs,ss,T0,rfl,hA,hn,q⟩:=h;rfl
 ·obtain ⟨x,z,rs,ss,T0,rfl,hA,hn,q⟩:=h
  obtain ⟨_,k_REFUSED⟩:=T.k_REFUSED
  refine ⟨_,‹A4 (A7 (D0 (a1e hr.units) (B0 a0n (C0 0 T.cl_Answers T.me_Answers_word_and_rank (a9B T) T.b_z00 (A0 1 A1)) A3) (D2 (.str "refused") k_REFUSED ⟨_,rfl⟩) (a0r _)))›,?_⟩
  rw [show start b7K [V.ref x,V.str z]=[some (V.ref x),some (V.str z)] from rfl]
  obtain ⟨dx,st,sk,cm,St,hx,_⟩:=id hA
  try simp only [a1a,tOp,a1u,a0k,Qa,a0j,Qb,a0t,Qf,tC,a0e]
  refine ⟨x,dx,_,rfl,hx,a1C _ _ _ (by decide+kernel) (by decide+kernel) (by decide+kernel),x,z,rs,ss,T0,rfl,hA,hn,fun p H1 s1 h1=>a0v (SqT.of h1) rfl ?_⟩
  try simp only [a2V]
  exact q H1 s1
theorem a8Y (T:Txt K mg t):a0S P w K mg base CX0 1 t.f_z0c t.fd_z0c ["self","q"] (a9c t fun rs ss T q=>.bl (decide (q∈ss))):=by
 refine T.F_z0c.ok b7Z (fun vs H Q E h=>?_) (fun cdv A outer s H vs Q E hr h=>?_)
 ·obtain ⟨x,z,rs,ss,T0,rfl,hA,hn,q⟩:=h;rfl
 ·obtain ⟨x,z,rs,ss,T0,rfl,hA,hn,q⟩:=h
  refine ⟨_,‹A4 (A7 (F8 (a2g (a2C hr) ‹1› ‹C5 0›)))›,?_⟩
  rw [show start c0m [V.ref x,V.str z]=[some (V.ref x),some (V.str z)] from rfl]
  obtain ⟨dx,st,sk,cm,St,hx,hst,hSt,hsk,hcm⟩:=hA
  try simp only [a1a,b2c,a0k,Qb,Qa,a3w,a0e]
  refine ⟨x,_,dx,_,_,rfl,hx,T.cl_Answers,T.nf_Answers_sure_keys,b7l _ _ _,sk,_,rfl,a2n.k (k:=(Sum.inr z:Key)) hsk,?_⟩
  have:Q (.bl (decide (z∈ss))) H:=q H (a0i.refl _)
  rw [a1t]
  by_cases hz:z∈ss
  ·rw [if_pos hz];rw [decide_eq_true hz] at this;exact this
  ·rw [if_neg hz];rw [decide_eq_false hz] at this;exact this
theorem b8g (T:Txt K mg t):a0S P w K mg base CX0 1 t.f_z0s t.fd_z0s ["self","rules","pairs"] (b9Z t):=by
 refine T.F_z0s.ok b1x (fun vs H Q E h=>?_) (fun cdv A outer s H vs Q E hr h=>?_)
 ·obtain ⟨x,dx,b,pb,xs,rs,ps,pl,rfl,hx,hb,hA,hO,hrl,hpb,hPr,hpll,q⟩:=h;rfl
 ·obtain ⟨x,dx,b,pb,xs,rs,ps,pl,rfl,hx,hb,hA,hO,hrl,hpb,hPr,hpll,q⟩:=h
  refine ⟨_,‹A2 (E3 0 (F1 a2x T.z_tuple a2b (A0 1 A1))) (A2 (E3 0 D3) (A2 (C1 (E4 (C5 0)) (A9 3 b1x.nd) (A4 (D5 (D1 Yh Yc Yd a0Z (G4 (C5 0) (C5 3) (B9 A1)) (A0 3 A1))))) (A2 (E3 0 H7) (A4 (C1 (B7 2) (A9 4 b1x.nd) (A4 (C6 (C5 0) (C4 (A0 (B0 a0n 4 A3) (A0 (B0 a0n 4 A3) A1))) B2)))))))›,?_⟩
  rw [show start b9n [V.ref x,V.ref b,V.ref pb]=[some (V.ref x),some (V.ref b),some (V.ref pb),none,none] from rfl]
  have hxl:=hA.len
  try simp only [a1p,b9d,tCB,a0j,a0k,Qb,Qa,a0t,a2f,a0L,b2L,a3w,a0e]
  refine ⟨b,xs,rfl,.inl ⟨SqL.of hb,fun io hio=>?_⟩⟩
  obtain ⟨H1,e1,s1,h1⟩:=a0Y hio (.tup xs);rw [e1]
  have hiox:io≠x:=fun z=>by rw [z,hx] at hio;cases hio
  refine ⟨x,t.C_Ground,dx,_,rfl,s1 _ _ hx,T.cl_Ground,T.nf_Ground_in_order,by show 0 < 1000;decide,?_⟩
  obtain ⟨H2,e2,k2,h2x,h2io⟩:∃H',upd H1 x (.ins t.C_Ground dx (a1n "in_order" (.ref io) []))=H'∧(∀c o,H c=some o→c≠x→H' c=some o)∧H' x=some (.ins t.C_Ground dx (a1n "in_order" (.ref io) []))∧H' io=some (.tup xs):=⟨_,rfl,fun c o e hc=>by rw [a0a hc];exact s1 _ _ e,a0d,by rw [a0a hiox];exact h1⟩
  rw [e2]
  intro bh hbh
  obtain ⟨H3,e3,s3,h3⟩:=a0Y hbh (.dK []);rw [e3]
  have hbhx:bh≠x:=fun z=>by rw [z,h2x] at hbh;cases hbh
  have hbhn:H bh=none:=by
   cases e:H bh with
   | none=>rfl
   | some o=>rw [k2 _ _ e hbhx] at hbh;cases hbh
  refine ⟨x,t.C_Ground,dx,_,rfl,s3 _ _ h2x,T.cl_Ground,T.nf_Ground_by_head,by show 1 < 1000;decide,?_⟩
  have e2f:a1n "by_head" (V.ref bh) (a1n "in_order" (V.ref io) [])=([("in_order",V.ref io),("by_head",V.ref bh)]:List (Str×V)):=by
   show (if ("in_order":Str)="by_head" then _ else _)=_
   rw [if_neg (by decide+kernel)];rfl
  obtain ⟨H4,e4,k4,h4x,h4io,h4bh⟩:∃H',upd H3 x (.ins t.C_Ground dx (a1n "by_head" (.ref bh) (a1n "in_order" (.ref io) [])))=H'∧(∀c o,H c=some o→c≠x→H' c=some o)∧H' x=some (.ins t.C_Ground dx (a1n "by_head" (.ref bh) (a1n "in_order" (.ref io) [])))∧H' io=some (.tup xs)∧H' bh=some (.dK []):=
   ⟨_,rfl,fun c o e hc=>by rw [a0a hc];exact s3 _ _ (k2 c o e hc),a0d,by rw [a0a hiox];exact s3 _ _ h2io,by rw [a0a hbhx];exact h3⟩
  rw [e4]
  have lio:(a1n "by_head" (V.ref bh) (a1n "in_order" (V.ref io) [])).lookup ("in_order":Str)=some (V.ref io):=by rw [a0f,if_neg (by decide+kernel),a0f,if_pos rfl]
  have lbh:(a1n "by_head" (V.ref bh) (a1n "in_order" (V.ref io) [])).lookup ("by_head":Str)=some (V.ref bh):=by rw [a0f,if_pos rfl]
  refine ⟨x,_,dx,_,_,rfl,h4x,T.cl_Ground,T.nf_Ground_in_order,lio,?_⟩
  try simp only [a0z]
  refine ⟨⟨_,SqT.of h4io⟩,?_⟩
  refine a4Z (K:=K) (a:=io) (xs:=xs) (fun i σ H'=>∃(kvs:List (Key×V)) (y3:Option V),σ=[some (V.ref x),some (V.ref b),some (V.ref pb),y3,none]∧(∀c o,H c=some o→c≠x→H' c=some o)∧H' x=some (.ins t.C_Ground dx (a1n "by_head" (.ref bh) (a1n "in_order" (.ref io) [])))∧H' io=some (.tup xs)∧H' bh=some (.dK kvs)∧kvs.length≤i∧
    (∀h:Str,(a0P kvs (Sum.inr h:Key)=none∧hdF (rs.take i) h=[])∨∃L ys,a0P kvs (Sum.inr h:Key)=some (.ref L)∧H L=none∧H' L=some (.lst ys)∧ys.length≤i∧a1L t H ys (hdF (rs.take i) h))∧
    (∀(h h':Str) (L:Addr),a0P kvs (Sum.inr h:Key)=some (.ref L)→a0P kvs (Sum.inr h':Key)=some (.ref L)→h=h'))
   ⟨[],_,rfl,k4,h4x,h4io,h4bh,Qk _,fun h=>.inl ⟨rfl,rfl⟩,fun h h' L e=>by cases e⟩ (fun i σ H' _ h=>by obtain ⟨_,_,_,_,_,h,_⟩:=h;exact SqT.of h) ?_ ?_
  ·rintro i v σ H5 hi ⟨kvs,y3,rfl,k5,h5x,h5io,h5bh,hkl,hF,hinj⟩
   have hil:i < rs.length:=by rw [←hA.len];exact (Qp.mp hi).1
   obtain ⟨v',ev,p,rfl,hp⟩:=hA.get i rs[i] (Qc hil)
   rw [hi] at ev;cases ev
   have hro:=hO _ (Xd hil)
   have CF:=a8p T hro.1
   have hru:a9Q t H (.ref p) rs[i]:=⟨p,rfl,hp⟩
   have esn:∀h,hdF (rs.take (i+1)) h=hdF (rs.take i) h++(if rs[i].2.2.1=h then [rs[i]] else []):=fun h=>by
    unfold hdF
    rw [Qv hil,Zr,Yk]
    by_cases z:rs[i].2.2.1=h
    ·rw [if_pos z,if_pos (decide_eq_true z)];rfl
    ·rw [if_neg z,if_neg (by simpa using z)];rfl
   generalize rs[i]=r at hp hro CF hru esn
   obtain ⟨dx',t0,hp1,hp2⟩:=hp
   have hpx:p≠x:=fun z=>by
    rw [z,hx] at hp1
    injection hp1 with hp1
    injection hp1 with _ _ h3
    have:=a1l (.str r.2.1) (.str r.2.2.1) t0
    rw [←h3] at this;cases this
   have hp5:=k5 _ _ hp1 hpx
   try simp only [a0l,a4m,tBM,a7x,a3w,a0k,Qg,Qh,Qa,Qb,a3c,a0t,a0j,a0e]
   refine ⟨x,_,dx,_,_,rfl,h5x,T.cl_Ground,T.nf_Ground_by_head,lbh,?_⟩
   try simp only [a0z]
   refine ⟨a2o h5bh,p,_,dx',_,_,rfl,hp5,CF.cl,CF.nh,a1l _ _ _,by decide,fun N hN=>?_⟩
   obtain ⟨H6,e6,s6,h6⟩:=a0Y hN (.lst []);rw [e6]
   have hNx:N≠x:=fun z=>by rw [z,h5x] at hN;cases hN
   have hNio:N≠io:=fun z=>by rw [z,h5io] at hN;cases hN
   have hNbh:N≠bh:=fun z=>by rw [z,h5bh] at hN;cases hN
   have hNn:H N=none:=by
    cases e:H N with
    | none=>rfl
    | some o=>rw [k5 _ _ e hNx] at hN;cases hN
   refine ⟨kvs,Sum.inr r.2.2.1,s6 _ _ h5bh,rfl,Xm (show kvs.length≤1000 by omega) (by decide),fun u hu=>?_,fun hu=>?_⟩
   ·rcases hF r.2.2.1 with ⟨e,_⟩ | ⟨L,ys,e,hLn,hL5,hyl,hR⟩
    ·rw [e] at hu;cases hu
    rw [e] at hu;cases hu
    have hL6:=s6 _ _ hL5
    have hLx:L≠x:=a0E hL5 h5x (by intro z;cases z)
    have hLio:L≠io:=a0E hL5 h5io (by intro z;cases z)
    have hLbh:L≠bh:=a0E hL5 h5bh (by intro z;cases z)
    try skip
    refine ⟨.inl ⟨rfl,_,SqL.of hL6⟩,L,_,_,rfl,rfl,hL6,Xm (show ys.length≤1000 by omega) (by decide),?_⟩
    refine ⟨kvs,_,rfl,fun c o e hc=>?_,?_,?_,?_,by omega,fun h=>?_,hinj⟩
    ·rw [a0a (a0c e hLn)];exact s6 _ _ (k5 c o e hc)
    ·rw [a0a hLx.symm];exact s6 _ _ h5x
    ·rw [a0a hLio.symm];exact s6 _ _ h5io
    ·rw [a0a hLbh.symm];exact s6 _ _ h5bh
    ·rw [esn]
     by_cases z:r.2.2.1=h
     ·subst z
      rw [if_pos rfl]
      refine .inr ⟨L,ys++[V.ref p],e,hLn,a0d,by simp;omega,?_⟩
      refine ⟨by simp [hR.len],fun j r' ej=>?_⟩
      by_cases hj:j < (hdF (rs.take i) r.2.2.1).length
      ·rw [Yb hj] at ej
       rw [Yb (by rw [hR.len];exact hj)]
       exact hR.get j r' ej
      ·rw [Xz (by omega)] at ej
       rw [Xz (by rw [hR.len];omega),hR.len]
       have hj0:=(Qp.mp ej).1
       have ej0:j - (hdF (rs.take i) r.2.2.1).length=0:=by simp at hj0;omega
       rw [ej0] at ej ⊢
       cases ej
       exact ⟨_,rfl,hru⟩
     ·rw [if_neg z,Qf]
      rcases hF h with ⟨e',g⟩ | ⟨L',ys',e',g1,g2,g3,g4⟩
      ·exact .inl ⟨e',g⟩
      ·refine .inr ⟨L',ys',e',g1,?_,by omega,g4⟩
       have:L'≠L:=fun w=>z (hinj _ _ L e (by rw [←w];exact e'))
       rw [a0a this];exact s6 _ _ g2
   ·try skip
    have hbN:bh≠N:=hNbh.symm
    refine ⟨.inl ⟨rfl,_,SqL.of (show upd H6 bh (.dK (a2u kvs (Sum.inr r.2.2.1) (V.ref N))) N=some (.lst []) by rw [a0a hNbh];exact h6)⟩,N,_,_,rfl,rfl,(by rw [a0a hNbh];exact h6),by decide,?_⟩
    have kvl:=a0K kvs (Sum.inr r.2.2.1:Key) (V.ref N)
    refine ⟨a2u kvs (Sum.inr r.2.2.1) (V.ref N),_,rfl,fun c o e hc=>?_,?_,?_,?_,by omega,fun h=>?_,fun h h' L e1 e2=>?_⟩
    ·rw [a0a (a0c e hNn),a0a (a0c e hbhn)];exact s6 _ _ (k5 c o e hc)
    ·rw [a0a hNx.symm,a0a hbhx.symm];exact s6 _ _ h5x
    ·rw [a0a hNio.symm,a0a (a0E h5io h5bh (by intro z;cases z))];exact s6 _ _ h5io
    ·rw [a0a hbN,a0d]
    ·rw [esn,a1E]
     by_cases z:r.2.2.1=h
     ·subst z
      rw [if_pos rfl,if_pos rfl]
      rcases hF r.2.2.1 with ⟨e',g⟩ | ⟨L',ys',e',_⟩
      ·rw [g]
       refine .inr ⟨N,[V.ref p],rfl,hNn,a0d,by simp,⟨rfl,fun j r' ej=>?_⟩⟩
       cases j with
       | zero=>cases ej;exact ⟨_,rfl,hru⟩
       | succ j=>simp at ej
      ·rw [e'] at hu;cases hu
     ·rw [if_neg z,Qf,if_neg (fun w=>z (Sum.inr.inj w).symm)]
      rcases hF h with ⟨e',g⟩ | ⟨L',ys',e',g1,g2,g3,g4⟩
      ·exact .inl ⟨e',g⟩
      ·refine .inr ⟨L',ys',e',g1,?_,by omega,g4⟩
       have hLN:L'≠N:=fun w=>by rw [w,hN] at g2;cases g2
       rw [a0a hLN,a0a (a0E g2 h5bh (by intro z;cases z))];exact s6 _ _ g2
    ·rw [a1E] at e1 e2
     by_cases z1:(Sum.inr h:Key)=Sum.inr r.2.2.1
     ·by_cases z2:(Sum.inr h':Key)=Sum.inr r.2.2.1
      ·rw [Sum.inr.inj z1,Sum.inr.inj z2]
      ·rw [if_pos z1] at e1;cases e1
       rw [if_neg z2] at e2
       rcases hF h' with ⟨e',_⟩ | ⟨L',ys',e',_,g2,_⟩
       ·rw [e'] at e2;cases e2
       ·rw [e'] at e2;cases e2;rw [hN] at g2;cases g2
     ·rw [if_neg z1] at e1
      by_cases z2:(Sum.inr h':Key)=Sum.inr r.2.2.1
      ·rw [if_pos z2] at e2;cases e2
       rcases hF h with ⟨e',_⟩ | ⟨L',ys',e',_,g2,_⟩
       ·rw [e'] at e1;cases e1
       ·rw [e'] at e1;cases e1;rw [hN] at g2;cases g2
      ·rw [if_neg z2] at e2
       exact hinj _ _ L e1 e2
  rintro σ H5 ⟨kvs,y3,rfl,k5,h5x,h5io,h5bh,hkl,hF,hinj⟩
  rw [show rs.take xs.length=rs by rw [hxl];exact Xu] at hF
  try simp only [a1p,b9d,a0k,Qa,a0L,a1y,Qb,a0e,a0z]
  intro pr hpr
  obtain ⟨H6,e6,s6,h6⟩:=a0Y hpr (.dT []);rw [e6]
  have hprx:pr≠x:=fun z=>by rw [z,h5x] at hpr;cases hpr
  have hprn:H pr=none:=by
   cases e:H pr with
   | none=>rfl
   | some o=>rw [k5 _ _ e hprx] at hpr;cases hpr
  refine ⟨x,t.C_Ground,dx,_,rfl,s6 _ _ h5x,T.cl_Ground,T.nf_Ground_pairs,by rw [e2f];show 2 < 1000;decide,?_⟩
  rw [show a1n "pairs" (V.ref pr) (a1n "by_head" (V.ref bh) (a1n "in_order" (V.ref io) []))=gfl io bh pr from rfl]
  obtain ⟨as,eas,hal,hat⟩:=hPr
  have hiopr:io≠pr:=fun z=>by rw [z,hpr] at h5io;cases h5io
  have hbhpr:bh≠pr:=fun z=>by rw [z,hpr] at h5bh;cases h5bh
  have base:∀H',(∀c o,upd H6 x (.ins t.C_Ground dx (gfl io bh pr)) c=some o→c≠pr→H' c=some o)→(∀c o,H c=some o→c≠x→H' c=some o)∧(∀kps,H' pr=some (.dT kps)→c0A kps pl→a3I t H' x rs pl):=fun H' kk=>by
   have k7:∀c o,H c=some o→c≠x→H' c=some o:=fun c o e hc=>kk c o (by rw [a0a hc];exact s6 _ _ (k5 c o e hc)) (a0c e hprn)
   refine ⟨k7,fun kps hk hp=>⟨dx,io,bh,pr,xs,kvs,kps,kk _ _ a0d hprx.symm,kk _ _ (by rw [a0a hiox];exact s6 _ _ h5io) hiopr,hA.refs hx k7,kk _ _ (by rw [a0a hbhx];exact s6 _ _ h5bh) hbhpr,fun h=>?_,hk,hp⟩⟩
   rcases hF h with z | ⟨L,ys,e,_,g2,_,g4⟩
   ·exact .inl z
   ·exact .inr ⟨L,ys,e,kk _ _ (by rw [a0a (a0E g2 h5x (by intro z;cases z))];exact s6 _ _ g2) (fun z=>by rw [z,hpr] at g2;cases g2),g4.refs hx k7⟩
  have hpb7:upd H6 x (.ins t.C_Ground dx (gfl io bh pr)) pb=some (.lst ps):=by
   have hpx:=a0E hpb hx (by intro z;cases z)
   rw [a0a hpx];exact s6 _ _ (k5 _ _ hpb hpx)
  have hpr7:upd H6 x (.ins t.C_Ground dx (gfl io bh pr)) pr=some (.dT []):=by rw [a0a hprx];exact h6
  have hx7:upd H6 x (.ins t.C_Ground dx (gfl io bh pr)) x=some (.ins t.C_Ground dx (gfl io bh pr)):=a0d
  have hpbpr:pb≠pr:=a0c hpb hprn
  obtain ⟨H7,e7⟩:∃H7,upd H6 x (.ins t.C_Ground dx (gfl io bh pr))=H7:=⟨_,rfl⟩
  rw [e7] at base hpb7 hpr7 hx7 ⊢
  refine ⟨⟨_,SqL.of hpb7⟩,?_⟩
  refine a1v (K:=K) (a:=pb) (xs:=ps) (fun i σ H'=>∃(kps:List (List Key×V)) (y4:Option V),σ=[some (V.ref x),some (V.ref b),some (V.ref pb),y3,y4]∧(∀c o,H7 c=some o→c≠pr→H' c=some o)∧H' pr=some (.dT kps)∧kps.length≤i∧c0A kps (pl.take i))
   ⟨[],_,rfl,fun c o e _=>e,hpr7,Qk _,fun a b=>by rw [Uv,if_neg (by simp)];rfl⟩ (fun i σ H' _ h=>by obtain ⟨_,_,_,kk,_⟩:=h;exact SqL.of (kk _ _ hpb7 hpbpr)) ?_ ?_
  ·rintro i v σ H8 hi ⟨kps,y4,rfl,kk,h8,hkl8,hpo⟩
   have hil:i < as.length:=by
    have:=(Qp.mp hi).1
    rw [eas,Qe] at this;exact this
   have hil':i < pl.length:=by omega
   have ev:v=V.ref as[i]:=by
    rw [eas,Qm,Qc hil] at hi
    exact (Option.some.inj hi).symm
   subst ev
   have hp:=hat i _ _ (Qc hil) (Qc hil')
   have hp8:=(base H8 kk).1 _ _ hp (a0E hp hx (by intro z;cases z))
   have hx8:=kk _ _ hx7 hprx.symm
   rw [Qv hil']
   generalize pl[i]=pp at hp hp8
   generalize pl.take i=pt at hpo
   try simp only [a0l,a3u,tC,a3w,a0k,Qg,Qh,Qa,a6S,a0j,tOp,Qb,a0t,a0e]
   refine ⟨x,_,dx,_,_,rfl,hx8,T.cl_Ground,T.nf_Ground_pairs,b3t _ _ _,?_⟩
   refine a0v (SqT.of hp8) rfl (a0v (SqT.of hp8) rfl ⟨by simp only [Qo,Qz];decide,fun c hc=>?_⟩)
   obtain ⟨H9,e9,s9,h9⟩:=a0Y hc (.tup [V.str pp.1,V.str pp.2]);rw [e9]
   refine ⟨pr,_,rfl,a5A.t (k:=[Sum.inr pp.1,Sum.inr pp.2]) (s9 _ _ h8) h9 (Xm (show kps.length≤1000 by omega) (by decide)),a2u kps [Sum.inr pp.1,Sum.inr pp.2] (V.bl true),_,rfl,?_,a0d,by have:=a0K kps ([Sum.inr pp.1,Sum.inr pp.2]:List Key) (V.bl true);omega,fun a b=>?_⟩
   ·intro d o e hd;rw [a0a hd];exact s9 _ _ (kk d o e hd)
   ·rw [a1E,hpo]
    by_cases z:(a,b)=pp
    ·rw [if_pos (by rw [←z]),if_pos (by rw [←z];simp)]
    ·rw [if_neg (fun w=>z (by
      have w1:=congrArg (fun l:List Key=>l.head?) w
      have w2:=congrArg (fun l:List Key=>l.getLast?) w
      simp at w1 w2
      exact Prod.ext w1 w2))]
     by_cases y:(a,b)∈pt
     ·rw [if_pos y,if_pos (Xx _ y)]
     ·rw [if_neg y,if_neg (by simp [y,z])]
  ·rintro σ H8 ⟨kps,y4,rfl,kk,h8,hkl8,hpo⟩
   rw [show pl.take ps.length=pl by rw [eas,Qe,hal,Xu]] at hpo
   try simp only []
   obtain ⟨b1,b2⟩:=base H8 kk
   exact q _ b1 (b2 kps h8 hpo)
theorem b8f (T:Txt K mg t):a0S P w K mg base CX0 1 t.f_z1z t.fd_z1z ["_law_rows_here"] c5N:=by
 refine T.F_z1z.ok b0T (fun vs H Q E h=>?_) (fun cdv A outer s H vs Q E hr h=>?_)
 ·obtain ⟨a,xs,rs,rfl,ha,hA,hrl,q⟩:=h;rfl
 ·obtain ⟨a,xs,rs,rfl,ha,hA,hrl,q⟩:=h
  refine ⟨_,‹A2 (A8 1 b0T.nd D3) (A2 (C1 (B7 0) (A9 2 b0T.nd) (A4 (D5 (D1 Yh Yc Yd a0Z (G4 1 (B0 a0n 2 A3) (B9 A1)) (A0 2 A1))))) (A4 (A7 1)))›,?_⟩
  rw [show start b8Z [V.ref a]=[some (V.ref a),none,none] from rfl]
  have hxl:=hA.len
  try simp only [a1p,a1J,a2f,a0l,Qg,Qh,a0L,a1y,a0k,Qa,a0e,a0z]
  intro bh hbh
  obtain ⟨H1,e1,s1,h1⟩:=a0Y hbh (.dK []);rw [e1]
  refine ⟨⟨_,SqL.of (s1 _ _ ha)⟩,?_⟩
  refine a1v (K:=K) (a:=a) (xs:=xs) (fun i σ H'=>∃(kvs:List (Key×V)) (y2:Option V),σ=[some (V.ref a),some (V.ref bh),y2]∧a0i H H'∧H' bh=some (.dK kvs)∧kvs.length≤i∧
    (∀h:Str,(a0P kvs (Sum.inr h:Key)=none∧hdF (rs.take i) h=[])∨∃L ys,a0P kvs (Sum.inr h:Key)=some (.ref L)∧H L=none∧H' L=some (.lst ys)∧ys.length≤i∧a2M H ys (hdF (rs.take i) h))∧
    (∀(h h':Str) (L:Addr),a0P kvs (Sum.inr h:Key)=some (.ref L)→a0P kvs (Sum.inr h':Key)=some (.ref L)→h=h'))
   ⟨[],_,rfl,s1,h1,Qk _,fun h=>.inl ⟨rfl,rfl⟩,fun h h' L e=>by cases e⟩ (fun i σ H' _ h=>by obtain ⟨_,_,_,s,_⟩:=h;exact SqL.of (s _ _ ha)) ?_ ?_
  ·rintro i v σ H5 hi ⟨kvs,y2,rfl,s5,h5bh,hkl,hF,hinj⟩
   have hil:i < rs.length:=by rw [←hA.len];exact (Qp.mp hi).1
   obtain ⟨v',ev,hru⟩:=hA.get i rs[i] (Qc hil)
   rw [hi] at ev;cases ev
   have esn:∀h,hdF (rs.take (i+1)) h=hdF (rs.take i) h++(if rs[i].2.2.1=h then [rs[i]] else []):=fun h=>by
    unfold hdF
    rw [Qv hil,Zr,Yk]
    by_cases z:rs[i].2.2.1=h
    ·rw [if_pos z,if_pos (decide_eq_true z)];rfl
    ·rw [if_neg z,if_neg (by simpa using z)];rfl
   generalize rs[i]=r at hru esn
   obtain ⟨p,t1,rfl,hp1,hp2⟩:=id hru
   have hp5:=s5 _ _ hp1
   try simp only [a0l,a4m,tBM,a7x,a0k,Qg,Qh,Qb,Qa,tOp,tC,a3c,a0t,a0j,a0e,a0z]
   refine ⟨a2o h5bh,a0v (SqT.of hp5) rfl ⟨by decide,fun N hN=>?_⟩⟩
   obtain ⟨H6,e6,s6,h6⟩:=a0Y hN (.lst []);rw [e6]
   have hNbh:N≠bh:=fun z=>by rw [z,h5bh] at hN;cases hN
   have hNn:H N=none:=none_of s5 hN
   refine ⟨kvs,Sum.inr r.2.2.1,s6 _ _ h5bh,rfl,Xm (show kvs.length≤1000 by omega) (by decide),fun u hu=>?_,fun hu=>?_⟩
   ·rcases hF r.2.2.1 with ⟨e,_⟩ | ⟨L,ys,e,hLn,hL5,hyl,hR⟩
    ·rw [e] at hu;cases hu
    rw [e] at hu;cases hu
    have hL6:=s6 _ _ hL5
    have hLbh:L≠bh:=a0E hL5 h5bh (by intro z;cases z)
    try skip
    refine ⟨.inl ⟨rfl,_,SqL.of hL6⟩,L,_,_,rfl,rfl,hL6,Xm (show ys.length≤1000 by omega) (by decide),?_⟩
    refine ⟨kvs,_,rfl,fun c o e=>?_,?_,by omega,fun h=>?_,hinj⟩
    ·rw [a0a (a0c e hLn)];exact s6 _ _ (s5 c o e)
    ·rw [a0a hLbh.symm];exact s6 _ _ h5bh
    ·rw [esn]
     by_cases z:r.2.2.1=h
     ·subst z
      rw [if_pos rfl]
      refine .inr ⟨L,ys++[V.ref p],e,hLn,a0d,by simp;omega,?_⟩
      refine ⟨by simp [hR.len],fun j r' ej=>?_⟩
      by_cases hj:j < (hdF (rs.take i) r.2.2.1).length
      ·rw [Yb hj] at ej
       rw [Yb (by rw [hR.len];exact hj)]
       exact hR.get j r' ej
      ·rw [Xz (by omega)] at ej
       rw [Xz (by rw [hR.len];omega),hR.len]
       have hj0:=(Qp.mp ej).1
       have ej0:j - (hdF (rs.take i) r.2.2.1).length=0:=by simp at hj0;omega
       rw [ej0] at ej ⊢
       cases ej
       exact ⟨_,rfl,hru⟩
     ·rw [if_neg z,Qf]
      rcases hF h with ⟨e',g⟩ | ⟨L',ys',e',g1,g2,g3,g4⟩
      ·exact .inl ⟨e',g⟩
      ·refine .inr ⟨L',ys',e',g1,?_,by omega,g4⟩
       have:L'≠L:=fun w=>z (hinj _ _ L e (by rw [←w];exact e'))
       rw [a0a this];exact s6 _ _ g2
   ·try skip
    have hbN:bh≠N:=hNbh.symm
    refine ⟨.inl ⟨rfl,_,SqL.of (show upd H6 bh (.dK (a2u kvs (Sum.inr r.2.2.1) (V.ref N))) N=some (.lst []) by rw [a0a hNbh];exact h6)⟩,N,_,_,rfl,rfl,(by rw [a0a hNbh];exact h6),by decide,?_⟩
    have kvl:=a0K kvs (Sum.inr r.2.2.1:Key) (V.ref N)
    refine ⟨a2u kvs (Sum.inr r.2.2.1) (V.ref N),_,rfl,fun c o e=>?_,?_,by omega,fun h=>?_,fun h h' L e1 e2=>?_⟩
    ·rw [a0a (a0c e hNn),a0a (a0c e hbh)];exact s6 _ _ (s5 c o e)
    ·rw [a0a hbN,a0d]
    ·rw [esn,a1E]
     by_cases z:r.2.2.1=h
     ·subst z
      rw [if_pos rfl,if_pos rfl]
      rcases hF r.2.2.1 with ⟨e',g⟩ | ⟨L',ys',e',_⟩
      ·rw [g]
       refine .inr ⟨N,[V.ref p],rfl,hNn,a0d,by simp,⟨rfl,fun j r' ej=>?_⟩⟩
       cases j with
       | zero=>cases ej;exact ⟨_,rfl,hru⟩
       | succ j=>simp at ej
      ·rw [e'] at hu;cases hu
     ·rw [if_neg z,Qf,if_neg (fun w=>z (Sum.inr.inj w).symm)]
      rcases hF h with ⟨e',g⟩ | ⟨L',ys',e',g1,g2,g3,g4⟩
      ·exact .inl ⟨e',g⟩
      ·refine .inr ⟨L',ys',e',g1,?_,by omega,g4⟩
       have hLN:L'≠N:=fun w=>by rw [w,hN] at g2;cases g2
       rw [a0a hLN,a0a (a0E g2 h5bh (by intro z;cases z))];exact s6 _ _ g2
    ·rw [a1E] at e1 e2
     by_cases z1:(Sum.inr h:Key)=Sum.inr r.2.2.1
     ·by_cases z2:(Sum.inr h':Key)=Sum.inr r.2.2.1
      ·rw [Sum.inr.inj z1,Sum.inr.inj z2]
      ·rw [if_pos z1] at e1;cases e1
       rw [if_neg z2] at e2
       rcases hF h' with ⟨e',_⟩ | ⟨L',ys',e',_,g2,_⟩
       ·rw [e'] at e2;cases e2
       ·rw [e'] at e2;cases e2;rw [hN] at g2;cases g2
     ·rw [if_neg z1] at e1
      by_cases z2:(Sum.inr h':Key)=Sum.inr r.2.2.1
      ·rw [if_pos z2] at e2;cases e2
       rcases hF h with ⟨e',_⟩ | ⟨L',ys',e',_,g2,_⟩
       ·rw [e'] at e1;cases e1
       ·rw [e'] at e1;cases e1;rw [hN] at g2;cases g2
      ·rw [if_neg z2] at e2
       exact hinj _ _ L e1 e2
  rintro σ H5 ⟨kvs,y2,rfl,s5,h5bh,hkl,hF,hinj⟩
  rw [show rs.take xs.length=rs by rw [hxl];exact Xu] at hF
  try simp only [a1a,a0k,Qb,Qa,a0e]
  refine q bh H5 s5 hbh ⟨kvs,h5bh,fun h=>(hF h).imp id fun ⟨L,ys,a,_,b,_,c⟩=>⟨L,ys,a,b,c.same s5⟩⟩
theorem c0h (T:Txt K mg t):a0S P w K mg base CX0 3 t.f_z1o t.fd_z1o ["_law_answers","_law_pool_here","_law_limit"] (b4z t):=by
 refine T.F_z1o.ok a7f (fun vs H Q E h=>?_) (fun cdv A outer s H vs Q E hr h=>?_)
 ·obtain ⟨x,Pa,lim,rs,ss,T0,po,rfl,hA,hn,hP,hpl,q⟩:=h;rfl
 ·obtain ⟨x,Pa,lim,rs,ss,T0,po,rfl,hA,hn,hP,hpl,q⟩:=h
  refine ⟨_,‹A2 (A8 3 a7f.nd D3) (A2 (A8 4 a7f.nd D3) (A2 (C1 (B7 1) (A9 5 a7f.nd) (A4 (B5 (H8 a9E a9E A3 (C0 0 T.cl_Answers T.me_Answers_rank (a7P T) T.b_z0e (A0 5 A1)) 2) (A4 (B5 (B8 (C0 0 T.cl_Answers T.me_Answers_held (a7M T) T.b_z0d (A0 5 A1))) (A4 (C6 3 5 B2)) (A4 (C6 4 5 B2)))) B6))) (A4 (A7 (C4 (A0 3 (A0 4 A1)))))))›,?_⟩
  rw [show start b9M [V.ref x,V.ref Pa,V.int lim]=[some (V.ref x),some (V.ref Pa),some (V.int lim),none,none,none] from rfl]
  obtain ⟨dx,st,sk,cm,St,hx,_⟩:=id hA
  try simp only [a1p,a1J,a2f,a0l,Qg,Qh,a0L,a1y,a0k,Qb,Qa,a0e,a0z]
  intro Up hUp Dn hDn
  obtain ⟨H1,e1,s1,hU1⟩:=a0Y hUp (.dK [])
  rw [e1] at hDn ⊢
  obtain ⟨H2,e2,s2,hD2⟩:=a0Y hDn (.dK []);rw [e2]
  have s02:=s1.trans s2
  have nUD:Up≠Dn:=fun z=>by rw [z,hDn] at hU1;cases hU1
  have hDn0:H Dn=none:=none_of s1 hDn
  refine ⟨⟨_,SqL.of (s02 _ _ hP)⟩,?_⟩
  refine a1v (K:=K) (a:=Pa) (xs:=po.map V.str) (fun i σ H'=>∃(x5:Option V),σ=[some (V.ref x),some (V.ref Pa),some (V.int lim),some (V.ref Up),some (V.ref Dn),x5]∧a0i H H'∧a8V H' Up (ahd rs T0 (po.take i) lim true) i∧a8V H' Dn (ahd rs T0 (po.take i) lim false) i)
   ⟨_,rfl,s02,⟨[],s2 _ _ hU1,fun _=>rfl,Qk _⟩,⟨[],hD2,fun _=>rfl,Qk _⟩⟩ (fun i σ H' _ ⟨_,_,s,_⟩=>SqL.of (s _ _ hP)) ?_ ?_
  ·rintro i v σ H3 hi ⟨x5,rfl,s3,hu,hd⟩
   have hil:i < po.length:=by simpa using (Qp.mp hi).1
   have ev:v=V.str po[i]:=by
    rw [Qm,Qc hil] at hi
    exact (Option.some.inj hi).symm
   subst ev
   clear hi
   have esn:∀b,ahd rs T0 (po.take (i+1)) lim b=ahd rs T0 (po.take i) lim b++if (decide (0 < (wr rs T0 po[i]).2) && decide (((wr rs T0 po[i]).2:Int) < lim) && (decide ((wr rs T0 po[i]).1="held") == b))=true then [po[i]] else []:=fun b=>by
    unfold ahd
    rw [Qv hil,Zr,Yk,List.filter_nil]
   rw [esn,esn]
   clear esn
   generalize ahd rs T0 (po.take i) lim true=A at hu
   generalize ahd rs T0 (po.take i) lim false=B at hd
   generalize po[i]=q0
   try simp only [a0l,a3b,a1f,b4m,tC,a1u,a0k,Qg,Qh,Qa,a0j,Qb,a0t,Qf,tB,a3u,a0e,a1o,a1x,a3M]
   refine ⟨x,dx,_,rfl,s3 _ _ hx,a1C _ _ _ (by decide+kernel) (by decide+kernel) (by decide+kernel),x,q0,rs,ss,T0,rfl,hA.same s3,hn,fun H4 s4=>?_⟩
   have keep:∀{H'} (s:a0i H3 H') (D:Addr) (C:List Str),a8V H3 D C i→a8V H' D C (i+1):=fun {H'} s D C h=>h.keep (fun o e=>s _ _ e) (by omega)
   try simp only [a7q,a1x,decide_eq_true_eq]
   by_cases h1:0 < (wr rs T0 q0).2
   ·rw [if_pos (by omega)]
    by_cases h2:((wr rs T0 q0).2:Int) < lim
    ·rw [if_pos h2]
     refine ⟨x,dx,_,rfl,s4 _ _ (s3 _ _ hx),a1C _ _ _ (by decide+kernel) (by decide+kernel) (by decide+kernel),x,q0,rs,ss,T0,rfl,hA.same (s3.trans s4),hn,fun H5 s5=>⟨_,rfl,a2c (fun c=>?_) (fun c=>?_)⟩⟩
     ·have hc:(wr rs T0 q0).1="held":=of_decide_eq_true c
      have s35:=s4.trans s5
      obtain ⟨kv,hput,hu'⟩:=(hu.keep (fun o e=>s35 _ _ e) (Qk _)).put (by omega) q0 (V.bl true)
      rw [if_pos (by simp [h1,h2,hc]),if_neg (by simp [hc]),Qf]
      refine ⟨Up,_,rfl,hput,_,rfl,fun b u e=>?_,hu',(keep s35 Dn B hd).keep (fun o e=>by rw [a0a nUD.symm];exact e) (Qk _)⟩
      rw [a0a (a0c e hUp)];exact s35 _ _ (s3 _ _ e)
     ·have hc:¬(wr rs T0 q0).1="held":=fun w=>c (decide_eq_true w)
      have s35:=s4.trans s5
      obtain ⟨kv,hput,hd'⟩:=(hd.keep (fun o e=>s35 _ _ e) (Qk _)).put (by omega) q0 (V.bl true)
      rw [if_neg (by simp [hc]),if_pos (by simp [h1,h2,hc]),Qf]
      refine ⟨Dn,_,rfl,hput,_,rfl,fun b u e=>?_,(keep s35 Up A hu).keep (fun o e=>by rw [a0a nUD];exact e) (Qk _),hd'⟩
      rw [a0a (a0c e hDn0)];exact s35 _ _ (s3 _ _ e)
    ·rw [if_neg h2,if_neg (by simp [h2]),if_neg (by simp [h2]),Qf,Qf]
     exact ⟨_,rfl,s3.trans s4,keep s4 _ _ hu,keep s4 _ _ hd⟩
   ·rw [if_neg (by omega),if_neg (by simp [h1]),if_neg (by simp [h1]),Qf,Qf]
    exact ⟨_,rfl,s3.trans s4,keep s4 _ _ hu,keep s4 _ _ hd⟩
  ·rintro σ H3 ⟨x5,rfl,s3,hu,hd⟩
   rw [Qe,Xu] at hu hd
   try simp only [a1a,a6S,a0j,a0k,Qb,Qa,a0t,a0e]
   refine ⟨by simp only [Qo,Qz];decide,fun p hp=>?_⟩
   obtain ⟨H4,e4,s4,h4⟩:=a0Y hp (.tup [V.ref Up,V.ref Dn]);rw [e4]
   exact q p Up Dn H4 (s3.trans s4) h4 (hu.dat.same s4) (hd.dat.same s4)
theorem b3X (T:Txt K mg t):a0S P w K mg base CX0 1 t.f_z1j t.fd_z1j ["_law_pairs","_law_row_here","_law_some"] b0F:=by
 refine T.F_z1j.ok b8O (fun vs H Q E h=>?_) (fun cdv A outer s H vs Q E hr h=>?_)
 ·obtain ⟨P0,G,v,ps,pl,r,zs,rfl,hP,hPr,hPo,hv,hro,hG,hz,hzl,q⟩:=h;rfl
 ·obtain ⟨P0,G,v,ps,pl,r,zs,rfl,hP,hPr,hPo,hv,hro,hG,hz,hzl,q⟩:=h
  refine ⟨_,‹A4 (A7 (D0 (a3o hr.units) (C2 (B4 (a0b a8d) b4B ["_law_one","_law_pairs","_law_row_here"] [none,some 0,some 1]) (B7 2) (A9 0 (show Xk (["_law_one","_law_pairs","_law_row_here"]:List Str) by decide+kernel)) (C3 (B3 (b5Z hr.units (K:=K) rfl) (C4 (A0 (B0 (a3f (K:=K) rfl) 0 A3) (A0 (B0 (a3f (K:=K) rfl) 2 A3) A1))) 1 (by with_unfolding_all rfl))) 0) (B9 A1) (a0r _)))›,?_⟩
  rw [show start b4B [V.ref P0,v,V.ref G]=[some (V.ref P0),some (v),some (V.ref G)] from rfl]
  try simp only [a1a,tOp,a3c,a0t,a0o,a1y,a0k,Qb,Qa,a0e,a0z]
  refine ⟨⟨_,SqL.of hG⟩,?_⟩
  refine a2L (fun H' v r=>a5h H' v r∧a1B r) (0,"","",[]) zs hG (by omega) (fun H' s=>hz.same s) [some (V.ref P0),some v] rfl (fun b=>decide ((b.2.1,r.2.1)∈pl)) (fun p=>p.1) (fun x b H' R' hx s' hR'=>?_) (fun x b H' R' hx s' hR'=>?_) (fun W H5 hWn s5 hW5=>?_)
  ·obtain ⟨⟨p,t1,rfl,hp,ht⟩,hbo⟩:=hx
   obtain ⟨p',t2,rfl,hp',ht'⟩:=hv
   try simp only [a1f,tOp,a6S,a0j,a0k,Qa,tC,Qb,a0t,a0e]
   refine a0v (SqT.of hp) rfl (a0v (SqT.of (s' _ _ hp')) rfl ⟨by simp only [Qo,Qz];decide,fun c hc=>?_⟩)
   obtain ⟨H6,e6,s6,h6⟩:=a0Y hc (.tup [V.str b.2.1,V.str r.2.1]);rw [e6]
   exact ⟨c,P0,_,_,ps,pl,rfl,rfl,h6,SqL.of (s6 _ _ (s' _ _ hP)),a0U.same s6 (a0U.same s' hPr),⟨hbo.2.2.1.1,hro.2.2.1.1⟩,hPo,_,rfl,hR' _ s6⟩
  ·try simp only [a0k,Qa,a0e]
   exact hR' _ (a0i.refl _)
  try skip
  refine ⟨Xf _,fun p7 hp7=>?_⟩
  obtain ⟨H7,e7,s7,h7⟩:=a0Y hp7 (.lst []);rw [e7]
  refine a7X (s7 _ _ hW5) (SqL.of h7) (fun p hp=>((hz.same s5).same s7) p (Qq.mp hp).1) ?_
  have e:(!decide (zs.filter (fun p=>decide ((p.2.2.1,r.2.1)∈pl))=[]))=btn pl (zs.map (·.2)) r:=by
   unfold btn
   rw [Jc,Xl,Xy,decide_eq_false_iff_not,Zb,Yl]
   simp
  rw [e]
  exact q _ (s5.trans s7)
theorem b4c (T:Txt K mg t):a0S P w K mg base CX0 1 t.f_z1m t.fd_z1m ["_law_row_here","_law_down"] b4L:=by
 refine T.F_z1m.ok b8T (fun vs H Q E h=>?_) (fun cdv A outer s H vs Q E hr h=>?_)
 ·obtain ⟨v,a,r,U,rfl,hv,hro,ha,q⟩:=h;rfl
 ·obtain ⟨v,a,r,U,rfl,hv,hro,ha,q⟩:=h
  refine ⟨_,‹A4 (A7 (D0 (a3o hr.units) (C2 (B4 (a0b a8L) b5u ["_law_p","_law_down"] [none,some 1]) (E4 (B0 a0n 0 A3)) (A9 0 (show Xk (["_law_p","_law_down"]:List Str) by decide+kernel)) (C3 (C9 (a2g (a2C hr) ‹0› ‹1›))) 0) (B9 A1) (a0r _)))›,?_⟩
  rw [show start b5u [v,V.ref a]=[some (v),some (V.ref a)] from rfl]
  obtain ⟨p,t1,rfl,hp,ht⟩:=hv
  have hbl:r.2.2.2.length≤4:=hro.2.2.2.2.2
  have hbo:∀q∈r.2.2.2,OkS q:=hro.2.2.2.2.1
  try simp only [a1a,tOp,a3c,a0t,a0o,b2L,a0k,Qa,tC,a0e]
  refine a0v (SqT.of hp) rfl ?_
  generalize r.2.2.2=bd at hbl hbo ht q
  try simp only [a0z]
  refine ⟨⟨_,SqT.of ht⟩,?_⟩
  refine a3Q (a5r (xs:=bd.map V.str)) (Qi (show (bd.map V.str).length≤1000 by rw [Qe];omega) (by decide)) [some (V.ref a)] rfl (fun i=>decide (((bd[i]?).getD "")∈U)) (fun i=>V.str ((bd[i]?).getD "")) (fun H'' s=>SqT.of (s _ _ ht)) (fun i H'' R'' hi s hR''=>?_) (fun i H'' R'' hi s hR''=>?_) (fun C H6 hCn s6 hC=>?_)
  ·have hi':i < bd.length:=by simpa using hi
   have e2:((bd.map V.str)[i]?).getD .non=V.str bd[i]:=by rw [Qm,Qc hi'];rfl
   rw [e2]
   rw [Qc hi',Xo] at hR''
   try simp only [tB,b2c,a0k,Qa,Qb,a1x,a0e]
   obtain ⟨o,ho,eo⟩:=(ha.same s).get bd[i]
   refine ⟨a,o,rfl,ho,?_⟩
   have:=hR'' _ (a0i.refl _)
   rw [eo]
   exact this
  ·have hi':i < bd.length:=by simpa using hi
   have e2:((bd.map V.str)[i]?).getD .non=V.str bd[i]:=by rw [Qm,Qc hi'];rfl
   rw [e2]
   rw [Qc hi',Xo] at hR''
   try simp only [a0k,Qa,a0e]
   exact hR'' _ (a0i.refl _)
  rw [show (bd.map V.str).length=bd.length by simp,a0Q ("":Str) (fun z=>decide (z∈U)) V.str bd] at hC
  try skip
  refine ⟨Xf _,fun p7 hp7=>?_⟩
  obtain ⟨H7,e7,s7,h7⟩:=a0Y hp7 (.lst []);rw [e7]
  refine b4H (SqL.of (s7 _ _ hC)) (SqL.of h7) (fun z hz=>(hbo z (Qq.mp hz).1).1) ?_
  have e:(!decide (bd.filter (fun z=>decide (z∈U))=[]))=a2j bd U:=by
   unfold a2j
   rw [Xl,Xy,decide_eq_false_iff_not,Zb,Yl]
   simp
  rw [e]
  exact q _ (s6.trans s7)
theorem a4p (T:Txt K mg t):a0S P w K mg base CX0 1 t.f_z1l t.fd_z1l ["_law_q"] b4u:=by
 refine T.F_z1l.ok b9C (fun vs H Q E h=>?_) (fun cdv A outer s H vs Q E hr h=>?_)
 ·obtain ⟨z,rfl,hz,q⟩:=h;rfl
 ·obtain ⟨z,rfl,hz,q⟩:=h
  refine ⟨_,‹A2 (B5 (B8 (D1 Wj Uy Uz a5F 0 (A0 B1 A1))) (A4 (A7 (F7 0 (F2 A3) G0))) B6) (A4 (A7 (A5 a0u B1 0)))›,?_⟩
  rw [show start b8u [V.str z]=[some (V.str z)] from rfl]
  unfold a0A at q
  try simp only [a1p,a3b,tB,tBM,a0k,Qa,a0j,tC,a0t,a1a,tSl,a9m,a4Y,b2v,a0e,a7y,a1o,tOp,a1w,a4D,a1x,b0t]
  refine a2c (fun c=>?_) (fun c=>?_)
  ·rw [if_pos c] at q
   exact ⟨a3F (by omega),q⟩
  ·rw [if_neg c] at q
   exact ⟨Qi (Nat.add_le_add (show (Uj "-").length≤1 by decide+kernel) hz) (by decide),q⟩
theorem b3n (T:Txt K mg t):a0S P w K mg base CX0 1 t.f_z1i t.fd_z1i ["_law_row_here","_law_up"] b2W:=by
 refine T.F_z1i.ok b8I (fun vs H Q E h=>?_) (fun cdv A outer s H vs Q E hr h=>?_)
 ·obtain ⟨v,a,r,U,rfl,hv,hro,ha,q⟩:=h;rfl
 ·obtain ⟨v,a,r,U,rfl,hv,hro,ha,q⟩:=h
  refine ⟨_,‹A4 (A7 (D0 (a1e hr.units) (C2 (B4 (a0b a8J) b6x ["_law_p","_law_up"] [none,some 1]) (E4 (B0 a0n 0 A3)) (A9 0 (show Xk (["_law_p","_law_up"]:List Str) by decide+kernel)) (C3 (C9 ‹E9 0 1›)) 0) (B9 A1) (a0r _)))›,?_⟩
  rw [show start b6x [v,V.ref a]=[some (v),some (V.ref a)] from rfl]
  obtain ⟨p,t1,rfl,hp,ht⟩:=hv
  have hbl:r.2.2.2.length≤4:=hro.2.2.2.2.2
  have hbo:∀q∈r.2.2.2,OkS q:=hro.2.2.2.2.1
  try simp only [a1a,tOp,a3c,a0t,a0o,b2L,a0k,Qa,tC,a0e]
  refine a0v (SqT.of hp) rfl ?_
  generalize r.2.2.2=bd at hbl hbo ht q
  try simp only [a0z]
  refine ⟨⟨_,SqT.of ht⟩,?_⟩
  refine a3Q (a5r (xs:=bd.map V.str)) (Qi (show (bd.map V.str).length≤1000 by rw [Qe];omega) (by decide)) [some (V.ref a)] rfl (fun i=>decide (((bd[i]?).getD "")∉U)) (fun i=>V.str ((bd[i]?).getD "")) (fun H'' s=>SqT.of (s _ _ ht)) (fun i H'' R'' hi s hR''=>?_) (fun i H'' R'' hi s hR''=>?_) (fun C H6 hCn s6 hC=>?_)
  ·have hi':i < bd.length:=by simpa using hi
   have e2:((bd.map V.str)[i]?).getD .non=V.str bd[i]:=by rw [Qm,Qc hi'];rfl
   rw [e2]
   rw [Qc hi',Xo] at hR''
   try simp only [tB,a2r,a0k,Qa,Qb,a1x,a0e]
   obtain ⟨o,ho,eo⟩:=(ha.same s).get bd[i]
   refine ⟨a,o,rfl,ho,?_⟩
   have:=hR'' _ (a0i.refl _)
   rw [eo,show (!decide (bd[i]∈U))=decide (bd[i]∉U) from by simp]
   exact this
  ·have hi':i < bd.length:=by simpa using hi
   have e2:((bd.map V.str)[i]?).getD .non=V.str bd[i]:=by rw [Qm,Qc hi'];rfl
   rw [e2]
   rw [Qc hi',Xo] at hR''
   try simp only [a0k,Qa,a0e]
   exact hR'' _ (a0i.refl _)
  rw [show (bd.map V.str).length=bd.length by simp,a0Q ("":Str) (fun z=>decide (z∉U)) V.str bd] at hC
  try skip
  refine ⟨Xf _,fun p7 hp7=>?_⟩
  obtain ⟨H7,e7,s7,h7⟩:=a0Y hp7 (.lst []);rw [e7]
  refine b5o (SqL.of (s7 _ _ hC)) (SqL.of h7) (fun z hz=>(hbo z (Qq.mp hz).1).1) ?_
  rw [a8G]
  exact q _ (s6.trans s7)
theorem c0c (T:Txt K mg t):a0S P w K mg base CX0 2 t.f_z1t t.fd_z1t ["_law_by_here","_law_pairs","_law_firm","_law_up","_law_down","_law_q"] (b0v a0q):=by
 refine T.F_z1t.ok b1f (fun vs H Q E h=>?_) (fun cdv A outer s H vs Q E hr h=>?_)
 ·obtain ⟨B,P0,a1,a2,a3,q0,rs,ps,pl,S,U,D,rfl,hB,hO,hrl,hP,hPr,hPo,h1,h2,h3,hql,q⟩:=h;rfl
 ·obtain ⟨B,P0,a1,a2,a3,q0,rs,ps,pl,S,U,D,rfl,hB,hO,hrl,hP,hPr,hPo,h1,h2,h3,hql,q⟩:=h
  refine ⟨_,‹A2 (B5 (B3 a3a 5 2 (by with_unfolding_all rfl)) (A4 (A7 B2)) B6) (A2 (A8 6 b1f.nd (C2 (B4 (a0b a5M) a9a ["_law_row_here","_law_up"] [none,some 3]) (B7 (F0 0 5 (B9 A1))) (A9 0 (show Xk (["_law_row_here","_law_up"]:List Str) by decide+kernel)) (C3 (C7 (D9 (B3 (b4p hr.units (K:=K) rfl) (B0 (a3f (K:=K) rfl) 0 A3) B1 (a0r _)) (E0 (B8 (A6 (b3n T) T.g_z1i T.F_z1i.kp T.b_z1i .nil (A0 0 (A0 1 A1)))))))) 0)) (D7 (B5 (C7 (F3 (B3 (a1e hr.units) 6 (B9 A1) (a0r _)) (F4 (B3 a3a (A6 (a4p T) T.g_z1l T.F_z1l.kp T.b_z1l .nil (A0 5 A1)) 2 (by with_unfolding_all rfl))))) (A4 (A7 B2)) B6) (A2 (D8 7 (B4 (a0b a5M) a9a ["_law_row_here","_law_down"] [none,some 4]) (B7 (F0 0 (A6 (a4p T) T.g_z1l T.F_z1l.kp T.b_z1l .nil (A0 5 A1)) (B9 A1))) (A9 0 (show Xk (["_law_row_here","_law_down"]:List Str) by decide+kernel)) (C3 (E6 (B8 (A6 (b4c T) T.g_z1m T.F_z1m.kp T.b_z1m .nil (A0 0 (A0 1 A1)))))) 0 b1f.nd) (A4 (A7 (D0 (a1e hr.units) (C2 (B4 (a0b a5M) a9a ["_law_row_here","_law_pairs","_law_good"] [none,some 1,some 6]) (B7 7) (A9 0 (show Xk (["_law_row_here","_law_pairs","_law_good"]:List Str) by decide+kernel)) (C3 (E6 (B8 (A6 (b3X T) T.g_z1j T.F_z1j.kp T.b_z1j .nil (A0 1 (A0 0 (A0 2 A1))))))) 0) (B9 A1) (a0r _)))))))›,?_⟩
  rw [show start a9a [V.ref B,V.ref P0,V.ref a1,V.ref a2,V.ref a3,V.str q0]=[some (V.ref B),some (V.ref P0),some (V.ref a1),some (V.ref a2),some (V.ref a3),some (V.str q0),none,none] from rfl]
  try simp only [a1p,a3b,a1f,tOp,a0k,Qb,Qa,a1a,tC,a1o,a1J,a0l,a0o,a1y,a4Q,a0B,a0j,a0t,Qf,a3c,Qg,Qh,a0e,a0z]
  refine a3k (SqL.of h1) ?_
  try simp only [a1x,decide_eq_true_eq]
  refine a2c (fun c0=>?_) (fun c0=>?_)
  ·have:=q H (a0i.refl _)
   unfold a0q at this
   rw [if_pos c0] at this
   exact this
  obtain ⟨kvs,hk,_⟩:=id hB
  refine ⟨a2o hk,by decide,fun N hN=>?_⟩
  obtain ⟨H1,e1,s1,hN1⟩:=a0Y hN (.lst []);rw [e1]
  obtain ⟨_,o,hDg,L,zr,eL,hL,hz,ez⟩:=a7Q (hB.same s1) hN1 hO q0
  have hzl:zr.length≤63:=by
   have:=congrArg Yn ez
   rw [Qe] at this
   rw [this];exact Qi (Qu _ _) hrl
  refine ⟨o,hDg,?_⟩
  rw [eL]
  try simp only [a0z]
  refine ⟨⟨_,SqL.of hL⟩,?_⟩
  refine a2L (fun H' v r=>a5h H' v r∧a1B r) (0,"","",[]) zr hL (by omega) (fun H' s=>hz.same s) [some (V.ref a2)] rfl (fun r=>spk r && a2E r.2.2.2 U) (fun p=>p.1) (fun x r H' R' hx s' hR'=>?_) (fun x r H' R' hx s' hR'=>?_) (fun W H4 hWn s4 hW4=>?_)
  ·have hx':=hx
   obtain ⟨⟨p,t1,rfl,hp,ht⟩,hro⟩:=hx
   try simp only [b1K,a1f,tOp,a0k,Qa,tC,tB,a0B,a0j,Qb,a0t,Qf,a0e]
   refine a0v (SqT.of hp) rfl ?_
   try simp only [a7Y,a1x,Xy,decide_eq_false_iff_not]
   refine a2c (fun c1=>?_) (fun c1=>?_)
   ·rw [a7h hro.1 c1,Jt] at hR'
    refine ⟨_,a2,r,U,rfl,hx'.1,hro,h2.same (s1.trans s'),fun H'' s''=>?_⟩
    try simp only [a1x]
    exact hR' _ s''
   ·have:=hR' _ (a0i.refl _)
    rw [a7t hro.1 c1,Ja] at this
    exact this
  ·try simp only [a0k,Qa,a0e]
   exact hR' _ (a0i.refl _)
  have s04:=s1.trans s4
  have hz4:b1k H4 (zr.filter fun p=>spk p.2 && a2E p.2.2.2.2 U):=fun p hp=>(hz.same s4) p (Qq.mp hp).1
  have hzl4:(zr.filter fun p=>spk p.2 && a2E p.2.2.2.2 U).length≤63:=Qi (Qu _ _) hzl
  have est:(zr.filter fun p=>spk p.2 && a2E p.2.2.2.2 U).map (·.2)=a0X rs U q0:=by
   unfold a0X
   rw [←ez,Zs,Zh]
   refine congrArg (Ge _) (Zv fun p _=>?_)
   simp only [Function.comp]
   rw [Ub]
  generalize (zr.filter fun p=>spk p.2 && a2E p.2.2.2.2 U)=zs at hW4 hz4 hzl4 est
  have hemp:(a0X rs U q0=[])↔zs=[]:=by rw [←est,Ur]
  have hneed:∀H',a0i H H'→(a0X rs U q0=[]∨a0A q0∈S)→Q (.bl false) H':=fun H' s' hc=>by
   have:=q H' s'
   unfold a0q at this
   rw [if_neg c0,if_pos hc] at this
   exact this
  try skip
  refine ⟨fun σ' H'=>σ'=[some (V.ref B),some (V.ref P0),some (V.ref a1),some (V.ref a2),some (V.ref a3),some (V.str q0),some (V.ref W),none]∧a0i H4 H'∧¬(a0X rs U q0=[]∨a0A q0∈S),?_,?_⟩
  ·try simp only [a3b,tOr,a1f,tOp,a0k,Qb,Qa,a3c,a0t,a1a,tC,a1o,if_true,a0B,a0j,Qf,a0e]
   refine ⟨Xf _,fun p7 hp7=>?_⟩
   obtain ⟨H7,e7,s7,h7⟩:=a0Y hp7 (.lst []);rw [e7]
   refine a5s (s7 _ _ hW4) (SqL.of h7) (hz4.same s7) ?_
   try simp only [a1x,decide_eq_true_eq]
   refine a2c (fun c1=>hneed _ (s04.trans s7) (.inl (hemp.mpr c1))) (fun c1=>?_)
   refine ⟨q0,rfl,hql,a3k (SqL.of ((s04.trans s7) _ _ h1)) ?_⟩
   try simp only [a1x,decide_eq_true_eq]
   exact a2c (fun c2=>hneed _ (s04.trans s7) (.inr c2)) (fun c2=>⟨(by trivial),s7,fun z=>z.elim (fun w=>c1 (hemp.mp w)) c2⟩)
  rintro σ' H5 ⟨rfl,s5,hc⟩
  have s05:=s04.trans s5
  try simp only [a1p,Qa,Qb,a1a,tOp,Qg,Qh,a3c,a0t,a0o,a1y,a0k,a0e,a0z]
  refine ⟨a2o (s05 _ _ hk),q0,rfl,hql,by decide,fun N2 hN2=>?_⟩
  obtain ⟨H6,e6,s6,hN6⟩:=a0Y hN2 (.lst []);rw [e6]
  have s06:=s05.trans s6
  obtain ⟨_,o2,hDg2,L2,zb,eL2,hL2,hzb,ezb⟩:=a7Q (hB.same s06) hN6 hO (a0A q0)
  have hbl:zb.length≤63:=by
   have:=congrArg Yn ezb
   rw [Qe] at this
   rw [this];exact Qi (Qu _ _) hrl
  refine ⟨o2,hDg2,?_⟩
  rw [eL2]
  try simp only [a0z]
  refine ⟨⟨_,SqL.of hL2⟩,?_⟩
  refine a2L (fun H' v r=>a5h H' v r∧a1B r) (0,"","",[]) zb hL2 (by omega) (fun H' s=>hzb.same s) [some (V.ref a3)] rfl (fun r=>!a2j r.2.2.2 D) (fun p=>p.1) (fun x r H' R' hx s' hR'=>?_) (fun x r H' R' hx s' hR'=>?_) (fun W2 H7 hW2n s7 hW7=>?_)
  ·try simp only [b2E,tB,a0B,a0j,a0k,Qa,Qb,a0t,Qf,a0e]
   refine ⟨_,a3,r,D,rfl,hx.1,hx.2,h3.same (s06.trans s'),fun H'' s''=>?_⟩
   try simp only [a1x]
   exact hR' _ s''
  ·try simp only [a0k,Qa,a0e]
   exact hR' _ (a0i.refl _)
  have s57:=s6.trans s7
  have s07:=s05.trans s57
  have hz7:b1k H7 (zb.filter fun p=>!a2j p.2.2.2.2 D):=fun p hp=>(hzb.same s7) p (Qq.mp hp).1
  have hbl7:(zb.filter fun p=>!a2j p.2.2.2.2 D).length≤63:=Qi (Qu _ _) hbl
  have hWz:=s57 _ _ (s5 _ _ hW4)
  have hzz:=hz4.same (s5.trans s57)
  try simp only [a0z]
  refine ⟨⟨_,SqL.of hW7⟩,?_⟩
  refine a2L (fun H' v r=>a5h H' v r∧a1B r) (0,"","",[]) (zb.filter fun p=>!a2j p.2.2.2.2 D) hW7 (Qi hbl7 (by decide)) (fun H' s=>hz7.same s) [some (V.ref P0),some (V.ref W)] rfl (fun r=>!btn pl (zs.map (·.2)) r) (fun p=>p.1) (fun x r H' R' hx s' hR'=>?_) (fun x r H' R' hx s' hR'=>?_) (fun W3 H8 hW3n s8 hW8=>?_)
  ·try simp only [b2E,tB,a0B,a0j,a0k,Qb,Qa,a0t,Qf,a0e]
   refine ⟨P0,W,_,ps,pl,r,zs,rfl,(s07.trans s') _ _ hP,a0U.same (s07.trans s') hPr,hPo,hx.1,hx.2,s' _ _ hWz,hzz.same s',hzl4,fun H'' s''=>?_⟩
   try simp only [a1x]
   exact hR' _ s''
  ·try simp only [a0k,Qa,a0e]
   exact hR' _ (a0i.refl _)
  try skip
  refine ⟨Xf _,fun p9 hp9=>?_⟩
  obtain ⟨H9,e9,s9,h9⟩:=a0Y hp9 (.lst []);rw [e9]
  have hz9:b1k H9 ((zb.filter fun p=>!a2j p.2.2.2.2 D).filter fun p=>!btn pl (zs.map (·.2)) p.2):=fun p hp=>(hz7.same (s8.trans s9)) p (Qq.mp hp).1
  have:=q _ ((s07.trans s8).trans s9)
  unfold a0q at this
  rw [if_neg c0,if_neg hc,←ezb,Vw,←est] at this
  refine a5s (s9 _ _ hW8) (SqL.of h9) hz9 ?_
  rw [b3i]
  exact this
theorem b8p (T:Txt K mg t):a0S P w K mg base CX0 2 t.f_z1c t.fd_z1c ["_law_by_here","_law_pairs","_law_firm","_law_up","_law_down","_law_q"] (b0v a2k):=by
 refine T.F_z1c.ok b1l (fun vs H Q E h=>?_) (fun cdv A outer s H vs Q E hr h=>?_)
 ·obtain ⟨B,P0,a1,a2,a3,q0,rs,ps,pl,S,U,D,rfl,hB,hO,hrl,hP,hPr,hPo,h1,h2,h3,hql,q⟩:=h;rfl
 ·obtain ⟨B,P0,a1,a2,a3,q0,rs,ps,pl,S,U,D,rfl,hB,hO,hrl,hP,hPr,hPo,h1,h2,h3,hql,q⟩:=h
  refine ⟨_,‹A2 (B5 (B3 a3a 5 2 (by with_unfolding_all rfl)) (A4 (A7 B2)) B6) (A2 (A8 6 b1l.nd (C2 (B4 (a0b a6r) b1i ["_law_row_here","_law_down"] [none,some 4]) (B7 (F0 0 5 (B9 A1))) (A9 0 (show Xk (["_law_row_here","_law_down"]:List Str) by decide+kernel)) (C3 (C7 (D9 (B3 (b4p hr.units (K:=K) rfl) (B0 (a3f (K:=K) rfl) 0 A3) B1 (a0r _)) (E0 (E6 (B8 (A6 (b4c T) T.g_z1m T.F_z1m.kp T.b_z1m .nil (A0 0 (A0 1 A1))))))))) 0)) (D7 (B5 (C7 (F3 (B3 (a1e hr.units) 6 (B9 A1) (a0r _)) (F4 (B3 a3a (A6 (a4p T) T.g_z1l T.F_z1l.kp T.b_z1l .nil (A0 5 A1)) 2 (by with_unfolding_all rfl))))) (A4 (A7 B2)) B6) (A2 (D8 7 (B4 (a0b a6r) b1i ["_law_row_here","_law_up"] [none,some 3]) (B7 (F0 0 (A6 (a4p T) T.g_z1l T.F_z1l.kp T.b_z1l .nil (A0 5 A1)) (B9 A1))) (A9 0 (show Xk (["_law_row_here","_law_up"]:List Str) by decide+kernel)) (C3 (B8 (A6 (b3n T) T.g_z1i T.F_z1i.kp T.b_z1i .nil (A0 0 (A0 1 A1))))) 0 b1l.nd) (A4 (A7 (D0 (a3o hr.units) (C2 (B4 (a0b a6r) b1i ["_law_row_here","_law_pairs","_law_left"] [none,some 1,some 6]) (B7 7) (A9 0 (show Xk (["_law_row_here","_law_pairs","_law_left"]:List Str) by decide+kernel)) (C3 (E6 (B8 (A6 (b3X T) T.g_z1j T.F_z1j.kp T.b_z1j .nil (A0 1 (A0 0 (A0 2 A1))))))) 0) (B9 A1) (a0r _)))))))›,?_⟩
  rw [show start b1i [V.ref B,V.ref P0,V.ref a1,V.ref a2,V.ref a3,V.str q0]=[some (V.ref B),some (V.ref P0),some (V.ref a1),some (V.ref a2),some (V.ref a3),some (V.str q0),none,none] from rfl]
  try simp only [a1p,a3b,a1f,tOp,a0k,Qb,Qa,a1a,tC,a1o,a1J,a0l,a0o,a1y,a4Q,a0B,a0j,a0t,Qf,a3c,Qg,Qh,a0e,a0z]
  refine a3k (SqL.of h1) ?_
  try simp only [a1x,decide_eq_true_eq]
  refine a2c (fun c0=>?_) (fun c0=>?_)
  ·have:=q H (a0i.refl _)
   unfold a2k at this
   rw [if_pos c0] at this
   exact this
  obtain ⟨kvs,hk,_⟩:=id hB
  refine ⟨a2o hk,by decide,fun N hN=>?_⟩
  obtain ⟨H1,e1,s1,hN1⟩:=a0Y hN (.lst []);rw [e1]
  obtain ⟨_,o,hDg,L,zr,eL,hL,hz,ez⟩:=a7Q (hB.same s1) hN1 hO q0
  have hzl:zr.length≤63:=by
   have:=congrArg Yn ez
   rw [Qe] at this
   rw [this];exact Qi (Qu _ _) hrl
  refine ⟨o,hDg,?_⟩
  rw [eL]
  try simp only [a0z]
  refine ⟨⟨_,SqL.of hL⟩,?_⟩
  refine a2L (fun H' v r=>a5h H' v r∧a1B r) (0,"","",[]) zr hL (by omega) (fun H' s=>hz.same s) [some (V.ref a3)] rfl (fun r=>spk r && !a2j r.2.2.2 D) (fun p=>p.1) (fun x r H' R' hx s' hR'=>?_) (fun x r H' R' hx s' hR'=>?_) (fun W H4 hWn s4 hW4=>?_)
  ·have hx':=hx
   obtain ⟨⟨p,t1,rfl,hp,ht⟩,hro⟩:=hx
   try simp only [b1K,a1f,tOp,a0k,Qa,tC,b2E,tB,a0B,a0j,Qb,a0t,Qf,a0e]
   refine a0v (SqT.of hp) rfl ?_
   try simp only [a7Y,a1x,Xy,decide_eq_false_iff_not]
   refine a2c (fun c1=>?_) (fun c1=>?_)
   ·rw [a7h hro.1 c1,Jt] at hR'
    refine ⟨_,a3,r,D,rfl,hx'.1,hro,h3.same (s1.trans s'),fun H'' s''=>?_⟩
    try simp only [a1x]
    exact hR' _ s''
   ·have:=hR' _ (a0i.refl _)
    rw [a7t hro.1 c1,Ja] at this
    exact this
  ·try simp only [a0k,Qa,a0e]
   exact hR' _ (a0i.refl _)
  have s04:=s1.trans s4
  have hz4:b1k H4 (zr.filter fun p=>spk p.2 && !a2j p.2.2.2.2 D):=fun p hp=>(hz.same s4) p (Qq.mp hp).1
  have hzl4:(zr.filter fun p=>spk p.2 && !a2j p.2.2.2.2 D).length≤63:=Qi (Qu _ _) hzl
  have est:(zr.filter fun p=>spk p.2 && !a2j p.2.2.2.2 D).map (·.2)=unf rs D q0:=by
   unfold unf
   rw [←ez,Zs,Zh]
   refine congrArg (Ge _) (Zv fun p _=>?_)
   simp only [Function.comp]
   rw [Ub]
  generalize (zr.filter fun p=>spk p.2 && !a2j p.2.2.2.2 D)=zs at hW4 hz4 hzl4 est
  have hemp:(unf rs D q0=[])↔zs=[]:=by rw [←est,Ur]
  have hneed:∀H',a0i H H'→(unf rs D q0=[]∨a0A q0∈S)→Q (.bl true) H':=fun H' s' hc=>by
   have:=q H' s'
   unfold a2k at this
   rw [if_neg c0,if_pos hc] at this
   exact this
  try skip
  refine ⟨fun σ' H'=>σ'=[some (V.ref B),some (V.ref P0),some (V.ref a1),some (V.ref a2),some (V.ref a3),some (V.str q0),some (V.ref W),none]∧a0i H4 H'∧¬(unf rs D q0=[]∨a0A q0∈S),?_,?_⟩
  ·try simp only [a3b,tOr,a1f,tOp,a0k,Qb,Qa,a3c,a0t,a1a,tC,a1o,if_true,a0B,a0j,Qf,a0e]
   refine ⟨Xf _,fun p7 hp7=>?_⟩
   obtain ⟨H7,e7,s7,h7⟩:=a0Y hp7 (.lst []);rw [e7]
   refine a5s (s7 _ _ hW4) (SqL.of h7) (hz4.same s7) ?_
   try simp only [a1x,decide_eq_true_eq]
   refine a2c (fun c1=>hneed _ (s04.trans s7) (.inl (hemp.mpr c1))) (fun c1=>?_)
   refine ⟨q0,rfl,hql,a3k (SqL.of ((s04.trans s7) _ _ h1)) ?_⟩
   try simp only [a1x,decide_eq_true_eq]
   exact a2c (fun c2=>hneed _ (s04.trans s7) (.inr c2)) (fun c2=>⟨(by trivial),s7,fun z=>z.elim (fun w=>c1 (hemp.mp w)) c2⟩)
  rintro σ' H5 ⟨rfl,s5,hc⟩
  have s05:=s04.trans s5
  try simp only [a1p,Qa,Qb,a1a,tOp,Qg,Qh,a3c,a0t,a0o,a1y,a0k,a0e,a0z]
  refine ⟨a2o (s05 _ _ hk),q0,rfl,hql,by decide,fun N2 hN2=>?_⟩
  obtain ⟨H6,e6,s6,hN6⟩:=a0Y hN2 (.lst []);rw [e6]
  have s06:=s05.trans s6
  obtain ⟨_,o2,hDg2,L2,zb,eL2,hL2,hzb,ezb⟩:=a7Q (hB.same s06) hN6 hO (a0A q0)
  have hbl:zb.length≤63:=by
   have:=congrArg Yn ezb
   rw [Qe] at this
   rw [this];exact Qi (Qu _ _) hrl
  refine ⟨o2,hDg2,?_⟩
  rw [eL2]
  try simp only [a0z]
  refine ⟨⟨_,SqL.of hL2⟩,?_⟩
  refine a2L (fun H' v r=>a5h H' v r∧a1B r) (0,"","",[]) zb hL2 (by omega) (fun H' s=>hzb.same s) [some (V.ref a2)] rfl (fun r=>a2E r.2.2.2 U) (fun p=>p.1) (fun x r H' R' hx s' hR'=>?_) (fun x r H' R' hx s' hR'=>?_) (fun W2 H7 hW2n s7 hW7=>?_)
  ·try simp only [tB,a0B,a0j,a0k,Qa,Qb,a0t,Qf,a0e]
   refine ⟨_,a2,r,U,rfl,hx.1,hx.2,h2.same (s06.trans s'),fun H'' s''=>?_⟩
   try simp only [a1x]
   exact hR' _ s''
  ·try simp only [a0k,Qa,a0e]
   exact hR' _ (a0i.refl _)
  have s57:=s6.trans s7
  have s07:=s05.trans s57
  have hz7:b1k H7 (zb.filter fun p=>a2E p.2.2.2.2 U):=fun p hp=>(hzb.same s7) p (Qq.mp hp).1
  have hbl7:(zb.filter fun p=>a2E p.2.2.2.2 U).length≤63:=Qi (Qu _ _) hbl
  have hWz:=s57 _ _ (s5 _ _ hW4)
  have hzz:=hz4.same (s5.trans s57)
  try simp only [a0z]
  refine ⟨⟨_,SqL.of hW7⟩,?_⟩
  refine a2L (fun H' v r=>a5h H' v r∧a1B r) (0,"","",[]) (zb.filter fun p=>a2E p.2.2.2.2 U) hW7 (Qi hbl7 (by decide)) (fun H' s=>hz7.same s) [some (V.ref P0),some (V.ref W)] rfl (fun r=>!btn pl (zs.map (·.2)) r) (fun p=>p.1) (fun x r H' R' hx s' hR'=>?_) (fun x r H' R' hx s' hR'=>?_) (fun W3 H8 hW3n s8 hW8=>?_)
  ·try simp only [b2E,tB,a0B,a0j,a0k,Qb,Qa,a0t,Qf,a0e]
   refine ⟨P0,W,_,ps,pl,r,zs,rfl,(s07.trans s') _ _ hP,a0U.same (s07.trans s') hPr,hPo,hx.1,hx.2,s' _ _ hWz,hzz.same s',hzl4,fun H'' s''=>?_⟩
   try simp only [a1x]
   exact hR' _ s''
  ·try simp only [a0k,Qa,a0e]
   exact hR' _ (a0i.refl _)
  try skip
  refine ⟨Xf _,fun p9 hp9=>?_⟩
  obtain ⟨H9,e9,s9,h9⟩:=a0Y hp9 (.lst []);rw [e9]
  have hz9:b1k H9 ((zb.filter fun p=>a2E p.2.2.2.2 U).filter fun p=>!btn pl (zs.map (·.2)) p.2):=fun p hp=>(hz7.same (s8.trans s9)) p (Qq.mp hp).1
  have:=q _ ((s07.trans s8).trans s9)
  unfold a2k at this
  rw [if_neg c0,if_neg hc,←ezb,Jc,←est] at this
  refine a7X (s9 _ _ hW8) (SqL.of h9) hz9 ?_
  rw [b2n]
  exact this
theorem b8A (T:Txt K mg t):a0S P w K mg base CX0 4 t.f_z1u t.fd_z1u ["_law_by_here","_law_pairs","_law_answers","_law_pool_here","_law_q"] (b9i t):=by
 refine T.F_z1u.ok a2R (fun vs H Q E h=>?_) (fun cdv A outer s H vs Q E hr h=>?_)
 ·obtain ⟨B,P0,x,Pa,z,rs,ps,pl,ss,T0,po,rfl,hB,hO,hrl,hP,hPr,hPo,hA,hPa,hk,hz,q⟩:=h;rfl
 ·obtain ⟨B,P0,x,Pa,z,rs,ps,pl,ss,T0,po,rfl,hB,hO,hrl,hP,hPr,hPo,hA,hPa,hk,hz,q⟩:=h
  refine ⟨_,‹A2 (D8 5 (B4 (a0b a8R) b5Y ["_law_one","_law_answers"] [none,some 2]) (B7 3) (A9 0 (show Xk (["_law_one","_law_answers"]:List Str) by decide+kernel)) (C3 (B8 (C0 1 T.cl_Answers T.me_Answers_sure (a8Y T) T.b_z0c (A0 0 A1)))) 0 a2R.nd) (A2 (A8 6 a2R.nd (C0 2 T.cl_Answers T.me_Answers_rank (a7P T) T.b_z0e (A0 4 A1))) (A2 (A8 7 a2R.nd (B9 (A0 (A5 a0u (C8 a1m T.z_len a1k (A0 3 A1)) A3) A1))) (D7 (B5 (B3 a9Y 6 A3 (a0r _)) (A4 (A8 7 a2R.nd (B9 (A0 6 (A0 (A5 a9D 6 A3) A1))))) B6) (A2 (A8 8 a2R.nd (B9 A1)) (A2 (C1 (B7 7) (A9 9 a2R.nd) (A2 (H1 (A6 (c0h T) T.g_z1o T.F_z1o.kp T.b_z1o .nil (A0 2 (A0 3 (A0 9 A1)))) (H2 (E7 (A9 10 a2R.nd) (E7 (A9 11 a2R.nd) G7)))) (A2 (D5 (D1 Yh Yc Yd a0Z 8 (A0 (A6 (c0c T) T.g_z1t T.F_z1t.kp T.b_z1t .nil (A0 0 (A0 1 (A0 5 (A0 10 (A0 11 (A0 4 A1))))))) A1))) (A4 (D5 (D1 Yh Yc Yd a0Z 8 (A0 (A6 (b8p T) T.g_z1c T.F_z1c.kp T.b_z1c .nil (A0 0 (A0 1 (A0 5 (A0 10 (A0 11 (A0 4 A1))))))) A1))))))) (A2 (B5 (B3 (a1e hr.units) 6 A3 (a0r _)) (A4 (A7 (D0 (a1e hr.units) 8 (B9 (A0 B2 (A0 B2 A1))) (a0r _)))) B6) (A2 (B5 (B3 (a3o hr.units) (F7 8 G0 (F2 A3)) (B9 (A0 (C0 2 T.cl_Answers T.me_Answers_held (a7M T) T.b_z0d (A0 4 A1)) (A0 (C0 2 T.cl_Answers T.me_Answers_refused (b3O T) T.b_z03 (A0 4 A1)) A1))) (a0r _)) (A4 (A7 B2)) B6) (A4 (A7 (G5 (D0 (a1e hr.units) 6 A3 (a0r _)) (F9 (D0 (a1e hr.units) (F7 8 (F2 A3) G0) (B9 (A0 B2 (A0 B2 A1))) (a0r _)))))))))))))›,?_⟩
  rw [show start b5Y [V.ref B,V.ref P0,V.ref x,V.ref Pa,V.str z]=[some (V.ref B),some (V.ref P0),some (V.ref x),some (V.ref Pa),some (V.str z),none,none,none,none,none,none,none] from rfl]
  obtain ⟨dx,st,sk,cm,St,hx,_⟩:=id hA
  have hTn:=hk.ans.1
  have hpl18:=hk.len
  try simp only [a1p,a1J,a1u,a0k,Qg,Qh,Qb,Qa,a0j,a0t,Qf,a0l,a3c,tOp,tCB,tC,a0e,a0o,a1y,a0z]
  refine ⟨⟨_,SqL.of hPa⟩,?_⟩
  refine a3Q (a2Y (xs:=po.map V.str)) (Qi (show (po.map V.str).length≤1000 by rw [Qe];omega) (by decide)) [some (V.ref x)] rfl (fun i=>decide (((po[i]?).getD "")∈ss)) (fun i=>V.str ((po[i]?).getD "")) (fun H'' s=>SqL.of (s _ _ hPa)) (fun i H'' R'' hi s hR''=>?_) (fun i H'' R'' hi s hR''=>?_) (fun Fi H1 hFn s1 hFi=>?_)
  ·have hi':i < po.length:=by simpa using hi
   have e2:((po.map V.str)[i]?).getD .non=V.str po[i]:=by rw [Qm,Qc hi'];rfl
   rw [e2]
   rw [Qc hi',Xo] at hR''
   try simp only [tB,a1u,a0k,Qb,Qa,a0j,a0t,Qf,a0e]
   exact ⟨x,dx,_,rfl,s _ _ hx,a1C _ _ _ (by decide+kernel) (by decide+kernel) (by decide+kernel),x,po[i],rs,ss,T0,rfl,hA.same s,hTn,fun H2 s2=>⟨_,rfl,hR'' _ s2⟩⟩
  ·have hi':i < po.length:=by simpa using hi
   have e2:((po.map V.str)[i]?).getD .non=V.str po[i]:=by rw [Qm,Qc hi'];rfl
   rw [e2]
   rw [Qc hi',Xo] at hR''
   try simp only [a0k,Qa,a0e]
   exact hR'' _ (a0i.refl _)
  rw [show (po.map V.str).length=po.length by simp,a0Q ("":Str) (fun z=>decide (z∈ss)) V.str po] at hFi
  have hF:∀x,x∈po.filter (fun z=>decide (z∈ss))↔x∈ss:=fun x=>by
   rw [Qq,decide_eq_true_eq]
   exact ⟨(·.2),fun h=>⟨hk.sts x (hk.ss x h),h⟩⟩
  have told:=b0R hk hF hz
  generalize po.filter (fun z=>decide (z∈ss))=F at hFi hF told
  dsimp only at told
  try skip
  refine ⟨x,dx,_,rfl,s1 _ _ hx,a1C _ _ _ (by decide+kernel) (by decide+kernel) (by decide+kernel),x,z,rs,ss,T0,rfl,hA.same s1,hTn,fun H2 s2=>?_⟩
  have s02:=s1.trans s2
  refine a1P (SqL.of (s02 _ _ hPa)) ?_
  try simp only [a0R]
  rw [Qe]
  refine ⟨by simp only [Qo,Qz];decide,fun L1 hL1=>?_⟩
  obtain ⟨H3,e3,s3,h3⟩:=a0Y hL1 (.lst [V.int ((po.length:Int)+2)]);rw [e3]
  have s03:=s02.trans s3
  refine ⟨fun σ' H'=>∃(Li:Addr) (ls:List Int),σ'=[some (V.ref B),some (V.ref P0),some (V.ref x),some (V.ref Pa),some (V.str z),some (V.ref Fi),some (V.int ((wr rs T0 z).2:Nat)),some (V.ref Li),none,none,none,none]∧a0i H3 H'∧H' Li=some (.lst (ls.map V.int))∧ls.length≤2∧ls=if 0 < (wr rs T0 z).2 then [((wr rs T0 z).2:Int),((wr rs T0 z).2:Int) - 1] else [(po.length:Int)+2],?_,?_⟩
  ·try simp only [a3b,a1f,tOp,a0k,Qb,Qa,tC,a1J,a3c,a0j,a0t,a0l,Qg,Qh,a0e,a3i,a1o,a1x,decide_eq_true_eq]
   by_cases h0:0 < (wr rs T0 z).2
   ·rw [if_pos (by omega),if_pos h0]
    refine ⟨by simp only [Qo,Qz];decide,fun L2 hL2=>?_⟩
    obtain ⟨H4,e4,s4,h4⟩:=a0Y hL2 (.lst [V.int ((wr rs T0 z).2:Nat),V.int (((wr rs T0 z).2:Nat) - 1)]);rw [e4]
    exact ⟨L2,[((wr rs T0 z).2:Int),((wr rs T0 z).2:Int) - 1],rfl,s4,h4,by simp,rfl⟩
   ·rw [if_neg (by omega),if_neg h0]
    exact ⟨L1,[(po.length:Int)+2],rfl,a0i.refl _,h3,by simp,rfl⟩
  rintro σ' H4 ⟨Li,ls,rfl,s4,hLi,hll,els⟩
  have s04:=s03.trans s4
  try simp only [a1p,a1J,a3c,a0t,a0l,Qg,Qh,a0L,a1y,a0k,Qb,Qa,a0e,a0z]
  refine ⟨Xf _,fun To hTo=>?_⟩
  obtain ⟨H5,e5,s5,h5⟩:=a0Y hTo (.lst []);rw [e5]
  have hTo0:H To=none:=none_of s04 hTo
  have hLi5:=s5 _ _ hLi
  refine ⟨⟨_,SqL.of hLi5⟩,?_⟩
  refine a1v (K:=K) (a:=Li) (xs:=ls.map V.int) (fun i σ H'=>∃(y9 y10 y11:Option V),σ=[some (V.ref B),some (V.ref P0),some (V.ref x),some (V.ref Pa),some (V.str z),some (V.ref Fi),some (V.int ((wr rs T0 z).2:Nat)),some (V.ref Li),some (V.ref To),y9,y10,y11]∧a0i H4 H'∧H' To=some (.lst ((ls.take i).flatMap fun l=>[V.bl (a0q rs pl F (ahd rs T0 po l true) (ahd rs T0 po l false) z),V.bl (a2k rs pl F (ahd rs T0 po l true) (ahd rs T0 po l false) z)])))
   ⟨_,_,_,rfl,s5,h5⟩ (fun i σ H' _ ⟨_,_,_,_,s,_⟩=>SqL.of (s _ _ hLi)) ?_ ?_
  ·rintro i v σ H6 hi ⟨y9,y10,y11,rfl,s6,hT6⟩
   have hil:i < ls.length:=by simpa using (Qp.mp hi).1
   have ev:v=V.int ls[i]:=by
    rw [Qm,Qc hil] at hi
    exact (Option.some.inj hi).symm
   subst ev
   clear hi
   rw [Qv hil,Ju,Zw,Ue,Qf]
   generalize hAl:((ls.take i).flatMap fun l=>[V.bl (a0q rs pl F (ahd rs T0 po l true) (ahd rs T0 po l false) z),V.bl (a2k rs pl F (ahd rs T0 po l true) (ahd rs T0 po l false) z)])=A at hT6
   have hAll:A.length≤100:=by
    rw [←hAl,List.length_flatMap]
    simp only [Qo,Qz,List.map_const',List.sum_replicate_nat,Yp]
    omega
   clear hAl
   generalize ls[i]=l
   have s06:=s04.trans s6
   try simp only [a0l,a1p,a1J,a0B,a0j,a0k,Qg,Qh,Qb,Qa,a0t,Qf,b6V,b1m,c0y,a4m,tBM,a0e]
   refine ⟨x,Pa,l,rs,ss,T0,po,rfl,hA.same s06,hTn,s06 _ _ hPa,hpl18,fun p Up Dn H7 s7 hp hU hD=>?_⟩
   have s07:=s06.trans s7
   have s47:=s6.trans s7
   have hFi4:=((s2.trans s3).trans s4) _ _ hFi
   refine ⟨p,_,rfl,SqT.of hp,rfl,_,_,rfl,_,_,rfl,rfl,.inl ⟨rfl,_,SqL.of (s7 _ _ hT6)⟩,?_⟩
   refine ⟨B,P0,Fi,Up,Dn,z,rs,ps,pl,F,_,_,rfl,hB.same s07,hO,hrl,s07 _ _ hP,a0U.same s07 hPr,hPo,s47 _ _ hFi4,hU,hD,hk.qlen z hz,fun H8 s8=>?_⟩
   have hT8:=s8 _ _ (s7 _ _ hT6)
   refine ⟨To,_,_,rfl,rfl,hT8,Xm (show _≤1000 by omega) (by decide),?_⟩
   obtain ⟨H9,e9,k9,hT9⟩:∃H9,upd H8 To (.lst (A++[V.bl (a0q rs pl F (ahd rs T0 po l true) (ahd rs T0 po l false) z)]))=H9∧(∀b o,H8 b=some o→b≠To→H9 b=some o)∧H9 To=some (.lst (A++[V.bl (a0q rs pl F (ahd rs T0 po l true) (ahd rs T0 po l false) z)])):=⟨_,rfl,fun b o e n=>by rw [a0a n];exact e,a0d⟩
   rw [e9]
   have s49:a0i H4 H9:=fun b o e=>k9 _ _ (s8 _ _ (s47 _ _ e)) (a0c e hTo)
   have s09:=s04.trans s49
   have dk:∀{D:Addr} {S:List Str},DAt H7 D S→DAt H9 D S:=fun {D S} h=>let ⟨kv,e,h⟩:=h;⟨kv,k9 _ _ (s8 _ _ e) (a0E (s8 _ _ e) hT8 (by intro w;cases w)),h⟩
   refine ⟨.inl ⟨rfl,_,SqL.of hT9⟩,B,P0,Fi,Up,Dn,z,rs,ps,pl,F,_,_,rfl,hB.same s09,hO,hrl,s09 _ _ hP,a0U.same s09 hPr,hPo,s49 _ _ hFi4,dk hU,dk hD,hk.qlen z hz,fun H10 s10=>?_⟩
   have hT10:=s10 _ _ hT9
   refine ⟨To,_,_,rfl,rfl,hT10,Xm (show _≤1000 by simp;omega) (by decide),_,_,_,rfl,fun b o e=>?_,by rw [a0d,Zk];rfl⟩
   rw [a0a (a0c e hTo)];exact s10 _ _ (s49 _ _ e)
  ·rintro σ H6 ⟨y9,y10,y11,rfl,s6,hT6⟩
   rw [Qe,Xu] at hT6
   have s06:=s04.trans s6
   try simp only [a1p,a3b,a1f,tOp,a0k,Qb,Qa,tC,a1a,a3c,a0j,a0t,a0e,a1o,tSl,a4Y,a9m,a1u,Qf,c0s,b2v,a2y,a1x,decide_eq_true_eq]
   rcases told with ⟨h0,t1,t2,tw⟩ | ⟨h0,b,ew,t1,t2,t3⟩
   ·rw [if_pos (by omega)]
    rw [els,if_neg (by omega),Zw,Ue,Qf,t1,t2] at hT6
    refine ⟨by simp only [Qo,Qz];decide,fun p hp=>?_⟩
    obtain ⟨H7,e7,s7,h7⟩:=a0Y hp (.lst [V.bl false,V.bl false]);rw [e7]
    exact a6d (.lst (SqL.of (s7 _ _ hT6)) (.cons (.bl _) (.cons (.bl _) .nil))) (.lst (SqL.of h7) (.cons (.bl _) (.cons (.bl _) .nil))) rfl (q _ (s06.trans s7))
   ·rw [if_neg (by omega)]
    rw [els,if_pos h0,Zw,Zw,Ue,Qf,t1,t2] at hT6
    refine .inr (.inl ⟨To,_,rfl,SqL.of hT6,fun C hC=>?_⟩)
    generalize a0q rs pl F (ahd rs T0 po (((wr rs T0 z).2:Int) - 1) true) (ahd rs T0 po (((wr rs T0 z).2:Int) - 1) false) z=c1 at hT6 t3
    generalize a2k rs pl F (ahd rs T0 po (((wr rs T0 z).2:Int) - 1) true) (ahd rs T0 po (((wr rs T0 z).2:Int) - 1) false) z=c2 at hT6 t3
    rw [show a8F ([V.bl b,V.bl !b]++[V.bl c1,V.bl c2]) none (some 2)=[V.bl b,V.bl !b] from rfl]
    obtain ⟨H7,e7,s7,h7⟩:=a0Y hC (.lst [V.bl b,V.bl !b]);rw [e7]
    have s07:=s06.trans s7
    refine ⟨x,dx,_,rfl,s07 _ _ hx,a1C _ _ _ (by decide+kernel) (by decide+kernel) (by decide+kernel),x,z,rs,ss,T0,rfl,hA.same s07,hTn,fun H8 s8=>?_⟩
    have s08:=s07.trans s8
    refine ⟨x,dx,_,rfl,s08 _ _ hx,a1C _ _ _ (by decide+kernel) (by decide+kernel) (by decide+kernel),x,z,rs,ss,T0,rfl,hA.same s08,hTn,fun H9 s9=>?_⟩
    dsimp only
    rw [ew,a6s,b4T]
    refine ⟨by simp only [Qo,Qz];decide,fun p hp=>?_⟩
    obtain ⟨H10,e10,s10,h10⟩:=a0Y hp (.lst [V.bl b,V.bl !b]);rw [e10]
    have s610:=s7.trans (s8.trans (s9.trans s10))
    refine a2t (d:=.list [.bool b,.bool !b]) (.lst (SqL.of ((s8.trans (s9.trans s10)) _ _ h7)) (.cons (.bl _) (.cons (.bl _) .nil))) (.lst (SqL.of h10) (.cons (.bl _) (.cons (.bl _) .nil))) rfl ⟨_,rfl,?_⟩
    rw [if_neg Qn]
    by_cases h1:(wr rs T0 z).2=1
    ·rw [if_pos (by omega)];exact q _ (s06.trans s610)
    rw [if_neg (by omega)]
    obtain ⟨rfl,rfl⟩:=t3.resolve_left h1
    refine .inr (.inl ⟨To,_,rfl,SqL.of (s610 _ _ hT6),fun C2 hC2=>?_⟩)
    rw [show a8F ([V.bl b,V.bl !b]++[V.bl false,V.bl false]) (some 2) none=[V.bl false,V.bl false] from rfl]
    obtain ⟨H11,e11,s11,h11⟩:=a0Y hC2 (.lst [V.bl false,V.bl false]);rw [e11]
    refine ⟨by simp only [Qo,Qz];decide,fun p2 hp2=>?_⟩
    obtain ⟨H12,e12,s12,h12⟩:=a0Y hp2 (.lst [V.bl false,V.bl false]);rw [e12]
    exact a6d (.lst (SqL.of (s12 _ _ h11)) (.cons (.bl _) (.cons (.bl _) .nil))) (.lst (SqL.of h12) (.cons (.bl _) (.cons (.bl _) .nil))) rfl (q _ ((s06.trans s610).trans (s11.trans s12)))
theorem a4C (T:Txt K mg t):a0S P w K mg base CX0 1 t.f_z1b t.fd_z1b ["_law_script","_law_k"] (b9J K):=by
 refine T.F_z1b.ok b9k (fun vs H Q E h=>?_) (fun cdv A outer s H vs Q E hr h=>?_)
 ·obtain ⟨a,ns,k,rfl,hS,hl,k0,k1,q⟩:=h;rfl
 ·obtain ⟨a,ns,k,rfl,hS,hl,k0,k1,q⟩:=h
  refine ⟨_,‹A2 (B5 (B3 a9E 1 (C8 a1m T.z_len a1k (A0 0 A1)) (a0r _)) (A4 (A7 (B0 a0n 0 1))) B6) (A4 (A7 A3))›,?_⟩
  rw [show start b9P [V.ref a,V.int k]=[some (V.ref a),some (V.int k)] from rfl]
  try simp only [a1p,a3b,a1f,tOp,a0k,Qb,Qa,tCB,a0j,a0t,a1a,a0e,a1o,tC]
  refine a1P hS ?_
  try simp only [a7q,a1x,decide_eq_true_eq]
  refine a2c (fun c=>?_) (fun c=>q 0 (by rw [Qe] at c;rw [Xn,Yr (by omega)];rfl))
  obtain ⟨v,e,hv,_⟩:=a4v (xs:=ns.map V.int) (i:=k) k0 (by simpa using c)
  obtain ⟨i,_,rfl⟩:=Qj.mp hv
  refine a0J hS e (q i ?_)
  have hc:k.toNat < ns.length:=by rw [Qe] at c;omega
  unfold atI ixN at e
  rw [if_pos (by omega),if_pos (by rw [Qe];omega)] at e
  have e':(ns.map V.int)[k.toNat]?=some (V.int i):=e
  rw [Qm,Qc hc] at e'
  rw [Xn,Qc hc]
  exact (V.int.inj (Option.some.inj e')).symm
theorem b4k (T:Txt K mg t):a0S P w K mg base CX0 1 t.f_z1p t.fd_z1p ["_law_cell","_law_k","_law_signs"] b8z:=by
 refine T.F_z1p.ok a3s (fun vs H Q E h=>?_) (fun cdv A outer s H vs Q E hr h=>?_)
 ·obtain ⟨c,k,sg,rfl,hsg,q⟩:=h;rfl
 ·obtain ⟨c,k,sg,rfl,hsg,q⟩:=h
  refine ⟨_,‹A2 (A8 3 a3s.nd (A5 a0u A3 (A5 a0G 0 A3))) (A2 (A8 4 a3s.nd (A5 a0G (A5 a0M 0 A3) 3)) (A2 (A8 5 a3s.nd B1) (A2 (C1 (E8 (A0 3 A1)) (A9 6 a3s.nd) (A2 (A8 7 a3s.nd (A5 a0u (A5 a0M 0 A3) (A5 a4a A3 6))) (D7 (B5 (B3 (a1e hr.units) 6 4 (a0r _)) (A4 (A8 7 a3s.nd (A5 a0u 7 1))) B6) (A4 (A8 5 a3s.nd (A5 a0u 5 (B0 a0n 2 (A5 a0G 7 (C8 a1m T.z_len a1k (A0 2 A1)))))))))) (A4 (A7 5)))))›,?_⟩
  rw [show start b8t [V.int c,V.int k,sv sg]=[some (V.int c),some (V.int k),some (sv sg),none,none,none,none,none] from rfl]
  have m8:=a1z (i:=c) (j:=8) (by decide)
  try simp only [a1p,a1J,tOp,tC,a0k,Qa,a0l,Qg,Qh,Qb,a0L,a6Q,a0j,a0t,a0e,a1d,a8N,a0R]
  refine ⟨by decide,⟨by decide,by decide⟩,by omega,_,rfl,by omega,by omega,?_⟩
  refine a2T (n:=(1+c % 8).toNat) (lo:=0) (fun i σ H'=>H=H'∧∃(j st:Option V),σ=[some (V.int c),some (V.int k),some (sv sg),some (V.int (1+c % 8)),some (V.int (c / 8 % (1+c % 8))),some (sv ((Xs i).map fun (j:Nat)=>sg.getD (((c / 64+5 * (j:Int)+(if (j:Int)=c / 8 % (1+c % 8) then k else 0)) % (sg.length:Int)).toNat) 0)),j,st]) ⟨rfl,_,_,rfl⟩ ?_ ?_
  ·rintro i σ H' hi ⟨rfl,j,st,rfl⟩
   obtain ⟨l,el⟩:∃l,((Xs i).map fun (j:Nat)=>sg.getD (((c / 64+5 * (j:Int)+(if (j:Int)=c / 8 % (1+c % 8) then k else 0)) % (sg.length:Int)).toNat) 0)=l:=⟨_,rfl⟩
   have hl:l.length=i:=by rw [←el,Qe,Zj]
   rw [Jv,Xq,Xj,Jl,el,Int.zero_add]
   try simp only [a0l,a1p,a1J,tOp,a0k,Qg,Qh,Qa,tC,Qb,a0e,a1d,b5h,a8N,a0R]
   refine ⟨⟨by decide,by decide⟩,.inl (by decide),fun σ' H'=>H=H'∧∃n:Int,n=c / 64+5 * (i:Int)+(if (i:Int)=c / 8 % (1+c % 8) then k else 0)∧σ'=[some (V.int c),some (V.int k),some (sv sg),some (V.int (1+c % 8)),some (V.int (c / 8 % (1+c % 8))),some (sv l),some (V.int (i:Int)),some (V.int n)],?_,?_⟩
   ·try simp only [a3b,a1f,tOp,a0k,Qb,Qa,a1J,a0l,Qg,Qh,a0e,a0R,a1o,a2y,a1x,decide_eq_true_eq]
    exact a2c (fun z=>⟨(by trivial),_,by rw [if_pos z],rfl⟩) (fun z=>⟨(by trivial),_,by rw [if_neg z,Int.add_zero],rfl⟩)
   rintro σ' H' ⟨rfl,n,hn,rfl⟩
   rw [←hn]
   try simp only [a1J,tOp,a0k,Qb,Qa,tCB,a0j,a0t,a0l,Qg,Qh,a0e,a9y,a1d,b4t,a1w]
   have hm:=a1z (i:=n) (j:=((mk sg).length:Int)) (by rw [a0y];omega)
   obtain ⟨d,e,hv,hd⟩:=a4v (xs:=(mk sg).cps.toList) hm.1 (by rw [show ((mk sg).cps.toList.length:Int)=((mk sg).length:Int) by rw [a0y]];exact hm.2)
   have hd':sg.getD ((n % (sg.length:Int)).toNat) 0=d:=by
    have hd2:sg[(n % ((mk sg).length:Int)).toNat]?=some d:=hd
    rw [a0y] at hd2
    rw [Xn,hd2];rfl
   rw [hd']
   refine ⟨a3F (by rw [a0y];omega),by rw [a0y];omega,a3F (by rw [a0y];omega),d,e,?_,(by trivial),_,_,by rw [show (mk l++(⟨#[d]⟩:Str))=mk (l++[d]) from a2v l [d]]⟩
   show (mk l).length+1≤sizeLine
   rw [a0y]
   exact Qi (show l.length+1≤1000 by omega) (by decide)
  ·rintro σ H' ⟨rfl,j,st,rfl⟩
   try simp only [a1a,a0k,Qb,Qa,a0e]
   exact q
theorem b3F (T:Txt K mg t):a0S P w K mg base CX0 2 t.f_z1h t.fd_z1h ["_law_cell"] b2o:=by
 refine T.F_z1h.ok b7x (fun vs H Q E h=>?_) (fun cdv A outer s H vs Q E hr h=>?_)
 ·obtain ⟨c,rfl,q⟩:=h;rfl
 ·obtain ⟨c,rfl,q⟩:=h
  refine ⟨_,‹A4 (A7 (C2 (B4 (a0b a8y) b6l ["_law_k","_law_cell"] [none,some 0]) (E8 (A0 A3 A1)) (A9 0 (show Xk (["_law_k","_law_cell"]:List Str) by decide+kernel)) D6 (A6 (b4k T) T.g_z1p T.F_z1p.kp T.b_z1p .nil (A0 (A5 a0M 1 A3) (A0 0 (A0 B1 A1))))))›,?_⟩
  rw [show start b6l [V.int c]=[some (V.int c)] from rfl]
  try simp only [a1a,a0o,a6Q,a0j,tC,a0t]
  refine ⟨12,rfl,by decide,by decide,?_⟩
  refine a4M a2N (Qi (show (12:Int).toNat≤1000 by decide) (by decide)) [some (V.int c)] rfl (fun i v=>∃z,v=.str z∧OkS z) (fun _ _=>trivial) (fun i H' R hi s hR=>?_) (fun D H' ys hDn s hD hl hv=>?_)
  ·try simp only [a0B,a0j,tOp,a0k,Qb,Qa,tC,a0t,Qf,a0e,a1d,a8N]
   rw [b6t]
   refine ⟨⟨by decide,by decide⟩,_,_,c0W,rfl,by decide,hR _ _ (a0i.refl _) ⟨_,rfl,OkS.of (fun x hx=>b6u (a3X (by decide) x hx)) (Qi (a2W _ _ _).2 (by decide))⟩⟩
  ·obtain ⟨zs,rfl,ho⟩:=a6V hv
   exact q D zs H' s hDn hD (by simpa using hl) ho
theorem b9j (T:Txt K mg t):a0S P w K mg base CX0 1 t.f_z1n t.fd_z1n ["_law_pairs","_law_one","_law_other_here"] b4C:=by
 refine T.F_z1n.ok a4I (fun vs H Q E h=>?_) (fun cdv A outer s H vs Q E hr h=>?_)
 ·obtain ⟨P0,o,z,ps,pl,rfl,hP,hPr,hpl,q⟩:=h;rfl
 ·obtain ⟨P0,o,z,ps,pl,rfl,hP,hPr,hpl,q⟩:=h
  refine ⟨_,‹A2 (A8 3 a4I.nd (H9 (J0 1 B2 J1) rfl rfl)) (A2 (A8 4 a4I.nd B2) (A2 (G6 (C7 (D9 (B8 4) (E0 (C9 ‹E9 2 3›)))) (A2 (A8 4 a4I.nd B2) (A4 (C1 (B7 0) (A9 5 a4I.nd) (A4 (B5 (C7 (D9 (C9 (a2g (a2C hr) ‹B0 a0n 5 A3› ‹3›)) (E0 (C9 ‹E9 (B0 a0n 5 A3) 3›)))) (A2 (C6 3 (B0 a0n 5 A3) B2) (A4 (A8 4 a4I.nd B2))) B6)))))) (A4 (A7 (F8 (a2g (a2C hr) ‹2› ‹3›))))))›,?_⟩
  rw [show start b8R [V.ref P0,V.str o,V.str z]=[some (V.ref P0),some (V.str o),some (V.str z),none,none,none] from rfl]
  try simp only [a1p,a1J,b9T,a7i,a0k,Qb,Qa,tC,a0l,Qg,Qh,a0e]
  intro D hD
  obtain ⟨H1,e1,s1,hD1⟩:=a0Y hD (.dK []);rw [e1]
  refine ⟨hD1,[(Sum.inr o,V.bl true)],rfl,by show 1≤15;decide,?_⟩
  obtain ⟨H2,e2,s2,hD2⟩:∃H2,upd H1 D (.dK (a1r [] [((Sum.inr o:Key),V.bl true)]))=H2∧a0i H H2∧H2 D=some (.dK (bv [o])):=⟨_,rfl,fun b u e=>by rw [a0a (a0c e hD)];exact s1 _ _ e,a0d⟩
  rw [e2]
  obtain ⟨Iv,hIv⟩:∃Iv:Nat→St→Hp→Prop,∀m σ H',Iv m σ H'↔∃(S:List Str) (mo:Bool) (x5:Option V),σ=[some (V.ref P0),some (V.str o),some (V.str z),some (V.ref D),some (V.bl mo),x5]∧a0i H H'∧H' D=some (.dK (bv S))∧S.Nodup∧o∈S∧(∀x∈S,x∈o::pl.map (·.2))∧(mo=false→∀p∈pl,p.1∈S→p.2∈S)∧m=2 * (62 - S.length)+(if mo=true then 1 else 0):=⟨_,fun _ _ _=>Iff.rfl⟩
  refine a6A Iv _ ((hIv _ _ _).mpr ⟨[o],true,_,rfl,s2,hD2,by simp,by simp,by simp,(by intro w;cases w),rfl⟩) ?_
  intro m σ H3 hv
  obtain ⟨S,mo,x5,rfl,s3,hD3,hSn,hoS,hSs,hcl,hm⟩:=(hIv _ _ _).mp hv
  have hlen:∀{A:List Str},A.Nodup→(∀x∈A,x∈o::pl.map (·.2))→A.length≤61:=fun {A} h1 h2=>by
   have:=a1A h1 h2
   rw [Qo,Qe] at this;omega
  have hSl:=hlen hSn hSs
  have fin:(mo=true→z∈S)→∃a o',V.ref D=V.ref a∧a2n H3 a (V.str z) o'∧Q (.bl o'.isSome) H3:=fun hz=>by
   refine ⟨D,_,rfl,a2n.k (k:=(Sum.inr z:Key)) hD3,?_⟩
   rw [a1t]
   by_cases hzS:z∈S
   ·rw [if_pos hzS];exact q true H3 s3 (fun w=>by cases w)
   ·rw [if_neg hzS]
    refine q false H3 s3 fun _=>⟨S,hoS,hzS,hcl ?_⟩
    cases mo
    ·rfl
    ·exact absurd (hz rfl) hzS
  try simp only [b1K,tB,a0k,Qb,Qa,a2r,a1p,a1J,tC,a0l,Qg,Qh,a0L,a1y,a0e,a0z,a1a,b2c,a1x,Xy,a3M]
  cases mo with
  | false=>rw [if_neg Qn];exact fin fun w=>by cases w
  | true=>
  rw [if_pos rfl]
  rw [if_pos rfl] at hm
  refine ⟨D,_,rfl,a2n.k (k:=(Sum.inr z:Key)) hD3,?_⟩
  rw [a1t]
  by_cases hzS:z∈S
  ·rw [if_pos hzS,if_neg (by simp)]
   exact fin fun _=>hzS
  rw [if_neg hzS,if_pos (by rfl)]
  clear fin
  obtain ⟨as,rfl,hal,hat⟩:=id hPr
  refine ⟨fun σ H'=>∃m',m' < m∧Iv m' σ H',fun _ _ h=>h,⟨_,SqL.of (s3 _ _ hP)⟩,?_⟩
  refine a1v (K:=K) (a:=P0) (xs:=as.map V.ref) (fun i σ H'=>∃(S':List Str) (mo':Bool) (x5:Option V),σ=[some (V.ref P0),some (V.str o),some (V.str z),some (V.ref D),some (V.bl mo'),x5]∧a0i H H'∧H' D=some (.dK (bv S'))∧S'.Nodup∧(∀x∈S,x∈S')∧(∀x∈S',x∈o::pl.map (·.2))∧(mo'=false→S'=S∧∀p∈pl.take i,p.1∈S→p.2∈S)∧(mo'=true→S.length < S'.length))
   ⟨S,false,_,rfl,s3,hD3,hSn,fun _ h=>h,hSs,fun _=>⟨rfl,fun p hp=>by simp at hp⟩,fun w=>by cases w⟩ (fun i σ H' _ ⟨_,_,_,_,s,_⟩=>SqL.of (s _ _ hP)) ?_ ?_
  ·rintro i v σ H4 hi ⟨S',mo',y5,rfl,s4,hD4,hn',hs1,hs2,hf,ht⟩
   have hil:i < pl.length:=by rw [←hal];simpa using (Qp.mp hi).1
   have hil':i < as.length:=by omega
   have ev:v=V.ref as[i]:=by
    rw [Qm,Qc hil'] at hi
    exact (Option.some.inj hi).symm
   subst ev
   clear hi
   have hp:=s4 _ _ (hat i _ _ (Qc hil') (Qc hil))
   have hpm:=Xd hil
   have et:=Qv hil
   have hSl':=hlen hn' hs2
   generalize as[i]=pa at hp
   generalize pl[i]=pp at hp hpm et
   have same:(pp.1∈S'→pp.2∈S')→(mo'=false→S'=S∧∀p∈pl.take (i+1),p.1∈S→p.2∈S):=fun hc hmo=>by
    obtain ⟨e,h⟩:=hf hmo
    refine ⟨e,fun p hp h1=>?_⟩
    rw [et] at hp
    rcases Xa.mp hp with w | w
    ·exact h p w h1
    ·rw [Xg.mp w] at h1 ⊢
     rw [←e] at h1 ⊢;exact hc h1
   try simp only [a0l,a3b,b1K,tB,b2c,tOp,a0k,Qg,Qh,Qb,Qa,tC,a2r,a1p,a3u,a1J,a0e,a1o,a1x,Xy,a3M]
   refine a0v (SqT.of hp) rfl ⟨D,_,rfl,a2n.k (k:=(Sum.inr pp.1:Key)) hD4,?_⟩
   rw [a1t]
   by_cases h1:pp.1∈S'
   ·rw [if_pos h1,if_pos (by rfl)]
    refine a0v (SqT.of hp) rfl ⟨D,_,rfl,a2n.k (k:=(Sum.inr pp.2:Key)) hD4,?_⟩
    rw [a1t]
    by_cases h2:pp.2∈S'
    ·rw [if_pos h2,if_neg (by simp)]
     exact ⟨S',mo',_,rfl,s4,hD4,hn',hs1,hs2,same fun _=>h2,ht⟩
    ·rw [if_neg h2,if_pos (by rfl)]
     refine a0v (SqT.of hp) rfl ⟨D,_,rfl,b5r hD4 (by omega) pp.2,S'++[pp.2],true,_,rfl,fun b u e=>?_,by rw [a0d,a7D h2],Yx.mpr ⟨hn',by simp,fun a ha b hb w=>h2 (by rw [Xg.mp hb] at w;exact w ▸ ha)⟩,fun x hx=>Xx _ (hs1 x hx),fun x hx=>?_,(fun w=>by cases w),fun _=>?_⟩
     ·rw [a0a (a0c e hD)];exact s4 _ _ e
     ·rcases Xa.mp hx with w | w
      ·exact hs2 x w
      ·rw [Xg.mp w];exact Qr _ (Qj.mpr ⟨pp,hpm,rfl⟩)
     ·have:=a1A hSn hs1
      rw [Xr,Wm];omega
   ·rw [if_neg h1,if_neg (by simp)]
    exact ⟨S',mo',_,rfl,s4,hD4,hn',hs1,hs2,same fun w=>absurd w h1,ht⟩
  ·rintro σ H4 ⟨S',mo',y5,rfl,s4,hD4,hn',hs1,hs2,hf,ht⟩
   rw [Qe,hal,Xu] at hf
   have hSl':=hlen hn' hs2
   refine ⟨_,?_,(hIv _ _ _).mpr ⟨S',mo',_,rfl,s4,hD4,hn',hs1 _ hoS,hs2,fun hmo=>?_,rfl⟩⟩
   ·cases mo' with
    | true=>have:=ht rfl;rw [if_pos rfl];omega
    | false=>rw [(hf rfl).1,if_neg Qn];omega
   ·obtain ⟨e,h⟩:=hf hmo
    rw [e];exact h
theorem a7N (T:Txt K mg t):a0S P w K mg base CX0 1 t.f_z1x t.fd_z1x ["_law_cell","_law_k"] b8l:=by
 refine T.F_z1x.ok b0q (fun vs H Q E h=>?_) (fun cdv A outer s H vs Q E hr h=>?_)
 ·obtain ⟨c,k,rfl,q⟩:=h;rfl
 ·obtain ⟨c,k,rfl,q⟩:=h
  refine ⟨_,‹A2 (A8 2 b0q.nd (A5 a0G (A5 a0u (A5 a0u 0 (A5 a4a A3 1)) A3) A3)) (A2 (A8 2 b0q.nd (A5 a0G (A5 a4a (A5 a0G (A5 a4a 2 2) A3) A3) A3)) (A4 (A7 (A5 a0G (A5 a4a (A5 a0u 2 A3) (A5 a0u 2 A3)) A3))))›,?_⟩
  rw [show start b8n [V.int c,V.int k]=[some (V.int c),some (V.int k),none] from rfl]
  try simp only [a1p,a1J,tOp,a0k,Qa,tC,Qb,a0l,Qg,Qh,a1a,a0e,a1d,b5h,a0R]
  have h0:=a1z (i:=c+7919 * k+12345) (j:=2147483629) (by decide)
  generalize (c+7919 * k+12345) % 2147483629=n at h0 ⊢
  have h1:=a1z (i:=n * n) (j:=2147483629) (by decide)
  generalize n * n % 2147483629=m at h1 ⊢
  have h2:=a1z (i:=m * 48271) (j:=2147483647) (by decide)
  generalize m * 48271 % 2147483647=l at h2 ⊢
  exact ⟨.inl (by decide),by decide,.inl (by omega),by decide,.inr (by decide),by decide,.inl (by omega),by decide,q _ (Za _ (by decide))⟩
theorem b8a (T:Txt K mg t):a0S P w K mg base CX0 3 t.f_z0m t.fd_z0m ["_law_cell","_law_many"] b8r:=by
 refine T.F_z0m.ok a4y (fun vs H Q E h=>?_) (fun cdv A outer s H vs Q E hr h=>?_)
 ·obtain ⟨c,m,rfl,hm,q⟩:=h;rfl
 ·obtain ⟨c,m,rfl,hm,q⟩:=h
  refine ⟨_,‹A2 (A8 2 a4y.nd (A6 (b3F T) T.g_z1h T.F_z1h.kp T.b_z1h .nil (A0 0 A1))) (A2 (A8 3 a4y.nd (B9 A1)) (A2 (C1 (E8 (A0 1 A1)) (A9 4 a4y.nd) (A2 (A8 5 a4y.nd (A6 (a7N T) T.g_z1x T.F_z1x.kp T.b_z1x .nil (A0 0 (A0 (A5 a0u A3 4) A1)))) (A2 (A8 6 a4y.nd (C4 (A0 (B0 a0n 2 (A5 a0G 5 A3)) (A0 (B0 a0n 2 (A5 a0G (A5 a0M 5 A3) A3)) A1)))) (A4 (B5 (E6 (B8 (A6 (b9j T) T.g_z1n T.F_z1n.kp T.b_z1n .nil (A0 3 (A0 (B0 a0n 6 A3) (A0 (B0 a0n 6 A3) A1)))))) (A4 (D5 (D1 Yh Yc Yd a0Z 3 (A0 6 A1)))) B6))))) (A4 (A7 3))))›,?_⟩
  rw [show start b6O [V.int c,V.int m]=[some (V.int c),some (V.int m),none,none,none,none,none] from rfl]
  try simp only [a1p,a1J,a0B,a0j,a0k,Qa,a0t,Qf,a0l,a3c,Qg,Qh,a0L,a6Q,Qb,a0e]
  refine ⟨c,rfl,fun La ls H1 s1 hLn hL hl12 hlo=>?_⟩
  try simp only []
  refine ⟨by decide,fun D hD=>⟨_,rfl,by omega,by omega,?_⟩⟩
  obtain ⟨H2,e2,s2,h2⟩:=a0Y hD (.lst []);rw [e2]
  have hDn:H D=none:=none_of s1 hD
  have hLD:La≠D:=a0c hL hD
  refine a2T (n:=m.toNat) (lo:=0) (fun i σ H'=>∃(ps:List V) (pl:List (Str×Str)) (x4 x5 x6:Option V),σ=[some (V.int c),some (V.int m),some (V.ref La),some (V.ref D),x4,x5,x6]∧a0i H H'∧H' La=some (.lst (ls.map V.str))∧H' D=some (.lst ps)∧a0U H' ps pl∧pl.length≤i∧b6Y pl∧Acy pl)
   ⟨[],[],_,_,_,rfl,s1.trans s2,s2 _ _ hL,h2,⟨[],rfl,rfl,fun i a p e=>by simp at e⟩,Qk _,(fun _ h=>by cases h),b5E⟩ ?_ ?_
  ·rintro i σ H3 hi ⟨ps,pl,x4,x5,x6,rfl,s3,hL3,hD3,hP3,hpl,hpo,hac⟩
   try simp only [a0l,a1p,a1J,a0B,a0j,a0k,Qg,Qh,Qa,tOp,tC,Qb,a0t,Qf,a6S,a3b,b2E,tB,Xy,a4m,tBM,a0e,a1o,a0R,a3G,a1d,a8N]
   intro r hr0
   obtain ⟨z1,ez1,o1⟩:=a5k hl12 hlo r
   obtain ⟨z2,ez2,o2⟩:=a5k hl12 hlo (r / 12)
   refine ⟨by decide,a0J (SqL.of hL3) ez1 ⟨⟨by decide,by decide⟩,by decide,a0J (SqL.of hL3) ez2 ⟨by simp only [Qo,Qz];decide,fun p hp=>?_⟩⟩⟩
   obtain ⟨H4,e4,s4,h4⟩:=a0Y hp (.tup [V.str z1,V.str z2]);rw [e4]
   try skip
   refine a0v (SqT.of h4) rfl (a0v (SqT.of h4) rfl ⟨D,z2,z1,ps,pl,rfl,s4 _ _ hD3,a0U.same s4 hP3,by omega,fun b H5 s5 hb=>⟨_,rfl,?_⟩⟩)
   have s35:=s4.trans s5
   cases b with
   | true=>rw [if_neg (by decide)];exact ⟨ps,pl,_,_,_,rfl,s3.trans s35,s35 _ _ hL3,s35 _ _ hD3,a0U.same s35 hP3,by omega,hpo,hac⟩
   | false=>
    rw [if_pos rfl]
    obtain ⟨R,hR1,hR2,hR3⟩:=hb rfl
    have hD5:=s35 _ _ hD3
    have hpsl:ps.length≤60:=by
     obtain ⟨as,rfl,hal,_⟩:=hP3
     rw [Qe];omega
    have hpD:p≠D:=fun w=>by rw [w,hD3] at hp;cases hp
    have up:∀b o,b≠D→H5 b=some o→upd H5 D (.lst (ps++[V.ref p])) b=some o:=fun b o hb e=>by rw [a0a hb];exact e
    refine ⟨.inl ⟨rfl,_,SqL.of hD5⟩,D,_,_,rfl,rfl,hD5,Xm (show _≤1000 by omega) (by decide),ps++[V.ref p],pl++[(z1,z2)],_,_,_,rfl,fun b o e=>up _ _ (a0c e hDn) (s35 _ _ (s3 _ _ e)),up _ _ hLD (s35 _ _ hL3),a0d,b2R (b2f (a0U.same s35 hP3) ⟨_,hD5⟩ up) (up _ _ hpD (s5 _ _ h4)),by simp;omega,fun w hw=>?_,b2A hac hR1 hR2 hR3⟩
    rcases Xa.mp hw with v | v
    ·exact hpo w v
    ·rw [Xg.mp v];exact ⟨o1.1,o2.1⟩
  ·rintro σ H3 ⟨ps,pl,x4,x5,x6,rfl,s3,hL3,hD3,hP3,hpl,hpo,hac⟩
   try simp only [a1a,a0k,Qb,Qa,a0e]
   exact q D ps pl H3 s3 hDn hD3 hP3 (by omega) hpo hac
theorem a7C (T:Txt K mg t):a0S P w K mg base CX0 1 t.f_z15 t.fd_z15 ["self","label","head","body"] (b8V K):=by
 refine T.F_z15.ok b9o (fun vs H Q E h=>?_) (fun cdv A outer s H vs Q E hr h=>?_)
 ·obtain ⟨x,C,dx,lb,hd,b,bs,rfl,hx,hC,hb,q⟩:=h;rfl
 ·obtain ⟨x,C,dx,lb,hd,b,bs,rfl,hx,hC,hb,q⟩:=h
  refine ⟨_,‹A2 (E3 0 1) (A2 (E3 0 2) (A4 (E3 0 (F1 a2x T.z_tuple a2b (A0 3 A1)))))›,?_⟩
  rw [show start b6Q [V.ref x,lb,hd,V.ref b]=[some (V.ref x),some (lb),some (hd),some (V.ref b)] from rfl]
  obtain ⟨cl,n1,n2,n3⟩:=hC
  try simp only [a1p,b9d,a0k,Qb,Qa,tCB,a0j,a0t,a0e]
  have cut:∀(H0:Hp),(∀c o,H c=some o→c≠x→H0 c=some o)→H0 x=some (.ins C dx (a1n "head" hd (a1n "label" lb [])))→∀t,H0 t=some (.tup bs)→t≠x→(∀c o,H c=some o→c≠x→upd H0 x (.ins C dx (a8T lb hd t)) c=some o)∧a1R (upd H0 x (.ins C dx (a8T lb hd t))) x C lb hd bs:=fun H0 k0 h0 t ht htx=>
   ⟨fun c o e hc=>by rw [a0a hc];exact k0 c o e hc,dx,t,a0d,by rw [a0a htx];exact ht⟩
  refine ⟨x,C,dx,_,rfl,hx,cl,n1,by show 0 < 1000;decide,x,C,dx,_,rfl,a0d,cl,n2,by show 1 < 1000;decide,?_⟩
  rw [b6y]
  obtain ⟨H1,e1,k1,h1⟩:∃H',upd H x (.ins C dx (a1n "head" hd (a1n "label" lb [])))=H'∧(∀c o,H c=some o→c≠x→H' c=some o)∧H' x=some (.ins C dx (a1n "head" hd (a1n "label" lb []))):=⟨_,rfl,fun c o e hc=>by rw [a0a hc];exact e,a0d⟩
  rw [e1]
  have hlen:(a1n "head" hd (a1n "label" lb [])).length < 1000:=by
   rw [show a1n "head" hd (a1n "label" lb [])=([("label",lb),("head",hd)]:List (Str×V)) from by
    show (if ("label":Str)="head" then _ else _)=_
    rw [if_neg (by decide+kernel)];rfl]
   show 2 < 1000;decide
  rcases hb with hb | ⟨hb,hb'⟩
  ·have hb1:SqL K H1 b bs:=by
    rcases hb with (hb | ⟨o,hb⟩) | hb
    ·exact .inl (.inl (k1 _ _ hb (a0E hb hx (by intro z;cases z))))
    ·exact .inl (.inr ⟨o,k1 _ _ hb (a0E hb hx (by intro z;cases z))⟩)
    ·exact .inr hb
   refine ⟨b,bs,rfl,.inl ⟨hb1,fun t ht=>?_⟩⟩
   have htx:t≠x:=fun z=>by rw [z,h1] at ht;cases ht
   obtain ⟨H2,e2,s2,h2⟩:=a0Y ht (.tup bs);rw [e2]
   obtain ⟨a1,a2⟩:=cut H2 (fun c o e hc=>s2 _ _ (k1 c o e hc)) (s2 _ _ h1) t h2 htx
   exact ⟨x,C,dx,_,rfl,s2 _ _ h1,cl,n3,hlen,q _ a1 a2⟩
  ·have hbx:b≠x:=a0E hb' hx (by intro z;cases z)
   have hb1:=k1 _ _ hb' hbx
   refine ⟨b,bs,rfl,.inr ⟨SqT.of hb1,?_⟩⟩
   obtain ⟨a1,a2⟩:=cut H1 k1 h1 b hb1 hbx
   exact ⟨x,C,dx,_,rfl,h1,cl,n3,hlen,q _ a1 a2⟩
theorem b9A (T:Txt K mg t):a0S P w K mg base CX0 2 t.f_z17 t.fd_z17 ["self","head"] (b6b K t.C_Fact):=by
 refine T.F_z17.ok b8X (fun vs H Q E h=>?_) (fun cdv A outer s H vs Q E hr h=>?_)
 ·obtain ⟨x,dx,hd,rfl,hx,q⟩:=h;rfl
 ·obtain ⟨x,dx,hd,rfl,hx,q⟩:=h
  refine ⟨_,‹A4 (D5 (J2 (D2 (.ref t.C_Rule) T.g_Rule rfl) T.cm_Rule (a7C T) (hr.mono (by decide)) T.b_z15 .nil b1p (A0 0 (A0 B1 (A0 1 (A0 (C4 A1) A1))))))›,?_⟩
  rw [show start b7C [V.ref x,hd]=[some (V.ref x),some (hd)] from rfl]
  try simp only [a4m,b3w,tC,a0j,a0k,Qa,Qb,a6S,a0t,Qf,a0e]
  refine ⟨(by trivial),by decide,fun b hb=>?_⟩
  obtain ⟨H1,e1,s1,h1⟩:=a0Y hb (.tup []);rw [e1]
  refine ⟨x,t.C_Fact,dx,_,hd,b,[],rfl,s1 _ _ hx,⟨T.cl_Fact,T.nf_Fact_label,T.nf_Fact_head,T.nf_Fact_body⟩,.inr ⟨SqT.of h1,h1⟩,fun H' k r=>?_⟩
  exact q _ (fun c o e hc=>k c o (s1 _ _ e) hc) r
theorem c0d (T:Txt K mg t):a0S P w K mg base CX0 4 t.f_z1r t.fd_z1r ["_law_row_here"] (b5D K t):=by
 refine T.F_z1r.ok a5Z (fun vs H Q E h=>?_) (fun cdv A outer s H vs Q E hr h=>?_)
 ·obtain ⟨p,b,r,rfl,hro,hp,hb,q⟩:=h;rfl
 ·obtain ⟨p,b,r,rfl,hro,hp,hb,q⟩:=h
  refine ⟨_,‹A2 (H1 0 (H2 (E7 (A9 1 a5Z.nd) (E7 (A9 2 a5Z.nd) (E7 (A9 3 a5Z.nd) (E7 (A9 4 a5Z.nd) G7)))))) (A2 (B5 (B3 (a1e hr.units) 1 B1 (a0r _)) (A4 (A7 (F6 T.mk_Fact (b9A T) T.g_Fact T.b_z17 (A0 3 A1)))) B6) (A2 (B5 (B3 (a1e hr.units) 1 B1 (a0r _)) (A4 (A7 (F6 T.mk_Sure (a7C T) T.g_Sure T.b_z15 (A0 2 (A0 3 (A0 (F1 a2J T.z_list a3m (A0 4 A1)) A1)))))) B6) (A2 (B5 (B3 (a1e hr.units) 1 B1 (a0r _)) (A4 (A7 (F6 T.mk_Most (a7C T) T.g_Most T.b_z15 (A0 2 (A0 3 (A0 4 A1)))))) B6) (A4 (A7 (F6 T.mk_Block (a7C T) T.g_Block T.b_z15 (A0 2 (A0 3 (A0 4 A1)))))))))›,?_⟩
  rw [show start b8w [V.ref p]=[some (V.ref p),none,none,none,none] from rfl]
  obtain ⟨so,lb,hd,bd⟩:=r
  dsimp only at hp hb
  try simp only [a1p,a1J,a0k,Qa,b6V,b1m,a0l,c0y,a3b,a1f,tOp,Qg,Qh,Qb,tC,a1a,b5W,a0j,a0t,Qf,a0e,a1o,tCB]
  refine ⟨p,_,rfl,SqT.of hp,rfl,_,_,rfl,_,_,rfl,_,_,rfl,_,_,rfl,rfl,?_⟩
  have hh:∀{H0:Hp} {x dx:Addr} {C:Addr},H0 x=none→H0 dx=none→dx≠x→(a0i H0 (upd (upd H0 dx (.own x)) x (.ins C dx [])))∧(upd (upd H0 dx (.own x)) x (.ins C dx [])) x=some (.ins C dx []):=fun {H0 x dx C} h1 h2 h3=>
   ⟨fun c o e=>by rw [a0a (a0c e h1),a0a (a0c e h2)];exact e,a0d⟩
  have ez:so=0→bd=[]∧lb="":=hro.2.1
  try simp only [a2V,a1x,decide_eq_true_eq]
  match so,hro.1,ez with
  | 0,_,ez=>
   refine a2c (fun _=>?_) (fun c=>absurd rfl c)
   intro x dx nx ndx ne
   obtain ⟨s,hx⟩:=hh (C:=t.C_Fact) nx ndx ne
   refine ⟨x,dx,_,rfl,hx,fun H' k r=>⟨rfl,q x H' (fun c o e=>k c o (s _ _ e) (a0c e nx)) ?_⟩⟩
   obtain ⟨e1,e2⟩:=ez rfl
   subst e1 e2
   exact r
  | 1,_,_=>
   refine a2c (fun c=>absurd c (by decide+kernel)) (fun _=>a2c (fun _=>?_) (fun c=>absurd rfl c))
   refine ⟨b,_,rfl,.inr (SqT.of hb),fun l hl=>?_⟩
   obtain ⟨H1,e1,s1,h1⟩:=a0Y hl (.lst (bd.map V.str));rw [e1]
   intro x dx nx ndx ne
   obtain ⟨s,hx⟩:=hh (C:=t.C_Sure) nx ndx ne
   exact ⟨x,t.C_Sure,dx,_,_,l,_,rfl,hx,⟨T.cl_Sure,T.nf_Sure_label,T.nf_Sure_head,T.nf_Sure_body⟩,.inl (SqL.of (s _ _ h1)),fun H' k r=>⟨rfl,q x H' (fun c o e=>k c o (s _ _ (s1 _ _ e)) (a0c (s1 _ _ e) nx)) r⟩⟩
  | 2,_,_=>
   refine a2c (fun c=>absurd c (by decide+kernel)) (fun _=>a2c (fun c=>absurd c (by decide+kernel)) (fun _=>a2c (fun _=>?_) (fun c=>absurd rfl c)))
   intro x dx nx ndx ne
   obtain ⟨s,hx⟩:=hh (C:=t.C_Most) nx ndx ne
   exact ⟨x,t.C_Most,dx,_,_,b,_,rfl,hx,⟨T.cl_Most,T.nf_Most_label,T.nf_Most_head,T.nf_Most_body⟩,.inr ⟨SqT.of (s _ _ hb),s _ _ hb⟩,fun H' k r=>⟨rfl,q x H' (fun c o e=>k c o (s _ _ e) (a0c e nx)) r⟩⟩
  | 3,_,_=>
   refine a2c (fun c=>absurd c (by decide+kernel)) (fun _=>a2c (fun c=>absurd c (by decide+kernel)) (fun _=>a2c (fun c=>absurd c (by decide+kernel)) (fun _=>?_)))
   intro x dx nx ndx ne
   obtain ⟨s,hx⟩:=hh (C:=t.C_Block) nx ndx ne
   exact ⟨x,t.C_Block,dx,_,_,b,_,rfl,hx,⟨T.cl_Block,T.nf_Block_label,T.nf_Block_head,T.nf_Block_body⟩,.inr ⟨SqT.of (s _ _ hb),s _ _ hb⟩,fun H' k r=>⟨rfl,q x H' (fun c o e=>k c o (s _ _ e) (a0c e nx)) r⟩⟩
theorem b3N (T:Txt K mg t):a0S P w K mg base CX0 2 t.f_z1q t.fd_z1q ["_law_cell"] b7v:=by
 refine T.F_z1q.ok a6i (fun vs H Q E h=>?_) (fun cdv A outer s H vs Q E hr h=>?_)
 ·obtain ⟨c,rfl,q⟩:=h;rfl
 ·obtain ⟨c,rfl,q⟩:=h
  refine ⟨_,‹A2 (D8 1 (B4 (a0b a8P) b4U ["_law_k","_law_cell"] [none,some 0]) (E8 (A0 A3 A1)) (A9 0 (show Xk (["_law_k","_law_cell"]:List Str) by decide+kernel)) D6 (A6 (b4k T) T.g_z1p T.F_z1p.kp T.b_z1p .nil (A0 (A5 a0M 1 A3) (A0 0 (A0 B1 A1)))) a6i.nd) (A2 (A8 2 a6i.nd (B9 A1)) (A2 (C1 (E8 (A0 (A5 a0u A3 (A5 a0G 0 A3)) A1)) (A9 3 a6i.nd) (A2 (A8 4 a6i.nd (B0 a0n (B9 (A0 B1 (A0 (A5 a0u (A5 a0u B1 (B0 a0n 1 A3)) B1) (A0 (A5 a0u (A5 a0u (A5 a0u (A5 a0u B1 (B0 a0n 1 A3)) B1) (B0 a0n 1 A3)) B1) A1)))) (A5 a0M 3 A3))) (A2 (D5 (D1 Yh Yc Yd a0Z 2 (A0 (A5 a0u (B0 a0n 1 (A5 a0G 3 A3)) 4) A1))) (A4 (D5 (D1 Yh Yc Yd a0Z 2 (A0 (A5 a0u (A5 a0u B1 (B0 a0n 1 (A5 a0G 3 A3))) 4) A1))))))) (A4 (A7 2))))›,?_⟩
  rw [show start b4U [V.int c]=[some (V.int c),none,none,none,none] from rfl]
  try simp only [a1p,a1J,a3c,a0t,a0l,Qg,Qh,a0L,a6Q,a0j,tOp,tC,a0k,Qa,a0e,a1d,a0R,a0o]
  refine ⟨5,rfl,by decide,by decide,?_⟩
  refine a4M a2N (Qi (show (5:Int).toNat≤1000 by decide) (by decide)) [some (V.int c)] rfl (fun i v=>v=sv (a2q (c / 9) (i:Int) a2U)) (fun _ _=>trivial) (fun i H' R hi s hR=>?_) (fun W H1 ys hWn s1 hW hl hv=>?_)
  ·try simp only [a0B,a0j,tOp,a0k,Qb,Qa,tC,a0t,Qf,a0e,a1d,a8N]
   rw [b8m]
   refine ⟨⟨by decide,by decide⟩,_,_,a2U,rfl,by decide,hR _ _ (a0i.refl _) (by rw [Int.zero_add])⟩
  obtain ⟨wd,hwd⟩:∃wd:Nat→List Nat,wd=fun (i:Nat)=>a2q (c / 9) (i:Int) a2U:=⟨_,rfl⟩
  have hw1:∀k,k < 5→∀x∈wd k,x∈a2U:=fun k _ x hx=>by rw [hwd] at hx;exact a3X (by decide) x hx
  have hw2:∀k,k < 5→wd k≠[]:=fun k _ z=>by
   have:=(a2W (c / 9) (k:Int) a2U).1
   rw [hwd] at z
   rw [show a2q (c / 9) (k:Int) a2U=[] from z] at this
   simp at this
  have hw3:∀j k,j < 5→k < 5→wd j=wd k→j=k:=fun j k hj hk e=>by
   rw [hwd] at e
   have:=b0J (c:=c / 9) (k:=(j:Int)) (k':=(k:Int)) (by omega) (by omega) e
   omega
  have hyi:∀n:Nat,n < 5→atI ys (n:Int)=some (sv (wd n))∧(wd n).length≤8∧∀x∈wd n,x∈a2U:=fun n hn=>by
   have hn':n < ys.length:=by rw [hl];exact hn
   refine ⟨?_,by rw [hwd];exact (a2W _ _ _).2,hw1 n hn⟩
   unfold atI ixN
   rw [if_pos (by omega),if_pos (by omega)]
   show ys[((n:Int)).toNat]?=_
   rw [Int.toNat_natCast,Qc hn',hv n _ (Qc hn'),hwd]
  have m9:=a1z (i:=c) (j:=9) (by decide)
  try skip
  refine ⟨by decide,fun D hD=>?_⟩
  have hWD:W≠D:=fun z=>by rw [z,hD] at hW;cases hW
  refine ⟨by decide,_,rfl,by omega,by omega,?_⟩
  refine a2T (n:=(1+c % 9).toNat) (lo:=0) (fun i σ H'=>∃(pl:List Str) (k pc:Option V),σ=[some (V.int c),some (V.ref W),some (V.ref D),k,pc]∧a0i H1 H'∧H' D=some (.lst (pl.map V.str))∧(pl=(Xs (2 * i)).map (plG wd))∧∀z∈pl,OkS z) ⟨[],_,_,rfl,a0i.upd hD,a0d,rfl,by simp⟩ ?_ ?_
  ·rintro i σ H2 hi ⟨pl,k,pc,rfl,s2,hD2,hpl,hok⟩
   have hW2:=s2 _ _ hW
   have hpll:pl.length=2 * i:=by rw [hpl,Qe,Zj]
   obtain ⟨e3,b3,c3⟩:=hyi 3 (by decide)
   obtain ⟨e4,b4,c4⟩:=hyi 4 (by decide)
   obtain ⟨en,bn,cn⟩:=hyi (i % 3) (by omega)
   rw [show ((i % 3:Nat):Int)=(0+(i:Int)) % 3 by omega] at en
   have enm:nmL wd i=wd (i % 3)++pcl wd (i / 3):=rfl
   have epc:∀(x y z:V),x=sv (pcl wd 0)→y=sv (pcl wd 1)→z=sv (pcl wd 2)→atI [x,y,z] ((0+(i:Int)) / 3)=some (sv (pcl wd (i / 3))):=fun x y z h1 h2 h3=>by
    have hi3:i / 3 < 3:=by omega
    rw [show (0+(i:Int)) / 3=((i / 3:Nat):Int) by omega]
    match i / 3,hi3 with
    | 0,_=>rw [h1];rfl
    | 1,_=>rw [h2];rfl
    | 2,_=>rw [h3];rfl
   have e31:pcl wd 1=40::(wd 3++[41]):=rfl
   have e32:pcl wd 2=40::(wd 4++[44])++wd 3++[41]:=rfl
   have eplG:(Xs (2 * (i+1))).map (plG wd)=pl++[mk (nmL wd i),mk (45::nmL wd i)]:=by
    rw [show 2 * (i+1)=2 * i+1+1 by omega,Jv,Jv,Xq,Xq,←hpl]
    have g1:plG wd (2 * i)=mk (nmL wd i):=by unfold plG;rw [if_pos (by omega),show 2 * i / 2=i by omega]
    have g2:plG wd (2 * i+1)=mk (45::nmL wd i):=by unfold plG;rw [if_neg (by omega),show (2 * i+1) / 2=i by omega]
    rw [Xj,Xj,Jl,g1,g2,Zk];rfl
   generalize wd 3=l3 at e3 b3 c3 e31 e32
   generalize wd 4=l4 at e4 b4 c4 e32
   generalize wd (i % 3)=ln at en bn cn enm
   try simp only [a0l,a1p,a1J,tOp,a3c,a0j,tC,a0k,Qg,Qh,Qb,Qa,a0t,a4m,tBM,a0e,a1d,a8N]
   rw [show ("(":Str)=mk [40] by decide+kernel,show (")":Str)=mk [41] by decide+kernel,show (",":Str)=mk [44] by decide+kernel,show ("-":Str)=mk [45] by decide+kernel]
   refine a0J (SqL.of hW2) e3 ?_
   try simp only [a1w]
   rw [a2v,a2v]
   refine ⟨by rw [a0y,a0y];exact Qi (show _≤2000 by simp;omega) (by decide),by rw [a0y,a0y];exact Qi (show _≤2000 by simp;omega) (by decide),a0J (SqL.of hW2) e4 ?_⟩
   try simp only [Jp,Uk,a1w]
   rw [a2v,a2v]
   refine ⟨by rw [a0y,a0y];exact Qi (show _≤2000 by simp;omega) (by decide),by rw [a0y,a0y];exact Qi (show _≤2000 by simp;omega) (by decide),a0J (SqL.of hW2) e3 ?_⟩
   try simp only [Jp,Uk,a1w]
   rw [a2v,a2v]
   refine ⟨by rw [a0y,a0y];exact Qi (show _≤2000 by simp;omega) (by decide),by rw [a0y,a0y];exact Qi (show _≤2000 by simp;omega) (by decide),by simp only [Qo,Qz];decide,fun p3 hp3=>?_⟩
   obtain ⟨H3,e3',s3,h3⟩:=a0Y hp3 (.lst [V.str "",sv (40::(l3++[41])),sv (40::(l4++[44])++l3++[41])]);rw [e3']
   have d3:0≤(0+(i:Int)) / 3∧(0+(i:Int)) / 3 < 3:=by omega
   have epv:=epc (V.str "") (sv (40::(l3++[41]))) (sv (40::(l4++[44])++l3++[41])) rfl (by rw [e31]) (by rw [e32])
   have hpc:(pcl wd (i / 3)).length≤30∧∀c∈pcl wd (i / 3),c < 128:=by
    have hi3:i / 3 < 3:=by omega
    match i / 3,hi3 with
    | 0,_=>exact ⟨Xf _,fun c hc=>by cases hc⟩
    | 1,_=>
     rw [e31]
     refine ⟨by simp;omega,fun c hc=>?_⟩
     simp only [Xa,Qy,Zp,or_false] at hc
     rcases hc with h | h | h
     ·omega
     ·exact a6a (c3 c h)
     ·omega
    | 2,_=>
     rw [e32]
     refine ⟨by simp;omega,fun c hc=>?_⟩
     simp only [Xa,Qy,Zp,or_false] at hc
     rcases hc with ((h | h | h) | h) | h
     ·omega
     ·exact a6a (c4 c h)
     ·omega
     ·exact a6a (c3 c h)
     ·omega
   obtain ⟨bpc,cpc⟩:=hpc
   generalize pcl wd (i / 3)=pc' at epv bpc cpc enm
   have hW3:=s3 _ _ hW2
   have hD3:=s3 _ _ hD2
   refine ⟨⟨by decide,by decide⟩,a0J (SqL.of h3) epv ?_⟩
   have o1:OkS (mk (ln++pc')):=OkS.of (fun c hc=>(Xa.mp hc).elim (fun h=>a6a (cn c h)) (fun h=>cpc c h)) (by simp;omega)
   have o2:OkS (mk ([45]++ln++pc')):=OkS.of (fun c hc=>by
    simp only [Xa,Xg] at hc
    rcases hc with (h | h) | h
    ·omega
    ·exact a6a (cn c h)
    ·exact cpc c h) (by simp;omega)
   have hWD3:upd H3 D (.lst (pl.map V.str++[sv (ln++pc')])) W=some (.lst ys):=by rw [a0a hWD];exact hW3
   refine ⟨.inl ⟨rfl,_,SqL.of hD3⟩,by decide,a0J (SqL.of hW3) en ?_⟩
   try simp only [a1w]
   rw [a2v]
   refine ⟨by rw [a0y,a0y];exact Qi (show _≤2000 by omega) (by decide),D,_,_,rfl,rfl,hD3,Xm (show _≤1000 by rw [Qe];omega) (by decide),?_⟩
   refine ⟨.inl ⟨rfl,_,SqL.of a0d⟩,by decide,a0J (SqL.of hWD3) en ?_⟩
   try simp only [a1w]
   rw [a2v,a2v]
   refine ⟨by rw [a0y,a0y];exact Qi (show _≤2000 by simp;omega) (by decide),by rw [a0y,a0y];exact Qi (show _≤2000 by simp;omega) (by decide),D,_,_,rfl,rfl,a0d,Xm (show _≤1000 by simp;omega) (by decide),pl++[mk (ln++pc'),mk ([45]++ln++pc')],_,_,rfl,?_,?_,by rw [eplG,enm];rfl,fun z hz=>?_⟩
   ·intro b o e;rw [a0a (a0c e hD),a0a (a0c e hD)];exact s3 _ _ (s2 _ _ e)
   ·rw [a0d];simp
   ·rcases Xa.mp hz with h | h
    ·exact hok z h
    ·simp only [Qy,Zp,or_false] at h
     rcases h with rfl | rfl
     ·exact o1
     ·exact o2
  ·rintro σ H2 ⟨pl,k,pc,rfl,s2,hD2,hpl,hok⟩
   try simp only [a1a,a0k,Qb,Qa,a0e]
   have hpll:pl.length=2 * (1+c % 9).toNat:=by rw [hpl,Qe,Zj]
   exact q D pl H2 (s1.trans s2) (none_of s1 hD) hD2 (by omega) (by omega) hok (by rw [hpl];exact b2S hw1 hw2 hw3 (by omega)) (fun z hz=>by rw [hpl] at hz;obtain ⟨j,_,rfl⟩:=Qj.mp hz;exact b9m hw1 hw2 j) (by rw [hpl,hwd];rfl)
theorem b9F (T:Txt K mg t):a0S P w K mg base CX0 2 t.f_z1y t.fd_z1y ["_law_m","_law_k","_law_pool_here","_law_labels_here","_law_style"] c0N:=by
 refine T.F_z1y.ok a3t (fun vs H Q E h=>?_) (fun cdv A outer s H vs Q E hr h=>?_)
 ·obtain ⟨m,k,st,P,L,pl,ls,rfl,hP,hp2,hp18,hpo,hL,hl12,hlo,q⟩:=h;rfl
 ·obtain ⟨m,k,st,P,L,pl,ls,rfl,hP,hp2,hp18,hpo,hL,hl12,hlo,q⟩:=h
  refine ⟨_,‹A2 (A8 5 a3t.nd (C8 a1m T.z_len a1k (A0 2 A1))) (A2 (A8 6 a3t.nd (B0 a0n 2 (A5 a0G (A5 a0M 0 A3) 5))) (A2 (D8 7 (B4 (a0b a6u) b2b ["_law_j","_law_pool_here","_law_size","_law_m"] [none,some 2,some 5,some 0]) (E8 (A0 (A5 a0G (A5 a0M 0 A3) A3) A1)) (A9 0 (show Xk (["_law_j","_law_pool_here","_law_size","_law_m"]:List Str) by decide+kernel)) D6 (B0 (a3f (K:=K) rfl) 1 (A5 a0G (A6 (a7N T) T.g_z1x T.F_z1x.kp T.b_z1x .nil (A0 3 (A0 (A5 (a9O (K:=K) rfl) A3 0) A1))) 2)) a3t.nd) (D7 (B5 (B3 (a1e hr.units) 4 A3 (a0r _)) (A2 (A8 6 a3t.nd (B0 a0n 2 (A5 a0G (A5 a4a A3 1) 5))) (A2 (A8 8 a3t.nd (B0 a0n (B9 (A0 A3 (A0 A3 (A0 A3 (A0 A3 (A0 A3 (A0 A3 A1))))))) (A5 a0G (A5 a0M 0 A3) A3))) (A4 (D8 7 (B4 (a0b a6u) b2b ["_law_j","_law_pool_here","_law_size","_law_k","_law_m"] [none,some 2,some 5,some 1,some 0]) (E8 (A0 8 A1)) (A9 0 (show Xk (["_law_j","_law_pool_here","_law_size","_law_k","_law_m"]:List Str) by decide+kernel)) D6 (B0 (a3f (K:=K) rfl) 1 (A5 a0G (A5 a9D (A5 a9D (A5 a4a A3 3) A3) (A5 a0G (A6 (a7N T) T.g_z1x T.F_z1x.kp T.b_z1x .nil (A0 4 (A0 (A5 (a9O (K:=K) rfl) A3 0) A1))) A3)) 2)) a3t.nd)))) B6) (A2 (A8 9 a3t.nd (B0 a0n (B9 (A0 B1 (A0 B1 (A0 B1 (A0 B1 (A0 B1 (A0 B1 (A0 B1 (A0 B1 A1))))))))) (A5 a0G 0 A3))) (A2 (B5 (B3 (a1e hr.units) (A5 a0G (A5 a0M 0 A3) A3) A3 (a0r _)) (A4 (A7 (C4 (A0 B1 (A0 B1 (A0 6 (A0 (C4 A1) A1))))))) B6) (A4 (A7 (C4 (A0 9 (A0 (B0 a0n 3 (A5 a0G (A5 a0M 0 A3) A3)) (A0 6 (A0 (F1 a2x T.z_tuple a2b (A0 7 A1)) A1))))))))))))›,?_⟩
  rw [show start b2b [V.int m,V.int k,V.ref P,V.ref L,V.int st]=[some (V.int m),some (V.int k),some (V.ref P),some (V.ref L),some (V.int st),none,none,none,none,none] from rfl]
  have hpo':∀z∈pl,OkP pl z:=fun z hz=>⟨hpo z hz,hz⟩
  obtain ⟨z0,e0,o0⟩:=a2I hp2 hpo' (m / 8)
  have m5:=a1z (i:=m / 200) (j:=5) (by decide)
  try simp only [a1p,a1J,tCB,a0j,a0k,Qb,Qa,a0t,a0l,tOp,Qg,Qh,tC,a0o,a6Q,a0e,a1d,a8N]
  refine a1P (SqL.of hP) ?_
  try simp only [a1d]
  rw [Qe]
  refine ⟨⟨by decide,by decide⟩,by omega,a0J (SqL.of hP) e0 ?_⟩
  try skip
  refine ⟨⟨by decide,by decide⟩,by decide,_,rfl,by omega,by omega,?_⟩
  refine a4M a2N (Qi (show (m / 200 % 5).toNat≤1000 by omega) (by decide)) [some (V.ref P),some (V.int pl.length),some (V.int m)] rfl (fun i v=>∃z,v=V.str z∧OkP pl z) (fun _ _=>trivial) (fun i H' R hi s hR=>?_) (fun B H1 ys hBn s1 hB hl hv=>?_)
  ·try simp only [tOp,a0k,Qb,Qa,a0B,a0j,tC,a0t,Qf,a0e,a0R,a3G,a1d]
   intro r hr
   obtain ⟨z,e,o⟩:=a2I hp2 hpo' r
   exact ⟨by omega,a0J (SqL.of (s _ _ hP)) e (hR _ _ (a0i.refl _) ⟨z,rfl,o⟩)⟩
  obtain ⟨zs,rfl,hzo⟩:=a6V hv
  have hzl:zs.length≤4:=by
   rw [Qe] at hl;omega
  refine ⟨fun σ' H'=>∃(hd:Str) (B:Addr) (zs:List Str) (mn:Option V),σ'=[some (V.int m),some (V.int k),some (V.ref P),some (V.ref L),some (V.int st),some (V.int pl.length),some (V.str hd),some (V.ref B),mn,none]∧a0i H H'∧OkP pl hd∧H' B=some (.lst (zs.map V.str))∧zs.length≤4∧∀z∈zs,OkP pl z,?_,?_⟩
  ·try simp only [a3b,a1f,tOp,a0k,Qb,Qa,tC,a1p,a1J,a0l,a3c,a0j,a0t,Qg,Qh,a0e,a1d,a8N,b5h,a1o,a2y,a1x,decide_eq_true_eq]
   refine a2c (fun c1=>?_) (fun c1=>⟨_,_,_,_,rfl,s1,o0,hB,hzl,hzo⟩)
   obtain ⟨z1,e1,o1⟩:=a2I hp2 hpo' (2 * k)
   have hP1:=s1 _ _ hP
   have m6:=a1z (i:=m / 200) (j:=6) (by decide)
   refine ⟨.inl (by decide),by omega,a0J (SqL.of hP1) e1 ?_⟩
   refine ⟨by simp only [Qo,Qz];decide,fun p2 hp2'=>?_⟩
   obtain ⟨H2,e2,s2,h2⟩:=a0Y hp2' (.lst [V.int 1,V.int 2,V.int 0,V.int 1,V.int 2,V.int 1]);rw [e2]
   obtain ⟨v6,e6,hv6,_⟩:=a4v (xs:=[V.int 1,V.int 2,V.int 0,V.int 1,V.int 2,V.int 1]) m6.1 m6.2
   obtain ⟨mn,rfl,hmn⟩:∃n:Int,v6=.int n∧(0≤n∧n≤2):=by
    simp only [Qy,Zp,or_false] at hv6
    rcases hv6 with rfl | rfl | rfl | rfl | rfl | rfl<;>exact ⟨_,rfl,by decide⟩
   refine ⟨⟨by decide,by decide⟩,by decide,a0J (SqL.of h2) e6 ?_⟩
   try skip
   refine ⟨_,rfl,by omega,by omega,?_⟩
   have hP2:=s2 _ _ hP1
   refine a4M a2N (Qi (show mn.toNat≤1000 by omega) (by decide)) [some (V.ref P),some (V.int pl.length),some (V.int k),some (V.int m)] rfl (fun i v=>∃z,v=V.str z∧OkP pl z) (fun _ _=>trivial) (fun i H' R hi s hR=>?_) (fun B2 H3 ys3 hBn3 s3 hB3 hl3 hv3=>?_)
   ·try simp only [tOp,a0k,Qb,Qa,tC,a0B,a0j,a0t,Qf,a0e,a0R,a3G,a1d,b5h,a3i]
    refine ⟨.inl (by decide),?_⟩
    intro r hr
    obtain ⟨z,e,o⟩:=a2I hp2 hpo' (2 * k - 2 - r % 3)
    exact ⟨by decide,by omega,a0J (SqL.of (s _ _ hP2)) e (hR _ _ (a0i.refl _) ⟨z,rfl,o⟩)⟩
   obtain ⟨zs3,rfl,hzo3⟩:=a6V hv3
   exact ⟨_,_,zs3,_,rfl,(s1.trans s2).trans s3,o1,hB3,by rw [Qe] at hl3;omega,hzo3⟩
  clear hB hzl hzo hBn
  rintro σ' H2 ⟨hd,B,zs,mn,rfl,s2,oh,hB,hzl,hzo⟩
  have m8:=a1z (i:=m) (j:=8) (by decide)
  try simp only [a1p,a1J,tOp,a3c,a0j,tC,a0t,a0k,Qa,a0l,a3b,a1f,Qg,Qh,a1a,a6S,Qb,a0e,a1o,tCB,a1d,a8N,a2y,a1x,decide_eq_true_eq]
  refine ⟨by simp only [Qo,Qz];decide,fun p3 hp3=>?_⟩
  obtain ⟨H3,e3,s3,h3⟩:=a0Y hp3 (.lst [V.str "most",V.str "most",V.str "most",V.str "block",V.str "most",V.str "most",V.str "sure",V.str "most"]);rw [e3]
  obtain ⟨v8,e8,hv8,_⟩:=a4v (xs:=[V.str "most",V.str "most",V.str "most",V.str "block",V.str "most",V.str "most",V.str "sure",V.str "most"]) m8.1 m8.2
  obtain ⟨so,rfl,hso⟩:∃so:Nat,v8=.str (a2i so)∧(so < 4∧so≠0):=by
   simp only [Qy,Zp,or_false] at hv8
   rcases hv8 with rfl | rfl | rfl | rfl | rfl | rfl | rfl | rfl
   all_goals first | exact ⟨2,rfl,by decide⟩ | exact ⟨3,rfl,by decide⟩ | exact ⟨1,rfl,by decide⟩
  refine ⟨by decide,a0J (SqL.of h3) e8 ?_⟩
  have s03:=s2.trans s3
  have hL3:=s03 _ _ hL
  have hB3:=s3 _ _ hB
  try skip
  refine ⟨⟨by decide,by decide⟩,by decide,a2c (fun _=>?_) (fun _=>?_)⟩
  ·refine ⟨Xf _,fun t ht=>⟨by simp only [Qo,Qz];decide,fun p hp=>?_⟩⟩
   have hpt:t≠p:=fun z=>by rw [←z,a0d] at hp;cases hp
   have hp':H3 p=none:=by rw [a0a hpt.symm] at hp;exact hp
   refine q p t (0,"",hd,[]) _ (s03.trans (fun b o e=>?_)) (none_of s03 hp') (none_of s03 ht) ⟨⟨show 0 < 4 by decide,fun _=>⟨rfl,rfl⟩,OkS.of (l:=[]) (by simp) (by simp),oh.1,by simp,by simp⟩,oh.2,by simp⟩ a0d (by rw [a0a hpt,a0d];rfl)
   rw [a0a (a0c e hp'),a0a (a0c e ht)];exact e
  obtain ⟨z12,e12,o12⟩:=a5k hl12 hlo (m / 1000)
  refine ⟨⟨by decide,by decide⟩,by decide,a0J (SqL.of hL3) e12 ?_⟩
  refine ⟨B,_,rfl,.inl ⟨SqL.of hB3,fun t ht=>?_⟩⟩
  refine ⟨by simp only [Qo,Qz];decide,fun p hp=>?_⟩
  have hpt:t≠p:=fun z=>by rw [←z,a0d] at hp;cases hp
  have hp':H3 p=none:=by rw [a0a hpt.symm] at hp;exact hp
  refine q p t (so,z12,hd,zs) _ (s03.trans (fun b o e=>?_)) (none_of s03 hp') (none_of s03 ht) ⟨⟨hso.1,fun z=>absurd z hso.2,o12,oh.1,fun z hz=>(hzo z hz).1,hzl⟩,oh.2,fun z hz=>(hzo z hz).2⟩ a0d (by rw [a0a hpt,a0d])
  rw [a0a (a0c e hp'),a0a (a0c e ht)];exact e
theorem c0o (T:Txt K mg t):a0S P w K mg base CX0 1 t.f_z05 t.fd_z05 ["_law_cell","_law_pool_here","_law_labels_here"] c1c:=by
 refine T.F_z05.ok a2G (fun vs H Q E h=>?_) (fun cdv A outer s H vs Q E hr h=>?_)
 ·obtain ⟨m,P,L,pl,ls,rfl,hP,hp2,hp18,hpo,hL,hl12,hlo,q⟩:=h;rfl
 ·obtain ⟨m,P,L,pl,ls,rfl,hP,hp2,hp18,hpo,hL,hl12,hlo,q⟩:=h
  refine ⟨_,‹A2 (A8 3 a2G.nd (C8 a1m T.z_len a1k (A0 1 A1))) (A2 (A8 4 a2G.nd (B0 a0n (B9 (A0 B1 (A0 B1 (A0 B1 (A0 B1 (A0 B1 (A0 B1 (A0 B1 (A0 B1 A1))))))))) (A5 a0G 0 A3))) (A2 (A8 5 a2G.nd (B0 a0n 2 (A5 a0G (A5 a0M 0 A3) A3))) (A2 (A8 6 a2G.nd (B0 a0n 1 (A5 a0G (A5 a0M 0 A3) 3))) (A2 (A8 7 a2G.nd (A5 a0G (A5 a0M (A5 a0M 0 A3) 3) A3)) (A2 (A8 8 a2G.nd (A5 a0M (A5 a0M 0 A3) 3)) (A2 (A8 9 a2G.nd (B9 A1)) (A2 (C1 (E8 (A0 7 A1)) (A9 10 a2G.nd) (A2 (D5 (D1 Yh Yc Yd a0Z 9 (A0 (B0 a0n 1 (A5 a0G 8 3)) A1))) (A4 (A8 8 a2G.nd (A5 a0M 8 3))))) (A2 (B5 (B3 (a1e hr.units) 4 B1 (a0r _)) (A4 (A7 (C4 (A0 4 (A0 B1 (A0 6 (A0 (C4 A1) A1))))))) B6) (A4 (A7 (C4 (A0 4 (A0 5 (A0 6 (A0 (F1 a2x T.z_tuple a2b (A0 9 A1)) A1)))))))))))))))›,?_⟩
  rw [show start b6U [V.int m,V.ref P,V.ref L]=[some (V.int m),some (V.ref P),some (V.ref L),none,none,none,none,none,none,none,none] from rfl]
  have hpo':∀z∈pl,OkP pl z:=fun z hz=>⟨hpo z hz,hz⟩
  have m8:=a1z (i:=m) (j:=8) (by decide)
  obtain ⟨z12,e12,o12⟩:=a5k hl12 hlo (m / 8)
  obtain ⟨z0,e0,o0⟩:=a2I hp2 hpo' (m / 96)
  have m5:=a1z (i:=m / 96 / (pl.length:Int)) (j:=5) (by decide)
  have h5:(m / 96 / (pl.length:Int) % 5).toNat≤4:=by
   generalize m / 96 / (pl.length:Int)=N at m5 ⊢
   omega
  try simp only [a1p,a1J,tCB,a0j,a0k,Qb,Qa,a0t,a0l,tOp,a3c,tC,Qg,Qh,a0L,a6Q,a0e,a1d,a8N]
  refine a1P (SqL.of hP) ?_
  try simp only [a1d,a8N]
  rw [Qe]
  refine ⟨by simp only [Qo,Qz];decide,fun p3 hp3=>?_⟩
  obtain ⟨H3,e3,s3,h3⟩:=a0Y hp3 (.lst [V.str "most",V.str "most",V.str "most",V.str "block",V.str "most",V.str "fact",V.str "sure",V.str "most"]);rw [e3]
  obtain ⟨v8,e8,hv8,_⟩:=a4v (xs:=[V.str "most",V.str "most",V.str "most",V.str "block",V.str "most",V.str "fact",V.str "sure",V.str "most"]) m8.1 m8.2
  obtain ⟨so,rfl,hso⟩:∃so:Nat,v8=.str (a2i so)∧so < 4:=by
   simp only [Qy,Zp,or_false] at hv8
   rcases hv8 with rfl | rfl | rfl | rfl | rfl | rfl | rfl | rfl
   all_goals first | exact ⟨2,rfl,by decide⟩ | exact ⟨3,rfl,by decide⟩ | exact ⟨1,rfl,by decide⟩ | exact ⟨0,rfl,by decide⟩
  refine ⟨by decide,a0J (SqL.of h3) e8 ?_⟩
  have hL3:=s3 _ _ hL
  have hP3:=s3 _ _ hP
  try skip
  refine ⟨⟨by decide,by decide⟩,by decide,a0J (SqL.of hL3) e12 ?_⟩
  refine ⟨⟨by decide,by decide⟩,by omega,a0J (SqL.of hP3) e0 ?_⟩
  refine ⟨⟨by decide,by decide⟩,⟨by omega,by omega⟩,by decide,⟨by decide,by decide⟩,⟨by omega,by omega⟩,by decide,fun B hB=>?_⟩
  have hPB:P≠B:=fun z=>by rw [z,hB] at hP3;cases hP3
  have hLB:L≠B:=fun z=>by rw [z,hB] at hL3;cases hL3
  refine ⟨_,rfl,by omega,by omega,?_⟩
  refine a2T (n:=(m / 96 / (pl.length:Int) % 5).toNat) (lo:=0) (fun i σ H'=>∃(zs:List Str) (rs:Int) (j:Option V),σ=[some (V.int m),some (V.ref P),some (V.ref L),some (V.int pl.length),some (V.str (a2i so)),some (V.str z12),some (V.str z0),some (V.int (m / 96 / (pl.length:Int) % 5)),some (V.int rs),some (V.ref B),j]∧a0i H3 H'∧H' B=some (.lst (zs.map V.str))∧zs.length=i∧∀z∈zs,OkP pl z) ⟨[],_,_,rfl,a0i.upd hB,a0d,rfl,by simp⟩ ?_ ?_
  ·rintro i σ H' hi ⟨zs,rs,j,rfl,s,hB',hzl,hzo⟩
   obtain ⟨z,e,o⟩:=a2I hp2 hpo' rs
   try simp only [a0l,a1p,a4m,tBM,a0k,Qg,Qh,Qb,Qa,a0j,tOp,a0t,a1J,a0e,a1d,a8N]
   refine ⟨.inl ⟨rfl,_,SqL.of hB'⟩,by omega,a0J (SqL.of (s _ _ hP3)) e ?_⟩
   refine ⟨B,_,_,rfl,rfl,hB',Xm (show _≤1000 by rw [Qe];omega) (by decide),⟨by omega,by omega⟩,zs++[z],_,_,rfl,?_,?_,by simp [hzl],fun x hx=>?_⟩
   ·intro b u e;rw [a0a (a0c e hB)];exact s _ _ e
   ·rw [a0d];simp
   ·rcases Xa.mp hx with h | h
    ·exact hzo x h
    ·rw [Xg.mp h];exact o
  rintro σ H' ⟨zs,rs,j,rfl,s,hB',hzl,hzo⟩
  have s0':=s3.trans s
  try simp only [a1p,a3b,a1f,tOp,a0k,Qb,Qa,tC,a1a,a6S,a0j,a0t,a0e,a1o,tCB,a2V,a1x,decide_eq_true_eq]
  refine a2c (fun c1=>?_) (fun c1=>?_)
  ·have hz:so=0:=by
    match so,hso with
    | 0,_=>rfl
    | 1,_=>exact absurd c1 (by decide+kernel)
    | 2,_=>exact absurd c1 (by decide+kernel)
    | 3,_=>exact absurd c1 (by decide+kernel)
   refine ⟨Xf _,fun t ht=>⟨by simp only [Qo,Qz];decide,fun p hp=>?_⟩⟩
   have hpt:t≠p:=fun z=>by rw [←z,a0d] at hp;cases hp
   have hp':H' p=none:=by rw [a0a hpt.symm] at hp;exact hp
   refine q p t (so,"",z0,[]) _ (s0'.trans (fun b o e=>?_)) (none_of s0' hp') (none_of s0' ht) ⟨⟨hso,fun _=>⟨rfl,rfl⟩,OkS.of (l:=[]) (by simp) (by simp),o0.1,by simp,by simp⟩,o0.2,by simp⟩ a0d (by rw [a0a hpt,a0d];rfl)
   rw [a0a (a0c e hp'),a0a (a0c e ht)];exact e
  ·refine ⟨B,_,rfl,.inl ⟨SqL.of hB',fun t ht=>?_⟩⟩
   refine ⟨by simp only [Qo,Qz];decide,fun p hp=>?_⟩
   have hpt:t≠p:=fun z=>by rw [←z,a0d] at hp;cases hp
   have hp':H' p=none:=by rw [a0a hpt.symm] at hp;exact hp
   refine q p t (so,z12,z0,zs) _ (s0'.trans (fun b o e=>?_)) (none_of s0' hp') (none_of s0' ht) ⟨⟨hso,fun z=>absurd (show a2i so="fact" by rw [show so=0 from z];rfl) c1,o12,o0.1,fun z hz=>(hzo z hz).1,by show zs.length≤4;rw [hzl];exact h5⟩,o0.2,fun z hz=>(hzo z hz).2⟩ a0d (by rw [a0a hpt,a0d])
   rw [a0a (a0c e hp'),a0a (a0c e ht)];exact e
theorem b8N (T:Txt K mg t):a0S P w K mg base CX0 3 t.f_z1s t.fd_z1s ["_law_script","_law_start"] (b6D K):=by
 refine T.F_z1s.ok a5X (fun vs H Q E h=>?_) (fun cdv A outer s H vs Q E hr h=>?_)
 ·obtain ⟨a,ns,st,rfl,hS,hl,hst,q⟩:=h;rfl
 ·obtain ⟨a,ns,st,rfl,hS,hl,hst,q⟩:=h
  refine ⟨_,‹A2 (A8 2 a5X.nd (A6 (b3N T) T.g_z1q T.F_z1q.kp T.b_z1q .nil (A0 (A6 (a4C T) T.g_z1b T.F_z1b.kp T.b_z1b .nil (A0 0 (A0 A3 A1))) A1))) (A2 (A8 3 a5X.nd (A6 (b3F T) T.g_z1h T.F_z1h.kp T.b_z1h .nil (A0 (A6 (a4C T) T.g_z1b T.F_z1b.kp T.b_z1b .nil (A0 0 (A0 A3 A1))) A1))) (A2 (A8 4 a5X.nd (A5 a0G (A6 (a4C T) T.g_z1b T.F_z1b.kp T.b_z1b .nil (A0 0 (A0 A3 A1))) A3)) (A2 (A8 5 a5X.nd (F7 0 (F2 1) (F2 A3))) (A2 (B5 (B3 a9Y 4 A3 (a0r _)) (A4 (A7 (C2 (B4 (a0b a6W) b2l ["_law_cell","_law_pool_here","_law_labels_here"] [none,some 2,some 3]) (B7 5) (A9 0 (show Xk (["_law_cell","_law_pool_here","_law_labels_here"]:List Str) by decide+kernel)) D6 (A6 (c0o T) T.g_z05 T.F_z05.kp T.b_z05 .nil (A0 0 (A0 1 (A0 2 A1))))))) B6) (A4 (A7 (C2 (B4 (a0b a6W) b2l ["_law_k","_law_cell","_law_pool_here","_law_labels_here","_law_style"] [none,none,some 2,some 3,some 4]) (J3 rfl T.z_enumerate (A0 5 A1)) (J4 K 2 rfl rfl (E7 (A9 0 (show Xk (["_law_k","_law_cell","_law_pool_here","_law_labels_here","_law_style"]:List Str) by decide+kernel)) (E7 (A9 1 (show Xk (["_law_k","_law_cell","_law_pool_here","_law_labels_here","_law_style"]:List Str) by decide+kernel)) G7))) D6 (A6 (b9F T) T.g_z1y T.F_z1y.kp T.b_z1y .nil (A0 (A6 (a7N T) T.g_z1x T.F_z1x.kp T.b_z1x .nil (A0 1 (A0 0 A1))) (A0 0 (A0 2 (A0 3 (A0 4 A1)))))))))))))›,?_⟩
  rw [show start b2l [V.ref a,V.int st]=[some (V.ref a),some (V.int st),none,none,none,none] from rfl]
  try simp only [a1p,a1J,a0B,a0j,a0k,Qa,tC,a0t,Qf,a0l,Qg,Qh,tOp,tSl,a9m,Qb,a3b,a1f,a1a,a0o,a1y,a0e,a1o,b7J,b2v]
  refine ⟨a,ns,0,rfl,hS,hl,by decide,by decide,fun c0 hc0=>?_⟩
  refine ⟨c0,rfl,fun Pa pl H1 s1 hPn hP hp2 hp18 hpo _ _ hpe=>?_⟩
  have hS1:SqL K H1 a (ns.map V.int):=s1.seq hS
  try simp only []
  refine ⟨a,ns,0,rfl,hS1,hl,by decide,by decide,fun c1 hc1=>?_⟩
  refine ⟨c1,rfl,fun La ls H2 s2 hLn hL hl12 hlo=>?_⟩
  have hS2:SqL K H2 a (ns.map V.int):=s2.seq hS1
  try simp only []
  refine ⟨a,ns,1,rfl,hS2,hl,by decide,by decide,fun c2 hc2=>?_⟩
  try simp only [a1d,a3i,a1x,decide_eq_true_eq]
  refine ⟨by decide,.inr (.inl ⟨a,_,rfl,hS2,fun C hCn=>?_⟩)⟩
  have hc:∀v∈a8F (ns.map V.int) (some st) (some 63),∃i,v=V.int i:=fun v hv=>by
   have:=List.mem_of_mem_drop (Zy hv)
   obtain ⟨i,_,e⟩:=Qj.mp this
   exact ⟨i,e.symm⟩
  have hcl:(a8F (ns.map V.int) (some st) (some 63)).length+st.toNat≤63:=by
   have h1:(a8F (ns.map V.int) (some st) (some 63)).length≤ns.length - min st.toNat ns.length:=by
    unfold a8F
    refine Qi (Wr _ _) ?_
    rw [Jo,Qe]
    unfold HT.sIx
    dsimp only
    rw [if_neg (by omega)]
    exact Qk _
   have:=Nat.min_def (n:=st.toNat) (m:=ns.length)
   split at this<;>omega
  generalize a8F (ns.map V.int) (some st) (some 63)=ws at hc hcl
  obtain ⟨H3,e3,s3,h3⟩:=a0Y hCn (.lst ws);rw [e3]
  have s03:=(s1.trans s2).trans s3
  have hP3:=s3 _ _ (s2 _ _ hP)
  have hL3:=s3 _ _ hL
  have mono:∀(D:Addr) (i:Nat) (v:V) (Ha Hb:Hp),(∀b o,b≠D→Ha b=some o→Hb b=some o)→RwD pl D v Ha→RwD pl D v Hb:=fun D i v Ha Hb up h=>by
   obtain ⟨p,t,r,e,n1,n2,ho,g1,g2⟩:=h
   exact ⟨p,t,r,e,n1,n2,ho,up _ _ n1 g1,up _ _ n2 g2⟩
  have fin:∀(D:Addr) (H':Hp) (ys:List V),H3 D=none→a0i H3 H'→H' D=some (.lst ys)→ys.length=ws.length→(∀(i:Nat) v,ys[i]?=some v→RwD pl D v H')→Q (.ref D) H':=fun D H' ys hDn s hD hl' hv=>by
   obtain ⟨rs,hA,hO⟩:=a7B hv
   exact q D ys rs H' (s03.trans s) (none_of s03 hDn) hD hA (by rw [←hA.len,hl'];exact hcl) (fun r hr=>by have:=hO r hr;rw [hpe,hc0] at this;exact this)
  try simp only [a0z]
  refine a2c (fun c1=>?_) (fun c1=>?_)
  ·refine ⟨⟨_,SqL.of h3⟩,?_⟩
   refine b0l (a2Y (xs:=ws)) (Qi (show ws.length≤1000 by omega) (by decide)) [some (V.ref Pa),some (V.ref La)] rfl (fun D i v H'=>RwD pl D v H') mono (fun H' s=>SqL.of (s _ _ h3)) (fun D i H' R hi hDn s hD hR=>?_) fin
   obtain ⟨c,ec⟩:=hc ws[i] (Xd hi)
   rw [Qc hi,Xo,ec]
   obtain ⟨ys,hD⟩:=hD
   try simp only [a0B,a0j,a0k,Qa,Qb,a0t,Qf,a0e]
   refine ⟨c,Pa,La,pl,ls,rfl,s _ _ hP3,hp2,hp18,hpo,s _ _ hL3,hl12,hlo,fun p t r H'' s' hp ht ho g1 g2=>?_⟩
   exact hR _ _ s' ⟨p,t,r,rfl,fun z=>a0c hD hp z.symm,fun z=>a0c hD ht z.symm,ho,g1,g2⟩
  ·refine ⟨C,rfl,⟨_,SqL.of h3⟩,?_⟩
   refine b7b (xs:=ws) (Qi (show ws.length≤1000 by omega) (by decide)) [some (V.ref Pa),some (V.ref La),some (V.int (c2 % 4))] rfl (fun D i v H'=>RwD pl D v H') mono (SqL.of h3) (fun D i H' R hi hDn s hD hR=>?_) fin
   obtain ⟨c,ec⟩:=hc ws[i] (Xd hi)
   rw [ec]
   obtain ⟨ys,hD⟩:=hD
   try simp only [a0B,a0j,a0k,Qb,Qa,a0t,Qf,a0e,a3G]
   intro r0 hr0
   refine ⟨r0,(i:Int),c2 % 4,Pa,La,pl,ls,rfl,s _ _ hP3,hp2,hp18,hpo,s _ _ hL3,hl12,hlo,fun p t r H'' s' hp ht ho g1 g2=>?_⟩
   exact hR _ _ s' ⟨p,t,r,rfl,fun z=>a0c hD hp z.symm,fun z=>a0c hD ht z.symm,ho,g1,g2⟩
theorem b2D (T:Txt K mg t):a0S P w K mg base CX0 10 t.f_d_law t.fd_d_law ["_law_script"] (b5V t.TB_z0u K):=by
 refine T.F_d_law.ok a1F (fun vs H Q E h=>?_) (fun cdv A outer s H vs Q E hr h=>?_)
 ·obtain ⟨a,ns,rfl,hS,hl,lt,q⟩:=h;rfl
 ·obtain ⟨a,ns,rfl,hS,hl,lt,q⟩:=h
  refine ⟨_,‹A2 (A8 1 a1F.nd (A6 (b8N T) T.g_z1s T.F_z1s.kp T.b_z1s .nil (A0 0 (A0 A3 A1)))) (A2 (A8 2 a1F.nd (A6 (b3N T) T.g_z1q T.F_z1q.kp T.b_z1q .nil (A0 (A6 (a4C T) T.g_z1b T.F_z1b.kp T.b_z1b .nil (A0 0 (A0 A3 A1))) A1))) (A2 (A8 3 a1F.nd (A6 (b8a T) T.g_z0m T.F_z0m.kp T.b_z0m .nil (A0 (A6 (a4C T) T.g_z1b T.F_z1b.kp T.b_z1b .nil (A0 0 (A0 A3 A1))) (A0 (A5 a0G (A6 (a4C T) T.g_z1b T.F_z1b.kp T.b_z1b .nil (A0 0 (A0 A3 A1))) A3) A1)))) (A2 (A8 4 a1F.nd (F6 T.mk_Answers (b7Q T) T.g_Answers T.b_z0b (A0 (F6 T.mk_Ground (b8g T) T.g_Ground T.b_z0s (A0 (C2 (B4 (a0b a3d) a6O ["_law_row_here"] [none]) (B7 1) (A9 0 (show Xk (["_law_row_here"]:List Str) by decide+kernel)) D6 (A6 (c0d T) T.g_z1r T.F_z1r.kp T.b_z1r .nil (A0 0 A1))) (A0 3 A1))) A1))) (A2 (A8 5 a1F.nd (A6 (b8f T) T.g_z1z T.F_z1z.kp T.b_z1z .nil (A0 1 A1))) (A2 (C1 (B7 2) (A9 6 a1F.nd) (A2 (A8 7 a1F.nd (C4 (A0 (C0 4 T.cl_Answers T.me_Answers_sure (a8Y T) T.b_z0c (A0 6 A1)) (A0 (C0 4 T.cl_Answers T.me_Answers_held (a7M T) T.b_z0d (A0 6 A1)) (A0 (C0 4 T.cl_Answers T.me_Answers_refused (b3O T) T.b_z03 (A0 6 A1)) A1))))) (D7 (B5 (C7 (F3 (C7 (D9 (B8 (B0 a0n 7 A3)) (E0 (B8 (B0 a0n 7 A3))))) (F4 (C7 (D9 (B8 (B0 a0n 7 A3)) (E0 (B3 (a3o hr.units) 7 (C4 (A0 B2 (A0 B2 (A0 B2 A1)))) (a0r _)))))))) (A4 (A7 B2)) B6) (D7 (B5 (C7 (F3 (B3 (a3o hr.units) (D0 a9Y (C0 4 T.cl_Answers T.me_Answers_rank (a7P T) T.b_z0e (A0 6 A1)) A3 (a0r _)) (G5 (B0 a0n 7 A3) (F9 (B0 a0n 7 A3))) (a0r _)) (F4 (C7 (D9 (B8 (B0 a0n 7 A3)) (E0 (B3 (a3o hr.units) (C0 4 T.cl_Answers T.me_Answers_rank (a7P T) T.b_z0e (A0 6 A1)) A3 (a0r _)))))))) (A4 (A7 B2)) B6) (D7 (A8 8 a1F.nd (H0 (B0 a0n 7 A3) (F9 (C0 4 T.cl_Answers T.me_Answers_held (a7M T) T.b_z0d (A0 (A6 (a4p T) T.g_z1l T.F_z1l.kp T.b_z1l .nil (A0 6 A1)) A1))))) (D7 (B5 (C7 (D9 (B8 8) (E0 (E6 (C7 (D9 (B8 (B0 a0n 7 A3)) (E0 (B8 (C0 4 T.cl_Answers T.me_Answers_sure (a8Y T) T.b_z0c (A0 (A6 (a4p T) T.g_z1l T.F_z1l.kp T.b_z1l .nil (A0 6 A1)) A1)))))))))) (A4 (A7 B2)) B6) (A4 (B5 (E6 (B8 (A6 (b8A T) T.g_z1u T.F_z1u.kp T.b_z1u .nil (A0 5 (A0 3 (A0 4 (A0 2 (A0 6 A1)))))))) (A4 (A7 B2)) B6)))))))) (A4 (A7 B2)))))))›,?_⟩
  rw [show start a6O [V.ref a]=[some (V.ref a),none,none,none,none,none,none,none,none] from rfl]
  try simp only [a1p,a1J,a0B,a0j,a0k,Qa,tC,a0t,Qf,a0l,Qg,Qh,tOp,b5W,Qb,a0L,a1y,a0e,a0o]
  refine ⟨a,ns,3,rfl,hS,hl,⟨by decide,by decide⟩,fun R0 xs rs H1 s1 hBn hB1 hA1 hrl hO2=>?_⟩
  have hO:∀r∈rs,a1B r:=fun r hr=>(hO2 r hr).1
  have hrl':rs.length≤60:=by have:rs.length+(3:Int).toNat≤63:=hrl;simp at this;omega
  have hS1:SqL K H1 a (ns.map V.int):=s1.seq hS
  try simp only [a0z]
  refine ⟨a,ns,0,rfl,hS1,hl,by decide,by decide,fun c0 hc0=>?_⟩
  refine ⟨c0,rfl,fun Pa po H2 s2 hPn hP hp2 hp18 hpo hpn hop hpe=>?_⟩
  have hIn:∀r∈rs,b6E po r:=fun r hr=>by rw [hpe,hc0];exact (hO2 r hr).2
  have hpopp:∀x∈po,a0A x∈po:=fun x hx=>by rw [hpe] at hx ⊢;exact b1S hx
  have hsts:∀x∈sts rs,x∈po:=fun x hx=>by
   obtain ⟨r,hr,q,hq,z⟩:=a2m.mp hx
   have hq':q∈po:=by
    rcases Qy.mp hq with w | w
    ·rw [w];exact (hIn r hr).1
    ·exact (hIn r hr).2 q w
   rcases z with z | z
   ·rw [z];exact hq'
   ·rw [z];exact hpopp q hq'
  have hqs:∀q∈po,q.length≤100∧a0A (a0A q)=q:=fun q hq=>⟨by have:=(hpo q hq).2;omega,hop q hq⟩
  clear hpe hc0
  have hS2:SqL K H2 a (ns.map V.int):=s2.seq hS1
  try simp only [a0z]
  refine ⟨a,ns,0,rfl,hS2,hl,by decide,by decide,fun c2 _=>?_⟩
  try simp only []
  refine ⟨a,ns,2,rfl,hS2,hl,by decide,by decide,fun c3 _=>?_⟩
  have m41:=a1z (i:=c3) (j:=41) (by decide)
  try simp only [a1d]
  refine ⟨by decide,c2,c3 % 41,rfl,by omega,fun Pr ps pl H3 s3 hPrn hPr3 hPs3 hprl41 hpro hac=>?_⟩
  have hprl:pl.length≤200:=by omega
  have s13:=s2.trans s3
  have hB3:=s13 _ _ hB1
  have hA3:=hA1.same s13
  try simp only []
  refine ⟨⟨_,SqL.of hB3⟩,?_⟩
  refine b0l (a2Y (xs:=xs)) (Qi (show xs.length≤1000 by rw [hA1.len];omega) (by decide)) [] rfl (fun D i v H'=>∃hi:i < rs.length,RuD t D v rs[i] H') ?_ (fun H' s=>SqL.of (s _ _ hB3)) (fun D i H' R hi hDn s hD hR=>?_) (fun Ru H4 ys hRn s4 hR4 hyl hv=>?_)
  ·rintro D i v Ha Hb up ⟨hi,p,dx,t0,e,n1,n2,g1,g2⟩
   exact ⟨hi,p,dx,t0,e,n1,n2,up _ _ n1 g1,up _ _ n2 g2⟩
  ·have hi':i < rs.length:=by rw [←hA1.len];exact hi
   obtain ⟨x,ex,p,t1,rfl,g1,g2⟩:=hA3.get i rs[i] (Qc hi')
   rw [ex,Xo]
   obtain ⟨zs,hD⟩:=hD
   try simp only [a0B,a0j,a0k,Qa,a0t,Qf,a0e]
   refine ⟨p,t1,rs[i],rfl,hO _ (Xd hi'),s _ _ g1,s _ _ g2,fun x H' s' hx=>?_⟩
   obtain ⟨dx,t0,f1,f2⟩:=hx
   have hD':=s' _ _ hD
   exact hR _ _ s' ⟨hi',x,dx,t0,rfl,a0E f1 hD' (by intro z;cases z),a0E f2 hD' (by intro z;cases z),f1,f2⟩
  have hU4:=b9e (hyl.trans hA1.len) hv
  clear hv
  refine b4A hR4 hU4 hO (by omega) (s4 _ _ hPr3) (a0U.same s4 hPs3) hprl fun g H5 s5 ng hG5=>?_
  have s35:=s4.trans s5
  have s15:=s13.trans s35
  have sx5:Sx K t H5 a ns R0 xs rs Pa po Pr ps pl g:=⟨(s3.trans s35).seq hS2,s35 _ _ hB3,hA3.same s35,(s3.trans s35) _ _ hP,s35 _ _ hPr3,a0U.same s35 hPs3,hG5⟩
  have lt5:=lt.mono (s1.trans s15)
  clear hS1 hS2 hP hPs3 hPr3 hB3 hA3 hB1 hA1 hR4 hU4 hG5 hS lt
  try skip
  intro x dx hxn hdxn ndx
  obtain ⟨H6,e6,s6,h6x⟩:∃H6,upd (upd H5 dx (.own x)) x (.ins t.C_Answers dx [])=H6∧a0i H5 H6∧H6 x=some (.ins t.C_Answers dx []):=⟨_,rfl,fun c o e=>by rw [a0a (a0c e hxn),a0a (a0c e hdxn)];exact e,a0d⟩
  rw [e6]
  refine ⟨x,dx,g,rs,pl,po,H5,rfl,h6x,s6,hxn,sx5.G,hO,by omega,hsts,hp18,hqs,lt5,fun H7 ss T0 k7 lt7 hdue hAT hAn=>⟨rfl,?_⟩⟩
  have sx7:=sx5.on lt5 k7
  clear sx5 lt5 lt7 k7 h6x
  obtain ⟨hTn,n0,W,hW,hf0,hIT0⟩:=hAT
  have hssl:=b1B hdue
  have hss:∀z∈ss,z∈sts rs:=fun z hz=>b5t hdue z hz
  have hAT:=(show c0Y rs pl ss T0 from ⟨hTn,n0,W,hW,hf0,hIT0⟩)
  have hkp:c0w rs pl ss T0 po:=⟨hAT,hpn,hp18,hsts,hop,fun q hq=>(hqs q hq).1,hss⟩
  try skip
  refine ⟨R0,xs,rs,rfl,sx7.B,sx7.A,by omega,fun By H8 s8 hByn hBy=>?_⟩
  have sx8:=sx7.same s8
  have hAn8:=hAn.same s8
  obtain ⟨dxA,stA,skA,cmA,StA,hxA,_⟩:=id hAn8
  try simp only []
  refine ⟨⟨_,SqL.of sx8.P⟩,?_⟩
  refine a1v (K:=K) (a:=Pa) (xs:=po.map V.str) (fun i σ H'=>∃(x6 x7 x8:Option V),σ=[some (V.ref a),some (V.ref R0),some (V.ref Pa),some (V.ref Pr),some (V.ref x),some (V.ref By),x6,x7,x8]∧a0i H8 H') ⟨_,_,_,rfl,a0i.refl _⟩ (fun i σ H' _ ⟨_,_,_,_,s⟩=>SqL.of (s _ _ sx8.P)) ?_ ?_
  ·rintro i v σ H9 hi ⟨x6,x7,x8,rfl,s9⟩
   obtain ⟨q0,hq0,rfl⟩:=Qj.mp (Ui hi)
   clear hi
   have hqo:=hpopp q0 hq0
   obtain ⟨f1,f2,f3⟩:=b3g hkp hac hq0 hqo
   have ask:∀{H'} (s:a0i H8 H'),H' x=some (.ins t.C_Answers dxA (afl stA skA cmA))∧a4S t H' x rs ss T0:=fun s=>⟨s _ _ hxA,hAn8.same s⟩
   try simp only [a0l,a1p,a1J,a6S,a0j,a1u,a0k,Qg,Qh,Qb,Qa,a0t,Qf,a0e]
   refine ⟨x,dxA,_,rfl,(ask s9).1,a1C _ _ _ (by decide+kernel) (by decide+kernel) (by decide+kernel),x,q0,rs,ss,T0,rfl,(ask s9).2,hTn,fun H10 s10=>?_⟩
   have s810:=s9.trans s10
   refine ⟨x,dxA,_,rfl,(ask s810).1,a1C _ _ _ (by decide+kernel) (by decide+kernel) (by decide+kernel),x,q0,rs,ss,T0,rfl,(ask s810).2,hTn,fun H11 s11=>?_⟩
   have s811:=s810.trans s11
   refine ⟨x,dxA,_,rfl,(ask s811).1,a1C _ _ _ (by decide+kernel) (by decide+kernel) (by decide+kernel),x,q0,rs,ss,T0,rfl,(ask s811).2,hTn,fun H12 s12=>?_⟩
   have s812:=s811.trans s12
   refine ⟨by simp only [Qo,Qz];decide,fun tp htp=>?_⟩
   dsimp only at htp ⊢
   obtain ⟨H13,e13,s13,h13⟩:=a0Y htp (.tup [V.bl (decide (q0∈ss)),V.bl (decide ((wr rs T0 q0).1="held")),V.bl (decide ((wr rs T0 q0).1="refused"))]);rw [e13]
   have s813:=s812.trans s13
   try skip
   refine ⟨fun σ' H'=>σ'=[some (V.ref a),some (V.ref R0),some (V.ref Pa),some (V.ref Pr),some (V.ref x),some (V.ref By),some (V.str q0),some (V.ref tp),x8]∧a0i H13 H',?_,?_⟩
   ·have hnr:(wr rs T0 q0).1="held"→¬(wr rs T0 q0).1="refused":=fun a b=>b2x ⟨a,b⟩
    have tail:rIx K (V.ref tp) (V.int 0) H13 fun x H1=>∃c,x=V.bl c∧if c=true then [V.bl true,V.bl true,V.bl false].length≤sizeLine∧∀(p:Addr),H1 p=none→b3U K (V.ref tp) (V.ref p) (upd H1 p (HO.tup [V.bl true,V.bl true,V.bl false])) fun x H'=>∃k,x=V.bl k∧if k=true then Q (V.bl false) H' else True∧a0i H13 H' else True∧a0i H13 H1:=by
     refine a0v (SqT.of h13) rfl ⟨_,rfl,?_⟩
     by_cases hs:q0∈ss
     ·rw [decide_eq_true hs,if_pos rfl]
      refine ⟨by simp only [Qo,Qz];decide,fun p hp=>?_⟩
      obtain ⟨H14,e14,s14,h14⟩:=a0Y hp (.tup [V.bl true,V.bl true,V.bl false]);rw [e14]
      have hh:=(f1 hs).1
      rw [decide_eq_true hs,decide_eq_true hh,decide_eq_false (hnr hh)] at h13
      refine a2t (d:=.tuple [.bool true,.bool true,.bool false]) (.tup (SqT.of (s14 _ _ h13)) (.cons (.bl _) (.cons (.bl _) (.cons (.bl _) .nil)))) (.tup (SqT.of h14) (.cons (.bl _) (.cons (.bl _) (.cons (.bl _) .nil)))) rfl ⟨_,rfl,?_⟩
      rw [if_neg Qn]
      exact ⟨trivial,s14⟩
     ·rw [decide_eq_false hs,if_neg Qn]
      exact ⟨trivial,a0i.refl _⟩
    try simp only [a3b,tOr,b1K,tB,tOp,a0k,Qb,Qa,tC,a1a,a1o,if_true,a1f,a6S,a0j,a0t,a0e,a3M]
    refine a0v (SqT.of h13) rfl ⟨_,rfl,?_⟩
    by_cases hh:(wr rs T0 q0).1="held"
    ·rw [decide_eq_true hh,if_pos rfl]
     refine a0v (SqT.of h13) rfl ⟨_,rfl,?_⟩
     rw [decide_eq_false (hnr hh),if_neg Qn]
     exact tail
    ·rw [decide_eq_false hh,if_neg Qn]
     exact tail
   rintro σ' H14 ⟨rfl,s14⟩
   have h14:=s14 _ _ h13
   have s814:=s813.trans s14
   try skip
   refine ⟨fun σ' H'=>σ'=[some (V.ref a),some (V.ref R0),some (V.ref Pa),some (V.ref Pr),some (V.ref x),some (V.ref By),some (V.str q0),some (V.ref tp),x8]∧a0i H13 H',?_,?_⟩
   ·try simp only [a3b,tOr,a1f,tOp,a1u,a0k,Qb,Qa,a0j,a0t,Qf,tC,c0s,a1a,a1o,if_true,b1K,tB,a0e,a3M]
    refine ⟨x,dxA,_,rfl,(ask s814).1,a1C _ _ _ (by decide+kernel) (by decide+kernel) (by decide+kernel),x,q0,rs,ss,T0,rfl,(ask s814).2,hTn,fun H15 s15=>?_⟩
    have h15:=s15 _ _ h14
    have s1315:=s14.trans s15
    have s815:=s813.trans s1315
    have tail:rIx K (V.ref tp) (V.int 0) H15 fun x_5 H1=>∃c,x_5=V.bl c∧if c=true then ∃a dx fs,V.ref x=V.ref a∧H1 a=some (HO.ins t.C_Answers dx fs)∧Zq ("rank":Str) fs=none∧a9c t (fun rs ss T q=>V.int ((wr rs T q).2:Nat)) [V.ref x,V.str q0] H1 (fun x H1=>b3U K x (V.int 1) H1 fun x H'=>∃k,x=V.bl k∧if k=true then Q (V.bl false) H' else True∧a0i H13 H') E0 else True∧a0i H13 H1:=by
     refine a0v (SqT.of h15) rfl ⟨_,rfl,?_⟩
     by_cases hs:q0∈ss
     ·rw [decide_eq_true hs,if_pos rfl]
      refine ⟨x,dxA,_,rfl,(ask s815).1,a1C _ _ _ (by decide+kernel) (by decide+kernel) (by decide+kernel),x,q0,rs,ss,T0,rfl,(ask s815).2,hTn,fun H16 s16=>?_⟩
      dsimp only
      rw [(f1 hs).2]
      refine a2t (d:=.int 1) (.int _) (.int _) rfl ⟨_,rfl,?_⟩
      rw [if_neg Qn]
      exact ⟨trivial,s1315.trans s16⟩
     ·rw [decide_eq_false hs,if_neg Qn]
      exact ⟨trivial,s1315⟩
    try simp only [a3i]
    refine a0v (SqT.of h15) rfl ⟨_,rfl,?_⟩
    by_cases hh:(wr rs T0 q0).1="held"
    ·rw [decide_eq_true hh,if_pos rfl,show decide ((0:Int) < ((wr rs T0 q0).2:Nat))=true from decide_eq_true (by have:=f2.mpr (.inl hh);omega)]
     refine a2t (d:=.bool true) (.bl _) (.bl _) rfl ⟨_,rfl,?_⟩
     rw [if_neg Qn]
     exact tail
    ·rw [decide_eq_false hh,if_neg Qn]
     refine a0v (SqT.of h15) rfl ?_
     rw [show decide ((0:Int) < ((wr rs T0 q0).2:Nat))=decide ((wr rs T0 q0).1="refused") from by
      rw [Xl,decide_eq_true_eq,decide_eq_true_eq]
      exact ⟨fun z=>(f2.mp (by omega)).resolve_left hh,fun z=>by have:=f2.mpr (.inr z);omega⟩]
     refine a2t (d:=.bool _) (.bl _) (.bl _) rfl ⟨_,rfl,?_⟩
     rw [if_neg Qn]
     exact tail
   rintro σ' H15 ⟨rfl,s15⟩
   have h15:=s15 _ _ h13
   have s815:=s813.trans s15
   try skip
   refine ⟨fun σ' H'=>∃bo:Bool,σ'=[some (V.ref a),some (V.ref R0),some (V.ref Pa),some (V.ref Pr),some (V.ref x),some (V.ref By),some (V.str q0),some (V.ref tp),some (V.bl bo)]∧a0i H15 H'∧(bo=true→(wr rs T0 q0).1="held"∧(wr rs T0 (a0A q0)).1="held"),?_,?_⟩
   ·try simp only [a1J,b5v,tOp,a0k,Qb,Qa,tC,a1u,a0j,a0B,a0t,Qf,a0l,Qg,Qh,a0e]
    refine a0v (SqT.of h15) rfl ⟨_,rfl,?_⟩
    by_cases hh:(wr rs T0 q0).1="held"
    ·rw [decide_eq_true hh,if_pos rfl]
     exact ⟨x,dxA,_,rfl,(ask s815).1,a1C _ _ _ (by decide+kernel) (by decide+kernel) (by decide+kernel),q0,rfl,(hqs q0 hq0).1,x,a0A q0,rs,ss,T0,rfl,(ask s815).2,hTn,fun H16 s16=>⟨_,rfl,s16,fun w=>⟨hh,of_decide_eq_true w⟩⟩⟩
    ·rw [decide_eq_false hh,if_neg Qn]
     exact ⟨false,rfl,a0i.refl _,fun w=>by cases w⟩
   rintro σ' H16 ⟨bo,rfl,s16,hbo⟩
   have s816:=s815.trans s16
   try skip
   refine ⟨fun σ' H'=>σ'=[some (V.ref a),some (V.ref R0),some (V.ref Pa),some (V.ref Pr),some (V.ref x),some (V.ref By),some (V.str q0),some (V.ref tp),some (V.bl bo)]∧a0i H16 H',?_,?_⟩
   ·try simp only [a3b,b1K,tB,a0k,Qb,Qa,b2E,tOp,tC,a1u,a0j,a0B,a0t,Qf,Xy,a1a,a1o,a0e,if_true,a3M,a1x]
    cases bo with
    | false=>rw [if_neg Qn];exact ⟨trivial,a0i.refl _⟩
    | true=>
     rw [if_pos rfl]
     obtain ⟨g1,g2⟩:=hbo rfl
     obtain ⟨u1,u2⟩:=f3 g1 g2
     refine a0v (SqT.of (s16 _ _ h15)) rfl ⟨_,rfl,?_⟩
     rw [decide_eq_true u1,if_pos rfl]
     refine ⟨x,dxA,_,rfl,(ask s816).1,a1C _ _ _ (by decide+kernel) (by decide+kernel) (by decide+kernel),q0,rfl,(hqs q0 hq0).1,x,a0A q0,rs,ss,T0,rfl,(ask s816).2,hTn,fun H17 s17=>⟨_,rfl,?_⟩⟩
     rw [decide_eq_true u2,if_neg (by decide)]
     exact ⟨trivial,s17⟩
   rintro σ' H17 ⟨rfl,s17⟩
   have s817:=s816.trans s17
   try simp only [a3b,b2E,tB,a0B,a0j,a0k,Qb,Qa,a0t,Qf,Xy,a1a,tC,a1o,a0e]
   refine ⟨By,Pr,x,Pa,q0,rs,ps,pl,ss,T0,po,rfl,hBy.same s817,hO,by omega,s817 _ _ sx8.R,a0U.same s817 sx8.Q,hpro,(ask s817).2,s817 _ _ sx8.P,hkp,hq0,fun H18 s18=>⟨_,rfl,?_⟩⟩
   rw [if_neg (by decide)]
   exact ⟨_,_,_,rfl,s817.trans s18⟩
  ·rintro σ H9 ⟨x6,x7,x8,rfl,s9⟩
   try simp only [a1a,tC]
   exact q _
end
end K45
open PySem PySem.W PyProof.Rows
namespace K45
open PySem PySem.W L2
noncomputable section
abbrev kE (P:Params) (x:String) (t:Nat) (v:Value):DictEntry:=⟨Ye P x,.str x t,v⟩
abbrev kC (n q:String) (s:Stmt):Obj:=⟨.none,none,(.func ⟨n,q,a1N s,.stmts (a1g s),a0b s,0,[],.none,.none,.none,.none,none,.none,.none,0⟩),#[]⟩
abbrev kD1 (n q:String) (t l a r u:Nat):Obj:=⟨.type "code",none,.fields #[.str n t,.str q (t+1),.str "/claim/cut.py" (t+2),.int l 0,.int a 0,.int 0 0,.int 0 0,.int 3 0,.ref r,.bool true,.int 181 0,.ref (r+1),.none,.ref (r+2),.ref (r+3),.ref (r+4),.int u 0,.int l 0,.str "/claim/cut.py" (u+1)],#[]⟩
abbrev kD2 (n q:String) (t l a r u:Nat):Obj:=⟨.type "code",none,.fields #[.str n t,.str q (t+1),.str "/claim/cut.py" (t+2),.int l 0,.int a 0,.int 0 0,.int 0 0,.int 3 0,.ref r,.bool true,.int 181 0,.ref (r+1),.none,.none,.none,.ref (r+2),.int u 0,.int l 0,.str "/claim/cut.py" (u+1)],#[]⟩
abbrev kG (n q:String) (s:Stmt) (m:Value) (c:Nat):FuncData:=Yu n q (a1N s) (a1g s) (a0b s) .none .none .none m none (.ref c) .none
abbrev kF (n q:String) (s:Stmt) (m:Value) (c:Nat):Obj:=⟨.type "function",none,.func (kG n q s m c),#[]⟩
abbrev kTs:Nat→List String→List Value
 | _,[]=>[]
 | t,x::l=>.str x t::kTs (t+1) l
abbrev kT (t:Nat) (l:List String):Obj:=⟨.type "tuple",none,.seq ⟨kTs t l⟩ 0,#[]⟩
abbrev kBs (f:String→Value) (P:Params):Nat→List String→List DictEntry
 | _,[]=>[]
 | t,x::l=>kE P x t (f x)::kBs f P (t+1) l
abbrev kLs:List (Nat×Nat×Nat)→List Value
 | []=>[]
 | (a,b,c)::l=>.int a 0::.int b 0::.ref c::kLs l
abbrev kL (l:List (Nat×Nat×Nat)):Obj:=⟨.none,none,.fields ⟨kLs l⟩,#[]⟩
abbrev kQ (l:List DictEntry) (n:Nat):Obj:=⟨.type "dict",none,.dict ⟨l⟩ n,#[]⟩
def kU:Obj:=⟨.type "tuple",none,.seq #[] 0,#[]⟩
def kN:Obj:=⟨.none,none,.fields #[],#[]⟩
abbrev m0:Value:=.str "__main__" 164
abbrev m1:Value:=.str "mostwise.among" 194
abbrev m2:Value:=.str "mostwise.words" 217
abbrev m3:Value:=.str "mostwise.leaning" 226
abbrev m4:Value:=.str "mostwise.sure" 238
abbrev m5:Value:=.str "mostwise.mostly" 254
abbrev m6:Value:=.str "mostwise.rules" 401
abbrev m7:Value:=.str "mostwise.ground" 652
abbrev m8:Value:=.str "law_mostwise_k45_whole_never_both" 744
def o0 (P:Params):Obj:=kQ ([kE P "__name__" 1 (.str "builtins" 160),kE P "__doc__" 2 (.builtin "builtins.__doc__:str#opaque"),kE P "__package__" 3 (.builtin "builtins.__package__:str#opaque"),kE P "__loader__" 4 (.builtin "builtins.__loader__:shared#opaque"),kE P "__spec__" 5 (.builtin "builtins.__spec__#opaque")]++kBs .builtin P 6 ["__build_class__","__import__","abs","all","any","ascii","bin","breakpoint","callable","chr","compile","delattr","dir","divmod","eval","exec","format","getattr","globals","hasattr","hash","hex","id","input","isinstance","issubclass","iter","aiter","len","locals","max","min","next","anext","oct","ord","pow","print","repr","round","setattr","sorted","sum","vars"]++[kE P "None" 50 .none,kE P "Ellipsis" 51 .ellipsis,kE P "NotImplemented" 52 .notImplemented,kE P "False" 53 (.bool false),kE P "True" 54 (.bool true)]++kBs .type P 55 ["bool","memoryview","bytearray","bytes","classmethod","complex","dict","enumerate","filter","float","frozenset","property","int","list","map","object","range","reversed","set","slice","staticmethod","str","super","tuple","type","zip"]++[kE P "__debug__" 81 (.bool true)]++kBs .type P 82 ["BaseException","BaseExceptionGroup","Exception","GeneratorExit","KeyboardInterrupt","SystemExit","ArithmeticError","AssertionError","AttributeError","BufferError","EOFError","ImportError","LookupError","MemoryError","NameError","OSError","ReferenceError","RuntimeError","StopAsyncIteration","StopIteration","SyntaxError","SystemError","TypeError","ValueError","Warning","FloatingPointError","OverflowError","ZeroDivisionError","BytesWarning","DeprecationWarning","EncodingWarning","FutureWarning","ImportWarning","PendingDeprecationWarning","ResourceWarning","RuntimeWarning","SyntaxWarning","UnicodeWarning","UserWarning","BlockingIOError","ChildProcessError","ConnectionError","FileExistsError","FileNotFoundError","InterruptedError","IsADirectoryError","NotADirectoryError","PermissionError","ProcessLookupError","TimeoutError"]++kBs .type P 132 ["IndentationError","_IncompleteInputError","IndexError","KeyError","ModuleNotFoundError","NotImplementedError","PythonFinalizationError","RecursionError","UnboundLocalError","UnicodeError","BrokenPipeError","ConnectionAbortedError","ConnectionRefusedError","ConnectionResetError","TabError","UnicodeDecodeError","UnicodeEncodeError","UnicodeTranslateError","ExceptionGroup"]++[kE P "EnvironmentError" 151 (.type "OSError"),kE P "IOError" 152 (.type "OSError"),kE P "open" 153 (.builtin "open"),kE P "quit" 154 (.builtin "builtins.quit#opaque"),kE P "exit" 155 (.builtin "builtins.exit#opaque"),kE P "copyright" 156 (.builtin "builtins.copyright#opaque"),kE P "credits" 157 (.builtin "builtins.credits#opaque"),kE P "license" 158 (.builtin "builtins.license#opaque"),kE P "help" 159 (.builtin "builtins.help#opaque")]) 159
def o1 (P:Params):Obj:=kQ [kE P "builtins" 162 (.ref 4),kE P "__main__" 163 (.ref 5)] 2
def o2:Obj:=⟨.none,none,(.dict #[] 0),#[]⟩
def o3 (P:Params):Obj:=kQ ([kE P "__name__" 165 (.str "law_mostwise_k45_whole_never_both" 744),kE P "__doc__" 166 .none,kE P "__package__" 167 .none,kE P "__loader__" 168 (.builtin "__main__.__loader__#opaque"),kE P "__spec__" 169 .none,kE P "__annotations__" 170 (.ref 6),kE P "__builtins__" 171 (.ref 4),kE P "__file__" 173 (.str "/claim/cut.py" 172),kE P "__cached__" 174 .none,kE P "_wall" 193 (.ref 21),kE P "keyed" 204 (.ref 28),kE P "all_among" 210 (.ref 33),kE P "any_among" 216 (.ref 38),kE P "opposite" 225 (.ref 45),kE P "heads_by_premise" 237 (.ref 52),kE P "sure_rounds" 245 (.ref 58),kE P "sure_steps" 253 (.ref 65),kE P "HELD" 257 (.str "held" 256),kE P "REFUSED" 259 (.str "refused" 258),kE P "is_beaten" 265 (.ref 70),kE P "holds_by" 271 (.ref 75),kE P "refused_by" 277 (.ref 80),kE P "words_now" 290 (.ref 87),kE P "touched" 301 (.ref 94),kE P "most_rounds" 307 (.ref 99),kE P "Answers" 400 (.ref 172),kE P "Rule" 487 (.ref 242),kE P "Fact" 541 (.ref 291),kE P "Sure" 580 (.ref 324),kE P "Most" 612 (.ref 350),kE P "Block" 651 (.ref 383),kE P "Ground" 743 (.ref 449),kE P "_law_cell_at" 753 (.ref 460),kE P "_law_mix" 762 (.ref 467),kE P "_law_word" 776 (.ref 474),kE P "_law_pool" 782 (.ref 479),kE P "_law_row" 788 (.ref 484),kE P "_law_made" 799 (.ref 491),kE P "_law_labels" 805 (.ref 496),kE P "_law_row_by_digits" 822 (.ref 503),kE P "_law_rows" 828 (.ref 508),kE P "_law_other" 835 (.ref 515),kE P "_law_by" 844 (.ref 522),kE P "_law_stands" 850 (.ref 527),kE P "_law_falls" 856 (.ref 532),kE P "_law_beaten" 862 (.ref 537),kE P "_law_held" 868 (.ref 542),kE P "_law_refused" 874 (.ref 547),kE P "_law_leads" 886 (.ref 554),kE P "_law_free_pairs" 899 (.ref 561)]++[kE P "_law_ahead" 911 (.ref 568),kE P "_law_came" 917 (.ref 573),kE P "law" 923 (.ref 578)]) 53
def o4:Obj:=⟨(.type "module"),(some 0),.plain,#[]⟩
def o5:Obj:=⟨(.type "module"),(some 3),.plain,#[]⟩
def o6:Obj:=⟨(.type "dict"),none,(.dict #[] 0),#[]⟩
def o9:Obj:=⟨(.type "code"),none,(.fields #[(.str "<module>" 176),(.str "<module>" 177),(.str "/claim/cut.py" 178),(.int (1) 0),(.int (0) 0),(.int (0) 0),(.int (0) 0),(.int (0) 0),(.ref 7),(.bool false),(.int (175) 0),(.ref 8),.none,.none,.none,.none,(.int (179) 0),(.int (1) 0),(.str "/claim/cut.py" 180)]),#[]⟩
def o10:Obj:=⟨(.type "frame"),none,.plain,#[(some (.ref 9)),(some (.ref 3)),(some (.ref 3)),none,(some (.str "__main__" 164)),none,(some (.ref 0))]⟩
def o12:Obj:=kL [(1,0,20),(5,0,27),(10,0,32),(12,0,37),(15,0,44),(18,0,51),(25,0,57),(39,0,64),(45,0,69),(47,0,74),(54,0,79),(61,0,86),(69,0,93),(76,0,98),(94,0,105),(127,0,182),(154,0,252),(170,0,299),(180,0,332),(187,0,358),(198,0,391),(235,0,459),(239,0,466),(243,0,473),(253,0,478),(261,0,483),(273,0,490),(282,0,495),(284,0,502),(298,0,507),(306,0,514),(310,0,521),(315,0,526),(317,0,531),(319,0,536),(321,0,541),(329,0,546),(337,0,553),(347,0,560),(356,0,567),(366,0,572),(382,0,577)]
def o13:Obj:=⟨(.type "code"),none,(.fields #[(.str "<module>" 182),(.str "<module>" 183),(.str "/claim/cut.py" 184),(.int (1) 0),(.int (0) 0),(.int (0) 0),(.int (0) 0),(.int (0) 0),(.ref 11),(.bool false),(.int (181) 0),(.ref 12),.none,.none,.none,.none,(.int (185) 0),(.int (1) 0),(.str "/claim/cut.py" 186)]),#[]⟩
def o14:Obj:=⟨(.type "frame"),none,.plain,#[(some (.ref 13)),(some (.ref 3)),(some (.ref 3)),none,(some (.str "__main__" 164)),none,(some (.ref 0))]⟩
def o17:Obj:=kT 190 ["k"]
def o19:Obj:=kC "_wall" "_wall" (top 0)
def o20:Obj:=kD1 "_wall" "_wall" 187 1 1 15 191
def o21:Obj:=kF "_wall" "_wall" (top 0) m0 20
def o24:Obj:=kT 199 ["some","told","statement"]
def o26:Obj:=kC "keyed" "keyed" b1z
def o27:Obj:=kD1 "keyed" "keyed" 196 5 1 22 202
def o28:Obj:=kF "keyed" "keyed" b1z m1 27
def o31:Obj:=kC "all_among" "all_among" a8e
def o32:Obj:=kD2 "all_among" "all_among" 205 10 2 29 208
def o33:Obj:=kF "all_among" "all_among" a8e m1 32
def o36:Obj:=kC "any_among" "any_among" a8z
def o37:Obj:=kD2 "any_among" "any_among" 211 12 2 34 214
def o38:Obj:=kF "any_among" "any_among" a8z m1 37
def o41:Obj:=kT 222 ["statement"]
def o43:Obj:=kC "opposite" "opposite" a9o
def o44:Obj:=kD1 "opposite" "opposite" 219 15 1 39 223
def o45:Obj:=kF "opposite" "opposite" a9o m2 44
def o48:Obj:=kT 231 ["ground","heads","rule","premise"]
def o50:Obj:=kC "heads_by_premise" "heads_by_premise" b0C
def o51:Obj:=kD1 "heads_by_premise" "heads_by_premise" 228 18 1 46 235
def o52:Obj:=kF "heads_by_premise" "heads_by_premise" b0C m3 51
def o53:Obj:=⟨(.type "tuple"),none,(.seq #[.none] 0),#[]⟩
def o56:Obj:=kC "sure_rounds" "sure_rounds" a2B
def o57:Obj:=kD2 "sure_rounds" "sure_rounds" 240 25 2 54 243
def o58:Obj:=⟨(.type "function"),none,(.func (Yu "sure_rounds" "sure_rounds" (a1N a2B) (a1g a2B) (a0b a2B) (.ref 53) .none .none (.str "mostwise.sure" 238) none (.ref 57) .none)),#[]⟩
def o61:Obj:=kT 249 ["ground"]
def o62:Obj:=kT 250 ["ranks"]
def o63:Obj:=kC "sure_steps" "sure_steps" a8l
def o64:Obj:=kD1 "sure_steps" "sure_steps" 246 39 1 59 251
def o65:Obj:=kF "sure_steps" "sure_steps" a8l m4 64
def o68:Obj:=kC "is_beaten" "is_beaten" a8M
def o69:Obj:=kD2 "is_beaten" "is_beaten" 260 45 3 66 263
def o70:Obj:=kF "is_beaten" "is_beaten" a8M m5 69
def o73:Obj:=kC "holds_by" "holds_by" a6L
def o74:Obj:=kD2 "holds_by" "holds_by" 266 47 5 71 269
def o75:Obj:=kF "holds_by" "holds_by" a6L m5 74
def o78:Obj:=kC "refused_by" "refused_by" a6Y
def o79:Obj:=kD2 "refused_by" "refused_by" 272 54 5 76 275
def o80:Obj:=kF "refused_by" "refused_by" a6Y m5 79
def o83:Obj:=kT 281 ["ground","sures","held","refused","asked","words","q"]
def o85:Obj:=kC "words_now" "words_now" a9A
def o86:Obj:=kD1 "words_now" "words_now" 278 61 5 81 288
def o87:Obj:=kF "words_now" "words_now" a9A m5 86
def o90:Obj:=kT 294 ["heads","came","told","premise","head"]
def o92:Obj:=kC "touched" "touched" b0f
def o93:Obj:=kD1 "touched" "touched" 291 69 2 88 299
def o94:Obj:=kF "touched" "touched" b0f m5 93
def o97:Obj:=kC "most_rounds" "most_rounds" a4n
def o98:Obj:=kD2 "most_rounds" "most_rounds" 302 76 4 95 305
def o99:Obj:=kF "most_rounds" "most_rounds" a4n m5 98
def c7u:Obj:=⟨(.type "builtin_function_or_method"),none,(.fields #[(.builtin "type.__prepare__"),(.type "type")]),#[]⟩
def c6H (P:Params):Obj:=kQ [kE P "__module__" 315 (.str "mostwise.mostly" 254),kE P "__qualname__" 317 (.str "Answers" 316),⟨Ye P "__firstlineno__",(.str "__firstlineno__" 319),(.int (94) 318)⟩,kE P "__init__" 327 (.ref 113),kE P "word_and_rank" 335 (.ref 120),kE P "sure" 343 (.ref 127),kE P "held" 351 (.ref 134),kE P "refused" 359 (.ref 141),kE P "answer" 367 (.ref 148),kE P "rank" 375 (.ref 155),kE P "listed" 382 (.ref 162),kE P "sures" 389 (.ref 169),kE P "__static_attributes__" 393 (.ref 170)] 13
def c5I:Obj:=kL [(96,4,112),(101,4,119),(106,4,126),(109,4,133),(112,4,140),(115,4,147),(118,4,154),(121,4,161),(124,4,168)]
def c6M:Obj:=⟨(.type "code"),none,(.fields #[(.str "Answers" 310),(.str "Answers" 311),(.str "/claim/cut.py" 312),(.int (94) 0),(.int (0) 0),(.int (0) 0),(.int (0) 0),(.int (0) 0),(.ref 103),(.bool false),(.int (181) 0),(.ref 104),.none,.none,.none,.none,(.int (313) 0),(.int (94) 0),(.str "/claim/cut.py" 314)]),#[]⟩
def c6s:Obj:=⟨(.type "frame"),none,.plain,#[(some (.ref 105)),(some (.ref 3)),(some (.ref 102)),none,(some (.str "mostwise.mostly" 254)),none,(some (.ref 0))]⟩
def c2i:Obj:=kT 323 ["self","ground"]
def c7y:Obj:=kC "__init__" "Answers.__init__" b1u
def c2C:Obj:=kD1 "__init__" "Answers.__init__" 320 96 2 107 325
def c1v:Obj:=kF "__init__" "Answers.__init__" b1u m5 112
def c4x:Obj:=kT 331 ["self","q"]
def c5X:Obj:=kC "word_and_rank" "Answers.word_and_rank" b1C
def c3x:Obj:=kD1 "word_and_rank" "Answers.word_and_rank" 328 101 2 114 333
def c3h:Obj:=kF "word_and_rank" "Answers.word_and_rank" b1C m5 119
def c1D:Obj:=kT 339 ["self","q"]
def c5z:Obj:=kC "sure" "Answers.sure" a9l
def c3l:Obj:=kD1 "sure" "Answers.sure" 336 106 2 121 341
def c4F:Obj:=kF "sure" "Answers.sure" a9l m5 126
def c4A:Obj:=kT 347 ["self","q"]
def c7z:Obj:=kC "held" "Answers.held" a9v
def c3S:Obj:=kD1 "held" "Answers.held" 344 109 2 128 349
def c3d:Obj:=kF "held" "Answers.held" a9v m5 133
def c2c:Obj:=kT 355 ["self","q"]
def c6q:Obj:=kC "refused" "Answers.refused" b0U
def c4s:Obj:=kD1 "refused" "Answers.refused" 352 112 2 135 357
def c3D:Obj:=kF "refused" "Answers.refused" b0U m5 140
def c4a:Obj:=kT 363 ["self","q"]
def c5u:Obj:=kC "answer" "Answers.answer" (a0h (top 21) 5)
def c2e:Obj:=kD1 "answer" "Answers.answer" 360 115 2 142 365
def c6J:Obj:=kF "answer" "Answers.answer" (a0h (top 21) 5) m5 147
def c1X:Obj:=kT 371 ["self","q"]
def c6P:Obj:=kC "rank" "Answers.rank" a8X
def c2U:Obj:=kD1 "rank" "Answers.rank" 368 118 2 149 373
def c4O:Obj:=kF "rank" "Answers.rank" a8X m5 154
def c4r:Obj:=kT 379 ["self"]
def c5L:Obj:=kC "listed" "Answers.listed" (a0h (top 21) 7)
def c1P:Obj:=kD1 "listed" "Answers.listed" 376 121 1 156 380
def c6k:Obj:=kF "listed" "Answers.listed" (a0h (top 21) 7) m5 161
def c2X:Obj:=kT 386 ["self"]
def c6w:Obj:=kC "sures" "Answers.sures" b2p
def c3n:Obj:=kD1 "sures" "Answers.sures" 383 124 1 163 387
def c2Z:Obj:=kF "sures" "Answers.sures" b2p m5 168
def c4P:Obj:=kT 390 ["came","standing","sure_keys"]
def c2N (P:Params):Obj:=kQ [kE P "__module__" 315 (.str "mostwise.mostly" 254),⟨Ye P "__firstlineno__",(.str "__firstlineno__" 319),(.int (94) 318)⟩,kE P "__init__" 327 (.ref 113),kE P "word_and_rank" 335 (.ref 120),kE P "sure" 343 (.ref 127),kE P "held" 351 (.ref 134),kE P "refused" 359 (.ref 141),kE P "answer" 367 (.ref 148),kE P "rank" 375 (.ref 155),kE P "listed" 382 (.ref 162),kE P "sures" 389 (.ref 169),kE P "__static_attributes__" 393 (.ref 170),kE P "__dict__" 395 (.ref 173),kE P "__weakref__" 397 (.ref 174),kE P "__doc__" 398 .none] 4
def c2R:Obj:=⟨(.type "type"),none,(.cls ⟨"Answers",[(.type "object")],[(.ref 172),(.type "object")],171,"Answers",true,[],[],false,none,false⟩),#[none,none,(some (.str "Answers" 308)),(some (.str "Answers" 316)),(some (.builtin "object.__new__")),(some (.bool true))]⟩
def c4H:Obj:=⟨(.type "getset_descriptor"),none,(.fields #[(.str "__dict__" 394),(.ref 172),(.builtin "function.__dict__"),(.builtin "function.__dict__#set")]),#[]⟩
def c1j:Obj:=⟨(.type "getset_descriptor"),none,(.fields #[(.str "__weakref__" 396),(.ref 172),(.builtin "ExceptionGroup.__weakref__"),.none]),#[]⟩
def c7G:Obj:=⟨(.type "super"),none,(.fields #[(.ref 172),(.ref 172),(.ref 172)]),#[]⟩
def c5G:Obj:=⟨(.type "builtin_function_or_method"),none,(.fields #[(.builtin "object.__init_subclass__"),(.ref 172)]),#[]⟩
def c5l:Obj:=⟨(.type "builtin_function_or_method"),none,(.fields #[(.builtin "type.__prepare__"),(.type "type")]),#[]⟩
def c5p (P:Params):Obj:=kQ [kE P "__module__" 410 (.str "mostwise.rules" 401),kE P "__qualname__" 412 (.str "Rule" 411),⟨Ye P "__firstlineno__",(.str "__firstlineno__" 414),(.int (127) 413)⟩,kE P "__init__" 424 (.ref 190),kE P "word" 431 (.ref 197),kE P "speaks" 438 (.ref 204),kE P "is_sure" 445 (.ref 211),kE P "letters" 452 (.ref 218),kE P "again" 461 (.ref 225),kE P "filled" 469 (.ref 232),kE P "row" 476 (.ref 239),kE P "__static_attributes__" 480 (.ref 240)] 12
def c5w:Obj:=kL [(129,4,189),(134,4,196),(137,4,203),(140,4,210),(143,4,217),(146,4,224),(149,4,231),(152,4,238)]
def c5f:Obj:=⟨(.type "code"),none,(.fields #[(.str "Rule" 405),(.str "Rule" 406),(.str "/claim/cut.py" 407),(.int (127) 0),(.int (0) 0),(.int (0) 0),(.int (0) 0),(.int (0) 0),(.ref 180),(.bool false),(.int (181) 0),(.ref 181),.none,.none,.none,.none,(.int (408) 0),(.int (127) 0),(.str "/claim/cut.py" 409)]),#[]⟩
def c5q:Obj:=⟨(.type "frame"),none,.plain,#[(some (.ref 182)),(some (.ref 3)),(some (.ref 179)),none,(some (.str "mostwise.rules" 401)),none,(some (.ref 0))]⟩
def c2J:Obj:=kT 418 ["self","label","head","body"]
def c6O:Obj:=kC "__init__" "Rule.__init__" a9p
def c1O:Obj:=kD1 "__init__" "Rule.__init__" 415 129 4 184 422
def c3z:Obj:=kF "__init__" "Rule.__init__" a9p m6 189
def c2q:Obj:=kT 428 ["self"]
def c6i:Obj:=kC "word" "Rule.word" (a0h (top 23) 1)
def c2s:Obj:=kD1 "word" "Rule.word" 425 134 1 191 429
def c7F:Obj:=kF "word" "Rule.word" (a0h (top 23) 1) m6 196
def c1U:Obj:=kT 435 ["self"]
def c6T:Obj:=kC "speaks" "Rule.speaks" a9b
def c3y:Obj:=kD1 "speaks" "Rule.speaks" 432 137 1 198 436
def c2u:Obj:=kF "speaks" "Rule.speaks" a9b m6 203
def c3G:Obj:=kT 442 ["self"]
def c7M:Obj:=kC "is_sure" "Rule.is_sure" b0Y
def c2W:Obj:=kD1 "is_sure" "Rule.is_sure" 439 140 1 205 443
def c4Q:Obj:=kF "is_sure" "Rule.is_sure" b0Y m6 210
def c4p:Obj:=kT 449 ["self"]
def c5j:Obj:=kC "letters" "Rule.letters" (a0h (top 23) 4)
def c1A:Obj:=kD1 "letters" "Rule.letters" 446 143 1 212 450
def c5Y:Obj:=kF "letters" "Rule.letters" (a0h (top 23) 4) m6 217
def c2B:Obj:=kT 456 ["self","head","body"]
def c5n:Obj:=kC "again" "Rule.again" (a0h (top 23) 5)
def c1K:Obj:=kD1 "again" "Rule.again" 453 146 3 219 459
def c6E:Obj:=kF "again" "Rule.again" (a0h (top 23) 5) m6 224
def c4L:Obj:=kT 465 ["self","given"]
def c7d:Obj:=kC "filled" "Rule.filled" (a0h (top 23) 6)
def c4h:Obj:=kD1 "filled" "Rule.filled" 462 149 2 226 467
def c5T:Obj:=kF "filled" "Rule.filled" (a0h (top 23) 6) m6 231
def c2M:Obj:=kT 473 ["self"]
def c5v:Obj:=kC "row" "Rule.row" (a0h (top 23) 7)
def c4t:Obj:=kD1 "row" "Rule.row" 470 152 1 233 474
def c5U:Obj:=kF "row" "Rule.row" (a0h (top 23) 7) m6 238
def c3I:Obj:=kT 477 ["body","head","label"]
def c1p (P:Params):Obj:=kQ [kE P "__module__" 410 (.str "mostwise.rules" 401),⟨Ye P "__firstlineno__",(.str "__firstlineno__" 414),(.int (127) 413)⟩,kE P "__init__" 424 (.ref 190),kE P "word" 431 (.ref 197),kE P "speaks" 438 (.ref 204),kE P "is_sure" 445 (.ref 211),kE P "letters" 452 (.ref 218),kE P "again" 461 (.ref 225),kE P "filled" 469 (.ref 232),kE P "row" 476 (.ref 239),kE P "__static_attributes__" 480 (.ref 240),kE P "__dict__" 482 (.ref 243),kE P "__weakref__" 484 (.ref 244),kE P "__doc__" 485 .none] 4
def c0I:Obj:=⟨(.type "type"),none,(.cls ⟨"Rule",[(.type "object")],[(.ref 242),(.type "object")],241,"Rule",true,[],[(.ref 291),(.ref 324),(.ref 350),(.ref 383)],false,none,false⟩),#[none,none,(some (.str "Rule" 403)),(some (.str "Rule" 411)),(some (.builtin "object.__new__")),(some (.bool true))]⟩
def c0r:Obj:=⟨(.type "getset_descriptor"),none,(.fields #[(.str "__dict__" 481),(.ref 242),(.builtin "function.__dict__"),(.builtin "function.__dict__#set")]),#[]⟩
def c0t:Obj:=⟨(.type "getset_descriptor"),none,(.fields #[(.str "__weakref__" 483),(.ref 242),(.builtin "ExceptionGroup.__weakref__"),.none]),#[]⟩
def c0Z:Obj:=⟨(.type "super"),none,(.fields #[(.ref 242),(.ref 242),(.ref 242)]),#[]⟩
def c0L:Obj:=⟨(.type "builtin_function_or_method"),none,(.fields #[(.builtin "object.__init_subclass__"),(.ref 242)]),#[]⟩
def c4d:Obj:=⟨(.type "tuple"),none,(.seq #[(.ref 242)] 0),#[]⟩
def c6z:Obj:=⟨(.type "builtin_function_or_method"),none,(.fields #[(.builtin "type.__prepare__"),(.type "type")]),#[]⟩
def c5R (P:Params):Obj:=kQ [kE P "__module__" 495 (.str "mostwise.rules" 401),kE P "__qualname__" 497 (.str "Fact" 496),⟨Ye P "__firstlineno__",(.str "__firstlineno__" 499),(.int (154) 498)⟩,kE P "__init__" 507 (.ref 260),kE P "word" 514 (.ref 267),kE P "is_sure" 521 (.ref 274),kE P "again" 530 (.ref 281),kE P "row" 537 (.ref 288),kE P "__static_attributes__" 538 (.ref 289)] 9
def c6R:Obj:=kL [(156,4,259),(159,4,266),(162,4,273),(165,4,280),(168,4,287)]
def c7I:Obj:=⟨(.type "code"),none,(.fields #[(.str "Fact" 490),(.str "Fact" 491),(.str "/claim/cut.py" 492),(.int (154) 0),(.int (0) 0),(.int (0) 0),(.int (0) 0),(.int (0) 0),(.ref 250),(.bool false),(.int (181) 0),(.ref 251),.none,.none,.none,.none,(.int (493) 0),(.int (154) 0),(.str "/claim/cut.py" 494)]),#[]⟩
def c7k:Obj:=⟨(.type "frame"),none,.plain,#[(some (.ref 252)),(some (.ref 3)),(some (.ref 249)),none,(some (.str "mostwise.rules" 401)),none,(some (.ref 0))]⟩
def c3s:Obj:=kT 503 ["self","head"]
def c6r:Obj:=kC "__init__" "Fact.__init__" a9e
def c1s:Obj:=kD1 "__init__" "Fact.__init__" 500 156 2 254 505
def c3o:Obj:=kF "__init__" "Fact.__init__" a9e m6 259
def c2l:Obj:=kT 511 ["self"]
def c6f:Obj:=kC "word" "Fact.word" (a0h (top 24) 1)
def c1F:Obj:=kD1 "word" "Fact.word" 508 159 1 261 512
def c5d:Obj:=kF "word" "Fact.word" (a0h (top 24) 1) m6 266
def c2o:Obj:=kT 518 ["self"]
def c5E:Obj:=kC "is_sure" "Fact.is_sure" a9h
def c1x:Obj:=kD1 "is_sure" "Fact.is_sure" 515 162 1 268 519
def c2k:Obj:=kF "is_sure" "Fact.is_sure" a9h m6 273
def c2h:Obj:=kT 525 ["self","head","body"]
def c7N:Obj:=kC "again" "Fact.again" (a0h (top 24) 3)
def c3c:Obj:=kD1 "again" "Fact.again" 522 165 3 275 528
def c5W:Obj:=kF "again" "Fact.again" (a0h (top 24) 3) m6 280
def c3F:Obj:=kT 534 ["self"]
def c7h:Obj:=kC "row" "Fact.row" (a0h (top 24) 4)
def c1T:Obj:=kD1 "row" "Fact.row" 531 168 1 282 535
def c5Z:Obj:=kF "row" "Fact.row" (a0h (top 24) 4) m6 287
def c4W (P:Params):Obj:=kQ [kE P "__module__" 495 (.str "mostwise.rules" 401),⟨Ye P "__firstlineno__",(.str "__firstlineno__" 499),(.int (154) 498)⟩,kE P "__init__" 507 (.ref 260),kE P "word" 514 (.ref 267),kE P "is_sure" 521 (.ref 274),kE P "again" 530 (.ref 281),kE P "row" 537 (.ref 288),kE P "__static_attributes__" 538 (.ref 289),kE P "__doc__" 539 .none] 2
def c2a:Obj:=⟨(.type "type"),none,(.cls ⟨"Fact",[(.ref 242)],[(.ref 291),(.ref 242),(.type "object")],290,"Fact",true,[],[],false,none,false⟩),#[(some (.ref 247)),none,(some (.str "Fact" 488)),(some (.str "Fact" 496)),(some (.builtin "object.__new__")),(some (.bool true))]⟩
def c6D:Obj:=⟨(.type "super"),none,(.fields #[(.ref 291),(.ref 291),(.ref 291)]),#[]⟩
def c6I:Obj:=⟨(.type "builtin_function_or_method"),none,(.fields #[(.builtin "object.__init_subclass__"),(.ref 291)]),#[]⟩
def c2v:Obj:=⟨(.type "tuple"),none,(.seq #[(.ref 242)] 0),#[]⟩
def c6b:Obj:=⟨(.type "builtin_function_or_method"),none,(.fields #[(.builtin "type.__prepare__"),(.type "type")]),#[]⟩
def c5D (P:Params):Obj:=kQ [kE P "__module__" 549 (.str "mostwise.rules" 401),kE P "__qualname__" 551 (.str "Sure" 550),⟨Ye P "__firstlineno__",(.str "__firstlineno__" 553),(.int (170) 552)⟩,kE P "word" 560 (.ref 307),kE P "is_sure" 567 (.ref 314),kE P "again" 576 (.ref 321),kE P "__static_attributes__" 577 (.ref 322)] 7
def c6U:Obj:=kL [(172,4,306),(175,4,313),(178,4,320)]
def c6o:Obj:=⟨(.type "code"),none,(.fields #[(.str "Sure" 544),(.str "Sure" 545),(.str "/claim/cut.py" 546),(.int (170) 0),(.int (0) 0),(.int (0) 0),(.int (0) 0),(.int (0) 0),(.ref 297),(.bool false),(.int (181) 0),(.ref 298),.none,.none,.none,.none,(.int (547) 0),(.int (170) 0),(.str "/claim/cut.py" 548)]),#[]⟩
def c5M:Obj:=⟨(.type "frame"),none,.plain,#[(some (.ref 299)),(some (.ref 3)),(some (.ref 296)),none,(some (.str "mostwise.rules" 401)),none,(some (.ref 0))]⟩
def c4V:Obj:=kT 557 ["self"]
def c6m:Obj:=kC "word" "Sure.word" (a0h (top 25) 0)
def c2D:Obj:=kD1 "word" "Sure.word" 554 172 1 301 558
def c5y:Obj:=kF "word" "Sure.word" (a0h (top 25) 0) m6 306
def c4i:Obj:=kT 564 ["self"]
def c6F:Obj:=kC "is_sure" "Sure.is_sure" b1t
def c1G:Obj:=kD1 "is_sure" "Sure.is_sure" 561 175 1 308 565
def c1q:Obj:=kF "is_sure" "Sure.is_sure" b1t m6 313
def c1u:Obj:=kT 571 ["self","head","body"]
def c5m:Obj:=kC "again" "Sure.again" (a0h (top 25) 2)
def c1l:Obj:=kD1 "again" "Sure.again" 568 178 3 315 574
def c6Q:Obj:=kF "again" "Sure.again" (a0h (top 25) 2) m6 320
def c3Q (P:Params):Obj:=kQ [kE P "__module__" 549 (.str "mostwise.rules" 401),⟨Ye P "__firstlineno__",(.str "__firstlineno__" 553),(.int (170) 552)⟩,kE P "word" 560 (.ref 307),kE P "is_sure" 567 (.ref 314),kE P "again" 576 (.ref 321),kE P "__static_attributes__" 577 (.ref 322),kE P "__doc__" 578 .none] 2
def c3W:Obj:=⟨(.type "type"),none,(.cls ⟨"Sure",[(.ref 242)],[(.ref 324),(.ref 242),(.type "object")],323,"Sure",true,[],[],false,none,false⟩),#[(some (.ref 294)),none,(some (.str "Sure" 542)),(some (.str "Sure" 550)),(some (.builtin "object.__new__")),(some (.bool true))]⟩
def c5P:Obj:=⟨(.type "super"),none,(.fields #[(.ref 324),(.ref 324),(.ref 324)]),#[]⟩
def c6Z:Obj:=⟨(.type "builtin_function_or_method"),none,(.fields #[(.builtin "object.__init_subclass__"),(.ref 324)]),#[]⟩
def c2j:Obj:=⟨(.type "tuple"),none,(.seq #[(.ref 242)] 0),#[]⟩
def c6c:Obj:=⟨(.type "builtin_function_or_method"),none,(.fields #[(.builtin "type.__prepare__"),(.type "type")]),#[]⟩
def c6Y (P:Params):Obj:=kQ [kE P "__module__" 588 (.str "mostwise.rules" 401),kE P "__qualname__" 590 (.str "Most" 589),⟨Ye P "__firstlineno__",(.str "__firstlineno__" 592),(.int (180) 591)⟩,kE P "word" 599 (.ref 340),kE P "again" 608 (.ref 347),kE P "__static_attributes__" 609 (.ref 348)] 6
def c6B:Obj:=kL [(182,4,339),(185,4,346)]
def c6e:Obj:=⟨(.type "code"),none,(.fields #[(.str "Most" 583),(.str "Most" 584),(.str "/claim/cut.py" 585),(.int (180) 0),(.int (0) 0),(.int (0) 0),(.int (0) 0),(.int (0) 0),(.ref 330),(.bool false),(.int (181) 0),(.ref 331),.none,.none,.none,.none,(.int (586) 0),(.int (180) 0),(.str "/claim/cut.py" 587)]),#[]⟩
def c7E:Obj:=⟨(.type "frame"),none,.plain,#[(some (.ref 332)),(some (.ref 3)),(some (.ref 329)),none,(some (.str "mostwise.rules" 401)),none,(some (.ref 0))]⟩
def c1m:Obj:=kT 596 ["self"]
def c7e:Obj:=kC "word" "Most.word" (a0h (top 26) 0)
def c3A:Obj:=kD1 "word" "Most.word" 593 182 1 334 597
def c6X:Obj:=kF "word" "Most.word" (a0h (top 26) 0) m6 339
def c1i:Obj:=kT 603 ["self","head","body"]
def c7r:Obj:=kC "again" "Most.again" (a0h (top 26) 1)
def c4G:Obj:=kD1 "again" "Most.again" 600 185 3 341 606
def c6g:Obj:=kF "again" "Most.again" (a0h (top 26) 1) m6 346
def c3t (P:Params):Obj:=kQ [kE P "__module__" 588 (.str "mostwise.rules" 401),⟨Ye P "__firstlineno__",(.str "__firstlineno__" 592),(.int (180) 591)⟩,kE P "word" 599 (.ref 340),kE P "again" 608 (.ref 347),kE P "__static_attributes__" 609 (.ref 348),kE P "__doc__" 610 .none] 2
def c1L:Obj:=⟨(.type "type"),none,(.cls ⟨"Most",[(.ref 242)],[(.ref 350),(.ref 242),(.type "object")],349,"Most",true,[],[],false,none,false⟩),#[(some (.ref 327)),none,(some (.str "Most" 581)),(some (.str "Most" 589)),(some (.builtin "object.__new__")),(some (.bool true))]⟩
def c5Q:Obj:=⟨(.type "super"),none,(.fields #[(.ref 350),(.ref 350),(.ref 350)]),#[]⟩
def c6u:Obj:=⟨(.type "builtin_function_or_method"),none,(.fields #[(.builtin "object.__init_subclass__"),(.ref 350)]),#[]⟩
def c3E:Obj:=⟨(.type "tuple"),none,(.seq #[(.ref 242)] 0),#[]⟩
def c6t:Obj:=⟨(.type "builtin_function_or_method"),none,(.fields #[(.builtin "type.__prepare__"),(.type "type")]),#[]⟩
def c7t (P:Params):Obj:=kQ [kE P "__module__" 620 (.str "mostwise.rules" 401),kE P "__qualname__" 622 (.str "Block" 621),⟨Ye P "__firstlineno__",(.str "__firstlineno__" 624),(.int (187) 623)⟩,kE P "word" 631 (.ref 366),kE P "speaks" 638 (.ref 373),kE P "again" 647 (.ref 380),kE P "__static_attributes__" 648 (.ref 381)] 7
def c6j:Obj:=kL [(189,4,365),(192,4,372),(195,4,379)]
def c5H:Obj:=⟨(.type "code"),none,(.fields #[(.str "Block" 615),(.str "Block" 616),(.str "/claim/cut.py" 617),(.int (187) 0),(.int (0) 0),(.int (0) 0),(.int (0) 0),(.int (0) 0),(.ref 356),(.bool false),(.int (181) 0),(.ref 357),.none,.none,.none,.none,(.int (618) 0),(.int (187) 0),(.str "/claim/cut.py" 619)]),#[]⟩
def c5a:Obj:=⟨(.type "frame"),none,.plain,#[(some (.ref 358)),(some (.ref 3)),(some (.ref 355)),none,(some (.str "mostwise.rules" 401)),none,(some (.ref 0))]⟩
def c2A:Obj:=kT 628 ["self"]
def c6W:Obj:=kC "word" "Block.word" (a0h (top 27) 0)
def c1r:Obj:=kD1 "word" "Block.word" 625 189 1 360 629
def c7s:Obj:=kF "word" "Block.word" (a0h (top 27) 0) m6 365
def c1t:Obj:=kT 635 ["self"]
def c7H:Obj:=kC "speaks" "Block.speaks" a9K
def c3p:Obj:=kD1 "speaks" "Block.speaks" 632 192 1 367 636
def c3L:Obj:=kF "speaks" "Block.speaks" a9K m6 372
def c1y:Obj:=kT 642 ["self","head","body"]
def c7l:Obj:=kC "again" "Block.again" (a0h (top 27) 2)
def c3r:Obj:=kD1 "again" "Block.again" 639 195 3 374 645
def c5x:Obj:=kF "again" "Block.again" (a0h (top 27) 2) m6 379
def c1R (P:Params):Obj:=kQ [kE P "__module__" 620 (.str "mostwise.rules" 401),⟨Ye P "__firstlineno__",(.str "__firstlineno__" 624),(.int (187) 623)⟩,kE P "word" 631 (.ref 366),kE P "speaks" 638 (.ref 373),kE P "again" 647 (.ref 380),kE P "__static_attributes__" 648 (.ref 381),kE P "__doc__" 649 .none] 2
def c2T:Obj:=⟨(.type "type"),none,(.cls ⟨"Block",[(.ref 242)],[(.ref 383),(.ref 242),(.type "object")],382,"Block",true,[],[],false,none,false⟩),#[(some (.ref 353)),none,(some (.str "Block" 613)),(some (.str "Block" 621)),(some (.builtin "object.__new__")),(some (.bool true))]⟩
def c7L:Obj:=⟨(.type "super"),none,(.fields #[(.ref 383),(.ref 383),(.ref 383)]),#[]⟩
def c7f:Obj:=⟨(.type "builtin_function_or_method"),none,(.fields #[(.builtin "object.__init_subclass__"),(.ref 383)]),#[]⟩
def c6h:Obj:=⟨(.type "builtin_function_or_method"),none,(.fields #[(.builtin "type.__prepare__"),(.type "type")]),#[]⟩
def c6L (P:Params):Obj:=kQ [kE P "__module__" 661 (.str "mostwise.ground" 652),kE P "__qualname__" 663 (.str "Ground" 662),⟨Ye P "__firstlineno__",(.str "__firstlineno__" 665),(.int (198) 664)⟩,kE P "__init__" 676 (.ref 399),kE P "rules" 683 (.ref 406),kE P "ruling" 691 (.ref 413),kE P "speaking" 697 (.ref 418),kE P "against" 705 (.ref 425),kE P "beats" 714 (.ref 432),kE P "statements" 724 (.ref 439),kE P "part" 732 (.ref 446),kE P "__static_attributes__" 736 (.ref 447)] 12
def c7a:Obj:=kL [(200,4,398),(209,4,405),(212,4,412),(215,4,417),(218,4,424),(221,4,431),(224,4,438),(232,4,445)]
def c7A:Obj:=⟨(.type "code"),none,(.fields #[(.str "Ground" 656),(.str "Ground" 657),(.str "/claim/cut.py" 658),(.int (198) 0),(.int (0) 0),(.int (0) 0),(.int (0) 0),(.int (0) 0),(.ref 389),(.bool false),(.int (181) 0),(.ref 390),.none,.none,.none,.none,(.int (659) 0),(.int (198) 0),(.str "/claim/cut.py" 660)]),#[]⟩
def c5J:Obj:=⟨(.type "frame"),none,.plain,#[(some (.ref 391)),(some (.ref 3)),(some (.ref 388)),none,(some (.str "mostwise.ground" 652)),none,(some (.ref 0))]⟩
def c3P:Obj:=kT 669 ["self","rules","pairs","rule","pair"]
def c7x:Obj:=kC "__init__" "Ground.__init__" b0S
def c2f:Obj:=kD1 "__init__" "Ground.__init__" 666 200 3 393 674
def c4D:Obj:=kF "__init__" "Ground.__init__" b0S m7 398
def c3u:Obj:=kT 680 ["self"]
def c6x:Obj:=kC "rules" "Ground.rules" b0z
def c4U:Obj:=kD1 "rules" "Ground.rules" 677 209 1 400 681
def c2d:Obj:=kF "rules" "Ground.rules" b0z m7 405
def c4j:Obj:=kT 687 ["self","statement"]
def c6K:Obj:=kC "ruling" "Ground.ruling" b1r
def c2K:Obj:=kD1 "ruling" "Ground.ruling" 684 212 2 407 689
def c1V:Obj:=kF "ruling" "Ground.ruling" b1r m7 412
def c7D:Obj:=kC "speaking" "Ground.speaking" a8g
def c3H:Obj:=kD2 "speaking" "Ground.speaking" 692 215 2 414 695
def c3V:Obj:=kF "speaking" "Ground.speaking" a8g m7 417
def c3b:Obj:=kT 701 ["self","statement"]
def c7J:Obj:=kC "against" "Ground.against" a9F
def c1M:Obj:=kD1 "against" "Ground.against" 698 218 2 419 703
def c2p:Obj:=kF "against" "Ground.against" a9F m7 424
def c3T:Obj:=kT 709 ["self","one","other"]
def c7o:Obj:=kC "beats" "Ground.beats" a9U
def c4n:Obj:=kD1 "beats" "Ground.beats" 706 221 3 426 712
def c4o:Obj:=kF "beats" "Ground.beats" a9U m7 431
def c4f:Obj:=kT 718 ["self","told","rule","statement"]
def c6n:Obj:=kC "statements" "Ground.statements" b1d
def c2Q:Obj:=kD1 "statements" "Ground.statements" 715 224 1 433 722
def c1Z:Obj:=kF "statements" "Ground.statements" b1d m7 438
def c2E:Obj:=kT 728 ["self","some"]
def c6v:Obj:=kC "part" "Ground.part" (a0h (top 29) 7)
def c4R:Obj:=kD1 "part" "Ground.part" 725 232 2 440 730
def c5S:Obj:=kF "part" "Ground.part" (a0h (top 29) 7) m7 445
def c2Y:Obj:=kT 733 ["by_head","in_order","pairs"]
def c1I (P:Params):Obj:=kQ [kE P "__module__" 661 (.str "mostwise.ground" 652),⟨Ye P "__firstlineno__",(.str "__firstlineno__" 665),(.int (198) 664)⟩,kE P "__init__" 676 (.ref 399),kE P "rules" 683 (.ref 406),kE P "ruling" 691 (.ref 413),kE P "speaking" 697 (.ref 418),kE P "against" 705 (.ref 425),kE P "beats" 714 (.ref 432),kE P "statements" 724 (.ref 439),kE P "part" 732 (.ref 446),kE P "__static_attributes__" 736 (.ref 447),kE P "__dict__" 738 (.ref 450),kE P "__weakref__" 740 (.ref 451),kE P "__doc__" 741 .none] 4
def c2H:Obj:=⟨(.type "type"),none,(.cls ⟨"Ground",[(.type "object")],[(.ref 449),(.type "object")],448,"Ground",true,[],[],false,none,false⟩),#[none,none,(some (.str "Ground" 654)),(some (.str "Ground" 662)),(some (.builtin "object.__new__")),(some (.bool true))]⟩
def c4g:Obj:=⟨(.type "getset_descriptor"),none,(.fields #[(.str "__dict__" 737),(.ref 449),(.builtin "function.__dict__"),(.builtin "function.__dict__#set")]),#[]⟩
def c3M:Obj:=⟨(.type "getset_descriptor"),none,(.fields #[(.str "__weakref__" 739),(.ref 449),(.builtin "ExceptionGroup.__weakref__"),.none]),#[]⟩
def c5K:Obj:=⟨(.type "super"),none,(.fields #[(.ref 449),(.ref 449),(.ref 449)]),#[]⟩
def c5C:Obj:=⟨(.type "builtin_function_or_method"),none,(.fields #[(.builtin "object.__init_subclass__"),(.ref 449)]),#[]⟩
def c4K:Obj:=kT 749 ["_law_script","_law_k"]
def c5s:Obj:=kC "_law_cell_at" "_law_cell_at" b1s
def c4J:Obj:=kD1 "_law_cell_at" "_law_cell_at" 746 235 2 454 751
def c3m:Obj:=kF "_law_cell_at" "_law_cell_at" b1s m8 459
def c4m:Obj:=kT 757 ["_law_cell","_law_k","_law_number"]
def c6S:Obj:=kC "_law_mix" "_law_mix" b0j
def c3Y:Obj:=kD1 "_law_mix" "_law_mix" 754 239 2 461 760
def c4T:Obj:=kF "_law_mix" "_law_mix" b0j m8 466
def c2O:Obj:=kT 766 ["_law_cell","_law_k","_law_signs","_law_size","_law_at","_law_word_here","_law_j","_law_step"]
def c5b:Obj:=kC "_law_word" "_law_word" b0r
def c3O:Obj:=kD1 "_law_word" "_law_word" 763 243 3 468 774
def c1J:Obj:=kF "_law_word" "_law_word" b0r m8 473
def c6V:Obj:=kC "_law_pool" "_law_pool" a8P
def c2n:Obj:=kD2 "_law_pool" "_law_pool" 777 253 1 475 780
def c1B:Obj:=kF "_law_pool" "_law_pool" a8P m8 478
def c5O:Obj:=kC "_law_row" "_law_row" a6u
def c3g:Obj:=kD2 "_law_row" "_law_row" 783 261 5 480 786
def c3J:Obj:=kF "_law_row" "_law_row" a6u m8 483
def c4E:Obj:=kT 792 ["_law_row_here","_law_sort","_law_label","_law_head","_law_body"]
def c5t:Obj:=kC "_law_made" "_law_made" b1j
def c3i:Obj:=kD1 "_law_made" "_law_made" 789 273 1 485 797
def c3U:Obj:=kF "_law_made" "_law_made" b1j m8 490
def c6N:Obj:=kC "_law_labels" "_law_labels" a8y
def c4S:Obj:=kD2 "_law_labels" "_law_labels" 800 282 1 492 803
def c3C:Obj:=kF "_law_labels" "_law_labels" a8y m8 495
def c2t:Obj:=kT 809 ["_law_cell","_law_pool_here","_law_labels_here","_law_size","_law_sort","_law_label","_law_head","_law_many","_law_rest","_law_body","_law_j"]
def c5k:Obj:=kC "_law_row_by_digits" "_law_row_by_digits" b0n
def c1Q:Obj:=kD1 "_law_row_by_digits" "_law_row_by_digits" 806 284 3 497 820
def c2m:Obj:=kF "_law_row_by_digits" "_law_row_by_digits" b0n m8 502
def c5i:Obj:=kC "_law_rows" "_law_rows" a6W
def c4B:Obj:=kD2 "_law_rows" "_law_rows" 823 298 2 504 826
def c3j:Obj:=kF "_law_rows" "_law_rows" a6W m8 507
def c4N:Obj:=kT 832 ["_law_q"]
def c5r:Obj:=kC "_law_other" "_law_other" a9W
def c4y:Obj:=kD1 "_law_other" "_law_other" 829 306 1 509 833
def c4w:Obj:=kF "_law_other" "_law_other" a9W m8 514
def c3v:Obj:=kT 839 ["_law_rows_here","_law_by_here","_law_row_here"]
def c5g:Obj:=kC "_law_by" "_law_by" a9r
def c2x:Obj:=kD1 "_law_by" "_law_by" 836 310 1 516 842
def c1n:Obj:=kF "_law_by" "_law_by" a9r m8 521
def c7g:Obj:=kC "_law_stands" "_law_stands" a8J
def c4v:Obj:=kD2 "_law_stands" "_law_stands" 845 315 2 523 848
def c4I:Obj:=kF "_law_stands" "_law_stands" a8J m8 526
def c6a:Obj:=kC "_law_falls" "_law_falls" a8L
def c3N:Obj:=kD2 "_law_falls" "_law_falls" 851 317 2 528 854
def c2F:Obj:=kF "_law_falls" "_law_falls" a8L m8 531
def c6l:Obj:=kC "_law_beaten" "_law_beaten" a8d
def c4M:Obj:=kD2 "_law_beaten" "_law_beaten" 857 319 3 533 860
def c2y:Obj:=kF "_law_beaten" "_law_beaten" a8d m8 536
def c7j:Obj:=kC "_law_held" "_law_held" a5M
def c1z:Obj:=kD2 "_law_held" "_law_held" 863 321 6 538 866
def c4X:Obj:=kF "_law_held" "_law_held" a5M m8 541
def c7b:Obj:=kC "_law_refused" "_law_refused" a6r
def c2z:Obj:=kD2 "_law_refused" "_law_refused" 869 329 6 543 872
def c1w:Obj:=kF "_law_refused" "_law_refused" a6r m8 546
def c4b:Obj:=kT 878 ["_law_pairs","_law_one","_law_other_here","_law_seen","_law_more","_law_pair"]
def c7p:Obj:=kC "_law_leads" "_law_leads" b0a
def c3X:Obj:=kD1 "_law_leads" "_law_leads" 875 337 3 548 884
def c1E:Obj:=kF "_law_leads" "_law_leads" b0a m8 553
def c1S:Obj:=kT 890 ["_law_cell","_law_many","_law_labels_here","_law_pairs","_law_k","_law_number","_law_pair"]
def c7n:Obj:=kC "_law_free_pairs" "_law_free_pairs" b0A
def c3Z:Obj:=kD1 "_law_free_pairs" "_law_free_pairs" 887 347 2 555 897
def c2w:Obj:=kF "_law_free_pairs" "_law_free_pairs" b0A m8 560
def c2g:Obj:=kT 903 ["_law_answers","_law_pool_here","_law_limit","_law_up","_law_down","_law_q"]
def c6y:Obj:=kC "_law_ahead" "_law_ahead" b1v
def c4u:Obj:=kD1 "_law_ahead" "_law_ahead" 900 356 3 562 909
def c3B:Obj:=kF "_law_ahead" "_law_ahead" b1v m8 567
def c6A:Obj:=kC "_law_came" "_law_came" a8R
def c3a:Obj:=kD2 "_law_came" "_law_came" 912 366 5 569 915
def c1W:Obj:=kF "_law_came" "_law_came" a8R m8 572
def c6p:Obj:=kC "law" "law" a3d
def c1o:Obj:=kD2 "law" "law" 918 382 1 574 921
def c4l:Obj:=kF "law" "law" a3d m8 577
def p3 (P:Params):Obj:=kQ [kE P "__name__" 165 (.str "__main__" 164),kE P "__doc__" 166 .none,kE P "__package__" 167 .none,kE P "__loader__" 168 (.builtin "__main__.__loader__#opaque"),kE P "__spec__" 169 .none,kE P "__annotations__" 170 (.ref 6),kE P "__builtins__" 171 (.ref 4),kE P "__file__" 173 (.str "/claim/cut.py" 172),kE P "__cached__" 174 .none] 9
def H0 (P:Params):Heap:=⟨⟨o0 P::o1 P::o2::p3 P::o4::o5::o6::kU::kN::o9::o10::[]⟩,{}⟩
noncomputable abbrev S0 (P:Params):List Obj:=o4::o5::o6::kU::kN::o9::o10::kU::[]
noncomputable abbrev S1 (P:Params):List Obj:=o13::o14::kU::kN::o17::kU::o19::o20::o21::kU::kN::o24::kU::o26::o27::o28::kU::kN::o31::o32::o33::kU::kN::o36::o37::o38::kU::kN::o41::kU::o43::o44::o45::kU::kN::o48::kU::o50::o51::o52::o53::kU::kN::o56::o57::o58::kU::kN::o61::o62::o63::o64::o65::kU::kN::o68::o69::o70::kU::kN::o73::o74::o75::kU::kN::o78::o79::o80::kU::kN::o83::kU::o85::o86::o87::kU::kN::o90::kU::o92::o93::o94::kU::kN::o97::o98::o99::kU::c7u::c6H P::kU::c5I::c6M::c6s::kU::kN::c2i::kU::c7y::c2C::c1v::kU::kN::c4x::kU::c5X::c3x::c3h::kU::kN::c1D::kU::c5z::c3l::c4F::kU::kN::c4A::kU::c7z::c3S::c3d::kU::kN::c2c::kU::c6q::c4s::c3D::kU::kN::c4a::kU::c5u::c2e::c6J::kU::kN::c1X::kU::c6P::c2U::c4O::kU::kN::c4r::kU::c5L::c1P::c6k::kU::kN::c2X::kU::c6w::c3n::c2Z::c4P::c2N P::c2R::c4H::c1j::c7G::c5G::kU::c5l::c5p P::kU::c5w::c5f::c5q::kU::kN::c2J::kU::c6O::c1O::c3z::kU::kN::c2q::kU::c6i::c2s::c7F::kU::kN::c1U::kU::c6T::c3y::c2u::kU::kN::c3G::kU::c7M::c2W::c4Q::kU::kN::c4p::kU::c5j::c1A::c5Y::kU::kN::c2B::kU::c5n::c1K::c6E::kU::kN::c4L::kU::c7d::c4h::c5T::kU::kN::c2M::kU::c5v::c4t::c5U::c3I::c1p P::[]
noncomputable abbrev S2 (P:Params):List Obj:=c4d::c6z::c5R P::kU::c6R::c7I::c7k::kU::kN::c3s::kU::c6r::c1s::c3o::kU::kN::c2l::kU::c6f::c1F::c5d::kU::kN::c2o::kU::c5E::c1x::c2k::kU::kN::c2h::kU::c7N::c3c::c5W::kU::kN::c3F::kU::c7h::c1T::c5Z::kU::c4W P::c2a::c6D::c6I::c2v::c6b::c5D P::kU::c6U::c6o::c5M::kU::kN::c4V::kU::c6m::c2D::c5y::kU::kN::c4i::kU::c6F::c1G::c1q::kU::kN::c1u::kU::c5m::c1l::c6Q::kU::c3Q P::c3W::c5P::c6Z::c2j::c6c::c6Y P::kU::c6B::c6e::c7E::kU::kN::c1m::kU::c7e::c3A::c6X::kU::kN::c1i::kU::c7r::c4G::c6g::kU::c3t P::c1L::c5Q::c6u::c3E::c6t::c7t P::kU::c6j::c5H::c5a::kU::kN::c2A::kU::c6W::c1r::c7s::kU::kN::c1t::kU::c7H::c3p::c3L::kU::kN::c1y::kU::c7l::c3r::c5x::kU::c1R P::c2T::c7L::c7f::[]
noncomputable abbrev S3 (P:Params):List Obj:=kU::c6h::c6L P::kU::c7a::c7A::c5J::kU::kN::c3P::kU::c7x::c2f::c4D::kU::kN::c3u::kU::c6x::c4U::c2d::kU::kN::c4j::kU::c6K::c2K::c1V::kU::kN::c7D::c3H::c3V::kU::kN::c3b::kU::c7J::c1M::c2p::kU::kN::c3T::kU::c7o::c4n::c4o::kU::kN::c4f::kU::c6n::c2Q::c1Z::kU::kN::c2E::kU::c6v::c4R::c5S::c2Y::c1I P::c2H::c4g::c3M::c5K::c5C::kU::kN::c4K::kU::c5s::c4J::c3m::kU::kN::c4m::kU::c6S::c3Y::c4T::kU::kN::c2O::kU::c5b::c3O::c1J::kU::kN::c6V::c2n::c1B::kU::kN::c5O::c3g::c3J::kU::kN::c4E::kU::c5t::c3i::c3U::kU::kN::c6N::c4S::c3C::kU::kN::c2t::kU::c5k::c1Q::c2m::kU::kN::c5i::c4B::c3j::kU::kN::c4N::kU::c5r::c4y::c4w::kU::kN::c3v::kU::c5g::c2x::c1n::kU::kN::c7g::c4v::c4I::kU::kN::c6a::c3N::c2F::kU::kN::c6l::c4M::c2y::kU::kN::c7j::c1z::c4X::kU::kN::c7b::c2z::c1w::kU::kN::c4b::kU::c7p::c3X::c1E::kU::kN::c1S::kU::c7n::c3Z::c2w::kU::kN::c2g::kU::c6y::c4u::c3B::kU::kN::c6A::c3a::c1W::kU::kN::c6p::c1o::c4l::[]
def H1 (P:Params):Heap:=⟨⟨[o0 P,o1 P,o2,o3 P]++S0 P++[o12]++S1 P++[c0I,c0r,c0t,c0Z,c0L]++S2 P++S3 P⟩,{}⟩
def b3a:Params→Qd:=fun P=>
(nat_lit 2,o2)::(nat_lit 3,o3 P)::(nat_lit 4,o4)::(nat_lit 15,kU)::(nat_lit 17,o17)::(nat_lit 18,kU)::(nat_lit 20,o20)::(nat_lit 22,kU)::(nat_lit 24,o24)::(nat_lit 25,kU)::(nat_lit 27,o27)::(nat_lit 28,o28)::(nat_lit 29,kU)::(nat_lit 32,o32)::(nat_lit 33,o33)::(nat_lit 34,kU)::(nat_lit 37,o37)::(nat_lit 38,o38)::(nat_lit 39,kU)::(nat_lit 41,o41)::(nat_lit 42,kU)::(nat_lit 44,o44)::(nat_lit 45,o45)::(nat_lit 46,kU)::(nat_lit 48,o48)::(nat_lit 49,kU)::(nat_lit 51,o51)::(nat_lit 52,o52)::(nat_lit 53,o53)::(nat_lit 54,kU)::(nat_lit 57,o57)::(nat_lit 58,o58)::(nat_lit 59,kU)::(nat_lit 61,o61)::(nat_lit 62,o62)::(nat_lit 64,o64)::(nat_lit 65,o65)::(nat_lit 66,kU)::(nat_lit 69,o69)::(nat_lit 70,o70)::(nat_lit 71,kU)::(nat_lit 74,o74)::(nat_lit 75,o75)::(nat_lit 76,kU)::(nat_lit 79,o79)::(nat_lit 80,o80)::(nat_lit 81,kU)::(nat_lit 83,o83)::(nat_lit 84,kU)::(nat_lit 86,o86)::(nat_lit 87,o87)::(nat_lit 88,kU)::(nat_lit 90,o90)::(nat_lit 91,kU)::(nat_lit 93,o93)::(nat_lit 94,o94)::(nat_lit 95,kU)::(nat_lit 98,o98)::(nat_lit 99,o99)::(nat_lit 107,kU)::(nat_lit 109,c2i)::(nat_lit 110,kU)::(nat_lit 112,c2C)::(nat_lit 113,c1v)::(nat_lit 114,kU)::(nat_lit 116,c4x)::(nat_lit 117,kU)::(nat_lit 119,c3x)::(nat_lit 120,c3h)::(nat_lit 121,kU)::(nat_lit 123,c1D)::(nat_lit 124,kU)::(nat_lit 126,c3l)::(nat_lit 127,c4F)::(nat_lit 128,kU)::(nat_lit 130,c4A)::(nat_lit 131,kU)::(nat_lit 133,c3S)::(nat_lit 134,c3d)::(nat_lit 135,kU)::(nat_lit 137,c2c)::(nat_lit 138,kU)::(nat_lit 140,c4s)::(nat_lit 141,c3D)::(nat_lit 142,kU)::(nat_lit 144,c4a)::(nat_lit 145,kU)::(nat_lit 147,c2e)::(nat_lit 149,kU)::(nat_lit 151,c1X)::(nat_lit 152,kU)::(nat_lit 154,c2U)::(nat_lit 155,c4O)::(nat_lit 156,kU)::(nat_lit 158,c4r)::(nat_lit 159,kU)::(nat_lit 161,c1P)::(nat_lit 163,kU)::(nat_lit 165,c2X)::(nat_lit 166,kU)::(nat_lit 168,c3n)::(nat_lit 169,c2Z)::(nat_lit 170,c4P)::(nat_lit 171,c2N P)::(nat_lit 172,c2R)::(nat_lit 173,c4H)::(nat_lit 174,c1j)::(nat_lit 184,kU)::(nat_lit 186,c2J)::(nat_lit 187,kU)::(nat_lit 189,c1O)::(nat_lit 190,c3z)::(nat_lit 191,kU)::(nat_lit 193,c2q)::(nat_lit 194,kU)::(nat_lit 196,c2s)::(nat_lit 198,kU)::(nat_lit 200,c1U)::(nat_lit 201,kU)::(nat_lit 203,c3y)::(nat_lit 204,c2u)::(nat_lit 205,kU)::(nat_lit 207,c3G)::(nat_lit 208,kU)::(nat_lit 210,c2W)::(nat_lit 211,c4Q)::(nat_lit 212,kU)::(nat_lit 214,c4p)::(nat_lit 215,kU)::(nat_lit 217,c1A)::(nat_lit 219,kU)::(nat_lit 221,c2B)::(nat_lit 222,kU)::(nat_lit 224,c1K)::(nat_lit 226,kU)::(nat_lit 228,c4L)::(nat_lit 229,kU)::(nat_lit 231,c4h)::(nat_lit 233,kU)::(nat_lit 235,c2M)::(nat_lit 236,kU)::(nat_lit 238,c4t)::(nat_lit 240,c3I)::(nat_lit 241,c1p P)::(nat_lit 242,c0I)::(nat_lit 243,c0r)::(nat_lit 244,c0t)::(nat_lit 247,c4d)::(nat_lit 254,kU)::(nat_lit 256,c3s)::(nat_lit 257,kU)::(nat_lit 259,c1s)::(nat_lit 260,c3o)::(nat_lit 261,kU)::(nat_lit 263,c2l)::(nat_lit 264,kU)::(nat_lit 266,c1F)::(nat_lit 268,kU)::(nat_lit 270,c2o)::(nat_lit 271,kU)::(nat_lit 273,c1x)::(nat_lit 274,c2k)::(nat_lit 275,kU)::(nat_lit 277,c2h)::(nat_lit 278,kU)::(nat_lit 280,c3c)::(nat_lit 282,kU)::(nat_lit 284,c3F)::(nat_lit 285,kU)::(nat_lit 287,c1T)::(nat_lit 289,kU)::(nat_lit 290,c4W P)::(nat_lit 291,c2a)::(nat_lit 294,c2v)::(nat_lit 301,kU)::(nat_lit 303,c4V)::(nat_lit 304,kU)::(nat_lit 306,c2D)::(nat_lit 308,kU)::(nat_lit 310,c4i)::(nat_lit 311,kU)::(nat_lit 313,c1G)::(nat_lit 314,c1q)::(nat_lit 315,kU)::(nat_lit 317,c1u)::(nat_lit 318,kU)::(nat_lit 320,c1l)::(nat_lit 322,kU)::(nat_lit 323,c3Q P)::(nat_lit 324,c3W)::(nat_lit 327,c2j)::(nat_lit 334,kU)::(nat_lit 336,c1m)::(nat_lit 337,kU)::(nat_lit 339,c3A)::(nat_lit 341,kU)::(nat_lit 343,c1i)::(nat_lit 344,kU)::(nat_lit 346,c4G)::(nat_lit 348,kU)::(nat_lit 349,c3t P)::(nat_lit 350,c1L)::(nat_lit 353,c3E)::(nat_lit 360,kU)::(nat_lit 362,c2A)::(nat_lit 363,kU)::(nat_lit 365,c1r)::(nat_lit 367,kU)::(nat_lit 369,c1t)::(nat_lit 370,kU)::(nat_lit 372,c3p)::(nat_lit 373,c3L)::(nat_lit 374,kU)::(nat_lit 376,c1y)::(nat_lit 377,kU)::(nat_lit 379,c3r)::(nat_lit 381,kU)::(nat_lit 382,c1R P)::(nat_lit 383,c2T)::(nat_lit 393,kU)::(nat_lit 395,c3P)::(nat_lit 396,kU)::(nat_lit 398,c2f)::(nat_lit 399,c4D)::(nat_lit 400,kU)::(nat_lit 402,c3u)::(nat_lit 403,kU)::(nat_lit 405,c4U)::(nat_lit 406,c2d)::(nat_lit 407,kU)::(nat_lit 409,c4j)::(nat_lit 410,kU)::(nat_lit 412,c2K)::(nat_lit 413,c1V)::(nat_lit 414,kU)::(nat_lit 417,c3H)::(nat_lit 418,c3V)::(nat_lit 419,kU)::(nat_lit 421,c3b)::(nat_lit 422,kU)::(nat_lit 424,c1M)::(nat_lit 425,c2p)::(nat_lit 426,kU)::(nat_lit 428,c3T)::(nat_lit 429,kU)::(nat_lit 431,c4n)::(nat_lit 432,c4o)::(nat_lit 433,kU)::(nat_lit 435,c4f)::(nat_lit 436,kU)::(nat_lit 438,c2Q)::(nat_lit 439,c1Z)::(nat_lit 440,kU)::(nat_lit 442,c2E)::(nat_lit 443,kU)::(nat_lit 445,c4R)::(nat_lit 447,c2Y)::(nat_lit 448,c1I P)::(nat_lit 449,c2H)::(nat_lit 450,c4g)::(nat_lit 451,c3M)::(nat_lit 454,kU)::(nat_lit 456,c4K)::(nat_lit 457,kU)::(nat_lit 459,c4J)::(nat_lit 460,c3m)::(nat_lit 461,kU)::(nat_lit 463,c4m)::(nat_lit 464,kU)::(nat_lit 466,c3Y)::(nat_lit 467,c4T)::(nat_lit 468,kU)::(nat_lit 470,c2O)::(nat_lit 471,kU)::(nat_lit 473,c3O)::(nat_lit 474,c1J)::(nat_lit 475,kU)::(nat_lit 478,c2n)::(nat_lit 479,c1B)::(nat_lit 480,kU)::(nat_lit 483,c3g)::(nat_lit 484,c3J)::(nat_lit 485,kU)::(nat_lit 487,c4E)::(nat_lit 488,kU)::(nat_lit 490,c3i)::(nat_lit 491,c3U)::(nat_lit 492,kU)::(nat_lit 495,c4S)::(nat_lit 496,c3C)::(nat_lit 497,kU)::(nat_lit 499,c2t)::(nat_lit 500,kU)::(nat_lit 502,c1Q)::(nat_lit 503,c2m)::(nat_lit 504,kU)::(nat_lit 507,c4B)::(nat_lit 508,c3j)::(nat_lit 509,kU)::(nat_lit 511,c4N)::(nat_lit 512,kU)::(nat_lit 514,c4y)::(nat_lit 515,c4w)::(nat_lit 516,kU)::(nat_lit 518,c3v)::(nat_lit 519,kU)::(nat_lit 521,c2x)::(nat_lit 522,c1n)::(nat_lit 523,kU)::(nat_lit 526,c4v)::(nat_lit 527,c4I)::(nat_lit 528,kU)::(nat_lit 531,c3N)::(nat_lit 532,c2F)::(nat_lit 533,kU)::(nat_lit 536,c4M)::(nat_lit 537,c2y)::(nat_lit 538,kU)::(nat_lit 541,c1z)::(nat_lit 542,c4X)::(nat_lit 543,kU)::(nat_lit 546,c2z)::(nat_lit 547,c1w)::(nat_lit 548,kU)::(nat_lit 550,c4b)::(nat_lit 551,kU)::(nat_lit 553,c3X)::(nat_lit 554,c1E)::(nat_lit 555,kU)::(nat_lit 557,c1S)::(nat_lit 558,kU)::(nat_lit 560,c3Z)::(nat_lit 561,c2w)::(nat_lit 562,kU)::(nat_lit 564,c2g)::(nat_lit 565,kU)::(nat_lit 567,c4u)::(nat_lit 568,c3B)::(nat_lit 569,kU)::(nat_lit 572,c3a)::(nat_lit 573,c1W)::(nat_lit 574,kU)::(nat_lit 577,c1o)::(nat_lit 578,c4l)::[]
abbrev c0C:List Addr:=[2,3,4,15,17,18,20,22,24,25,27,28,29,32,33,34,37,38,39,41,42,44,45,46,48,49,51,52,53,54,57,58,59,61,62,64,65,66,69,70,71,74,75,76,79,80,81,83,84,86,87,88,90,91,93,94,95,98,99,107,109,110,112,113,114,116,117,119,120,121,123,124,126,127,128,130,131,133,134,135,137,138,140,141,142,144,145,147,149,151,152,154,155,156,158,159,161,163,165,166,168,169,170,171,172,173,174,184,186,187,189,190,191,193,194,196,198,200,201,203,204,205,207,208,210,211,212,214,215,217,219,221,222,224,226,228,229,231,233,235,236,238,240,241,242,243,244,247,254,256,257,259,260,261,263,264,266,268,270,271,273,274,275,277,278,280,282,284,285,287,289,290,291,294,301,303,304,306,308,310,311,313,314,315,317,318,320,322,323,324,327,334,336,337,339,341,343,344,346,348,349,350,353,360,362,363,365,367,369,370,372,373,374,376,377,379,381,382,383,393,395,396,398,399,400,402,403,405,406,407,409,410,412,413,414,417,418,419,421,422,424,425,426,428,429,431,432,433,435,436,438,439,440,442,443,445,447,448,449,450,451,454,456,457,459,460,461,463,464,466,467,468,470,471,473,474,475,478,479,480,483,484,485,487,488,490,491,492,495,496,497,499,500,502,503,504,507,508,509,511,512,514,515,516,518,519,521,522,523,526,527,528,531,532,533,536,537,538,541,542,543,546,547,548,550,551,553,554,555,557,558,560,561,562,564,565,567,568,569,572,573,574,577,578]
def a4G:Params→Qd:=fun P=>(nat_lit 60,kN)::b3a P
abbrev a4s:List Addr:=60::c0C
theorem a6g:∀P,a4s=(a4G P).map (·.1):=fun _=>by kernel_rfl
def b4W:Program:=PySem.W.view PySem.Challenge.pw_mostwise_k45_whole_never_both [0,2,3,4,6,8,11,13,14,15,16,17,18,19,20,21,23,24,25,26,27,29,31,32,33,34,35,36,37,38,39,40,41,42,43,44,45,46,47,48,49,50,51]
theorem b8J:∀w:World,(fencedOpening treeTable PySem.Challenge.pw_mostwise_k45_whole_never_both w 7612).map (fun s=>(s.heap,s.gens,s.drawn,s.toks))=some (H0 w.params,#[],{},181):=fun w=>by kernel_rfl
theorem a4B {tb:String→Option Builtin} {p:Program} {w:World} {n₀:Nat} {ann:Option Value} {env:Env} {q:Pos} {n N a l:Nat} {s s' r:Shared} {b:List Stmt} {c:Code} {pos p':Pos} (h:segRun tb p w n₀ ann 1 n s (piecesOf ((b.drop a).take l) env c pos [topFrame q])=some (.next,s',c,p'))
  (k:topRun tb p w n₀ ann N s' (restOf (b.drop (a+l)) env c p' [topFrame q])=some r):topRun tb p w n₀ ann (n+N) s (restOf (b.drop a) env c pos [topFrame q])=some r:=by
 have e:=piece_app h k
 rwa [←List.drop_drop,List.take_append_drop] at e
def b7I (P:Params):Heap:=⟨⟨o0 P::o1 P::o2::p3 P::o4::o5::o6::kU::kN::o9::o10::kU::kN::o13::o14::[]⟩,{}⟩
def b0o (P:Params):Heap:=⟨⟨o0 P::o1 P::o2::p3 P::o4::o5::o6::kU::kN::o9::o10::kU::kN::o13::o14::[]⟩,{}⟩
def b9Q:Env:={scope:=PySem.Challenge.pw_mostwise_k45_whole_never_both.main.scope,locals:=mainNs,globals:=mainNs,cells:=[],code:=(.ref 13),frame:=some 14}
def a5b:Code:=.body (behindTheImports PySem.Challenge.pw_mostwise_k45_whole_never_both) b9Q
abbrev tFr:List Frame:=[topFrame ⟨0,0,0,0⟩]
abbrev c0U (i:Nat) (q:Pos):Thread:=restOf ((behindTheImports PySem.Challenge.pw_mostwise_k45_whole_never_both).drop i) b9Q a5b q tFr
theorem c1e:∀(w:World) (os:OsState),topGo treeTable PySem.Challenge.pw_mostwise_k45_whole_never_both w 11 (some (.ref 6)) 12 ⟨H0 w.params,#[],{},181,os⟩ (topStub PySem.Challenge.pw_mostwise_k45_whole_never_both)=some (⟨b7I w.params,#[],{},187,os⟩,⟨denote treeTable a5b,a5b,⟨0,0,0,0⟩,tFr⟩):=fun w os=>by kernel_rfl
theorem b4G:∀(w:World) (os:OsState),segRun treeTable PySem.Challenge.pw_mostwise_k45_whole_never_both w 11 (some (.ref 6)) 1 1 ⟨b7I w.params,#[],{},187,os⟩ (blockOf (behindTheImports PySem.Challenge.pw_mostwise_k45_whole_never_both) b9Q a5b ⟨0,0,0,0⟩ tFr)=some (.next,⟨b0o w.params,#[],{},187,os⟩,a5b,⟨0,0,0,0⟩):=fun w os=>by kernel_rfl
def g13 (P:Params):Obj:=kQ [kE P "__name__" 165 (.str "mostwise.rules" 401),kE P "__doc__" 166 .none,kE P "__package__" 167 .none,kE P "__loader__" 168 (.builtin "__main__.__loader__#opaque"),kE P "__spec__" 169 .none,kE P "__annotations__" 170 (.ref 6),kE P "__builtins__" 171 (.ref 4),kE P "__file__" 173 (.str "/claim/cut.py" 172),kE P "__cached__" 174 .none,kE P "_wall" 193 (.ref 21),kE P "keyed" 204 (.ref 28),kE P "all_among" 210 (.ref 33),kE P "any_among" 216 (.ref 38),kE P "opposite" 225 (.ref 45),kE P "heads_by_premise" 237 (.ref 52),kE P "sure_rounds" 245 (.ref 58),kE P "sure_steps" 253 (.ref 65),kE P "HELD" 257 (.str "held" 256),kE P "REFUSED" 259 (.str "refused" 258),kE P "is_beaten" 265 (.ref 70),kE P "holds_by" 271 (.ref 75),kE P "refused_by" 277 (.ref 80),kE P "words_now" 290 (.ref 87),kE P "touched" 301 (.ref 94),kE P "most_rounds" 307 (.ref 99),kE P "Answers" 400 (.ref 172),kE P "Rule" 487 (.ref 242)] 27
def c6G:Obj:=kL [(1,0,20),(5,0,27),(10,0,32),(12,0,37),(15,0,44),(18,0,51),(25,0,57),(39,0,64),(45,0,69),(47,0,74),(54,0,79),(61,0,86),(69,0,93),(76,0,98),(94,0,105),(127,0,182)]
def c0S:Obj:=⟨(.type "type"),none,(.cls ⟨"Rule",[(.type "object")],[(.ref 242),(.type "object")],241,"Rule",true,[],[],false,none,false⟩),#[none,none,(some (.str "Rule" 403)),(some (.str "Rule" 411)),(some (.builtin "object.__new__")),(some (.bool true))]⟩
def c4Z (P:Params):Heap:=⟨⟨[o0 P,o1 P,o2,g13 P]++S0 P++[c6G]++S1 P++[c0S,c0r,c0t,c0Z,c0L]⟩,{}⟩
theorem c5o:∀(w:World) (os:OsState),segRun treeTable PySem.Challenge.pw_mostwise_k45_whole_never_both w 11 (some (.ref 6)) 1 1399 ⟨b0o w.params,#[],{},187,os⟩ (piecesOf (((behindTheImports PySem.Challenge.pw_mostwise_k45_whole_never_both).drop 0).take 24) b9Q a5b ⟨0,0,0,0⟩ tFr)=some (.next,⟨c4Z w.params,#[],{},488,os⟩,a5b,⟨127,0,153,16⟩):=fun w os=>by kernel_rfl
def g23 (P:Params):Obj:=kQ [kE P "__name__" 165 (.str "mostwise.rules" 401),kE P "__doc__" 166 .none,kE P "__package__" 167 .none,kE P "__loader__" 168 (.builtin "__main__.__loader__#opaque"),kE P "__spec__" 169 .none,kE P "__annotations__" 170 (.ref 6),kE P "__builtins__" 171 (.ref 4),kE P "__file__" 173 (.str "/claim/cut.py" 172),kE P "__cached__" 174 .none,kE P "_wall" 193 (.ref 21),kE P "keyed" 204 (.ref 28),kE P "all_among" 210 (.ref 33),kE P "any_among" 216 (.ref 38),kE P "opposite" 225 (.ref 45),kE P "heads_by_premise" 237 (.ref 52),kE P "sure_rounds" 245 (.ref 58),kE P "sure_steps" 253 (.ref 65),kE P "HELD" 257 (.str "held" 256),kE P "REFUSED" 259 (.str "refused" 258),kE P "is_beaten" 265 (.ref 70),kE P "holds_by" 271 (.ref 75),kE P "refused_by" 277 (.ref 80),kE P "words_now" 290 (.ref 87),kE P "touched" 301 (.ref 94),kE P "most_rounds" 307 (.ref 99),kE P "Answers" 400 (.ref 172),kE P "Rule" 487 (.ref 242),kE P "Fact" 541 (.ref 291),kE P "Sure" 580 (.ref 324),kE P "Most" 612 (.ref 350),kE P "Block" 651 (.ref 383)] 31
def c5V:Obj:=kL [(1,0,20),(5,0,27),(10,0,32),(12,0,37),(15,0,44),(18,0,51),(25,0,57),(39,0,64),(45,0,69),(47,0,74),(54,0,79),(61,0,86),(69,0,93),(76,0,98),(94,0,105),(127,0,182),(154,0,252),(170,0,299),(180,0,332),(187,0,358)]
def c1H (P:Params):Heap:=⟨⟨[o0 P,o1 P,o2,g23 P]++S0 P++[c5V]++S1 P++[c0I,c0r,c0t,c0Z,c0L]++S2 P⟩,{}⟩
theorem c7B:∀(w:World) (os:OsState),segRun treeTable PySem.Challenge.pw_mostwise_k45_whole_never_both w 11 (some (.ref 6)) 1 1261 ⟨c4Z w.params,#[],{},488,os⟩ (piecesOf (((behindTheImports PySem.Challenge.pw_mostwise_k45_whole_never_both).drop 24).take 4) b9Q a5b ⟨127,0,153,16⟩ tFr)=some (.next,⟨c1H w.params,#[],{},652,os⟩,a5b,⟨187,0,196,17⟩):=fun w os=>by kernel_rfl
theorem c0O:∀(w:World) (os:OsState),topRun treeTable PySem.Challenge.pw_mostwise_k45_whole_never_both w 11 (some (.ref 6)) 1088 ⟨c1H w.params,#[],{},652,os⟩ (c0U 28 ⟨187,0,196,17⟩)=some ⟨H1 w.params,#[],{},924,os⟩:=fun w os=>by kernel_rfl
theorem c0Q:∀(w:World) (os:OsState),topRun treeTable PySem.Challenge.pw_mostwise_k45_whole_never_both w 11 (some (.ref 6)) 3761 ⟨H0 w.params,#[],{},181,os⟩ (topStub PySem.Challenge.pw_mostwise_k45_whole_never_both)=some ⟨H1 w.params,#[],{},924,os⟩:=fun w os=>go_top (n:=12) (c1e w os) (piece_block (n:=1) (b4G w os) (a4B (c5o w os) (a4B (c7B w os) (c0O w os))))
end
end K45
namespace K45
open PySem PySem.W L2
def adr:Adr:=⟨28,kG "keyed" "keyed" b1z m1 27,33,kG "all_among" "all_among" a8e m1 32,38,kG "any_among" "any_among" a8z m1 37,45,kG "opposite" "opposite" a9o m2 44,52,kG "heads_by_premise" "heads_by_premise" b0C m3 51,58,Yu "sure_rounds" "sure_rounds" (a1N a2B) (a1g a2B) (a0b a2B) (.ref 53) .none .none m4 none (.ref 57) .none,53,65,kG "sure_steps" "sure_steps" a8l m4 64,70,kG "is_beaten" "is_beaten" a8M m5 69,75,kG "holds_by" "holds_by" a6L m5 74,80,kG "refused_by" "refused_by" a6Y m5 79,87,kG "words_now" "words_now" a9A m5 86,94,kG "touched" "touched" b0f m5 93,99,kG "most_rounds" "most_rounds" a4n m5 98,113,kG "__init__" "Answers.__init__" b1u m5 112,120,kG "word_and_rank" "Answers.word_and_rank" b1C m5 119,127,kG "sure" "Answers.sure" a9l m5 126,134,kG "held" "Answers.held" a9v m5 133,141,kG "refused" "Answers.refused" b0U m5 140,155,kG "rank" "Answers.rank" a8X m5 154,169,kG "sures" "Answers.sures" b2p m5 168,190,kG "__init__" "Rule.__init__" a9p m6 189,204,kG "speaks" "Rule.speaks" a9b m6 203,211,kG "is_sure" "Rule.is_sure" b0Y m6 210,260,kG "__init__" "Fact.__init__" a9e m6 259,274,kG "is_sure" "Fact.is_sure" a9h m6 273,314,kG "is_sure" "Sure.is_sure" b1t m6 313,373,kG "speaks" "Block.speaks" a9K m6 372,399,kG "__init__" "Ground.__init__" b0S m7 398,406,kG "rules" "Ground.rules" b0z m7 405,413,kG "ruling" "Ground.ruling" b1r m7 412,418,kG "speaking" "Ground.speaking" a8g m7 417,425,kG "against" "Ground.against" a9F m7 424,432,kG "beats" "Ground.beats" a9U m7 431,439,kG "statements" "Ground.statements" b1d m7 438,460,kG "_law_cell_at" "_law_cell_at" b1s m8 459,467,kG "_law_mix" "_law_mix" b0j m8 466,474,kG "_law_word" "_law_word" b0r m8 473,479,kG "_law_pool" "_law_pool" a8P m8 478,484,kG "_law_row" "_law_row" a6u m8 483,491,kG "_law_made" "_law_made" b1j m8 490,496,kG "_law_labels" "_law_labels" a8y m8 495,503,kG "_law_row_by_digits" "_law_row_by_digits" b0n m8 502,508,kG "_law_rows" "_law_rows" a6W m8 507,515,kG "_law_other" "_law_other" a9W m8 514,522,kG "_law_by" "_law_by" a9r m8 521,527,kG "_law_stands" "_law_stands" a8J m8 526,532,kG "_law_falls" "_law_falls" a8L m8 531,537,kG "_law_beaten" "_law_beaten" a8d m8 536,542,kG "_law_held" "_law_held" a5M m8 541,547,kG "_law_refused" "_law_refused" a6r m8 546,554,kG "_law_leads" "_law_leads" b0a m8 553,561,kG "_law_free_pairs" "_law_free_pairs" b0A m8 560,568,kG "_law_ahead" "_law_ahead" b1v m8 567,573,kG "_law_came" "_law_came" a8R m8 572,578,kG "law" "law" a3d m8 577,172,242,291,324,350,383,449,60⟩
theorem b7O {K:Qd} {n q:String} {s:Stmt} {m:Value} {f c:Nat} (l:K.lookup f=some (kF n q s m c)) (e:Jk K (.ref c) q=true) (k:Ze K (.ref f)=true):Fun K n q s f (kG n q s m c):=b8j l e k
theorem txt (P:Params) {h:Heap} {mg:Str→Option Value} (X:(b3a P).In h) (G:h.Ns mainGlobals mg):Txt (b3a P) mg adr:=by
 constructor
 case F_z0n=>exact (a6P (f:=58) (st:=a2B) (ds:=[Value.none]) (oc:=.type "function") (od:=none) (osl:=#[]) (oT:=⟨.type "tuple",none,.seq #[.none] 0,#[]⟩) (nT:=0) (by kernel_rfl) (by kernel_rfl) (by kernel_rfl) (by kernel_rfl) rfl)
 case b_z0n=>exact b3C.binds (x:="sure_rounds") (qual:="sure_rounds") (ps:=["rules","known"]) [] (a6P (f:=58) (st:=a2B) (ds:=[Value.none]) (oc:=.type "function") (od:=none) (osl:=#[]) (oT:=⟨.type "tuple",none,.seq #[.none] 0,#[]⟩) (nT:=0) (by kernel_rfl) (by kernel_rfl) (by kernel_rfl) (by kernel_rfl) rfl) fun _ _ _ _ _ _ us hl=>match us,hl with | [_,_],_=>⟨_,rfl,rfl⟩
 case bd_z0n=>exact b3C.binds (x:="sure_rounds") (qual:="sure_rounds") (ps:=["rules","known"]) [Value.none] (a6P (f:=58) (st:=a2B) (ds:=[Value.none]) (oc:=.type "function") (od:=none) (osl:=#[]) (oT:=⟨.type "tuple",none,.seq #[.none] 0,#[]⟩) (nT:=0) (by kernel_rfl) (by kernel_rfl) (by kernel_rfl) (by kernel_rfl) rfl) fun _ _ _ _ _ _ us hl=>match us,(show us.length=1 from by rw [Xr] at hl;exact Nat.succ.inj hl) with | [_],_=>⟨_,rfl,rfl⟩
 case k_HELD=>exact ⟨256,Vb X G (by kernel_rfl)⟩
 case k_REFUSED=>exact ⟨258,Vb X G (by kernel_rfl)⟩
 all_goals first
  | exact b7O (by kernel_rfl) (by kernel_rfl) (by kernel_rfl)
  | exact .all fun us hl=>match us,hl with | [_],_=>rfl
  | exact .all fun us hl=>match us,hl with | [_,_],_=>rfl
  | exact .all fun us hl=>match us,hl with | [_,_,_],_=>rfl
  | exact .all fun us hl=>match us,hl with | [_,_,_,_],_=>rfl
  | exact .all fun us hl=>match us,hl with | [_,_,_,_,_],_=>rfl
  | exact .all fun us hl=>match us,hl with | [_,_,_,_,_,_],_=>rfl
  | exact Vb X G (by kernel_rfl)
  | exact PySem.W.mg_none_of X G (by kernel_rfl)
  | kernel_rfl
  | exact ⟨by kernel_rfl,by kernel_rfl,by kernel_rfl⟩
  | exact ⟨by kernel_rfl,by kernel_rfl,by kernel_rfl,by kernel_rfl⟩
  | exact (by kernel_rfl:Ys _ _ _=_)
  | exact b7a (by k_is) (by kernel_rfl) (by kernel_rfl) (by kernel_rfl)
  | exact b5K (bm:=4) (Vb X G (by kernel_rfl)) (by kernel_rfl)
end K45
theorem K45.said0:PySem.Challenge.rw_mostwise_k45_whole_never_both.wellSaid=true:=by kernel_rfl
set_option maxRecDepth 100000 in
set_option maxHeartbeats 0 in
theorem PySem.Challenge.cw_mostwise_k45_whole_never_both_holds : PySem.Challenge.rw_mostwise_k45_whole_never_both.Holds := by
 w_on;refine PySem.W.holds_law K45.said0 fun said=>?_
 refine PySem.W.holds_open (q:=K45.b4W) (loose:=[("sure_rounds":PySem.Str)]) (Xt:=fun s=>PySem.W.xlAt K45.b4W [] s && PySem.W.recOk (PySem.W.RowW.records (PySem.W.OpenRow.toRowW PySem.Challenge.rw_mostwise_k45_whole_never_both.row)) s) (XP:=PySem.W.XL K45.b4W []) (Yf:=Um.obs (Uc K45.a4G K45.a4s K45.a6g)) (Ya:=Um.val (Uc K45.a4G K45.a4s K45.a6g)) (YP:=Um.says (Uc K45.a4G K45.a4s K45.a6g)) (N:=7612) ?hl (Um.of (Uc K45.a4G K45.a4s K45.a6g)) (Um.keeps (Uc K45.a4G K45.a4s K45.a6g)) (fun s e=>PySem.W.xl_of s (Jq.mp e).1) PySem.W.XL.keeps (by rfl) (by rfl) (by rfl) (fun s e=>PySem.W.recFacts_of (Jq.mp e).2) (by rfl) (by first | assumption | decide+kernel) (by decide+kernel) ⟨rfl,rfl,rfl,rfl,rfl,by decide+kernel⟩ ?hw ?hc
 (case hl=>refine PySem.W.LeftO.of_pieces (H₀:=K45.H0) (H₁:=K45.H1) (gs₀:=#[]) (gs₁:=#[]) (d₀:={}) (d₁:={}) (k₀:=181) (k₁:=924) (m₀:=11) (ann:=(some (.ref 6))) (M:=3761) K45.b8J ?_ K45.c0Q rfl ?_<;>(intro w;kernel_rfl))
 (case hw=>w_witness2)
 refine L2.a9V (l:=PySem.Challenge.rw_mostwise_k45_whole_never_both) (n:=63) (k:=10) (x:="_law_script") (CX:=L2.CX0) (K:=K45.b3a) (sp:=K45.b5V 60) 60 64 rfl (by decide) rfl ⟨rfl,by decide,by decide⟩ (fun w h Y=>L2.b4V (PySem.W.kIn_of Y) (by kernel_rfl)) (fun w=>by kernel_rfl) (fun w=>by kernel_rfl) ?F (fun K H a ns hl hO hS=>K45.b3k hl hO hS) (fun _ _ _ _ z=>z)
 case F=>
  intro w mg fa h KX G hmg
  have T:K45.Txt (L2.KOf KX) mg K45.adr:=K45.txt w.params KX G
  obtain ⟨_,_,_,_,_,_,_,_,_,e2,_,_⟩:=T.F_d_law.ex
  have e0:=hmg.symm.trans T.g_d_law
  cases e0
  exact ⟨K45.adr.fd_d_law,fun s u=>by rw [e2];exact .of_eq rfl,fun base kb nb=>K45.b2D T⟩
