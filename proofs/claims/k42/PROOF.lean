import PyProof.Rows.All
import Wide.All
import OpenK.AllK
import Wide.FinOn
import Lean
import PyProof.EqAt
import PyProof.EqKinds
import PyProof.TupleCall
import PyProof.StrLawsChain
import PyProof.StrLawsIn
import PyProof.Rows.StrNews2
import PyProof.StrBlockL
import PyProof.Rows.StrClose3
import PyProof.Rows.StrClose5
import PyProof.Rows.StrFirst
import PyProof.WalkInts
import PyProof.StrOps
import PyProof.WalksEnum
import PyProof.EnumMake
import PyProof.NeKinds
import KE.KEqDict
import KE.KRevIter
import PyProof.DictWalks
import PyProof.DictValues
import PyProof.ListRange
import PyProof.CollectIter
import PyProof.ZipIter
import PyProof.Rows.ZipGen
import PyProof.FString5
import KE.KDictLaws
import KE.KDictSum
import KE.KSortTup
import PyProof.Rows.SortStr
import PyProof.DictItems
import KE.KPairComp
import KE.KUnpack
import PyProof.P3Eq
import PyProof.Rows.SetFrom
import PySem.Challenge.RW_mostwise_k42_round_by_round
set_option Elab.async false
set_option linter.all false
set_option maxRecDepth 100000
set_option maxHeartbeats 4000000
open List renaming getElem?_cons_zero → Qa, getElem?_cons_succ → Qb, getElem?_eq_getElem → Qc, length_map → Qe, set_cons_succ → Qf, set_cons_zero → Qg, append_nil → Qh, mem_map → Ql, getElem?_eq_some_iff → Qm, getElem?_map → Qn, length_cons → Qo, mem_cons_of_mem → Qp, length_filter_le → Qq, size_toArray → Qr, mem_cons_self → Qs, take_succ_eq_append_getElem → Qt, mem_filter → Qv, mem_cons → Qy, mem_append_right → Qz, length_nil → Xb, map_append → Xc, mem_append → Xe, Nodup → Xf, map_map → Xh, getElem_mem → Xi, map_cons → Xl, mem_singleton → Xm, length_take → Xo, length_append → Xq, take_length → Xs, getElem?_append_right → Xv, getElem?_append_left → Xx, getElem?_eq_none → Yb, range → Yg, lookup_cons → Yh, getD_eq_getElem?_getD → Yj, length → Yl, filter_cons → Ym, filterMap_cons → Yn, toArray → Yp, getElem_of_mem → Yv, mem_append_left → Yy, find?_cons → Yz, any_eq_true → Ze, filter_append → Zh, nodup_cons → Zj, filter_map → Zk, length_eq_zero_iff → Zm, getElem_inj → Zn, filter_eq_nil_iff → Zq, filter_filter → Zr, nodup_append → Zs, filter_congr → Zt, append_assoc → Zu, lookup → Zv, all_eq_true → Zx, any_map → Zy, not_mem_nil → Zz, any_cons → Jb, length_range → Jf, getElem_take → Jg, map_nil → Jk, take_zero → Jm, length_drop → Jn, cons_append → Jo, getElem_map → Jr, range_succ → Jt, mem_filterMap → Ju, ext_getElem? → Jy, filterMap_append → Uf, mem_of_getElem? → Ug, nil_append → Ui, foldl_cons → Uj, mem_of_mem_take → Uk, map_congr_left → Uo, filter_eq_self → Uq, filter_sublist → Ur, mem_range → Us, nodup_nil → Uu, all_cons → Uz, foldl_append → Vf, pairwise_iff_getElem → Vg, exists_mem_of_ne_nil → Vh, nil_sublist → Vr, mem_flatMap → Vs, all_map → Vt, mem_reverse → Vv, of_mem_zip → Wc, getElem?_set_self → Wd, length_pos_of_mem → Wj, getElem?_set_ne → Wo, getElem?_append → Wp, length_take_le' → Wq, getElem_toArray → Wr, getElem?_range → Wu, length_reverse → Wv, map_eq_nil_iff → Ww, zip_cons_cons → Ga, Sublist → Gb, map → Gh
open PySem.W renaming Frag → Qd, kitOne → Xw, findIn → Yo, kia_one → Yr, emptyDict → Yt, fnOf → Yw, keepIn → Zf, instObj → Zi, codeIn → Jj, callWith_K → Jv, kHook → Ub, plainGet → Uc, methodCall_KW → Ud, Hook → Ul, plainGet_of → Um, lookIn → Ut, mg_of → Va, methodObj → Vb, hasDictIn → Vc, specialIn → Vd, takerIn → Wb, cellsFrom_some → We, typeIn → Wl, subIn → Wt, isFn → Wy, plainOver → Gc, kitx_list → Gd, kitx_dict → Ge, handedIn → Gf, makesIn → Gi, takesIn → Gj
open Nat renaming le_refl → Qi, le_trans → Qj, zero_le → Xa, lt_of_lt_of_le → Xd, ne_of_lt → Xg, lt_of_le_of_lt → Xk, lt_irrefl → Zc, le_succ → Zo, ne_of_gt → Jh, sub_self → Uh, le_of_lt → Vi, le_of_eq → Vk, lt_succ_self → Vl, add_comm → Wz
open PySem.Heap renaming get?_push_of_some → Qk, lt_size → Qu, get?_push_size → Qw, size_push → Ji, get?_update_ne → Js, get?_update_other → Jz, SameBut → Vj, get?_update_self → Wm
open Bool renaming false_ne_true → Qx, and_eq_true → Xn, eq_iff_iff → Xu, not_eq_true' → Yu, true_and → Zd, false_eq_true → Zg, false_and → Zw, and_eq_true_iff → Jp, and_comm → Ua
open PySem.PyData renaming canLay0 → Xj, eqv → Xp, strOk → Yd, keyHash → Yk, depth → Yq, depthAll → Zb, canLayAll0 → Zl, str → Zp, eqvAll → Ws
open Option renaming getD_some → Xr, map_some → Jc, map_eq_some_iff → Jd, isSome_map → Ve, isSome_iff_exists → Vm, map_eq_none_iff → Wi, getD_none → Gg
open PySem.F renaming slot_list_append → Xy, type_list_append → Xz, plainAttrs_list → Yc, plainAttrs_dict → Ys, slot_dict_update → Jx, slot_dict_get → Ue, slot_dict_setdefault → Uv, slot_str_startswith → Ux, type_str_startswith → Uy, args_tuple_add_2 → Vn, slot_dict_values → Vp, type_dict_update → Vu, entry_tuple_add → Vw, slot_dict_clear → Vx, args_dict_get_3 → Vy, slot_dict_items → Vz, slot_tuple_add → Wf, entry_dict_get → Wg, slot_dict_copy → Wh, plainAttrs_str → Wk
open PySem.SeqAt renaming EqAt → Ye, shaped → Yi, canLay_of_shaped → Je, eqAt_reads → Vq
open Int renaming emod_lt_of_pos → Yx, emod_nonneg → Za
open Array renaming length_toList → Ja, getD → Jq, getElem?_toList → Wn, append_assoc → Wx, Perm → Gk
open PySem.Txt renaming startswith → Jl, slice → Uw, slice_le → Vo
open PySem.Str renaming ofString → Jw
namespace L2
open PySem PySem.Spec PyProof.Rows
abbrev Key:=Sum Int Str
def a7Y:Key→Value→Bool
 | .inl k,v=>Value.isInt k v
 | .inr x,v=>Value.isStrOf x v
def c5U (w:World):Key→Int
 | .inl k=>hashInt k
 | .inr x=>hashStr w x
theorem a0F:∀{k:Key} {v:Value},a7Y k v=true→(∃i t,k=Sum.inl i∧v=Value.int i t)∨(∃x t,k=Sum.inr x∧v=Value.str x t)
 | .inl i,v,h=>by
  obtain ⟨t,e⟩:=Value.isInt_shape (k:=i) (v:=v) h
  exact .inl ⟨i,t,rfl,e⟩
 | .inr x,v,h=>by
  obtain ⟨t,e⟩:=Value.isStrOf_shape (x:=x) (v:=v) h
  exact .inr ⟨x,t,rfl,e⟩
theorem b0F (i:Int) (t:Tok):a7Y (.inl i) (.int i t)=true:=by simp [a7Y,Value.isInt]
theorem b0N (x:Str) (t:Tok):a7Y (.inr x) (.str x t)=true:=by simp [a7Y,Value.isStrOf]
theorem b8R (a b:Int):decide ((Sum.inl a:Key)=Sum.inl b)=(a == b):=by
 by_cases e:a=b
 ·subst e;simp
 ·have h:¬(Sum.inl a:Key)=Sum.inl b:=fun q=>e (Sum.inl.inj q)
  rw [decide_eq_false h]
  exact (beq_eq_false_iff_ne.mpr e).symm
theorem b8b (a b:Str):decide ((Sum.inr a:Key)=Sum.inr b)=decide (a=b):=by
 by_cases e:a=b
 ·subst e;simp
 ·have h:¬(Sum.inr a:Key)=Sum.inr b:=fun q=>e (Sum.inr.inj q)
  rw [decide_eq_false h,decide_eq_false e]
theorem b6R (a:Int) (b:Str):decide ((Sum.inl a:Key)=Sum.inr b)=false:=decide_eq_false (fun q=>nomatch q)
theorem b7l (a:Str) (b:Int):decide ((Sum.inr a:Key)=Sum.inl b)=false:=decide_eq_false (fun q=>nomatch q)
def a0k (prog:Program) (w:World):PySem.KeyKind prog w Key where
 is:=a7Y
 hash:=c5U w
 inj:=fun v a b ha hb=>by
  rcases a0F ha with ⟨i,t,rfl,rfl⟩ | ⟨x,t,rfl,rfl⟩
  ·rcases a0F hb with ⟨j,u,rfl,e⟩ | ⟨y,u,rfl,e⟩
   ·injection e with e1 _;rw [e1]
   ·exact nomatch e
  ·rcases a0F hb with ⟨j,u,rfl,e⟩ | ⟨y,u,rfl,e⟩
   ·exact nomatch e
   ·injection e with e1 _;rw [e1]
 byValue:=fun k v h=>by
  rcases a0F h with ⟨i,t,rfl,rfl⟩ | ⟨x,t,rfl,rfl⟩<;>rfl
 pyHash:=fun hv h=>by
  rcases a0F hv with ⟨i,t,rfl,rfl⟩ | ⟨x,t,rfl,rfl⟩
  ·exact wpAny_pyHash_int h
  ·exact wpAny_pyHash_str h
 eqBool:=fun hu hv h=>by
  rcases a0F hu with ⟨i,t,rfl,rfl⟩ | ⟨x,t,rfl,rfl⟩
  ·rcases a0F hv with ⟨j,u,rfl,rfl⟩ | ⟨y,u,rfl,rfl⟩
   ·rw [b8R] at h;exact wpAny_eqBool_int h
   ·rw [b6R] at h;exact Ye.int_str i t y u _ _ _ _ h
  ·rcases a0F hv with ⟨j,u,rfl,rfl⟩ | ⟨y,u,rfl,rfl⟩
   ·rw [b7l] at h;exact Ye.str_int x t j u _ _ _ _ h
   ·rw [b8b] at h;exact wpAny_eqBool_str h
 «strs»:=fun k x t v h=>by
  rcases a0F h with ⟨i,u,rfl,e⟩ | ⟨y,u,rfl,e⟩
  ·exact nomatch e
  ·injection e with e1 _
   subst e1
   cases v<;>rfl
theorem a6n (prog:Program) (w:World) (i:Int) (t:Tok):(a0k prog w).is (.inl i) (.int i t)=true:=b0F i t
theorem a6I (prog:Program) (w:World) (x:Str) (t:Tok):(a0k prog w).is (.inr x) (.str x t)=true:=b0N x t
end L2
namespace L2
open PySem PySem.Spec PyProof.Rows
inductive V where
 | non | bl (b:Bool) | int (i:Int) | str (x:Str) | byt (b:Array UInt8) | flt (b:UInt64) | ref (a:Addr) | ty (n:String)
 deriving DecidableEq
def a0H:V→Value→Prop
 | .non,u=>u=Value.none
 | .bl b,u=>u=Value.bool b
 | .int i,u=>∃t,u=Value.int i t
 | .str x,u=>∃t,u=Value.str x t
 | .byt b,u=>∃t,u=Value.bytes b t
 | .flt b,u=>∃t,u=Value.float b t
 | .ref a,u=>u=Value.ref a
 | .ty n,u=>u=Value.type n
abbrev a0I:List V→List Value→Prop:=Paired a0H
theorem a0I.length {xs:List V} {us:List Value} (r:a0I xs us):xs.length=us.length:=Paired.length r
theorem a0I.get:∀{xs:List V} {us:List Value} {i:Nat} {x:V},a0I xs us→xs[i]?=some x→∃u,us[i]?=some u∧a0H x u
 | _,_,_,_,.nil,e=>by simp at e
 | _,_,0,_,.cons r _,e=>by simp at e;subst e;exact ⟨_,rfl,r⟩
 | _,_,i+1,x,.cons _ t,e=>by
  obtain ⟨u,h1,h2⟩:=a0I.get (i:=i) (x:=x) t (by simpa using e)
  exact ⟨u,by simpa using h1,h2⟩
theorem a0I.set {x:V} {u:Value} (r:a0H x u):∀{xs:List V} {us:List Value} (i:Nat),a0I xs us→a0I (xs.set i x) (us.set i u)
 | _,_,_,.nil=>.nil
 | _,_,0,.cons _ t=>.cons r t
 | _,_,i+1,.cons q t=>.cons q (a0I.set r i t)
theorem a0I.append:∀{xs ys:List V} {us ws:List Value},a0I xs us→a0I ys ws→a0I (xs++ys) (us++ws)
 | _,_,_,_,.nil,s=>s
 | _,_,_,_,.cons r t,s=>.cons r (a0I.append t s)
theorem a0I.take:∀{xs:List V} {us:List Value} (n:Nat),a0I xs us→a0I (xs.take n) (us.take n)
 | _,_,0,_=>.nil
 | _,_,_+1,.nil=>.nil
 | _,_,n+1,.cons r t=>.cons r (a0I.take n t)
theorem a0I.drop:∀{xs:List V} {us:List Value} (n:Nat),a0I xs us→a0I (xs.drop n) (us.drop n)
 | _,_,0,r=>r
 | _,_,_+1,.nil=>.nil
 | _,_,n+1,.cons _ t=>a0I.drop n t
def a4d:Option V→Option Value→Prop
 | some v,some u=>a0H v u
 | none,none=>True
 | _,_=>False
def KV {κ:Type}:List (κ×V)→List (κ×Value)→Prop:=Paired fun (p:κ×V) (q:κ×Value)=>p.1=q.1∧a0H p.2 q.2
def kV:Key→V
 | .inl i=>.int i
 | .inr x=>.str x
inductive HO where
 | lst (xs:List V)
 | tup (xs:List V)
 | dK (kvs:List (Key×V)) | dT (kvs:List (List Key×V))
 | set (S:Int→Bool) (n:Nat)
 | ins (C dx:Addr) (fs:List (Str×V))
 | own (x:Addr)
 | xd (fs:List (Str×V))
 | met (f x:Addr)
 | rng (lo hi:Int)
 | frz (o:Obj) (u:HO)
 | tbl (ps:Array Value)
 | ext (φ:Heap→Prop)
abbrev Hp:=Addr→Option HO
def upd (H:Hp) (a:Addr) (o:HO):Hp:=fun b=>if b=a then some o else H b
theorem a0d {H:Hp} {a:Addr} {o:HO}:upd H a o a=some o:=by unfold upd;rw [if_pos rfl]
theorem a0a {H:Hp} {a b:Addr} {o:HO} (h:b≠a):upd H a o b=H b:=by unfold upd;rw [if_neg h]
theorem b5S {H:Hp} {a:Addr} {o u:HO}:upd (upd H a o) a u=upd H a u:=by
 funext b;unfold upd;split<;>rfl
theorem a0B {H:Hp} {a b:Addr} {o u:HO} (h:H a=some o) (h':H b=some u) (d:o≠u):a≠b:=by
 intro e;subst e;rw [h] at h';exact d (Option.some.inj h')
theorem a0c {H:Hp} {a b:Addr} {o:HO} (h:H a=some o) (h':H b=none):a≠b:=by
 intro e;subst e;rw [h] at h';cases h'
section
variable (P:Program) (w:World)
def a0Q (H:Hp) (h:Heap) (a:Addr):HO→Prop
 | .lst xs=>xs.length≤sizeLine∧∃(its:List Value) (n:Nat),a0I xs its∧h.get? a=some {cls:=.type "list",data:=.seq its.toArray n}
 | .tup xs=>xs.length≤sizeLine∧∃its:List Value,a0I xs its∧IsTup h a its.toArray
 | .dK kvs=>kvs.length≤sizeLine∧(a == sysModules)=false∧∃vs,KV kvs vs∧h.DictOf (a0k P w) a vs
 | .dT kvs=>kvs.length≤sizeLine∧(a == sysModules)=false∧∃xs:List (List Key×Addr×Value),
   Paired (fun (p:List Key×V) (q:List Key×Addr×Value)=>p.1=q.1∧H q.2.1=some (.tup (p.1.map kV))∧a0H p.2 q.2.2) kvs xs∧
   ∃o es ep,h.get? a=some o∧o.ExactDict∧o.data=.dict es ep∧es.toList=xs.map (entryOfKey (tupleKind (a0k P w)))∧(xs.map (·.1)).Nodup
 | .set S n=>h.SetOf (intKind P w) a S n
 | .ins C dx fs=>H dx=some (.own a)∧fs.length≤1000∧dx≠a∧h.get? a=some (Zi C dx)∧
   ∃mA,h.Ns1 dx mA∧(∀f,a4d (fs.lookup f) (mA f))∧PySem.Within mA (fs.map (·.1))
 | .own _=>∃o,h.get? a=some o
 | .xd fs=>∃mA,h.Ns1 a mA∧∀f,a4d (fs.lookup f) (mA f)
 | .rng lo hi=>∃t u v,h.get? a=some {cls:=.type "range",data:=.fields #[.int lo t,.int hi u,.int 1 v]}
 | .frz o u=>h.get? a=some o∧a0Q H h a u
 | .tbl ps=>h.get? a=some {cls:=.none,data:=.fields ps}
 | .met f x=>h.get? a=some (Vb (.ref f) (.ref x))
 | .ext φ=>φ h∧(∃o,h.get? a=some o)∧∀h1 h2:Heap,φ h1→(∀o,h1.get? a=some o→h2.get? a=some o)→φ h2
def HOk (H:Hp) (h:Heap):Prop:=∀a o,H a=some o→a0Q P w H h a o
end
section
variable {P:Program} {w:World} {H H':Hp} {h h':Heap} {a:Addr} {o:HO}
theorem a0Q.lt (x:a0Q P w H h a o):a < h.objs.size:=by
 cases o with
 | lst xs=>obtain ⟨_,_,_,_,e⟩:=x;exact Qu e
 | tup xs=>obtain ⟨_,_,_,p⟩:=x;exact p.lt
 | dK kvs=>obtain ⟨_,_,_,_,o,_,_,e,_⟩:=x;exact Qu e
 | dT kvs=>obtain ⟨_,_,_,_,o,_,_,e,_⟩:=x;exact Qu e
 | set S n=>obtain ⟨o,_,_,_,e,_⟩:=x;exact Qu e
 | ins C dx fs=>obtain ⟨_,_,_,e,_⟩:=x;exact Qu e
 | own y=>obtain ⟨_,e⟩:=x;exact Qu e
 | xd fs=>obtain ⟨_,⟨_,_,_,e,_⟩,_⟩:=x;exact Qu e
 | rng lo hi=>obtain ⟨_,_,_,e⟩:=x;exact Qu e
 | frz ob u=>obtain ⟨e,_⟩:=x;exact Qu e
 | tbl ps=>exact Qu (show h.get? a=some _ from x)
 | met f y=>exact Qu (show h.get? a=some _ from x)
 | ext φ=>obtain ⟨_,⟨_,e⟩,_⟩:=x;exact Qu e
theorem Paired.mapP {α β:Type} {F G:α→β→Prop}:∀{l₁:List α} {l₂:List β},Paired F l₁ l₂→(∀a b,F a b→G a b)→Paired G l₁ l₂
 | _,_,.nil,_=>.nil
 | _,_,.cons r t,f=>.cons (f _ _ r) (Paired.mapP t f)
theorem a0Q.stay (x:a0Q P w H h a o) (k:∀b u,(b=a∨H b=some (.own a))→h.get? b=some u→h'.get? b=some u)
  (ho:∀b,H b=some (.own a)→H' b=some (.own a)) (ht:∀b xs,H b=some (.tup xs)→H' b=some (.tup xs)):a0Q P w H' h' a o:=by
 induction o with
 | lst xs=>obtain ⟨z,its,n,r,e⟩:=x;exact ⟨z,its,n,r,k _ _ (.inl rfl) e⟩
 | tup xs=>obtain ⟨z,its,r,ob,e,c⟩:=x;exact ⟨z,its,r,ob,k _ _ (.inl rfl) e,c⟩
 | dK kvs=>obtain ⟨z,y,vs,r,ob,es,ep,e,c⟩:=x;exact ⟨z,y,vs,r,ob,es,ep,k _ _ (.inl rfl) e,c⟩
 | dT kvs=>
  obtain ⟨z,y,xs,r,ob,es,ep,e,c⟩:=x
  exact ⟨z,y,xs,Paired.mapP r fun p q z=>⟨z.1,ht _ _ z.2.1,z.2.2⟩,ob,es,ep,k _ _ (.inl rfl) e,c⟩
 | set S n=>obtain ⟨ob,es,ep,t,e,c⟩:=x;exact ⟨ob,es,ep,t,k _ _ (.inl rfl) e,c⟩
 | ins C dx fs=>
  obtain ⟨d,z,ne,e,mA,⟨od,es,ep,e2,c⟩,r⟩:=x
  exact ⟨ho _ d,z,ne,k _ _ (.inl rfl) e,mA,⟨od,es,ep,k _ _ (.inr d) e2,c⟩,r⟩
 | own y=>obtain ⟨ob,e⟩:=x;exact ⟨ob,k _ _ (.inl rfl) e⟩
 | xd fs=>obtain ⟨mA,⟨od,es,ep,e,c⟩,r⟩:=x;exact ⟨mA,⟨od,es,ep,k _ _ (.inl rfl) e,c⟩,r⟩
 | rng lo hi=>obtain ⟨t,u,v,e⟩:=x;exact ⟨t,u,v,k _ _ (.inl rfl) e⟩
 | frz ob u ih=>obtain ⟨e,q⟩:=x;exact ⟨k _ _ (.inl rfl) e,ih q⟩
 | tbl ps=>
  have e:h.get? a=some {cls:=.none,data:=.fields ps}:=x
  show h'.get? a=some {cls:=.none,data:=.fields ps}
  exact k a _ (.inl rfl) e
 | met f y=>
  have e:h.get? a=some (Vb (.ref f) (.ref y)):=x
  show h'.get? a=some (Vb (.ref f) (.ref y))
  exact k a _ (.inl rfl) e
 | ext φ=>obtain ⟨p,⟨o,e⟩,st⟩:=x;exact ⟨st _ _ p fun o q=>k _ _ (.inl rfl) q,⟨o,k _ _ (.inl rfl) e⟩,st⟩
theorem HOk.lt (x:HOk P w H h) (e:H a=some o):a < h.objs.size:=(x a o e).lt
theorem HOk.fresh (x:HOk P w H h) (e:h.objs.size≤a):H a=none:=by
 cases q:H a with
 | none=>rfl
 | some u=>exact absurd (Xd (x.lt q) e) (Zc _)
theorem HOk.kept (x:HOk P w H h) (k:∀b u,h.get? b=some u→h'.get? b=some u):HOk P w H h':=fun a o e=>
 (x a o e).stay (fun b u _ q=>k b u q) (fun _ q=>q) fun _ _ q=>q
theorem HOk.laid (x:HOk P w H h) (k:∀b u,h.get? b=some u→h'.get? b=some u) (hp:h.objs.size≤a) (new:a0Q P w (upd H a o) h' a o):HOk P w (upd H a o) h':=fun b u e=>by
 have hn:=x.fresh hp
 by_cases hb:b=a
 ·subst hb;rw [a0d] at e;cases e;exact new
 ·rw [a0a hb] at e
  exact (x b u e).stay (fun c v _ q=>k c v q) (fun c q=>by rw [a0a (a0c q hn)];exact q) fun c xs q=>by rw [a0a (a0c q hn)];exact q
end
def Rd (H:Hp) (a:Addr) (u:HO):Prop:=H a=some u∨∃o,H a=some (.frz o u)
theorem Rd.of {H:Hp} {a:Addr} {u:HO} (h:H a=some u):Rd H a u:=.inl h
theorem Rd.ok {P:Program} {w:World} {H:Hp} {h:Heap} {a:Addr} {u:HO} (r:Rd H a u) (x:HOk P w H h):a0Q P w H h a u:=by
 rcases r with r | ⟨o,r⟩
 ·exact x a u r
 ·obtain ⟨_,q⟩:=x a _ r
  exact q
def Mut:Option HO→Prop
 | some (.lst _)=>True
 | some (.dK _)=>True
 | some (.dT _)=>True
 | some (.set _ _)=>True
 | some (.ins _ _ _)=>True
 | some (.ext _)=>True
 | _=>False
section
variable {P:Program} {w:World} {H:Hp} {h h':Heap} {x e:Addr} {o':HO}
theorem HOk.write (ok:HOk P w H h) (mu:Mut (H x)) (he:e=x∨H e=some (.own x)) (k:∀b u,b≠e→h.get? b=some u→h'.get? b=some u) (heo:∃u,h'.get? e=some u)
  (new:a0Q P w (upd H x o') h' x o'):HOk P w (upd H x o') h':=fun b u q=>by
 have nown:∀c y,H c=some (.own y)→c≠x:=fun c y r z=>by subst z;rw [r] at mu;exact mu
 have ntup:∀c xs,H c=some (.tup xs)→c≠x:=fun c xs r z=>by subst z;rw [r] at mu;exact mu
 by_cases hb:b=x
 ·subst hb;rw [a0d] at q;cases q;exact new
 ·rw [a0a hb] at q
  by_cases hbe:b=e
  ·have q':H b=some (.own x):=by
    rcases he with z | z
    ·exact absurd (hbe.trans z) hb
    ·rw [hbe];exact z
   rw [q] at q';cases q'
   obtain ⟨v,hv⟩:=heo
   exact ⟨v,by rw [hbe];exact hv⟩
  ·refine (ok b u q).stay (fun c v hc r=>k c v ?_ r) (fun c r=>by rw [a0a (nown c b r)];exact r) fun c xs r=>by rw [a0a (ntup c xs r)];exact r
   rcases hc with rfl | hc
   ·exact hbe
   ·rintro rfl
    rcases he with z | z
    ·exact nown c b hc z
    ·rw [hc] at z;cases z;exact hb rfl
end
structure Un (fs ex:List Addr) (H H':Hp) (h h':Heap):Prop where
 keep:∀b o,h.get? b=some o→H b=none→b∉fs→b∉ex→h'.get? b=some o
 slot:∀b o,h.get? b=some o→H b=none→b∈fs→b∉ex→∃sl,h'.get? b=some {o with slots:=sl}
 free:∀b o,h.get? b=some o→H b=none→b∉ex→H' b=none
 there:∀b o,h.get? b=some o→b∉ex→∃o',h'.get? b=some o'
 tups:∀b xs,H b=some (.tup xs)→H' b=some (.tup xs)
 frzs:∀b o u,H b=some (.frz o u)→H' b=some (.frz o u)
 tbls:∀b ps,H b=some (.tbl ps)→∃more,H' b=some (.tbl (ps++more))
section
variable {fs fs' ex ex':List Addr} {H H1 H2:Hp} {h h1 h2 h':Heap} {a x e:Addr} {o:HO}
theorem Un.any (u:Un fs ex H H1 h h1) {b:Addr} {ob:Obj} (q:h.get? b=some ob) (n:H b=none) (hx:b∉ex):∃sl,h1.get? b=some {ob with slots:=sl}:=by
 by_cases hb:b∈fs
 ·exact u.slot b ob q n hb hx
 ·exact ⟨ob.slots,u.keep b ob q n hb hx⟩
theorem Un.trans (a:Un fs ex H H1 h h1) (b:Un fs ex H1 H2 h1 h2):Un fs ex H H2 h h2 where
 keep:=fun c ob q n hc hx=>b.keep c ob (a.keep c ob q n hc hx) (a.free c ob q n hx) hc hx
 slot:=fun c ob q n hc hx=>by
  obtain ⟨sl,e1⟩:=a.slot c ob q n hc hx
  obtain ⟨sl',e2⟩:=b.slot c _ e1 (a.free c ob q n hx) hc hx
  exact ⟨sl',e2⟩
 free:=fun c ob q n hx=>by
  obtain ⟨o',e1⟩:=a.there c ob q hx
  exact b.free c o' e1 (a.free c ob q n hx) hx
 there:=fun c ob q hx=>by
  obtain ⟨o',e1⟩:=a.there c ob q hx
  exact b.there c o' e1 hx
 tups:=fun c xs q=>b.tups c xs (a.tups c xs q)
 frzs:=fun c ob xs q=>b.frzs c ob xs (a.frzs c ob xs q)
 tbls:=fun c ps q=>by
  obtain ⟨m1,e1⟩:=a.tbls c ps q
  obtain ⟨m2,e2⟩:=b.tbls c _ e1
  exact ⟨m1++m2,by rw [e2,Wx]⟩
theorem Un.kept (k:∀b u,h.get? b=some u→h'.get? b=some u):Un fs ex H H h h':=
 ⟨fun b ob q _ _ _=>k b ob q,fun b ob q _ _ _=>⟨ob.slots,k b ob q⟩,fun _ _ _ n _=>n,fun b ob q _=>⟨ob,k b ob q⟩,fun _ _ q=>q,fun _ _ _ q=>q,fun _ ps q=>⟨#[],by rw [q];simp⟩⟩
theorem Un.refl:Un fs ex H H h h:=Un.kept fun _ _ q=>q
theorem Un.laid (k:∀b u,h.get? b=some u→h'.get? b=some u) (hp:h.objs.size≤a) (hn:H a=none):Un fs ex H (upd H a o) h h' where
 keep:=fun b u q _ _ _=>k b u q
 slot:=fun b u q _ _ _=>⟨u.slots,k b u q⟩
 free:=fun b u q n _=>by rw [a0a (Xg (Xd (Qu q) hp))];exact n
 there:=fun b u q _=>⟨u,k b u q⟩
 tups:=fun b xs q=>by rw [a0a (a0c q hn)];exact q
 frzs:=fun b u xs q=>by rw [a0a (a0c q hn)];exact q
 tbls:=fun b ps q=>⟨#[],by rw [a0a (a0c q hn),q];simp⟩
theorem Un.write (mu:Mut (H x)) (he:e=x∨H e=some (.own x)) (k:∀b u,b≠e→h.get? b=some u→h'.get? b=some u) (heo:∃u,h'.get? e=some u):Un fs ex H (upd H x o) h h':=by
 have hx:∀b,H b=none→b≠x:=fun b n z=>by subst z;rw [n] at mu;exact mu
 have hb:∀b,H b=none→b≠e:=fun b n z=>by
  subst z
  rcases he with r | r
  ·exact hx b n r
  ·rw [n] at r;cases r
 have hm:∀b u,H b=some u→¬Mut (some u)→b≠x:=fun b u q nm z=>by subst z;rw [q] at mu;exact nm mu
 refine ⟨fun b u q n _ _=>k b u (hb b n) q,fun b u q n _ _=>⟨u.slots,k b u (hb b n) q⟩,fun b u q n _=>by rw [a0a (hx b n)];exact n,fun b u q _=>?_,
  fun b xs q=>by rw [a0a (hm b _ q fun z=>z)];exact q,fun b u xs q=>by rw [a0a (hm b _ q fun z=>z)];exact q,fun b ps q=>⟨#[],by rw [a0a (hm b _ q fun z=>z),q];simp⟩⟩
 by_cases hbe:b=e
 ·subst hbe;exact heo
 ·exact ⟨u,k b u hbe q⟩
end
def trk (h:Heap) (H:Hp):List Addr:=(Yg h.objs.size).filter fun a=>(H a).isSome
def b2N (h:Heap) (H:Hp):Heap:=PySem.W.hideAll h (trk h H)
theorem a9L (h:Heap) (H:Hp):(b2N h H).objs.size=h.objs.size:=PySem.W.hideAll_size _ _
theorem b1y {h:Heap} {H:Hp} {b:Addr} {o:Obj} (e:h.get? b=some o) (n:H b=none):(b2N h H).get? b=some o:=
 PySem.W.hideAll_get _ e fun hm=>by
  have q:(H b).isSome=true:=(Qv.mp hm).2
  rw [n] at q;simp at q
theorem b5w {h:Heap} {H:Hp} {b:Addr} {o:Obj} (e:(b2N h H).get? b=some o):h.get? b=some o∧H b=none:=by
 have e':h.get? b=some o:=PySem.W.of_hideAll (trk h H) e
 refine ⟨e',?_⟩
 cases q:H b with
 | none=>rfl
 | some x=>
  have hm:b∈trk h H:=Qv.mpr ⟨Us.mpr (Qu e'),by simp [q]⟩
  have z:(b2N h H).get? b=none:=PySem.W.hideAll_none (trk h H) hm
  rw [z] at e;cases e
def b4W (g h:Heap) (L:Addr):List (Addr×Obj):=(Yg h.objs.size).filterMap fun a=>if a=L∨(g.get? a).isSome=true then none else (h.get? a).map fun o=>(a,o)
def a6e (g h:Heap) (L d:Addr):List (Addr×Obj):=(b4W g h L).filter fun p=>decide (p.1≠d)
end L2
namespace L2
open PySem PySem.Spec PyProof.Rows
structure Mod (K:Qd) (mg:Str→Option Value) (base:Heap):Prop where
 kin:K.In base
 glob:base.Ns mainGlobals mg
 blt:∃mb,base.Ns builtinsNs mb∧∀x:Str,x≠"__name__"→mb x=bootBuiltins x
 nolimit:base.NoLimit
structure Cx where
 prog:Program
 w:World
 K:Qd
 mg:Str→Option Value
 base:Heap
 A:Around
 N:List Str
 s₀:Shared
 H₀:Hp
 env:Env
 outer:List Env
 stack:List Env
 ex:List Addr
 fn:Str→Bool
 calm:Bool
 pn:List (Addr×Obj)
 xe:Value→Shared→Prop
def frs (l:List Env):List Addr:=l.filterMap (·.frame)
abbrev Cx.fs (X:Cx):List Addr:=frs X.outer
def Vis (sc:Scope) (x:Str):Prop:=sc.names.lookup x=some .local∨sc.names.lookup x=some .cell∨sc.names.lookup x=some .free
def Loc (sc:Scope) (x:Str):Prop:=sc.names.lookup x=some .local∨sc.names.lookup x=some .cell
def c5z (env:Env) (h:Heap) (m:Str→Option Value) (x:Str) (u:Value):Prop:=
 (env.kindOf x=some .local∧m x=some u)∨((env.kindOf x=some .cell∨env.kindOf x=some .free)∧∃c,env.cells.lookup x=some c∧h.IsCell c (some u))
structure Cx.Ok (X:Cx):Prop where
 mod:Mod X.K X.mg X.base
 kind:X.env.scope.kind=.function
 glob:X.env.globals=mainGlobals
 blt:X.env.builtins=builtinsNs
 above:X.s₀.heap.objs.size≤X.env.locals
 inj:∀x y c,X.env.cells.lookup x=some c→X.env.cells.lookup y=some c→x=y
 has:∀x,(X.env.kindOf x=some .cell∨X.env.kindOf x=some .free)→∃c,X.env.cells.lookup x=some c
 cab:∀x c,X.fn x=true→X.env.cells.lookup x=some c→X.s₀.heap.objs.size≤c
 hd:X.calm=true→X.A.handled=none
 frames:X.A.frames=some X.stack
 stk:X.stack=X.outer∨(X.stack=X.env::X.outer∧X.env.frame=some X.env.locals)
 exf:∀b∈X.ex,b≠X.env.locals∧∀x c,X.env.cells.lookup x=some c→c≠b
 bs:∀b o,X.base.get? b=some o→X.s₀.heap.get? b=some o∧X.H₀ b=none
 bsz:X.base.objs.size≤X.s₀.heap.objs.size
 noex:∀b o,X.base.get? b=some o→b∉X.ex
 exfs:∀b∈X.ex,b∉X.fs
 funs:X.s₀.heap.FunFrames X.base X.outer
 frf:∀b∈X.fs,X.H₀ b=none
structure Inv (X:Cx) (pins:List (Addr×Obj)) (σ:List (Option V)) (H:Hp) (s:Shared):Prop where
 ok:X.Ok
 os:s.os=X.s₀.os
 bare:AllBare s.gens
 base:Un X.fs X.ex X.H₀ H X.s₀.heap s.heap
 loc:∃m,s.heap.Ns X.env.locals m∧∀(i:Nat) (x:Str) (v:V),X.N[i]?=some x→σ[i]?=some (some v)→Vis X.env.scope x→∃u,a0H v u∧c5z X.env s.heap m x u
 cell:∀x c,X.env.cells.lookup x=some c→∃v,s.heap.IsCell c v
 free:H X.env.locals=none
 freeC:∀x c,X.env.cells.lookup x=some c→H c=none
 pin:∀p∈X.pn++pins,s.heap.get? p.1=some p.2∧H p.1=none∧p.1≠X.env.locals∧p.1∉X.fs∧∀v,p.2.data≠.cell v
 hok:HOk X.prog X.w H s.heap
 len:σ.length=X.N.length
section
variable {X:Cx} {pins:List (Addr×Obj)} {σ:List (Option V)} {H H':Hp} {s:Shared} {h':Heap}
theorem Cx.Ok.nofr (ok:X.Ok) {b:Addr} {o:Obj} (e:X.base.get? b=some o):b∉X.fs:=fun hb=>by
 have:=(ok.funs.mem hb).1
 rw [e] at this;cases this
theorem Inv.bs (I:Inv X pins σ H s):∀b o,X.base.get? b=some o→s.heap.get? b=some o∧H b=none:=fun b o e=>
 ⟨I.base.keep b o (I.ok.bs b o e).1 (I.ok.bs b o e).2 (I.ok.nofr e) (I.ok.noex b o e),I.base.free b o (I.ok.bs b o e).1 (I.ok.bs b o e).2 (I.ok.noex b o e)⟩
theorem Inv.bk (I:Inv X pins σ H s):∀b o,X.base.get? b=some o→s.heap.get? b=some o:=fun b o e=>(I.bs b o e).1
theorem Inv.mod (I:Inv X pins σ H s):Mod X.K X.mg X.base:=I.ok.mod
theorem Inv.kIn (I:Inv X pins σ H s):X.K.In s.heap:=I.ok.mod.kin.keeps I.bk
theorem Inv.nolimit (I:Inv X pins σ H s):s.heap.NoLimit:=I.ok.mod.nolimit.keeps I.bk
theorem Inv.lt (I:Inv X pins σ H s):X.env.locals < s.heap.objs.size:=let ⟨_,hn,_⟩:=I.loc;hn.lt
theorem Inv.sz (I:Inv X pins σ H s):X.s₀.heap.objs.size≤s.heap.objs.size:=Qj I.ok.above (Vi I.lt)
theorem Inv.nofs (I:Inv X pins σ H s) {a:Addr} (h:s.heap.objs.size≤a):a∉X.fs:=fun hb=>by
 obtain ⟨_,o,ho,_⟩:=I.ok.funs.mem hb
 exact absurd (Xd (Qu ho) (Qj I.sz h)) (Zc _)
theorem Inv.cne (I:Inv X pins σ H s):∀x c,X.env.cells.lookup x=some c→c≠X.env.locals:=fun x c e z=>by
 obtain ⟨v,o,ho,hd⟩:=I.cell x c e
 obtain ⟨m,⟨o',es,ep,ho',hd',_⟩,_⟩:=I.loc
 rw [z,ho'] at ho;cases ho;rw [hd'] at hd;cases hd
theorem Inv.funs (I:Inv X pins σ H s):s.heap.FunFrames X.base X.outer:=by
 have all:∀(l:List Env),(∀b∈frs l,b∈X.fs)→X.s₀.heap.FunFrames X.base l→s.heap.FunFrames X.base l:=by
  intro l
  induction l with
  | nil=>intro _ _;trivial
  | cons env r ih=>
   intro hs hl
   obtain ⟨hk,⟨L,o,hf,hn,ho,hd⟩,hr⟩:=hl
   have hL:L∈X.fs:=hs L (by unfold frs;rw [Yn,hf];exact Qs)
   obtain ⟨sl,e⟩:=I.base.slot L o ho (I.ok.frf L hL) hL fun z=>I.ok.exfs L z hL
   exact ⟨hk,⟨L,_,hf,hn,e,hd⟩,ih (fun b hb=>hs b (by unfold frs;rw [Yn,hf];exact Qp _ hb)) hr⟩
 exact all X.outer (fun _ hb=>hb) I.ok.funs
theorem Inv.stack (I:Inv X pins σ H s):s.heap.FunFrames X.base X.stack:=by
 rcases I.ok.stk with e | ⟨e,hf⟩
 ·rw [e];exact I.funs
 ·rw [e]
  obtain ⟨m,hn,_⟩:=I.loc
  refine .cons (by rw [I.ok.kind];decide) hf hn ?_ I.funs
  exact Heap.get?_none_of_le (Qj I.ok.bsz I.ok.above)
theorem Inv.stkSub (I:Inv X pins σ H s):∀b∈frs X.stack,b∈X.env.locals::X.fs:=fun b hb=>by
 rcases I.ok.stk with e | ⟨e,hf⟩
 ·rw [e] at hb;exact Qp _ hb
 ·rw [e] at hb
  unfold frs at hb
  rw [Yn,hf] at hb
  exact hb
theorem Inv.stkFree (I:Inv X pins σ H s):∀b∈frs X.stack,H b=none:=fun b hb=>by
 rcases Qy.mp (I.stkSub b hb) with e | hb
 ·rw [e];exact I.free
 ·obtain ⟨_,o,ho,_⟩:=I.ok.funs.mem hb
  exact I.base.free b o ho (I.ok.frf b hb) fun z=>I.ok.exfs b z hb
theorem Inv.step {g':Array GenState} {t':Nat} {d':Drawn} {ch:List Addr} (I:Inv X pins σ H s)
  (hch:∀b∈ch,(b∈X.ex∨X.s₀.heap.objs.size≤b)∧b≠X.env.locals∧(∀x c,X.env.cells.lookup x=some c→c≠b)∧∀p∈X.pn++pins,p.1≠b)
  (keep:∀b o,b≠X.env.locals→b∉X.fs→b∉ch→s.heap.get? b=some o→H b=none→h'.get? b=some o)
  (slot:∀b o,b≠X.env.locals→b∈X.fs→b∉ch→s.heap.get? b=some o→H b=none→∃sl,h'.get? b=some {o with slots:=sl}) (free:∀b o,b∉ch→s.heap.get? b=some o→H b=none→H' b=none)
  (there:∀b o,b∉ch→s.heap.get? b=some o→∃o',h'.get? b=some o')
  (tups:∀b xs,H b=some (.tup xs)→H' b=some (.tup xs)) (frzs:∀b o u,H b=some (.frz o u)→H' b=some (.frz o u)) (tbls:∀b ps,H b=some (.tbl ps)→∃more,H' b=some (.tbl (ps++more)))
  (ns:∀m,s.heap.Ns X.env.locals m→h'.Ns X.env.locals m) (hok:HOk X.prog X.w H' h') (hg:AllBare g'):
  Inv X pins σ H' {s with heap:=h',gens:=g',drawn:=d',toks:=t'}:=by
 have neL:∀b o,X.s₀.heap.get? b=some o→b≠X.env.locals:=fun b o e=>Xg (Xd (Qu e) I.ok.above)
 have neC:∀b o,X.s₀.heap.get? b=some o→b∉X.ex→b∉ch:=fun b o e hx hb=>by
  rcases (hch b hb).1 with z | z
  ·exact hx z
  ·exact absurd (Xd (Qu e) z) (Zc _)
 have cellK:∀x c,X.env.cells.lookup x=some c→∀v,s.heap.IsCell c v→h'.IsCell c v:=fun x c e v ⟨o,ho,hd⟩=>by
  have nch:c∉ch:=fun z=>(hch c z).2.2.1 x c e rfl
  by_cases hc:c∈X.fs
  ·obtain ⟨sl,q⟩:=slot c o (I.cne x c e) hc nch ho (I.freeC x c e)
   exact ⟨_,q,hd⟩
  ·exact ⟨o,keep c o (I.cne x c e) hc nch ho (I.freeC x c e),hd⟩
 refine ⟨I.ok,I.os,hg,⟨fun b o e n hb hx=>?_,fun b o e n hb hx=>?_,fun b o e n hx=>?_,fun b o e hx=>?_,fun b xs e=>tups b xs (I.base.tups b xs e),fun b o xs e=>frzs b o xs (I.base.frzs b o xs e),fun b ps e=>?_⟩,?_,fun x c e=>?_,?_,fun x c e=>?_,fun p hp=>?_,hok,I.len⟩
 ·exact keep b o (neL b o e) hb (neC b o e hx) (I.base.keep b o e n hb hx) (I.base.free b o e n hx)
 ·obtain ⟨sl,e1⟩:=I.base.slot b o e n hb hx
  obtain ⟨sl',e2⟩:=slot b _ (neL b o e) hb (neC b o e hx) e1 (I.base.free b o e n hx)
  exact ⟨sl',e2⟩
 ·obtain ⟨o',e1⟩:=I.base.there b o e hx
  exact free b o' (neC b o e hx) e1 (I.base.free b o e n hx)
 ·obtain ⟨o',e1⟩:=I.base.there b o e hx
  exact there b o' (neC b o e hx) e1
 ·obtain ⟨m1,e1⟩:=I.base.tbls b ps e
  obtain ⟨m2,e2⟩:=tbls b _ e1
  exact ⟨m1++m2,by rw [e2,Wx]⟩
 ·obtain ⟨m,hn,hl⟩:=I.loc
  refine ⟨m,ns m hn,fun i x v e1 e2 e3=>?_⟩
  obtain ⟨u,r,l⟩:=hl i x v e1 e2 e3
  refine ⟨u,r,?_⟩
  rcases l with l | ⟨k,c,e,z⟩
  ·exact .inl l
  ·exact .inr ⟨k,c,e,cellK x c e _ z⟩
 ·obtain ⟨v,z⟩:=I.cell x c e
  exact ⟨v,cellK x c e v z⟩
 ·obtain ⟨m,⟨o,_,_,ho,_⟩,_⟩:=I.loc
  exact free _ o (fun z=>(hch _ z).2.1 rfl) ho I.free
 ·obtain ⟨v,o,ho,hd⟩:=I.cell x c e
  exact free c o (fun z=>(hch c z).2.2.1 x c e rfl) ho (I.freeC x c e)
 ·obtain ⟨e,n,ne,nf,d⟩:=I.pin p hp
  have nch:p.1∉ch:=fun z=>(hch p.1 z).2.2.2 p hp rfl
  exact ⟨keep p.1 p.2 ne nf nch e n,free p.1 p.2 nch e n,ne,nf,d⟩
theorem Inv.un {t':Nat} (I:Inv X pins σ H s) (u:Un X.fs [] H H' s.heap h') (hok:HOk X.prog X.w H' h'):Inv X pins σ H' {s with heap:=h',toks:=t'}:=by
 obtain ⟨m,⟨o,es,ep,ho,r⟩,_⟩:=id I.loc
 obtain ⟨sl,hL⟩:=u.any ho I.free (by simp)
 exact I.step (g':=s.gens) (d':=s.drawn) (ch:=[]) (fun _ z=>nomatch z) (fun b o _ hb _ e n=>u.keep b o e n hb (by simp)) (fun b o _ hb _ e n=>u.slot b o e n hb (by simp)) (fun b o _ e n=>u.free b o e n (by simp)) (fun b o _ e=>u.there b o e (by simp)) u.tups u.frzs u.tbls (fun m' hm=>by
  obtain ⟨o',es',ep',ho',r'⟩:=hm
  rw [ho] at ho';cases ho'
  exact ⟨_,es',ep',hL,r'⟩) hok I.bare
theorem Inv.call {g':Array GenState} {t':Nat} {d':Drawn} {ch:List Addr} (I:Inv X pins σ H s) (u:Un (frs X.stack) ch H H' s.heap h') (hok:HOk X.prog X.w H' h') (hg:AllBare g')
  (hch:∀b∈ch,(b∈X.ex∨X.s₀.heap.objs.size≤b)∧b≠X.env.locals∧(∀x c,X.env.cells.lookup x=some c→c≠b)∧∀p∈X.pn++pins,p.1≠b):
  Inv X pins σ H' {s with heap:=h',gens:=g',drawn:=d',toks:=t'}:=by
 obtain ⟨m,⟨o,es,ep,ho,r⟩,_⟩:=id I.loc
 obtain ⟨sl,hL⟩:=u.any ho I.free fun z=>(hch _ z).2.1 rfl
 exact I.step (ch:=ch) hch (fun b o hL hb hc e n=>u.keep b o e n (fun z=>(Qy.mp (I.stkSub b z)).elim hL hb) hc) (fun b o _ _ hc e n=>u.any e n hc) (fun b o hc e n=>u.free b o e n hc) (fun b o hc e=>u.there b o e hc) u.tups u.frzs u.tbls (fun m' hm=>by
  obtain ⟨o',es',ep',ho',r'⟩:=hm
  rw [ho] at ho';cases ho'
  exact ⟨_,es',ep',hL,r'⟩) hok hg
theorem Inv.turned {t':Nat} {it:Addr} (I:Inv X pins σ H s) (k:∀b o,b≠it→s.heap.get? b=some o→h'.get? b=some o) (hn:H it=none) (hL:it≠X.env.locals)
  (h1:it∈X.ex∨X.s₀.heap.objs.size≤it) (h2:∀x c,X.env.cells.lookup x=some c→c≠it) (h3:∀p∈X.pn++pins,p.1≠it):Inv X pins σ H {s with heap:=h',toks:=t'}:=by
 have nit:∀b u,H b=some u→b≠it:=fun b u e z=>by rw [z,hn] at e;cases e
 refine I.step (g':=s.gens) (d':=s.drawn) (ch:=[it]) (fun b hb=>?_) (fun b o _ _ hc e _=>k b o (fun z=>hc (by simp [z])) e) (fun b o _ _ hc e _=>⟨o.slots,k b o (fun z=>hc (by simp [z])) e⟩) (fun _ _ _ _ n=>n)
  (fun b o hc e=>⟨o,k b o (fun z=>hc (by simp [z])) e⟩) (fun _ _ e=>e) (fun _ _ _ e=>e) (fun b ps e=>⟨#[],by rw [e];simp⟩) (fun m hm=>?_) (fun b u e=>?_) I.bare
 ·have e:b=it:=by simpa using hb
  subst e
  exact ⟨h1,hL,h2,h3⟩
 ·obtain ⟨o,es,ep,ho,r⟩:=hm
  exact ⟨o,es,ep,k _ o (Ne.symm hL) ho,r⟩
 ·refine (I.hok b u e).stay (fun c v hc q=>k c v ?_ q) (fun _ q=>q) fun _ _ q=>q
  rcases hc with z | z
  ·rw [z];exact nit b u e
  ·exact nit c _ z
theorem Inv.tok (I:Inv X pins σ H s) (t:Nat):Inv X pins σ H {s with toks:=t}:=I.un (h':=s.heap) (t':=t) Un.refl I.hok
theorem Inv.kept {t':Nat} (I:Inv X pins σ H s) (k:∀b u,s.heap.get? b=some u→h'.get? b=some u):Inv X pins σ H {s with heap:=h',toks:=t'}:=I.un (Un.kept k) (I.hok.kept k)
theorem Inv.laid {a:Addr} {o:HO} {t':Nat} (I:Inv X pins σ H s) (k:∀b u,s.heap.get? b=some u→h'.get? b=some u) (hp:s.heap.objs.size≤a) (new:a0Q X.prog X.w (upd H a o) h' a o):
  Inv X pins σ (upd H a o) {s with heap:=h',toks:=t'}:=I.un (Un.laid k hp (I.hok.fresh hp)) (I.hok.laid k hp new)
theorem Inv.write {x e:Addr} {o:HO} {t':Nat} (I:Inv X pins σ H s) (mu:Mut (H x)) (he:e=x∨H e=some (.own x)) (k:∀b u,b≠e→s.heap.get? b=some u→h'.get? b=some u) (heo:∃u,h'.get? e=some u)
  (new:a0Q X.prog X.w (upd H x o) h' x o):Inv X pins σ (upd H x o) {s with heap:=h',toks:=t'}:=I.un (Un.write mu he k heo) (I.hok.write mu he k heo new)
theorem Inv.pins_of {pins':List (Addr×Obj)} (I:Inv X pins σ H s) (h:∀p∈pins',s.heap.get? p.1=some p.2∧H p.1=none∧p.1≠X.env.locals∧p.1∉X.fs∧∀v,p.2.data≠.cell v):Inv X pins' σ H s:=
 ⟨I.ok,I.os,I.bare,I.base,I.loc,I.cell,I.free,I.freeC,fun p hp=>(Xe.mp hp).elim (fun z=>I.pin p (Yy _ z)) (h p),I.hok,I.len⟩
theorem a7v {N:List Str} (hN:N.Nodup) {i j:Nat} {x:Str} (a:N[i]?=some x) (b:N[j]?=some x):i=j:=by
 obtain ⟨h1,e1⟩:=Qm.mp a
 obtain ⟨h2,e2⟩:=Qm.mp b
 exact (Zn hN).mp (e1.trans e2.symm)
theorem a5G {M:Model} {A:Around} {E:Value→Shared→Prop} {i:Nat} {x:Str} {v:V} {u:Value} {Q:Unit→Shared→Prop} (I:Inv X pins σ H s) (hN:X.N.Nodup) (hi:X.N[i]?=some x) (hx:Loc X.env.scope x) (r:a0H v u)
  (h:∀s',Inv X pins (σ.set i (some v)) H s'→(∃a,Vj a s.heap s'.heap∧(a=X.env.locals∨X.env.cells.lookup x=some a))→Q () s') (hf:X.fn x=true∨X.env.scope.names.lookup x=some .local:=by first | exact .inl rfl | exact .inr rfl | assumption):wpAny M A (storeName X.env x u) Q E s:=by
 obtain ⟨m,hn,hl⟩:=id I.loc
 have hcls:(X.env.scope.kind == .class || (X.env.scope.kind == .module && X.env.locals != X.env.globals))=false:=by rw [I.ok.kind];rfl
 have hiσ:i < σ.length:=by rw [I.len];exact (Qm.mp hi).1
 have cne:=I.cne
 have tracked:∀{a:Addr} {h':Heap},(∃o,s.heap.get? a=some o∧H a=none)→Vj a s.heap h'→HOk X.prog X.w H h':=fun {a h'} ha hs b ob e=>by
  obtain ⟨_,_,hfree⟩:=ha
  refine (I.hok b ob e).stay (fun c w' hc q=>(hs.2 c ?_).trans q) (fun _ q=>q) fun _ _ q=>q
  rintro rfl
  rcases hc with rfl | hc
  ·rw [hfree] at e;cases e
  ·rw [hfree] at hc;cases hc
 rcases hx with hk | hk
 ·refine wpAny_storeName_local hk hn (fun h' hn' hs=>?_) hcls
  obtain ⟨oL,_,_,hoL,_⟩:=id hn
  refine h _ ⟨I.ok,I.os,I.bare,⟨fun b o e n hb hx=>?_,fun b o e n hb hx=>?_,I.base.free,fun b o e hx=>?_,I.base.tups,I.base.frzs,I.base.tbls⟩,⟨_,hn',fun j y v' e1 e2 e3=>?_⟩,fun y c e=>?_,I.free,I.freeC,fun p hp=>?_,tracked ⟨oL,hoL,I.free⟩ hs,by simpa using I.len⟩ ⟨_,hs,.inl rfl⟩
  ·exact (hs.2 b (Xg (Xd (Qu e) I.ok.above))).trans (I.base.keep b o e n hb hx)
  ·obtain ⟨sl,e1⟩:=I.base.slot b o e n hb hx
   exact ⟨sl,(hs.2 b (Xg (Xd (Qu e) I.ok.above))).trans e1⟩
  ·obtain ⟨o',e1⟩:=I.base.there b o e hx
   exact ⟨o',(hs.2 b (Xg (Xd (Qu e) I.ok.above))).trans e1⟩
  ·by_cases hj:j=i
   ·subst hj
    rw [hi] at e1;cases e1
    rw [Wd hiσ] at e2
    cases e2
    exact ⟨u,r,.inl ⟨hk,by simp⟩⟩
   ·rw [Wo (Ne.symm hj)] at e2
    obtain ⟨u',r',q⟩:=hl j y v' e1 e2 e3
    refine ⟨u',r',?_⟩
    rcases q with ⟨k,e⟩ | ⟨k,c,e,z⟩
    ·refine .inl ⟨k,?_⟩
     have:y≠x:=fun e=>hj (a7v hN e1 (e ▸ hi))
     simp [this,e]
    ·exact .inr ⟨k,c,e,z.sameBut hs (cne y c e)⟩
  ·obtain ⟨w',z⟩:=I.cell y c e
   exact ⟨w',z.sameBut hs (cne y c e)⟩
  ·obtain ⟨e,n,ne,nf,d⟩:=I.pin p hp
   exact ⟨(hs.2 p.1 ne).trans e,n,ne,nf,d⟩
 ·have hfn:X.fn x=true:=by
   rcases hf with z | z
   ·exact z
   ·rw [z] at hk;cases hk
  obtain ⟨c,hc⟩:=I.ok.has x (.inl hk)
  obtain ⟨w',z⟩:=I.cell x c hc
  refine wpAny_storeName_cell I.ok.kind hk hc z (fun h' hc' hs=>?_)
  obtain ⟨oc,hoc,hocd⟩:=id z
  refine h {s with heap:=h'} ⟨I.ok,I.os,I.bare,⟨fun b o e n hb hx=>?_,fun b o e n hb hx=>?_,I.base.free,fun b o e hx=>?_,I.base.tups,I.base.frzs,I.base.tbls⟩,⟨m,hn.sameBut hs (Ne.symm (cne x c hc)),fun j y v' e1 e2 e3=>?_⟩,fun y c' e=>?_,I.free,I.freeC,fun p hp=>?_,tracked ⟨oc,hoc,I.freeC x c hc⟩ hs,by simpa using I.len⟩ ⟨c,hs,.inr hc⟩
  ·exact (hs.2 b (Xg (Xd (Qu e) (I.ok.cab x c hfn hc)))).trans (I.base.keep b o e n hb hx)
  ·obtain ⟨sl,e1⟩:=I.base.slot b o e n hb hx
   exact ⟨sl,(hs.2 b (Xg (Xd (Qu e) (I.ok.cab x c hfn hc)))).trans e1⟩
  ·obtain ⟨o',e1⟩:=I.base.there b o e hx
   exact ⟨o',(hs.2 b (Xg (Xd (Qu e) (I.ok.cab x c hfn hc)))).trans e1⟩
  ·by_cases hj:j=i
   ·subst hj
    rw [hi] at e1;cases e1
    rw [Wd hiσ] at e2
    cases e2
    exact ⟨u,r,.inr ⟨.inl hk,c,hc,hc'⟩⟩
   ·rw [Wo (Ne.symm hj)] at e2
    obtain ⟨u',r',q⟩:=hl j y v' e1 e2 e3
    refine ⟨u',r',?_⟩
    rcases q with q | ⟨k,c',e,z'⟩
    ·exact .inl q
    ·refine .inr ⟨k,c',e,z'.sameBut hs ?_⟩
     rintro rfl
     exact hj (a7v hN e1 (I.ok.inj _ _ _ e hc ▸ hi))
  ·by_cases hcc:c'=c
   ·subst hcc;exact ⟨_,hc'⟩
   ·obtain ⟨w2,z2⟩:=I.cell y c' e
    exact ⟨w2,z2.sameBut hs hcc⟩
  ·obtain ⟨e,n,ne,nf,d⟩:=I.pin p hp
   refine ⟨(hs.2 p.1 ?_).trans e,n,ne,nf,d⟩
   intro q
   rw [q,hoc] at e
   have q':oc=p.2:=Option.some.inj e
   exact d w' (by rw [←q'];exact hocd)
theorem a4N {M:Model} {A:Around} {E:Value→Shared→Prop} {i:Nat} {x:Str} {v:V} {u:Value} {Q:Unit→Shared→Prop} (I:Inv X pins σ H s) (hN:X.N.Nodup) (hi:X.N[i]?=some x) (hx:Loc X.env.scope x) (r:a0H v u)
  (h:∀s',Inv X pins (σ.set i (some v)) H s'→Q () s') (hf:X.fn x=true∨X.env.scope.names.lookup x=some .local:=by first | exact .inl rfl | exact .inr rfl | assumption):wpAny M A (storeName X.env x u) Q E s:=
 a5G I hN hi hx r (fun s' I' _=>h s' I') hf
theorem Inv.call' {s':Shared} {ch:List Addr} (I:Inv X pins σ H s) (ho:s'.os=s.os) (u:Un (frs X.stack) ch H H' s.heap s'.heap) (hok:HOk X.prog X.w H' s'.heap) (hg:AllBare s'.gens)
  (hch:∀b∈ch,(b∈X.ex∨X.s₀.heap.objs.size≤b)∧b≠X.env.locals∧(∀x c,X.env.cells.lookup x=some c→c≠b)∧∀p∈X.pn++pins,p.1≠b):Inv X pins σ H' s':=by
 obtain ⟨h',g',d',t',o'⟩:=s'
 have e:o'=s.os:=ho
 subst e
 exact I.call (g':=g') (t':=t') (d':=d') u hok hg hch
end
abbrev XK:=Value→Option Addr→Hp→Prop
abbrev St:=List (Option V)
abbrev VK:=V→Hp→Prop
abbrev TE:=St→Hp→VK→Prop
abbrev TT:=St→Hp→(Bool→Hp→Prop)→Prop
abbrev TA:=St→Hp→(List V→Hp→Prop)→Prop
structure a6d where
 nx:St→Hp→Prop
 rt:VK
 bk:St→Hp→Prop:=fun _ _=>False
 ct:St→Hp→Prop:=fun _ _=>False
abbrev TS:=a6d→St→Hp→Prop
def EP (X:Cx) (pins:List (Addr×Obj)) (σ:St) (Q:VK) (u:Value) (s':Shared):Prop:=∃v H',Inv X pins σ H' s'∧a0H v u∧Q v H'
def TP (X:Cx) (pins:List (Addr×Obj)) (σ:St) (Q:Bool→Hp→Prop) (b:Bool) (s':Shared):Prop:=∃H',Inv X pins σ H' s'∧Q b H'
def AP (X:Cx) (pins:List (Addr×Obj)) (σ:St) (Q:List V→Hp→Prop) (us:List Value) (s':Shared):Prop:=∃vs H',Inv X pins σ H' s'∧a0I vs us∧Q vs H'
def SP (X:Cx) (pins:List (Addr×Obj)) (D:a6d) (f:Flow) (s':Shared):Prop:=
 match f with
 | .next=>∃σ' H',Inv X pins σ' H' s'∧D.nx σ' H'
 | .brk=>∃σ' H',Inv X pins σ' H' s'∧D.bk σ' H'
 | .cont=>∃σ' H',Inv X pins σ' H' s'∧D.ct σ' H'
 | .ret u=>∃v σ' H',Inv X pins σ' H' s'∧a0H v u∧D.rt v H'
def PE (X:Cx) (e:Expr) (t:TE):Prop:=
 ∀(pins:List (Addr×Obj)) (s:Shared) (σ:St) (H:Hp) (Q:VK),Inv X pins σ H s→t σ H Q→wpAny (model X.prog X.w) X.A (eval e X.env) (EP X pins σ Q) X.xe s
def PT (X:Cx) (e:Expr) (t:TT):Prop:=
 ∀(pins:List (Addr×Obj)) (s:Shared) (σ:St) (H:Hp) (Q:Bool→Hp→Prop),Inv X pins σ H s→t σ H Q→wpAny (model X.prog X.w) X.A (isTrue e X.env (eval e X.env)) (TP X pins σ Q) X.xe s
def PW (X:Cx) (e:Expr) (t:TT):Prop:=
 ∀(whole:Sem Value) (pins:List (Addr×Obj)) (s:Shared) (σ:St) (H:Hp) (Q:Bool→Hp→Prop),Inv X pins σ H s→t σ H Q→wpAny (model X.prog X.w) X.A (isTrue e X.env whole) (TP X pins σ Q) X.xe s
theorem PW.pt {X:Cx} {e:Expr} {t:TT} (h:PW X e t):PT X e t:=h _
def PA (X:Cx) (es:List Expr) (t:TA):Prop:=
 ∀(pos:Pos) (pins:List (Addr×Obj)) (s:Shared) (σ:St) (H:Hp) (Q:List V→Hp→Prop),Inv X pins σ H s→t σ H Q→wpAny (model X.prog X.w) X.A (spliced (backTo pos (starEach es X.env))) (AP X pins σ Q) X.xe s
def PS (X:Cx) (st:Stmt) (t:TS):Prop:=
 ∀(pins:List (Addr×Obj)) (s:Shared) (σ:St) (H:Hp) (D:a6d),Inv X pins σ H s→t D σ H→wpAny (model X.prog X.w) X.A (exec st X.env) (SP X pins D) X.xe s
def PSs (X:Cx) (st:List Stmt) (t:TS):Prop:=
 ∀(pins:List (Addr×Obj)) (s:Shared) (σ:St) (H:Hp) (D:a6d),Inv X pins σ H s→t D σ H→wpAny (model X.prog X.w) X.A (execs st X.env) (SP X pins D) X.xe s
theorem thn {α:Type} {t:Sem α} {Q Q':α→Shared→Prop} {M:Model} {A:Around} {E:Value→Shared→Prop} {s:Shared} (h:wpAny M A t Q E s) (hQ:∀a s,Q a s→Q' a s):wpAny M A t Q' E s:=wpAny_mono h hQ fun _ _ x=>x
end L2
namespace L2
open PySem PySem.Spec PyProof.Rows
section
variable {X:Cx}
theorem bin {a b:Expr} {ta tb:TE} (ha:PE X a ta) (hb:PE X b tb) {pins:List (Addr×Obj)} {s:Shared} {σ:St} {H:Hp} {R:V→V→Hp→Prop} (I:Inv X pins σ H s) (h:ta σ H fun x H1=>tb σ H1 fun y H2=>R x y H2)
  {α:Type} {Q:α→Shared→Prop} {f:Value→Value→Sem α}
  (hf:∀v u s2 x y H2,Inv X pins σ H2 s2→a0H x v→a0H y u→R x y H2→wpAny (model X.prog X.w) X.A (f v u) Q X.xe s2):
  wpAny (model X.prog X.w) X.A (eval a X.env) (fun v s₁=>wpAny (model X.prog X.w) X.A (eval b X.env) (fun u s₂=>wpAny (model X.prog X.w) X.A (f v u) Q X.xe s₂) X.xe s₁) X.xe s:=by
 refine thn (ha pins s σ H _ I h) fun v s1 ⟨x,H1,I1,r1,q1⟩=>?_
 refine thn (hb pins s1 σ H1 _ I1 q1) fun u s2 ⟨y,H2,I2,r2,q2⟩=>?_
 exact hf v u s2 x y H2 I2 r1 r2 q2
def a0l (i:Nat):TE:=fun σ H Q=>∃v,σ[i]?=some (some v)∧Q v H
def tC (v:V):TE:=fun _ H Q=>Q v H
theorem b7d {i:Nat} {x:Str} {pos:Pos} (hN:X.N[i]?=some x) (hv:Vis X.env.scope x) (hd:(x == ("__debug__":Str))=false:=by decide) (hcd:(x == ("__classdict__":Str))=false:=by decide):PE X (.Name x pos) (a0l i):=by
 intro pins s σ H Q I h
 obtain ⟨v,e,h⟩:=h
 obtain ⟨m,hn,hl⟩:=I.loc
 obtain ⟨u,r,l⟩:=hl i x v hN e hv
 have fin:EP X pins σ Q u s:=⟨v,H,I,r,h⟩
 rcases l with ⟨hk,hm⟩ | ⟨hk,c,hc,hcell⟩
 ·exact wpAny_Name (wpAny_loadName_local I.ok.kind hk hn hm fin) hd
 ·rcases hk with hk | hk
  ·exact wpAny_Name (wpAny_loadName_cell I.ok.kind hk hc hcell fin) hd
  ·exact wpAny_Name (wpAny_loadName_free I.ok.kind hk hc hcell fin hcd) hd
theorem b8U {i j pos}:PE X (.Constant (.int i) j pos) (tC (.int i)):=fun _ _ _ H _ I h=>wpAny_Constant_int ⟨.int i,H,I.tok _,⟨_,rfl⟩,h⟩
theorem c0j {b j pos}:PE X (.Constant (.bool b) j pos) (tC (.bl b)):=fun _ _ _ H _ I h=>Constant_bool ⟨.bl b,H,I,rfl,h⟩
theorem b7r {j pos}:PE X (.Constant .none j pos) (tC .non):=fun _ _ _ H _ I h=>Constant_none ⟨.non,H,I,rfl,h⟩
theorem b8a {x j pos}:PE X (.Constant (.str x) j pos) (tC (.str x)):=fun _ _ _ H _ I h=>Calls.Constant_str ⟨.str x,H,I.tok _,⟨_,rfl⟩,h⟩
def Gl (X:Cx) (x:Str):Prop:=X.env.kindOf x=some .globalImplicit
theorem a6z {E:Value→Shared→Prop} {pins:List (Addr×Obj)} {s:Shared} {σ:St} {H:Hp} {x:Str} {u:Value} {pos:Pos} {Q:Value→Shared→Prop} (I:Inv X pins σ H s) (hg:Gl X x) (hm:X.mg x=some u) (h:Q u s)
  (hd:(x == ("__debug__":Str))=false:=by decide):wpAny (model X.prog X.w) X.A (eval (.Name x pos) X.env) Q E s:=
 Calls.Name_function_global I.ok.kind hg (Calls.loadGlobal_global (by rw [I.ok.glob];exact I.mod.glob.keeps I.bk) hm h) hd
theorem a2U {E:Value→Shared→Prop} {pins:List (Addr×Obj)} {s:Shared} {σ:St} {H:Hp} {x:Str} {u:Value} {pos:Pos} {Q:Value→Shared→Prop} (I:Inv X pins σ H s) (hg:Gl X x) (hm:X.mg x=none) (hv:bootBuiltins x=some u) (h:Q u s)
  (hn:x≠"__name__":=by decide) (hd:(x == ("__debug__":Str))=false:=by decide):wpAny (model X.prog X.w) X.A (eval (.Name x pos) X.env) Q E s:=by
 obtain ⟨mb,h1,h2⟩:=I.mod.blt
 exact Calls.Name_function_global I.ok.kind hg (Calls.loadGlobal_builtin (by rw [I.ok.glob];exact I.mod.glob.keeps I.bk) hm (by rw [I.ok.blt];exact h1.keeps I.bk) ((h2 x hn).trans hv) h) hd
theorem b4V {x:Str} {v:V} {u:Value} {pos:Pos} (hg:Gl X x) (hm:X.mg x=some u) (r:a0H v u) (hd:(x == ("__debug__":Str))=false:=by decide):PE X (.Name x pos) (tC v):=
 fun _ _ _ H _ I h=>a6z I hg hm ⟨v,H,I,r,h⟩ hd
theorem b5n {x:Str} {v:V} {u:Value} {pos:Pos} (hg:Gl X x) (hm:X.mg x=none) (hv:bootBuiltins x=some u) (r:a0H v u) (hn:x≠"__name__":=by decide) (hd:(x == ("__debug__":Str))=false:=by decide):PE X (.Name x pos) (tC v):=
 fun _ _ _ H _ I h=>a2U I hg hm hv ⟨v,H,I,r,h⟩ hn hd
variable {a b:Expr} {ta tb:TE} {pos:Pos}
def PC (X:Cx) (op:CmpOp) (a b:Expr) (t:TE):Prop:=
 ∀(pins:List (Addr×Obj)) (s:Shared) (σ:St) (H:Hp) (Q:VK),Inv X pins σ H s→t σ H Q→
  wpAny (model X.prog X.w) X.A (eval a X.env) (fun v s₁=>wpAny (model X.prog X.w) X.A (eval b X.env) (fun u s₂=>wpAny (model X.prog X.w) X.A (compareOp op v u) (EP X pins σ Q) X.xe s₂) X.xe s₁) X.xe s
theorem a7F (b:Expr) {op:CmpOp} (h:op≠.In) (h2:op≠.NotIn):behindInMarks op b=false:=by
 have e1:(op == CmpOp.In)=false:=by cases op<;>first | rfl | exact absurd rfl h
 have e2:(op == CmpOp.NotIn)=false:=by cases op<;>first | rfl | exact absurd rfl h2
 cases b<;>simp [behindInMarks,e1,e2]
def tB (t:TE):TT:=fun σ H Q=>t σ H fun x H1=>∃c,x=.bl c∧Q c H1
theorem b8M {op:CmpOp} {t:TE} (h:PC X op a b t) (h1:behindInMarks op b=false:=by first | exact a7F _ (by decide) (by decide) | rfl):PE X (.Compare a [op] [b] pos) t:=fun pins s σ H Q I hw=>wpAny_Compare1 (h pins s σ H Q I hw) h1
theorem b7b {op:CmpOp} {t:TE} (h:PC X op a b t) (h1:behindInMarks op b=false:=by first | exact a7F _ (by decide) (by decide) | rfl):PT X (.Compare a [op] [b] pos) (tB t):=by
 intro pins s σ H Q I hw
 refine wpAny_isTrue_Compare1 (thn (h pins s σ H _ I hw) fun v s1 h1=>thn h1 fun u s2 h2=>thn h2 fun c s3 ⟨x,H1,I1,r1,q1⟩=>?_) h1
 obtain ⟨d,rfl,q⟩:=q1
 cases r1
 exact wpAny_truthy_bool ⟨H1,I1,q⟩
theorem b6U {e:Expr} {t:TE} (h:PE X e t) (he:∀whole,isTrue e X.env whole=(do let v ←whole;standAt e.pos;holding [v] (truthy v)):=by intro _;rfl):PT X e (tB t):=by
 intro pins s σ H Q I hw
 refine isTrue_plain (thn (h pins s σ H _ I hw) fun v s1 ⟨x,H1,I1,r1,q1⟩=>?_) (he _)
 obtain ⟨d,rfl,q⟩:=q1
 cases r1
 exact wpAny_truthy_bool ⟨H1,I1,q⟩
variable {tA tB':TT} {a6e:List Expr}
def b6s (t u:TT):TT:=fun σ H Q=>t σ H fun c H1=>if c=true then u σ H1 Q else Q false H1
def tOr (t u:TT):TT:=fun σ H Q=>t σ H fun c H1=>if c=true then Q true H1 else u σ H1 Q
def b3D (t:TT):TT:=fun σ H Q=>t σ H fun c H1=>Q (!c) H1
theorem b4n (ha:PT X a tA):PW X (.BoolOp .And [a] pos) tA:=by
 intro wh pins s σ H Q I h
 refine isTrue_and (thn (ha pins s σ H Q I h) fun c s1 e=>?_)
 cases c with
 | true=>exact isTrue_and_nil e
 | false=>exact e
theorem b8t (ha:PT X a tA):PW X (.BoolOp .Or [a] pos) tA:=by
 intro wh pins s σ H Q I h
 refine isTrue_or (thn (ha pins s σ H Q I h) fun c s1 e=>?_)
 cases c with
 | false=>exact isTrue_or_nil e
 | true=>exact e
theorem b9T (ha:PT X a tA) (hb:PW X (.BoolOp .And (b::a6e) pos) tB'):PW X (.BoolOp .And (a::b::a6e) pos) (b6s tA tB'):=by
 intro wh pins s σ H Q I h
 refine isTrue_and (thn (ha pins s σ H _ I h) fun c s1 ⟨H1,I1,q1⟩=>?_)
 cases c with
 | true=>exact hb wh pins s1 σ H1 Q I1 q1
 | false=>exact ⟨H1,I1,q1⟩
theorem c0x (ha:PT X a tA) (hb:PW X (.BoolOp .Or (b::a6e) pos) tB'):PW X (.BoolOp .Or (a::b::a6e) pos) (tOr tA tB'):=by
 intro wh pins s σ H Q I h
 refine isTrue_or (thn (ha pins s σ H _ I h) fun c s1 ⟨H1,I1,q1⟩=>?_)
 cases c with
 | true=>exact ⟨H1,I1,q1⟩
 | false=>exact hb wh pins s1 σ H1 Q I1 q1
theorem b7u (ha:PT X a tA):PT X (.UnaryOp .Not a pos) (b3D tA):=by
 intro pins s σ H Q I h
 exact isTrue_not (ha pins s σ H (fun c H1=>Q (!c) H1) I h)
def b6c (ta tb:TE):TE:=fun σ H Q=>ta σ H fun x H1=>∃c,x=.bl c∧if c=true then tb σ H1 Q else Q (.bl false) H1
def c2a (ta tb:TE):TE:=fun σ H Q=>ta σ H fun x H1=>∃c,x=.bl c∧if c=true then Q (.bl true) H1 else tb σ H1 Q
def b4K (ta:TE):TE:=fun σ H Q=>ta σ H fun x H1=>∃c,x=.bl c∧Q (.bl (!c)) H1
theorem b7F {op} {t:TE} (h:PE X a t):PE X (.BoolOp op [a] pos) t:=fun pins s σ H Q I hw=>BoolOp_one (h pins s σ H Q I hw)
theorem b9v (ha:PE X a ta) (hb:PE X (.BoolOp .And (b::a6e) pos) tb):PE X (.BoolOp .And (a::b::a6e) pos) (b6c ta tb):=by
 intro pins s σ H Q I h
 refine BoolOp_and (thn (ha pins s σ H _ I h) fun v s1 ⟨x,H1,I1,r1,q1⟩=>?_)
 obtain ⟨c,rfl,q1⟩:=q1
 cases r1
 refine wpAny_truthy_bool ?_
 cases c with
 | true=>exact hb pins s1 σ H1 Q I1 q1
 | false=>exact ⟨.bl false,H1,I1,rfl,q1⟩
theorem c0G (ha:PE X a ta) (hb:PE X (.BoolOp .Or (b::a6e) pos) tb):PE X (.BoolOp .Or (a::b::a6e) pos) (c2a ta tb):=by
 intro pins s σ H Q I h
 refine BoolOp_or (thn (ha pins s σ H _ I h) fun v s1 ⟨x,H1,I1,r1,q1⟩=>?_)
 obtain ⟨c,rfl,q1⟩:=q1
 cases r1
 refine wpAny_truthy_bool ?_
 cases c with
 | false=>exact hb pins s1 σ H1 Q I1 q1
 | true=>exact ⟨.bl true,H1,I1,rfl,q1⟩
theorem b8d (ha:PE X a ta):PE X (.UnaryOp .Not a pos) (b4K ta):=by
 intro pins s σ H Q I h
 refine UnaryOp_ (thn (ha pins s σ H _ I h) fun v s1 ⟨x,H1,I1,r1,q1⟩=>?_)
 obtain ⟨c,rfl,q1⟩:=q1
 cases r1
 exact not_of (wpAny_truthy_bool ⟨.bl (!c),H1,I1,rfl,q1⟩)
def tIf (t:TT) (ta tb:TE):TE:=fun σ H Q=>t σ H fun c H1=>if c=true then ta σ H1 Q else tb σ H1 Q
theorem b1C {c:Expr} (hc:PT X c tA) (ha:PE X a ta) (hb:PE X b tb):PE X (.IfExp c a b pos) (tIf tA ta tb):=by
 intro pins s σ H Q I h
 refine wpAny_IfExp (thn (hc pins s σ H _ I h) fun d s1 ⟨H1,I1,q1⟩=>?_)
 cases d with
 | true=>exact ha pins s1 σ H1 Q I1 q1
 | false=>exact hb pins s1 σ H1 Q I1 q1
end
end L2
namespace L2
open PySem PySem.Spec PyProof.Rows
def SqL (K:Qd) (H:Hp) (a:Addr) (xs:List V):Prop:=
 Rd H a (.lst xs)∨
  ∃(o:Obj) (its:Array Value) (n:Nat),K.lookup a=some o∧o.cls=.type "list"∧o.dict=none∧o.data=.seq its n∧its.size≤sizeLine∧a0I xs its.toList
def SqT (K:Qd) (H:Hp) (a:Addr) (xs:List V):Prop:=
 Rd H a (.tup xs)∨
  ∃(o:Obj) (its:Array Value) (n:Nat),K.lookup a=some o∧o.cls=.type "tuple"∧o.data=.seq its n∧its.size≤sizeLine∧a0I xs its.toList
def c4s:Value→Option V
 | .none=>some .non
 | .bool b=>some (.bl b)
 | .int i _=>some (.int i)
 | .str x _=>some (.str x)
 | .bytes b _=>some (.byt b)
 | .float b _=>some (.flt b)
 | .ref a=>some (.ref a)
 | .type n=>some (.ty n)
 | _=>none
theorem a0H.abs {x:V} {u:Value} (r:a0H x u):c4s u=some x:=by
 cases x with
 | non=>cases r;rfl
 | bl _=>cases r;rfl
 | int _=>obtain ⟨t,rfl⟩:=r;rfl
 | str _=>obtain ⟨t,rfl⟩:=r;rfl
 | byt _=>obtain ⟨t,rfl⟩:=r;rfl
 | flt _=>obtain ⟨t,rfl⟩:=r;rfl
 | ref _=>cases r;rfl
 | ty _=>cases r;rfl
theorem a0H.inj {x y:V} {u:Value} (r:a0H x u) (q:a0H y u):x=y:=Option.some.inj (r.abs.symm.trans q.abs)
theorem a0I.inj:∀{xs ys:List V} {us:List Value},a0I xs us→a0I ys us→xs=ys
 | _,_,_,.nil,.nil=>rfl
 | _,_,_,.cons r t,.cons r' t'=>by rw [r.inj r',a0I.inj t t']
section
variable {X:Cx} {pins:List (Addr×Obj)} {σ:St} {H:Hp} {s:Shared} {a:Addr} {xs ys:List V}
theorem SqL.of {K:Qd} (h:H a=some (.lst xs)):SqL K H a xs:=.inl (.inl h)
theorem SqT.of {K:Qd} (h:H a=some (.tup xs)):SqT K H a xs:=.inl (.inl h)
theorem Inv.list (I:Inv X pins σ H s) (h:SqL X.K H a xs):∃its:List Value,a0I xs its∧PlainL s.heap a its.toArray∧xs.length≤sizeLine:=by
 rcases h with h | ⟨o,its,n,hk,hc,hd,hs,hz,r⟩
 ·obtain ⟨z,its,n,r,e⟩:=h.ok I.hok
  exact ⟨its,r,⟨_,n,e,rfl,rfl,rfl⟩,z⟩
 ·refine ⟨its.toList,r,⟨o,n,I.kIn a o hk,hc,hd,by simpa using hs⟩,?_⟩
  have e:=r.length
  simp only [Ja] at e
  omega
theorem Inv.tuple (I:Inv X pins σ H s) (h:SqT X.K H a xs):∃its:List Value,a0I xs its∧IsTup s.heap a its.toArray∧xs.length≤sizeLine:=by
 rcases h with h | ⟨o,its,n,hk,hc,hs,hz,r⟩
 ·obtain ⟨z,its,r,p⟩:=h.ok I.hok
  exact ⟨its,r,p,z⟩
 ·refine ⟨its.toList,r,⟨o,I.kIn a o hk,hc,n,by simpa using hs⟩,?_⟩
  have e:=r.length
  simp only [Ja] at e
  omega
theorem Inv.list_inj (I:Inv X pins σ H s) (h:SqL X.K H a xs) (h':SqL X.K H a ys):xs=ys:=by
 obtain ⟨its,r,⟨o,n,e,_,_,d⟩,_⟩:=I.list h
 obtain ⟨its',r',⟨o',n',e',_,_,d'⟩,_⟩:=I.list h'
 rw [e] at e';cases e'
 rw [d] at d'
 injection d' with d1 _
 have:its=its':=by simpa using congrArg Array.toList d1
 subst this
 exact r.inj r'
theorem Inv.tuple_inj (I:Inv X pins σ H s) (h:SqT X.K H a xs) (h':SqT X.K H a ys):xs=ys:=by
 obtain ⟨its,r,⟨o,e,_,n,d⟩,_⟩:=I.tuple h
 obtain ⟨its',r',⟨o',e',_,n',d'⟩,_⟩:=I.tuple h'
 rw [e] at e';cases e'
 rw [d] at d'
 injection d' with d1 _
 have:its=its':=by simpa using congrArg Array.toList d1
 subst this
 exact r.inj r'
end
abbrev Cx.wish (X:Cx) (E:Value→Shared→Prop):Cx:={X with xe:=E}
abbrev Cx.nox (X:Cx):Cx:=X.wish fun _ _=>False
theorem Cx.Ok.wish {X:Cx} (ok:X.Ok) (E:Value→Shared→Prop):(X.wish E).Ok:=
 ⟨ok.mod,ok.kind,ok.glob,ok.blt,ok.above,ok.inj,ok.has,ok.cab,ok.hd,ok.frames,ok.stk,ok.exf,ok.bs,ok.bsz,ok.noex,ok.exfs,ok.funs,ok.frf⟩
theorem Cx.Ok.unwish {X:Cx} {E:Value→Shared→Prop} (ok:(X.wish E).Ok):X.Ok:=
 ⟨ok.mod,ok.kind,ok.glob,ok.blt,ok.above,ok.inj,ok.has,ok.cab,ok.hd,ok.frames,ok.stk,ok.exf,ok.bs,ok.bsz,ok.noex,ok.exfs,ok.funs,ok.frf⟩
section
variable {X:Cx} {pins:List (Addr×Obj)} {σ:St} {H:Hp} {s:Shared} {E:Value→Shared→Prop}
theorem Inv.wish (I:Inv X pins σ H s) (E:Value→Shared→Prop):Inv (X.wish E) pins σ H s:=⟨I.ok.wish E,I.os,I.bare,I.base,I.loc,I.cell,I.free,I.freeC,I.pin,I.hok,I.len⟩
theorem Inv.unwish (I:Inv (X.wish E) pins σ H s):Inv X pins σ H s:=⟨I.ok.unwish,I.os,I.bare,I.base,I.loc,I.cell,I.free,I.freeC,I.pin,I.hok,I.len⟩
theorem SP.unwish {D:a6d} {f:Flow} {s':Shared} (h:SP (X.wish E) pins D f s'):SP X pins D f s':=by
 cases f with
 | next=>obtain ⟨σ',H',I,q⟩:=h;exact ⟨σ',H',I.unwish,q⟩
 | brk=>obtain ⟨σ',H',I,q⟩:=h;exact ⟨σ',H',I.unwish,q⟩
 | cont=>obtain ⟨σ',H',I,q⟩:=h;exact ⟨σ',H',I.unwish,q⟩
 | ret u=>obtain ⟨v,σ',H',I,r,q⟩:=h;exact ⟨v,σ',H',I.unwish,r,q⟩
theorem PSs.nox {st:List Stmt} {t:TS} (h:PSs X.nox st t):PSs X st t:=fun pins s σ H D I hw=>
 wpAny_mono (h pins s σ H D (I.wish _) hw) (fun _ _ q=>q.unwish) fun _ _ z=>False.elim z
end
section
variable {X:Cx} {st:Stmt} {a6e:List Stmt} {t u:TS} {e:Expr} {te:TE} {pos:Pos}
def a1m:TS:=fun D σ H=>D.nx σ H
def a1r (t u:TS):TS:=fun D σ H=>t {D with nx:=u D} σ H
theorem b5U:PSs X [] a1m:=fun _ _ σ H _ I h=>wpAny_execs_nil ⟨σ,H,I,h⟩
theorem b2q (h1:PS X st t) (h2:PSs X a6e u):PSs X (st::a6e) (a1r t u):=by
 intro pins s σ H D I h
 refine wpAny_execs_cons (thn (h1 pins s σ H {D with nx:=u D} I h) fun f s1 q=>?_)
 cases f with
 | next=>
  obtain ⟨σ',H',I',q⟩:=q
  exact h2 pins s1 σ' H' D I' q
 | ret v=>exact q
 | brk=>exact q
 | cont=>exact q
theorem b5E (h1:PS X st t):PSs X [st] t:=by
 intro pins s σ H D I h
 refine wpAny_execs_cons (thn (h1 pins s σ H D I h) fun f s1 q=>?_)
 cases f with
 | next=>exact wpAny_execs_nil q
 | ret v=>exact q
 | brk=>exact q
 | cont=>exact q
theorem Inv.quiet {pins:List (Addr×Obj)} {σ:St} {H:Hp} {s:Shared} (I:Inv X pins σ H s):interactive X.env=false:=by simp [interactive,I.ok.kind]
def a3n (te:TE):TS:=fun D σ H=>te σ H fun _ H1=>D.nx σ H1
theorem b6o (he:PE X e te) (hs:swapsWith e none pos.line X.env=pure false:=by rfl):PS X (.Expr e pos) (a3n te):=by
 intro pins s σ H D I h
 exact wpAny_Expr_any (thn (he pins s σ H _ I h) fun v s1 ⟨x,H1,I1,r1,q1⟩=>⟨σ,H1,I1,q1⟩) I.quiet hs
def a1j (te:TE):TS:=fun D σ H=>te σ H D.rt
theorem b6Q (he:PE X e te):PS X (.Return (some e) pos) (a1j te):=by
 intro pins s σ H D I h
 exact wpAny_Return_some (thn (he pins s σ H _ I h) fun v s1 ⟨x,H1,I1,r1,q1⟩=>⟨x,σ,H1,I1,r1,q1⟩)
def a2T (c:TT) (t u:TS):TS:=fun D σ H=>c σ H fun b H1=>if b=true then t D σ H1 else u D σ H1
theorem c0H {c:Expr} {a b:List Stmt} {tc:TT} (hc:PT X c tc) (ha:PSs X a t) (hb:PSs X b u):PS X (.If c a b pos) (a2T tc t u):=by
 intro pins s σ H D I h
 refine wpAny_If (thn (hc pins s σ H _ I h) fun d s1 ⟨H1,I1,q1⟩=>?_)
 cases d with
 | true=>exact ha pins s1 σ H1 D I1 q1
 | false=>exact hb pins s1 σ H1 D I1 q1
end
abbrev TG:=V→St→Hp→(St→Hp→Prop)→Prop
abbrev TGs:=List V→St→Hp→(St→Hp→Prop)→Prop
def PG (X:Cx) (target:Expr) (t:TG):Prop:=
 ∀(pins:List (Addr×Obj)) (s:Shared) (σ:St) (H:Hp) (v:V) (u:Value) (Q:St→Hp→Prop),Inv X pins σ H s→a0H v u→t v σ H Q→
  wpAny (model X.prog X.w) X.A (assign target X.env u) (fun _ s'=>∃σ' H',Inv X pins σ' H' s'∧Q σ' H') X.xe s
def PGs (X:Cx) (ts:List Expr) (t:TGs):Prop:=
 ∀(pins:List (Addr×Obj)) (s:Shared) (σ:St) (H:Hp) (vs:List V) (us:List Value) (Q:St→Hp→Prop),Inv X pins σ H s→a0I vs us→t vs σ H Q→
  wpAny (model X.prog X.w) X.A (assignInOrder ((assignEach ts X.env).map (·.2)) us) (fun _ s'=>∃σ' H',Inv X pins σ' H' s'∧Q σ' H') X.xe s
abbrev c0z:=V→V→V→Hp→(Hp→Prop)→Prop
def c2M (X:Cx) (t:c0z):Prop:=
 ∀(pins:List (Addr×Obj)) (s:Shared) (σ:St) (H:Hp) (o i v:V) (ov iv u:Value) (Q:Hp→Prop),Inv X pins σ H s→a0H o ov→a0H i iv→a0H v u→t o i v H Q→
  wpAny (model X.prog X.w) X.A (setItem ov iv u) (fun _ s'=>∃H',Inv X pins σ H' s'∧Q H') X.xe s
abbrev TIp:=V→V→Hp→VK→Prop
def PIp (X:Cx) (op:Operator) (t:TIp):Prop:=
 ∀(pins:List (Addr×Obj)) (s:Shared) (σ:St) (H:Hp) (x y:V) (v u:Value) (Q:VK),Inv X pins σ H s→a0H x v→a0H y u→t x y H Q→
  wpAny (model X.prog X.w) X.A (inplaceOp op v u) (EP X pins σ Q) X.xe s
section
variable {X:Cx} {pos:Pos}
def a0m (i:Nat):TG:=fun v σ H Q=>Q (σ.set i (some v)) H
theorem b6b {i:Nat} {x:Str} (hN:X.N.Nodup) (hi:X.N[i]?=some x) (hx:Loc X.env.scope x) (hf:X.fn x=true∨X.env.scope.names.lookup x=some .local:=by first | exact .inl rfl | exact .inr rfl | assumption):PG X (.Name x pos) (a0m i):=by
 intro pins s σ H v u Q I r h
 exact wpAny_assign_Name (a4N I hN hi hx r (fun s' I'=>⟨_,H,I',h⟩) hf)
def c0c:TGs:=fun vs σ H Q=>vs=[]∧Q σ H
def a8w (t:TG) (u:TGs):TGs:=fun vs σ H Q=>∃v r,vs=v::r∧t v σ H fun σ' H'=>u r σ' H' Q
theorem b4t:PGs X [] c0c:=by
 intro pins s σ H vs us Q I r h
 obtain ⟨e,h⟩:=h
 subst e
 cases r
 exact assignInOrder_nil ⟨σ,H,I,h⟩
theorem b1X {e:Expr} {es:List Expr} {t:TG} {u:TGs} (h1:PG X e t) (h2:PGs X es u)
  (hs:(assignEach (e::es) X.env).map (·.2)=assign e X.env::(assignEach es X.env).map (·.2):=by rfl):PGs X (e::es) (a8w t u):=by
 intro pins s σ H vs us Q I r h
 obtain ⟨v,vr,e1,h⟩:=h
 subst e1
 cases r with
 | cons r rr=>
  rw [hs]
  refine assignInOrder_cons (thn (h1 pins s σ H _ _ _ I r h) fun _ s1 ⟨σ1,H1,I1,q1⟩=>?_)
  exact h2 pins s1 σ1 H1 _ _ Q I1 rr q1
def b8S (K:Qd) (n:Nat) (t:TGs):TG:=fun v σ H Q=>∃a xs,v=.ref a∧SqT K H a xs∧xs.length=n∧t xs σ H Q
theorem b3o {es:List Expr} {k:Nat} {t:TGs} {n:Nat} (hc:X.calm=true) (h:PGs X es t)
  (hn:(assignEach es X.env).length=n:=by rfl) (hst:(assignEach es X.env).findIdx? (·.1)=none:=by rfl):PG X (.Tuple es k pos) (b8S X.K n t):=by
 intro pins s σ H v u Q I r hw
 obtain ⟨a,xs,e1,hq,hl,hw⟩:=hw
 subst e1
 cases r
 obtain ⟨its,rv,ht,hz⟩:=I.tuple hq
 refine assign_Tuple_tuple (I.ok.hd hc) ht (by simp [hn,←hl,rv.length]) hst fun h' hx=>?_
 have I1:Inv X pins σ H {s with heap:=h'}:=I.kept (t':=s.toks) fun b o e=>hx b o (Xg (Qu e)) e
 exact h pins _ σ H xs _ Q I1 (by simpa using rv) hw
def c3H (to ti:TE) (t:c0z):TG:=fun v σ H Q=>to σ H fun o H1=>ti σ H1 fun i H2=>t o i v H2 fun H3=>Q σ H3
theorem b8P {o i:Expr} {to ti:TE} {t:c0z} (ho:PE X o to) (hi:PE X i ti) (hs:c2M X t)
  (ha:∀v,assign (.Subscript o i pos) X.env v=(do
   let ov ←holding [v] (eval o X.env)
   let iv ←holding [v,ov] (eval i X.env)
   standAt pos
   holding [v,ov,iv] (setItem ov iv v)
   release [v,ov,iv] []):=by intro _;rfl):PG X (.Subscript o i pos) (c3H to ti t):=by
 intro pins s σ H v u Q I r h
 rw [ha]
 refine wpAny_bind (wpAny_holding (thn (ho pins s σ H _ I h) fun ov s1 ⟨x,H1,I1,r1,q1⟩=>?_))
 refine wpAny_bind (wpAny_holding (thn (hi pins s1 σ H1 _ I1 q1) fun iv s2 ⟨y,H2,I2,r2,q2⟩=>?_))
 refine wpAny_bind (wpAny_standAt (wpAny_bind (wpAny_holding (thn (hs pins s2 σ H2 x y v ov iv u _ I2 r1 r2 r q2) fun _ s3 ⟨H3,I3,q3⟩=>?_))))
 exact wpAny_release ⟨σ,H3,I3,q3⟩
def a1K (te:TE) (g:TG):TS:=fun D σ H=>te σ H fun x H1=>g x σ H1 D.nx
theorem b7T {tg e:Expr} {te:TE} {g:TG} (he:PE X e te) (hg:PG X tg g) (hs:swapsWithSole [tg] e pos.line X.env=pure false:=by rfl) (hw:swappedStores [tg] e X.env=pure none:=by rfl)
  (h1:(assignEach [tg] X.env).map (·.2)=[assign tg X.env]:=by rfl):PS X (.Assign [tg] e pos) (a1K te g):=by
 intro pins s σ H D I h
 refine wpAny_Assign_stores (thn (he pins s σ H _ I h) fun v s1 ⟨x,H1,I1,r1,q1⟩=>?_) hs hw
 rw [h1]
 exact thn (hg pins s1 σ H1 x v _ I1 r1 q1) fun _ s2 q=>q
theorem b8G {i:Nat} {x:Str} {e:Expr} {te:TE} {pos':Pos} (hN:X.N.Nodup) (hi:X.N[i]?=some x) (hx:Loc X.env.scope x) (he:PE X e te) (hs:swapsWith e (some (.Name x pos')) pos.line X.env=pure false:=by rfl) (hf:X.fn x=true∨X.env.scope.names.lookup x=some .local:=by first | exact .inl rfl | exact .inr rfl | assumption):
  PS X (.Assign [.Name x pos'] e pos) (a1K te (a0m i)):=by
 intro pins s σ H D I h
 refine wpAny_Assign_Name (thn (he pins s σ H _ I h) fun v s1 ⟨y,H1,I1,r1,q1⟩=>?_) hs
 exact a4N I1 hN hi hx r1 (fun s2 I2=>⟨_,H1,I2,q1⟩) hf
def c2X (i:Nat) (te:TE) (ti:TIp):TS:=fun D σ H=>∃x,σ[i]?=some (some x)∧te σ H fun y H1=>ti x y H1 fun z H2=>D.nx (σ.set i (some z)) H2
theorem b8f {i:Nat} {x:Str} {e:Expr} {te:TE} {op:Operator} {ti:TIp} {pos':Pos} (hN:X.N.Nodup) (hi:X.N[i]?=some x) (hx:Loc X.env.scope x) (he:PE X e te) (ho:PIp X op ti) (hf:X.fn x=true∨X.env.scope.names.lookup x=some .local:=by first | exact .inl rfl | exact .inr rfl | assumption):
  PS X (.AugAssign (.Name x pos') op e pos) (c2X i te ti):=by
 intro pins s σ H D I h
 obtain ⟨v,e1,h⟩:=h
 obtain ⟨m,hn,hl⟩:=I.loc
 have vis:Vis X.env.scope x:=by rcases hx with k | k;exact .inl k;exact .inr (.inl k)
 obtain ⟨u,r,l⟩:=hl i x v hi e1 vis
 refine wpAny_AugAssign_Name ?_
 have go:wpAny (model X.prog X.w) X.A (eval e X.env) (fun w s₂=>wpAny (model X.prog X.w) X.A (inplaceOp op u w) (fun r s₃=>wpAny (model X.prog X.w) X.A (storeName X.env x r) (fun _=>SP X pins D .next) X.xe s₃) X.xe s₂) X.xe s:=by
  refine thn (he pins s σ H _ I h) fun w s1 ⟨y,H1,I1,r1,q1⟩=>?_
  refine thn (ho pins s1 σ H1 v y u w _ I1 r r1 q1) fun z s2 ⟨zv,H2,I2,r2,q2⟩=>?_
  exact a4N I2 hN hi hx r2 (fun s3 I3=>⟨_,H2,I3,q2⟩) hf
 rcases l with ⟨hk,hm⟩ | ⟨hk,c,hc,hcell⟩
 ·exact wpAny_loadName_local I.ok.kind hk hn hm go
 ·rcases hk with hk | hk
  ·exact wpAny_loadName_cell I.ok.kind hk hc hcell go
  ·rcases hx with k | k
   ·have:X.env.scope.names.lookup x=some .free:=hk
    rw [k] at this;cases this
   ·have:X.env.scope.names.lookup x=some .free:=hk
    rw [k] at this;cases this
def ipI (f:Int→Int→Int):TIp:=fun x y H Q=>∃i j,x=.int i∧y=.int j∧Q (.int (f i j)) H
theorem b7j:PIp X .Add (ipI fun i j=>i+j):=by
 intro pins s σ H x y v u Q I r1 r2 h
 obtain ⟨i,j,e1,e2,q⟩:=h
 subst e1;subst e2
 obtain ⟨t,rfl⟩:=r1
 obtain ⟨t',rfl⟩:=r2
 exact iadd_int ⟨.int _,H,I.tok _,⟨_,rfl⟩,q⟩
end
section
variable {X:Cx} {pos:Pos}
def b2Z (c:TT) (tb:TS):TS:=fun D σ H=>∃W:Nat→St→Hp→Prop,(∃m,W m σ H)∧∀m σ H,W m σ H→
 c σ H fun b H1=>if b=true then ∃N:St→Hp→Prop,(∀σ' H',N σ' H'→∃m',m' < m∧W m' σ' H')∧tb {D with nx:=N,ct:=N,bk:=D.nx} σ H1 else D.nx σ H1
theorem b1A {c:Expr} {body:List Stmt} {tc:TT} {tb:TS} (hp:PassesOwn (model X.prog X.w) X.A X.env X.xe) (hc:PT X c tc) (hb:PSs X body tb):PS X (.While c body [] pos) (b2Z tc tb):=by
 intro pins s σ H D I h
 obtain ⟨W,⟨m0,w0⟩,turn⟩:=h
 refine wpAny_While (codeAny_whileLoop (fun n s'=>∃σ' H',Inv X pins σ' H' s'∧W n σ' H') ?_ m0 ⟨σ,H,I,w0⟩)
 rintro n s1 ⟨σ1,H1,I1,w1⟩
 refine wpAny_passesOwn hp (thn (hc pins s1 σ1 H1 _ I1 (turn n σ1 H1 w1)) fun b s2 ⟨H2,I2,q2⟩=>?_)
 cases b with
 | true=>
  obtain ⟨N,hN,q2⟩:=q2
  rw [if_pos rfl]
  refine wpAny_passesOwn hp (thn (hb pins s2 σ1 H2 _ I2 q2) fun f s3 q3=>?_)
  cases f with
  | next=>
   obtain ⟨σ3,H3,I3,n3⟩:=q3
   obtain ⟨m',hm,w3⟩:=hN σ3 H3 n3
   exact ⟨m',hm,σ3,H3,I3,w3⟩
  | cont=>
   obtain ⟨σ3,H3,I3,n3⟩:=q3
   obtain ⟨m',hm,w3⟩:=hN σ3 H3 n3
   exact ⟨m',hm,σ3,H3,I3,w3⟩
  | brk=>exact q3
  | ret v=>exact q3
 | false=>
  rw [if_neg Qx]
  exact wpAny_execs_nil ⟨σ1,H2,I2,q2⟩
end
structure It where
 go:Nat→Hp→Prop
 yld:Nat→Hp→V→Hp→Prop
 stop:Nat→Hp→Prop
def a7i (X:Cx) (pins:List (Addr×Obj)) (H:Hp) (b:Addr):Prop:=
 H b=none∧b≠X.env.locals∧b∉X.fs∧(b∈X.ex∨X.s₀.heap.objs.size≤b)∧(∀x c,X.env.cells.lookup x=some c→c≠b)∧∀p∈X.pn++pins,p.1≠b
theorem Inv.fpOk {X:Cx} {pins:List (Addr×Obj)} {σ:St} {H H':Hp} {s:Shared} {b:Addr} (I:Inv X pins σ H s) (hb:s.heap.objs.size≤b) (hn:H' b=none):a7i X pins H' b:=by
 refine ⟨hn,Jh (Xd I.lt hb),I.nofs hb,.inr (Qj I.sz hb),fun x c e z=>?_,fun p hp z=>?_⟩
 ·obtain ⟨v,q⟩:=I.cell x c e
  exact absurd (Xd q.lt (by rw [z];exact hb)) (Zc _)
 ·exact absurd (Xd (Qu (I.pin p hp).1) (by rw [z];exact hb)) (Zc _)
structure b1G (P:Program) (w:World) (K:Qd) (tg:Expr) (J:It) (fp:List Addr) (it:Addr) (tn:Nat→Heap→Prop):Prop where
 mem:it∈fp
 obj:∀i h,tn i h→∀b∈fp,∃o,h.get? b=some o∧∀v,o.data≠.cell v
 keep:∀i h h',tn i h→(∀b∈fp,∀o,h.get? b=some o→h'.get? b=some o)→tn i h'
 item:∀(X:Cx),X.prog=P→X.w=w→X.K=K→X.calm=true→∀(i:Nat) (pins:List (Addr×Obj)) (s:Shared) (σ:St) (H:Hp) (E:Value→Shared→Prop),Inv X pins σ H s→(∀b∈fp,a7i X pins H b)→tn i s.heap→J.go i H→
  wpAny (model P w) X.A (pyNext (.ref it)) (fun r s1=>∃u,r=some u∧
   wpAny (model P w) X.A (letOwnedTupleGo tg (.ref it) u) (fun _ s2=>∃x H',Inv X pins σ H' s2∧a0H x u∧J.yld i H x H'∧tn (i+1) s2.heap∧∀b∈fp,H' b=none) E s1) E s
 done:∀(X:Cx),X.prog=P→X.w=w→X.K=K→X.calm=true→∀(i:Nat) (pins:List (Addr×Obj)) (s:Shared) (σ:St) (H:Hp) (E:Value→Shared→Prop),Inv X pins σ H s→(∀b∈fp,a7i X pins H b)→tn i s.heap→J.stop i H→
  wpAny (model P w) X.A (pyNext (.ref it)) (fun r s1=>r=none∧Inv X pins σ H s1) E s
 self:∀(A:Around) (i:Nat) (s:Shared) (Q:Value→Shared→Prop) (E:Value→Shared→Prop),tn i s.heap→Q (.ref it) s→wpAny (model P w) A (pyIter (.ref it)) Q E s
abbrev TI:=St→Hp→(It→Hp→Prop)→Prop
def PIE (X:Cx) (pins:List (Addr×Obj)) (σ:St) (tg:Expr) (R:It→Hp→Prop) (itv:Value) (s2:Shared):Prop:=
 ∃(it:Addr) (fp:List Addr) (tn:Nat→Heap→Prop) (J:It) (H':Hp),itv=.ref it∧Inv X pins σ H' s2∧b1G X.prog X.w X.K tg J fp it tn∧tn 0 s2.heap∧(∀b∈fp,a7i X pins H' b)∧R J H'
def PI (X:Cx) (tg iter:Expr) (wi:TI):Prop:=
 ∀(pins:List (Addr×Obj)) (s:Shared) (σ:St) (H:Hp) (R:It→Hp→Prop),Inv X pins σ H s→wi σ H R→
  wpAny (model X.prog X.w) X.A (eval iter X.env) (fun v s1=>wpAny (model X.prog X.w) X.A (pyIter v) (PIE X pins σ tg R) X.xe s1) X.xe s
theorem b1u {M:Model} {A:Around} {E:Value→Shared→Prop} {s:Shared} {tg:Expr} {it:Addr} {u:Value} {o:Obj} {n:String} {vs:Array Value} {Q:Unit→Shared→Prop} (ho:s.heap.get? it=some o) (hc:o.cls=.type n) (hd:o.data=.fields vs)
  (hn:["enumerate","zip","dict_itemiterator","dict_reverseitemiterator","odict_iterator","itertools.zip_longest","itertools.pairwise"].contains n=false) (hQ:Q () s):wpAny M A (letOwnedTupleGo tg (.ref it) u) Q E s:=by
 unfold letOwnedTupleGo
 cases tg<;>first
  | exact wpAny_pure hQ
  | (cases u<;>first
    | exact wpAny_pure hQ
    | (refine wpAny_bind (wpAny_load ho ?_);rw [hc,hd];show wpAny M A (if (["enumerate","zip","dict_itemiterator","dict_reverseitemiterator","odict_iterator","itertools.zip_longest","itertools.pairwise"].contains n && vs[0]? == some (rawInt _))=true then _ else _) Q E s;rw [if_neg (by intro h;rw [hn,Zw] at h;cases h)];exact wpAny_pure hQ))
def Itl (K:Qd) (a:Addr):It:=
 ⟨fun i H=>∃xs x,SqL K H a xs∧xs[i]?=some x,fun i H x H'=>H'=H∧∀xs,SqL K H a xs→xs[i]?=some x,fun i H=>∃xs,SqL K H a xs∧xs.length≤i⟩
def Itt (K:Qd) (a:Addr):It:=
 ⟨fun i H=>∃xs x,SqT K H a xs∧xs[i]?=some x,fun i H x H'=>H'=H∧∀xs,SqT K H a xs→xs[i]?=some x,fun i H=>∃xs,SqT K H a xs∧xs.length≤i⟩
def Itr (lo:Int) (n:Nat):It:=⟨fun i _=>i < n,fun i H x H'=>H'=H∧x=.int (lo+i),fun i _=>n≤i⟩
theorem b0j {P:Program} {w:World} {K:Qd} {tg:Expr} (a it:Addr):b1G P w K tg (Itl K a) [it] it (fun i h=>h.IsListIter it a i) where
 mem:=by simp
 obj:=fun i h st b hb=>by
  have e:b=it:=by simpa using hb
  subst e
  obtain ⟨o,e,c,d⟩:=st
  exact ⟨o,e,fun v z=>by rw [d] at z;cases z⟩
 keep:=fun i h h' st k=>st.at fun o e=>k it (by simp) o e
 item:=by
  intro X hP hw hK hc i pins s σ H E I hf st hg
  subst hP hw hK
  obtain ⟨xs,x,hq,hx⟩:=hg
  obtain ⟨its,rv,p,hz⟩:=I.list hq
  obtain ⟨u,hu,ru⟩:=rv.get hx
  obtain ⟨f0,f1,f2,f3,f4,f5⟩:=hf it (by simp)
  refine wpAny_pyNext_list_item st p.isList (x:=u) (by simpa using hu) fun h' st' sb=>?_
  have I1:Inv X pins σ H {s with heap:=h'}:=I.turned (t':=s.toks) (fun b o hb e=>(sb.2 b hb).trans e) f0 f1 f3 f4 f5
  obtain ⟨o,e,c,d⟩:=id st'
  exact ⟨u,rfl,b1u (s:={s with heap:=h'}) e c d (by decide) ⟨x,H,I1,ru,⟨rfl,fun ys hy=>by rw [I.list_inj hy hq];exact hx⟩,st',fun b hb=>(hf b hb).1⟩⟩
 done:=by
  intro X hP hw hK hc i pins s σ H E I hf st hg
  subst hP hw hK
  obtain ⟨xs,hq,hx⟩:=hg
  obtain ⟨its,rv,p,hz⟩:=I.list hq
  obtain ⟨f0,f1,f2,f3,f4,f5⟩:=hf it (by simp)
  have hl:=rv.length
  exact wpAny_pyNext_list_end (I.ok.hd hc) st p.isList (by simp;omega) fun h' eb=>⟨rfl,I.turned (t':=s.toks) (fun b o hb e=>eb b o hb e) f0 f1 f3 f4 f5⟩
 self:=fun _ _ _ _ _ st h=>wpAny_pyIter_listiter st h
theorem a8g {P:Program} {w:World} {K:Qd} {tg:Expr} (a it:Addr):b1G P w K tg (Itt K a) [it] it (fun i h=>h.IsTupleIter it a i) where
 mem:=by simp
 obj:=fun i h st b hb=>by
  have e:b=it:=by simpa using hb
  subst e
  obtain ⟨o,e,c,d⟩:=st
  exact ⟨o,e,fun v z=>by rw [d] at z;cases z⟩
 keep:=fun i h h' st k=>st.at fun o e=>k it (by simp) o e
 item:=by
  intro X hP hw hK hc i pins s σ H E I hf st hg
  subst hP hw hK
  obtain ⟨xs,x,hq,hx⟩:=hg
  obtain ⟨its,rv,p,hz⟩:=I.tuple hq
  obtain ⟨u,hu,ru⟩:=rv.get hx
  obtain ⟨f0,f1,f2,f3,f4,f5⟩:=hf it (by simp)
  refine wpAny_pyNext_tuple_item st (show s.heap.IsTuple a its.toArray from p) (x:=u) (by simpa using hu) fun h' st' sb=>?_
  have I1:Inv X pins σ H {s with heap:=h'}:=I.turned (t':=s.toks) (fun b o hb e=>(sb.2 b hb).trans e) f0 f1 f3 f4 f5
  obtain ⟨o,e,c,d⟩:=id st'
  exact ⟨u,rfl,b1u (s:={s with heap:=h'}) e c d (by decide) ⟨x,H,I1,ru,⟨rfl,fun ys hy=>by rw [I.tuple_inj hy hq];exact hx⟩,st',fun b hb=>(hf b hb).1⟩⟩
 done:=by
  intro X hP hw hK hc i pins s σ H E I hf st hg
  subst hP hw hK
  obtain ⟨xs,hq,hx⟩:=hg
  obtain ⟨its,rv,p,hz⟩:=I.tuple hq
  obtain ⟨f0,f1,f2,f3,f4,f5⟩:=hf it (by simp)
  have hl:=rv.length
  exact wpAny_pyNext_tuple_end (I.ok.hd hc) st (show s.heap.IsTuple a its.toArray from p) (by simp;omega) fun h' eb=>⟨rfl,I.turned (t':=s.toks) (fun b o hb e=>eb b o hb e) f0 f1 f3 f4 f5⟩
 self:=fun _ _ _ _ _ st h=>wpAny_pyIter_tupleiter st h
theorem a8k {P:Program} {w:World} {K:Qd} {tg:Expr} (it:Addr) (lo:Int) (n:Nat):b1G P w K tg (Itr lo n) [it] it (fun i h=>IsRangeIter h it (lo+(i:Nat) * 1) ((n:Int) - (i:Nat)) 1) where
 mem:=by simp
 obj:=fun i h st b hb=>by
  have e:b=it:=by simpa using hb
  subst e
  exact ⟨_,st,fun v z=>by
   have z':Data.fields _=Data.cell v:=z
   cases z'⟩
 keep:=fun i h h' st k=>k it (by simp) _ st
 item:=by
  intro X hP hw hK hc i pins s σ H E I hf st hg
  subst hP hw hK
  obtain ⟨f0,f1,f2,f3,f4,f5⟩:=hf it (by simp)
  have W:=Walks.range (prog:=X.prog) (w:=X.w) (I.ok.hd hc) it lo 1 n
  refine W.item i s _ _ hg st fun v h' tk hv st' kk=>?_
  obtain ⟨t,rfl⟩:=hv
  have I1:Inv X pins σ H {s with heap:=h',toks:=tk}:=I.turned (fun b o hb e=>kk b o (by simpa using hb) e) f0 f1 f3 f4 f5
  refine ⟨_,rfl,b1u (s:={s with heap:=h',toks:=tk}) (n:="range_iterator") st' rfl rfl (by decide) ⟨.int (lo+i),H,I1,⟨t,?_⟩,⟨rfl,rfl⟩,st',fun b hb=>(hf b hb).1⟩⟩
  rw [Int.mul_one]
 done:=by
  intro X hP hw hK hc i pins s σ H E I hf st hg
  subst hP hw hK
  obtain ⟨f0,f1,f2,f3,f4,f5⟩:=hf it (by simp)
  exact wpAny_pyNext_range_end (I.ok.hd hc) st (by have:n≤i:=hg;omega) fun h' eb=>⟨rfl,I.turned (t':=s.toks) (fun b o hb e=>eb b o hb e) f0 f1 f3 f4 f5⟩
 self:=fun _ _ _ _ _ st h=>wpAny_pyIter_rangeiter st h
end L2
namespace L2
open PySem PySem.Spec PyProof.Rows
section
variable {X:Cx} {tg:Expr}
def a1y (K:Qd) (tl:TE):TI:=fun σ H R=>tl σ H fun x H1=>∃a,x=.ref a∧(∃xs,SqL K H1 a xs)∧R (Itl K a) H1
def b5V (K:Qd) (tl:TE):TI:=fun σ H R=>tl σ H fun x H1=>∃a,x=.ref a∧(∃xs,SqT K H1 a xs)∧R (Itt K a) H1
theorem b4o {l:Expr} {tl:TE} (hl:PE X l tl):PI X tg l (a1y X.K tl):=by
 intro pins s σ H R I h
 refine thn (hl pins s σ H _ I h) fun v s1 ⟨x,H1,I1,r1,q1⟩=>?_
 obtain ⟨a,e,⟨xs,hq⟩,q⟩:=q1
 subst e
 cases r1
 obtain ⟨its,rv,p,hz⟩:=I1.list hq
 refine wpAny_pyIter_list p.isList ?_
 refine ⟨s1.heap.objs.size,[s1.heap.objs.size],_,_,H1,rfl,I1.kept (t':=s1.toks) fun b o e=>Qk _ e,b0j a _,⟨_,Qw _ rfl,rfl,rfl⟩,fun b hb=>?_,q⟩
 have e:b=s1.heap.objs.size:=by simpa using hb
 subst e
 exact I1.fpOk (Qi _) (I1.hok.fresh (Qi _))
theorem b8X {l:Expr} {tl:TE} (hl:PE X l tl):PI X tg l (b5V X.K tl):=by
 intro pins s σ H R I h
 refine thn (hl pins s σ H _ I h) fun v s1 ⟨x,H1,I1,r1,q1⟩=>?_
 obtain ⟨a,e,⟨xs,hq⟩,q⟩:=q1
 subst e
 cases r1
 obtain ⟨its,rv,p,hz⟩:=I1.tuple hq
 refine wpAny_pyIter_tuple (show s1.heap.IsTuple a its.toArray from p) ?_
 refine ⟨s1.heap.objs.size,[s1.heap.objs.size],_,_,H1,rfl,I1.kept (t':=s1.toks) fun b o e=>Qk _ e,a8g a _,⟨_,Qw _ rfl,rfl,rfl⟩,fun b hb=>?_,q⟩
 have e:b=s1.heap.objs.size:=by simpa using hb
 subst e
 exact I1.fpOk (Qi _) (I1.hok.fresh (Qi _))
theorem a6S {pins:List (Addr×Obj)} {σ:St} {H:Hp} {s:Shared} {R:It→Hp→Prop} {E:Value→Shared→Prop} {lo hi:Int} {t u v:Tok} {tk:Nat} (I:Inv X pins σ H s) (h1:-(2 ^ 62)≤lo) (h2:lo < 2 ^ 62) (h3:-(2 ^ 62)≤hi) (h4:hi < 2 ^ 62)
  (q:R (Itr lo (hi - lo).toNat) H):wpAny (model X.prog X.w) X.A (pyIter (.ref s.heap.objs.size)) (PIE X pins σ tg R) E {s with heap:=s.heap.push {cls:=.type "range",data:=.fields #[.int lo t,.int hi u,.int 1 v]},toks:=tk}:=by
 refine wpAny_pyIter_range (IsRange.new ..) (small_one h1 h2 h3 h4) ?_
 have I1:Inv X pins σ H {s with heap:=s.heap.push {cls:=.type "range",data:=.fields #[.int lo t,.int hi u,.int 1 v]},toks:=tk}:=I.kept fun b o e=>Qk _ e
 refine ⟨(s.heap.push {cls:=.type "range",data:=.fields #[.int lo t,.int hi u,.int 1 v]}).objs.size,[(s.heap.push {cls:=.type "range",data:=.fields #[.int lo t,.int hi u,.int 1 v]}).objs.size],_,_,H,rfl,
  I1.kept (t':=tk) fun b o e=>Qk _ e,a8k _ lo (hi - lo).toNat,?_,fun b hb=>?_,q⟩
 ·have e1:lo+((0:Nat):Int) * 1=lo:=by simp
  have e2:(((hi - lo).toNat:Nat):Int) - ((0:Nat):Int)=Builtin.Range.rangeSize lo hi 1:=by rw [rangeSize_one];split<;>omega
  show IsRangeIter _ _ (lo+((0:Nat):Int) * 1) ((((hi - lo).toNat:Nat):Int) - ((0:Nat):Int)) 1
  rw [e1,e2]
  exact Qw _ rfl
 ·have e:b=(s.heap.push {cls:=.type "range",data:=.fields #[.int lo t,.int hi u,.int 1 v]}).objs.size:=by simpa using hb
  subst e
  exact I1.fpOk (Qi _) (I1.hok.fresh (Qi _))
def a5w (ta:TA):TI:=fun σ H R=>ta σ H fun vs H1=>∃j:Int,vs=[.int j]∧-(2 ^ 62)≤j∧j < 2 ^ 62∧R (Itr 0 j.toNat) H1
def b8Q (ta:TA):TI:=fun σ H R=>ta σ H fun vs H1=>∃i j:Int,vs=[.int i,.int j]∧(-(2 ^ 62)≤i∧i < 2 ^ 62∧-(2 ^ 62)≤j∧j < 2 ^ 62)∧R (Itr i (j - i).toNat) H1
theorem b0e {a:Expr} {ta:TA} {p pos:Pos} (hg:Gl X "range") (hm:X.mg "range"=none) (ha:PA X [a] ta) (hs:starEach [a] X.env=[(false,eval a X.env)]:=by rfl):PI X tg (.Call (.Name "range" p) [a] [] pos) (a5w ta):=by
 intro pins s σ H R I h
 refine Call_ (a2U I hg hm boot_range (PyProof.Rows.callWith_type1 (thn (ha pos pins s σ H _ I h) fun us s1 ⟨vs,H1,I1,r1,q1⟩=>?_) hs rfl))
 obtain ⟨j,e,q1,q2,q⟩:=q1
 subst e
 cases r1 with
 | cons r rr=>
  cases rr
  obtain ⟨t,rfl⟩:=r
  exact call_range_1 (a6S I1 (by omega) (by omega) q1 q2 (by simpa using q))
theorem a9U {a b:Expr} {ta:TA} {p pos:Pos} (hg:Gl X "range") (hm:X.mg "range"=none) (ha:PA X [a,b] ta) (hs:starEach [a,b] X.env=[(false,eval a X.env),(false,eval b X.env)]:=by rfl) (hs2:starEach [b] X.env=[(false,eval b X.env)]:=by rfl):
  PI X tg (.Call (.Name "range" p) [a,b] [] pos) (b8Q ta):=by
 intro pins s σ H R I h
 refine Call_ (a2U I hg hm boot_range (PyProof.Rows.callWith_type1 (thn (ha pos pins s σ H _ I h) fun us s1 ⟨vs,H1,I1,r1,q1⟩=>?_) (by rw [hs,hs2]) (by rw [hs2];rfl)))
 obtain ⟨i,j,e,⟨q1,q2,q3,q4⟩,q⟩:=q1
 subst e
 cases r1 with
 | cons r rr=>
  cases rr with
  | cons r' rr=>
   cases rr
   obtain ⟨t,rfl⟩:=r
   obtain ⟨t',rfl⟩:=r'
   exact call_range_2 (a6S I1 q1 q2 q3 q4 q)
def b6d (wi:TI) (g:TG) (tb:TS):TS:=fun D σ H=>wi σ H fun J H1=>∃W:Nat→Nat→St→Hp→Prop,(∃m,W 0 m σ H1)∧∀i m σ H,W i m σ H→
 (J.stop i H∧D.nx σ H)∨(J.go i H∧∃N:St→Hp→Prop,(∀σ' H',N σ' H'→∃m',m' < m∧W (i+1) m' σ' H')∧∀x H',J.yld i H x H'→g x σ H' fun σ2 H2=>tb {D with nx:=N,ct:=N,bk:=D.nx} σ2 H2)
def a5n (fp:List Addr) (h:Heap):List (Addr×Obj):=fp.filterMap fun b=>(h.get? b).map fun o=>(b,o)
theorem a2p {fp:List Addr} {h:Heap} {b:Addr} {o:Obj} (hb:b∈fp) (e:h.get? b=some o):(b,o)∈a5n fp h:=Ju.mpr ⟨b,hb,by rw [e];rfl⟩
theorem a8N {fp:List Addr} {h:Heap} {p:Addr×Obj} (hp:p∈a5n fp h):p.1∈fp∧h.get? p.1=some p.2:=by
 obtain ⟨b,hb,e⟩:=Ju.mp hp
 cases q:h.get? b with
 | none=>rw [q] at e;cases e
 | some o=>
  rw [q] at e
  have e':(b,o)=p:=Option.some.inj e
  subst e'
  exact ⟨hb,q⟩
theorem Inv.pinned {pins:List (Addr×Obj)} {σ:St} {H:Hp} {s:Shared} {fp:List Addr} (I:Inv X pins σ H s) (hf:∀b∈fp,a7i X pins H b) (ho:∀b∈fp,∃o,s.heap.get? b=some o∧∀v,o.data≠.cell v):Inv X (pins++a5n fp s.heap) σ H s:=
 I.pins_of fun p hp=>(Xe.mp hp).elim (fun z=>I.pin p (Qz _ z)) fun z=>by
  obtain ⟨hb,e⟩:=a8N z
  obtain ⟨f0,f1,f2,_⟩:=hf p.1 hb
  obtain ⟨o,e',d⟩:=ho p.1 hb
  rw [e] at e';cases e'
  exact ⟨e,f0,f1,f2,d⟩
theorem Inv.unpinned {pins pl:List (Addr×Obj)} {σ:St} {H:Hp} {s:Shared} (I:Inv X (pins++pl) σ H s):Inv X pins σ H s:=I.pins_of fun p hp=>I.pin p (Qz _ (Yy _ hp))
theorem b9z {iter:Expr} {body:List Stmt} {wi:TI} {g:TG} {tb:TS} {pos:Pos} (hp:PassesOwn (model X.prog X.w) X.A X.env X.xe) (hc:X.calm=true) (hi:PI X tg iter wi) (hg:PG X tg g) (hb:PSs X body tb)
  (hs:∀x,foldedSetIterable iter X.env x=pure x:=by intro _;rfl):PS X (.For tg iter body [] pos) (b6d wi g tb):=by
 intro pins s σ H D I h
 refine wpAny_For (thn (hi pins s σ H _ I h) fun v s1 h1=>thn h1 fun itv s2 h2=>?_) hs
 obtain ⟨it,fp,tn,J,H2,e,I2,T,st2,f2,W,⟨m0,w0⟩,turn⟩:=h2
 subst e
 have stat:∀{H':Hp},(∀b∈fp,H' b=none)→∀b∈fp,a7i X pins H' b:=fun hn b hb=>⟨hn b hb,(f2 b hb).2⟩
 refine codeAny_forLoop_any (fun n s'=>∃i σ' H',Inv X pins σ' H' s'∧tn i s'.heap∧(∀b∈fp,H' b=none)∧W i n σ' H') ?_ m0 ⟨0,σ,H2,I2,st2,fun b hb=>(f2 b hb).1,w0⟩
 rintro n s3 ⟨i,σ3,H3,I3,st3,fr3,w3⟩
 rcases turn i n σ3 H3 w3 with ⟨stop,qn⟩ | ⟨go,N,hN,step⟩
 ·refine wpAny_passesOwn hp (thn (T.done X rfl rfl rfl hc i pins s3 σ3 H3 X.xe I3 (stat fr3) st3 stop) fun r s4 ⟨hr,I4⟩=>?_)
  subst hr
  exact wpAny_execs_nil ⟨σ3,H3,I4,qn⟩
 ·refine wpAny_passesOwn hp (thn (T.item X rfl rfl rfl hc i pins s3 σ3 H3 X.xe I3 (stat fr3) st3 go) fun r s4 ⟨u,hr,h4⟩=>?_)
  subst hr
  refine wpAny_passesOwn hp (thn h4 fun _ s5 ⟨x,H5,I5,r5,y5,st5,fr5⟩=>?_)
  have I5':=I5.pinned (stat fr5) (T.obj _ _ st5)
  refine wpAny_passesOwn hp (thn (hg _ s5 σ3 H5 x u _ I5' r5 (step x H5 y5)) fun _ s6 ⟨σ6,H6,I6,q6⟩=>?_)
  refine wpAny_passesOwn hp (thn (hb _ s6 σ6 H6 _ I6 q6) fun f s7 q7=>?_)
  have again:∀{σ7:St} {H7:Hp},Inv X (pins++a5n fp s5.heap) σ7 H7 s7→N σ7 H7→∃m,m < n∧∃i σ' H',Inv X pins σ' H' s7∧tn i s7.heap∧(∀b∈fp,H' b=none)∧W i m σ' H':=fun {σ7 H7} I7 n7=>by
   obtain ⟨m',hm,w7⟩:=hN σ7 H7 n7
   refine ⟨m',hm,i+1,σ7,H7,I7.unpinned,T.keep _ _ _ st5 fun b hb o e=>(I7.pin (b,o) (Qz _ (Qz _ (a2p hb e)))).1,fun b hb=>?_,w7⟩
   obtain ⟨o,e,d⟩:=T.obj _ _ st5 b hb
   exact (I7.pin (b,o) (Qz _ (Qz _ (a2p hb e)))).2.1
  cases f with
  | next=>obtain ⟨σ7,H7,I7,n7⟩:=q7;exact again I7 n7
  | cont=>obtain ⟨σ7,H7,I7,n7⟩:=q7;exact again I7 n7
  | brk=>obtain ⟨σ7,H7,I7,q7⟩:=q7;exact ⟨σ7,H7,I7.unpinned,q7⟩
  | ret v=>obtain ⟨x7,σ7,H7,I7,r7,q7⟩:=q7;exact ⟨x7,σ7,H7,I7.unpinned,r7,q7⟩
end
theorem a1x {K:Qd} {a:Addr} {xs:List V} {g:TG} {tb:TS} {D:a6d} {σ:St} {H:Hp} (Pv:Nat→St→Hp→Prop) (h0:Pv 0 σ H) (hl:∀i σ H,i≤xs.length→Pv i σ H→SqL K H a xs)
  (hs:∀i x σ H,xs[i]?=some x→Pv i σ H→g x σ H fun σ2 H2=>tb {D with nx:=Pv (i+1),ct:=Pv (i+1),bk:=D.nx} σ2 H2) (hd:∀σ H,Pv xs.length σ H→D.nx σ H):
  ∃W:Nat→Nat→St→Hp→Prop,(∃m,W 0 m σ H)∧∀i m σ H,W i m σ H→
   ((Itl K a).stop i H∧D.nx σ H)∨((Itl K a).go i H∧∃N:St→Hp→Prop,(∀σ' H',N σ' H'→∃m',m' < m∧W (i+1) m' σ' H')∧∀x H',(Itl K a).yld i H x H'→g x σ H' fun σ2 H2=>tb {D with nx:=N,ct:=N,bk:=D.nx} σ2 H2):=by
 refine ⟨fun i m σ H=>m=xs.length - i∧i≤xs.length∧Pv i σ H,⟨xs.length,by simp,Xa _,h0⟩,?_⟩
 rintro i m σ H ⟨rfl,hi,p⟩
 have q:=hl i σ H hi p
 by_cases hlt:i < xs.length
 ·refine .inr ⟨⟨xs,xs[i],q,by simp [hlt]⟩,Pv (i+1),fun σ' H' p'=>⟨xs.length - (i+1),by omega,rfl,hlt,p'⟩,fun x H' y=>?_⟩
  obtain ⟨e,y⟩:=y
  subst e
  exact hs i x σ _ (y xs q) p
 ·have e:i=xs.length:=by omega
  subst e
  exact .inl ⟨⟨xs,q,Qi _⟩,hd σ H p⟩
theorem a9a {K:Qd} {a:Addr} {xs:List V} {g:TG} {tb:TS} {D:a6d} {σ:St} {H:Hp} (Pv:Nat→St→Hp→Prop) (h0:Pv 0 σ H) (hl:∀i σ H,i≤xs.length→Pv i σ H→SqT K H a xs)
  (hs:∀i x σ H,xs[i]?=some x→Pv i σ H→g x σ H fun σ2 H2=>tb {D with nx:=Pv (i+1),ct:=Pv (i+1),bk:=D.nx} σ2 H2) (hd:∀σ H,Pv xs.length σ H→D.nx σ H):
  ∃W:Nat→Nat→St→Hp→Prop,(∃m,W 0 m σ H)∧∀i m σ H,W i m σ H→
   ((Itt K a).stop i H∧D.nx σ H)∨((Itt K a).go i H∧∃N:St→Hp→Prop,(∀σ' H',N σ' H'→∃m',m' < m∧W (i+1) m' σ' H')∧∀x H',(Itt K a).yld i H x H'→g x σ H' fun σ2 H2=>tb {D with nx:=N,ct:=N,bk:=D.nx} σ2 H2):=by
 refine ⟨fun i m σ H=>m=xs.length - i∧i≤xs.length∧Pv i σ H,⟨xs.length,by simp,Xa _,h0⟩,?_⟩
 rintro i m σ H ⟨rfl,hi,p⟩
 have q:=hl i σ H hi p
 by_cases hlt:i < xs.length
 ·refine .inr ⟨⟨xs,xs[i],q,by simp [hlt]⟩,Pv (i+1),fun σ' H' p'=>⟨xs.length - (i+1),by omega,rfl,hlt,p'⟩,fun x H' y=>?_⟩
  obtain ⟨e,y⟩:=y
  subst e
  exact hs i x σ _ (y xs q) p
 ·have e:i=xs.length:=by omega
  subst e
  exact .inl ⟨⟨xs,q,Qi _⟩,hd σ H p⟩
theorem a1U {lo:Int} {n:Nat} {g:TG} {tb:TS} {D:a6d} {σ:St} {H:Hp} (Pv:Nat→St→Hp→Prop) (h0:Pv 0 σ H)
  (hs:∀i σ H,i < n→Pv i σ H→g (.int (lo+i)) σ H fun σ2 H2=>tb {D with nx:=Pv (i+1),ct:=Pv (i+1),bk:=D.nx} σ2 H2) (hd:∀σ H,Pv n σ H→D.nx σ H):
  ∃W:Nat→Nat→St→Hp→Prop,(∃m,W 0 m σ H)∧∀i m σ H,W i m σ H→
   ((Itr lo n).stop i H∧D.nx σ H)∨((Itr lo n).go i H∧∃N:St→Hp→Prop,(∀σ' H',N σ' H'→∃m',m' < m∧W (i+1) m' σ' H')∧∀x H',(Itr lo n).yld i H x H'→g x σ H' fun σ2 H2=>tb {D with nx:=N,ct:=N,bk:=D.nx} σ2 H2):=by
 refine ⟨fun i m σ H=>m=n - i∧i≤n∧Pv i σ H,⟨n,by simp,Xa _,h0⟩,?_⟩
 rintro i m σ H ⟨rfl,hi,p⟩
 by_cases hlt:i < n
 ·refine .inr ⟨hlt,Pv (i+1),fun σ' H' p'=>⟨n - (i+1),by omega,rfl,hlt,p'⟩,fun x H' y=>?_⟩
  obtain ⟨e,y⟩:=y
  subst e y
  exact hs i σ _ hlt p
 ·have e:i=n:=by omega
  subst e
  exact .inl ⟨Qi _,hd σ H p⟩
end L2
namespace L2
open PySem PySem.Spec PyProof.Rows
abbrev R2:=V→V→Hp→VK→Prop
def OpR (X:Cx) (f:Value→Value→Sem Value) (r:R2):Prop:=
 ∀(pins:List (Addr×Obj)) (s:Shared) (σ:St) (H:Hp) (x y:V) (v u:Value) (Q:VK),Inv X pins σ H s→a0H x v→a0H y u→r x y H Q→
  wpAny (model X.prog X.w) X.A (f v u) (EP X pins σ Q) X.xe s
def a1P (X:Cx) (f:Value) (r:List V→Hp→VK→Prop):Prop:=
 ∀(pins:List (Addr×Obj)) (s:Shared) (σ:St) (H:Hp) (xs:List V) (us:List Value) (Q:VK),Inv X pins σ H s→a0I xs us→r xs H Q→
  wpAny (model X.prog X.w) X.A (call f us) (EP X pins σ Q) X.xe s
def tOp (r:R2) (ta tb:TE):TE:=fun σ H Q=>ta σ H fun x H1=>tb σ H1 fun y H2=>r x y H2 Q
def rI (C:Int→Int→Prop) (g:Int→Int→V):R2:=fun x y H Q=>∃i j,x=.int i∧y=.int j∧C i j∧Q (g i j) H
def rI0 (g:Int→Int→V):R2:=fun x y H Q=>∃i j,x=.int i∧y=.int j∧Q (g i j) H
section
variable {X:Cx} {a b c:Expr} {ta tb tc:TE} {pos:Pos}
theorem c0l (ha:PE X a ta) (hb:PE X b tb) {pins:List (Addr×Obj)} {s:Shared} {σ:St} {H:Hp} {R:V→V→Hp→Prop} (I:Inv X pins σ H s)
  (h:ta σ H fun x H1=>tb σ H1 fun y H2=>R x y H2) {Q:Value→Shared→Prop} {f:Value→Value→Sem Value}
  (hf:∀v u s2 x y H2,Inv X pins σ H2 s2→a0H x v→a0H y u→R x y H2→wpAny (model X.prog X.w) X.A (f v u) Q X.xe s2):
  wpAny (model X.prog X.w) X.A (eval a X.env) (fun v s₁=>wpAny (model X.prog X.w) X.A (eval b X.env) (fun u s₂=>wpAny (model X.prog X.w) X.A (f v u) Q X.xe s₂) X.xe s₁) X.xe s:=by
 refine thn (ha pins s σ H _ I h) fun v s1 ⟨x,H1,I1,r1,q1⟩=>?_
 refine thn (hb pins s1 σ H1 _ I1 q1) fun u s2 ⟨y,H2,I2,r2,q2⟩=>?_
 exact hf v u s2 x y H2 I2 r1 r2 q2
theorem c0E {op:Operator} {r:R2} (ho:OpR X (binaryOp op) r) (ha:PE X a ta) (hb:PE X b tb):PE X (.BinOp a op b pos) (tOp r ta tb):=by
 intro pins s σ H Q I h
 exact wpAny_BinOp (c0l ha hb I h fun v u s2 x y H2 I2 rx ry q=>ho pins s2 σ H2 x y v u Q I2 rx ry q)
theorem opI {f:Value→Value→Sem Value} {C:Int→Int→Prop} {g:Int→Int→Int}
  (rule:∀(i j:Int) (t u:Tok) (s:Shared) (Q:Value→Shared→Prop) (E:Value→Shared→Prop),C i j→Q (.int (g i j) s.toks) {s with toks:=s.toks+1}→wpAny (model X.prog X.w) X.A (f (.int i t) (.int j u)) Q E s):
  OpR X f (rI C fun i j=>.int (g i j)):=by
 intro pins s σ H x y v u Q I rx ry h
 obtain ⟨i,j,rfl,rfl,hc,q⟩:=h
 obtain ⟨t,rfl⟩:=rx
 obtain ⟨t',rfl⟩:=ry
 exact rule i j t t' s _ _ hc ⟨.int (g i j),H,I.tok _,⟨_,rfl⟩,q⟩
theorem c2R {f:Value→Value→Sem Value} {g:Int→Int→Int}
  (rule:∀(i j:Int) (t u:Tok) (s:Shared) (Q:Value→Shared→Prop) (E:Value→Shared→Prop),Q (.int (g i j) s.toks) {s with toks:=s.toks+1}→wpAny (model X.prog X.w) X.A (f (.int i t) (.int j u)) Q E s):
  OpR X f (rI0 fun i j=>.int (g i j)):=by
 intro pins s σ H x y v u Q I rx ry h
 obtain ⟨i,j,rfl,rfl,q⟩:=h
 obtain ⟨t,rfl⟩:=rx
 obtain ⟨t',rfl⟩:=ry
 exact rule i j t t' s _ _ ⟨.int (g i j),H,I.tok _,⟨_,rfl⟩,q⟩
theorem c1i {f:Value→Value→Sem Value} {g:Int→Int→Bool}
  (rule:∀(i j:Int) (t u:Tok) (s:Shared) (Q:Value→Shared→Prop) (E:Value→Shared→Prop),Q (.bool (g i j)) s→wpAny (model X.prog X.w) X.A (f (.int i t) (.int j u)) Q E s):
  OpR X f (rI0 fun i j=>.bl (g i j)):=by
 intro pins s σ H x y v u Q I rx ry h
 obtain ⟨i,j,rfl,rfl,q⟩:=h
 obtain ⟨t,rfl⟩:=rx
 obtain ⟨t',rfl⟩:=ry
 exact rule i j t t' s _ _ ⟨.bl (g i j),H,I,rfl,q⟩
def a6c (i j:Int):Prop:=0 < j∧j < 1073741824
def b4u (i j:Int):Prop:=(-(2 ^ 64) < i∧i < 2 ^ 64)∨(-(2 ^ 64) < j∧j < 2 ^ 64)
theorem b4u.ok {i j:Int} (h:b4u i j):IntMulOk i j:=by
 rcases h with ⟨h1,h2⟩ | ⟨h1,h2⟩
 ·exact .of_left (intBits_le_64 h1 h2)
 ·exact .of_right (intBits_le_64 h1 h2)
theorem b9i:OpR X (binaryOp .Add) (rI0 fun i j=>.int (i+j)):=c2R fun _ _ _ _ _ _ _ q=>add_int q
theorem b3t:OpR X (binaryOp .Sub) (rI0 fun i j=>.int (i - j)):=c2R fun _ _ _ _ _ _ _ q=>sub_int q
theorem a3D:OpR X (binaryOp .Mult) (rI b4u fun i j=>.int (i * j)):=opI fun _ _ _ _ _ _ _ hc q=>mul_int q hc.ok
theorem a0G:OpR X (binaryOp .FloorDiv) (rI a6c fun i j=>.int (i / j)):=opI fun i j _ _ _ _ _ hc q=>by
 have h1:(0:Int) < j:=hc.1
 have h2:j < 1073741824:=hc.2
 exact floordiv_int (by omega) (by rw [Int.fdiv_eq_ediv_of_nonneg i (by omega)];exact q) (.inl (PyProof.noPylong_small (by omega)))
theorem a0r:OpR X (binaryOp .Mod) (rI (fun _ j=>0 < j) fun i j=>.int (i % j)):=opI fun i j _ _ _ _ _ hc q=>by
 have h1:(0:Int) < j:=hc
 exact mod_int' (by omega) (by rw [Int.fmod_eq_emod_of_nonneg i (by omega)];exact q)
end
def c4i:V→V→Bool
 | .non,.non=>true | .non,.int _=>true | .int _,.non=>true | .non,.bl _=>true | .bl _,.non=>true | .non,.str _=>true | .str _,.non=>true
 | .int _,.int _=>true | .bl _,.bl _=>true | .str _,.str _=>true | .byt _,.byt _=>true
 | .int _,.str _=>true | .str _,.int _=>true | .bl _,.str _=>true | .str _,.bl _=>true
 | _,_=>false
def rEq:R2:=fun x y H Q=>c4i x y=true∧Q (.bl (decide (x=y))) H
def rNe:R2:=fun x y H Q=>c4i x y=true∧Q (.bl (!decide (x=y))) H
theorem a9u {i j:Int}:decide (V.int i=V.int j)=(i == j):=by
 rw [Xu]
 simp
theorem b3E {i j:Bool}:decide (V.bl i=V.bl j)=(i == j):=by
 rw [Xu]
 simp
theorem a8R {i j:Str}:decide (V.str i=V.str j)=(i == j):=by
 rw [Xu]
 simp
theorem b0B {i j:Array UInt8}:decide (V.byt i=V.byt j)=(i.toList == j.toList):=by
 rw [Xu]
 cases i
 cases j
 simp
section
variable {X:Cx} {a b c:Expr} {ta tb tc:TE} {pos:Pos}
theorem a0v {pins:List (Addr×Obj)} {σ:St} {H:Hp} {s:Shared} {Q:VK} {k k':Bool} (I:Inv X pins σ H s) (q:Q (.bl k) H) (e:k=k'):EP X pins σ Q (.bool k') s:=by
 subst e
 exact ⟨.bl k,H,I,rfl,q⟩
theorem c0g:OpR X (compareOp .Eq) rEq:=by
 intro pins s σ H x y v u Q I rx ry h
 obtain ⟨hs,q⟩:=h
 cases x with
 | non=>
  cases rx
  cases y with
  | non=>cases ry;exact PySem.EqNone.eq_none_none (a0v I q (by simp))
  | bl j=>cases ry;exact PySem.EqNone.eq_none_bool (a0v I q (by simp))
  | int j=>obtain ⟨t',rfl⟩:=ry;exact PySem.EqNone.eq_none_int (a0v I q (by simp))
  | str j=>obtain ⟨t',rfl⟩:=ry;exact PySem.EqNone.eq_none_str (a0v I q (by simp))
  | _=>exact absurd (show false=true from hs) Qx
 | bl i=>
  cases rx
  cases y with
  | non=>cases ry;exact PySem.EqNone.eq_bool_none (a0v I q (by simp))
  | bl j=>cases ry;exact eq_bool (a0v I q b3E)
  | str j=>obtain ⟨t',rfl⟩:=ry;exact PySem.EqMixed.eq_bool_str (a0v I q (by simp))
  | _=>exact absurd (show false=true from hs) Qx
 | int i=>
  obtain ⟨t,rfl⟩:=rx
  cases y with
  | non=>cases ry;exact PySem.EqNone.eq_int_none (a0v I q (by simp))
  | int j=>obtain ⟨t',rfl⟩:=ry;exact eq_int (a0v I q a9u)
  | str j=>obtain ⟨t',rfl⟩:=ry;exact PySem.EqMixed.eq_int_str (a0v I q (by simp))
  | _=>exact absurd (show false=true from hs) Qx
 | str i=>
  obtain ⟨t,rfl⟩:=rx
  cases y with
  | non=>cases ry;exact PySem.EqNone.eq_str_none (a0v I q (by simp))
  | bl j=>cases ry;exact PySem.EqMixed.eq_str_bool (a0v I q (by simp))
  | int j=>obtain ⟨t',rfl⟩:=ry;exact PySem.EqMixed.eq_str_int (a0v I q (by simp))
  | str j=>obtain ⟨t',rfl⟩:=ry;exact eq_str (a0v I q a8R)
  | _=>exact absurd (show false=true from hs) Qx
 | byt i=>
  obtain ⟨t,rfl⟩:=rx
  cases y with
  | byt j=>obtain ⟨t',rfl⟩:=ry;exact PySem.W.eq_bytes (a0v I q b0B)
  | _=>exact absurd (show false=true from hs) Qx
 | _=>cases y<;>exact absurd (show false=true from hs) Qx
theorem c0J:OpR X (compareOp .NotEq) rNe:=by
 intro pins s σ H x y v u Q I rx ry h
 obtain ⟨hs,q⟩:=h
 cases x with
 | non=>
  cases rx
  cases y with
  | non=>cases ry;exact PySem.EqNone.ne_none_none (a0v I q (by simp))
  | bl j=>cases ry;exact PySem.EqNone.ne_none_bool (a0v I q (by simp))
  | int j=>obtain ⟨t',rfl⟩:=ry;exact PySem.EqNone.ne_none_int (a0v I q (by simp))
  | str j=>obtain ⟨t',rfl⟩:=ry;exact PySem.EqNone.ne_none_str (a0v I q (by simp))
  | _=>exact absurd (show false=true from hs) Qx
 | bl i=>
  cases rx
  cases y with
  | non=>cases ry;exact PySem.EqNone.ne_bool_none (a0v I q (by simp))
  | bl j=>cases ry;exact ne_bool (a0v I q (congrArg not b3E))
  | str j=>obtain ⟨t',rfl⟩:=ry;exact PySem.EqMixed.ne_bool_str (a0v I q (by simp))
  | _=>exact absurd (show false=true from hs) Qx
 | int i=>
  obtain ⟨t,rfl⟩:=rx
  cases y with
  | non=>cases ry;exact PySem.EqNone.ne_int_none (a0v I q (by simp))
  | int j=>obtain ⟨t',rfl⟩:=ry;exact ne_int (a0v I q (congrArg not a9u))
  | str j=>obtain ⟨t',rfl⟩:=ry;exact PySem.EqMixed.ne_int_str (a0v I q (by simp))
  | _=>exact absurd (show false=true from hs) Qx
 | str i=>
  obtain ⟨t,rfl⟩:=rx
  cases y with
  | non=>cases ry;exact PySem.EqNone.ne_str_none (a0v I q (by simp))
  | bl j=>cases ry;exact PySem.EqMixed.ne_str_bool (a0v I q (by simp))
  | int j=>obtain ⟨t',rfl⟩:=ry;exact PySem.EqMixed.ne_str_int (a0v I q (by simp))
  | str j=>obtain ⟨t',rfl⟩:=ry;exact ne_str (a0v I q (congrArg not a8R))
  | _=>exact absurd (show false=true from hs) Qx
 | byt i=>
  obtain ⟨t,rfl⟩:=rx
  cases y with
  | byt j=>obtain ⟨t',rfl⟩:=ry;exact PySem.W.ne_bytes (a0v I q (congrArg not b0B))
  | _=>exact absurd (show false=true from hs) Qx
 | _=>cases y<;>exact absurd (show false=true from hs) Qx
theorem c0n:OpR X (compareOp .Lt) (rI0 fun i j=>.bl (decide (i < j))):=c1i fun _ _ _ _ _ _ _ q=>lt_int q
theorem b1x:OpR X (compareOp .Gt) (rI0 fun i j=>.bl (decide (j < i))):=c1i fun _ _ _ _ _ _ _ q=>gt_int q
theorem b0R:OpR X (compareOp .Lt) (fun x y H Q=>∃i j,x=.str i∧y=.str j∧Q (.bl (decide (i.cps.toList < j.cps.toList))) H):=by
 intro pins s σ H x y v u Q I rx ry h
 obtain ⟨i,j,rfl,rfl,q⟩:=h
 obtain ⟨t,rfl⟩:=rx
 obtain ⟨t',rfl⟩:=ry
 exact lt_str (a0v I q rfl)
theorem b0g:OpR X (compareOp .In) (fun x y H Q=>∃i j,x=.str i∧y=.str j∧Q (.bl (!(Builtin.Str.occurrences j i 0 j.length 1).isEmpty)) H):=by
 intro pins s σ H x y v u Q I rx ry h
 obtain ⟨i,j,rfl,rfl,q⟩:=h
 obtain ⟨t,rfl⟩:=rx
 obtain ⟨t',rfl⟩:=ry
 exact in_str (a0v I q rfl)
theorem b7G:OpR X (compareOp .Is) (fun x y H Q=>y=.non∧Q (.bl (decide (x=.non))) H):=by
 intro pins s σ H x y v u Q I rx ry h
 obtain ⟨rfl,q⟩:=h
 cases ry
 refine is_none_gen (a0v I q ?_)
 cases x<;>first
  | (cases rx;rfl)
  | (obtain ⟨t,rfl⟩:=rx;rfl)
theorem a5C:OpR X (compareOp .NotIn) (fun x y H Q=>∃i j,x=.str i∧y=.str j∧Q (.bl (!(!(Builtin.Str.occurrences j i 0 j.length 1).isEmpty))) H):=by
 intro pins s σ H x y v u Q I rx ry h
 obtain ⟨i,j,rfl,rfl,q⟩:=h
 obtain ⟨t,rfl⟩:=rx
 obtain ⟨t',rfl⟩:=ry
 exact notIn_str (a0v I q rfl)
theorem OpR.or {f:Value→Value→Sem Value} {r r':R2} (h:OpR X f r) (h':OpR X f r'):OpR X f (fun x y H Q=>r x y H Q∨r' x y H Q):=by
 intro pins s σ H x y v u Q I rx ry q
 rcases q with q | q
 ·exact h pins s σ H x y v u Q I rx ry q
 ·exact h' pins s σ H x y v u Q I rx ry q
theorem a0n (b:Expr) {op:CmpOp} (h:op≠.In:=by decide) (h2:op≠.NotIn:=by decide):behindInMarks op b=false:=by
 have e1:(op == CmpOp.In)=false:=by cases op<;>first | rfl | exact absurd rfl h
 have e2:(op == CmpOp.NotIn)=false:=by cases op<;>first | rfl | exact absurd rfl h2
 cases b<;>simp [behindInMarks,e1,e2]
theorem b4y {op:CmpOp} {r:R2} (ho:OpR X (compareOp op) r) (ha:PE X a ta) (hb:PE X b tb) (hm:behindInMarks op b=false):PE X (.Compare a [op] [b] pos) (tOp r ta tb):=by
 intro pins s σ H Q I h
 exact wpAny_Compare1 (c0l ha hb I h fun v u s2 x y H2 I2 rx ry q=>ho pins s2 σ H2 x y v u Q I2 rx ry q) hm
def a0R (t:TE):TT:=fun σ H Q=>t σ H fun x H'=>∃k,x=.bl k∧Q k H'
theorem b4M {op:CmpOp} {r:R2} (ho:OpR X (compareOp op) r) (ha:PE X a ta) (hb:PE X b tb) (hm:behindInMarks op b=false):PT X (.Compare a [op] [b] pos) (a0R (tOp r ta tb)):=by
 intro pins s σ H Q I h
 refine wpAny_isTrue_Compare1 (thn (ha pins s σ H _ I h) fun v s1 ⟨x,H1,I1,r1,q1⟩=>thn (hb pins s1 σ H1 _ I1 q1) fun u s2 ⟨y,H2,I2,r2,q2⟩=>
  thn (ho pins s2 σ H2 x y v u _ I2 r1 r2 q2) fun c s3 ⟨z,H3,I3,r3,k,e,q3⟩=>?_) hm
 subst e
 cases r3
 exact wpAny_truthy_bool ⟨H3,I3,q3⟩
theorem a5P:(sizeLine:Nat) < 2 ^ 63:=by rw [sizeLine_eq];decide
theorem a8s:OpR X (binaryOp .Add) (fun x y H Q=>∃i j,x=.str i∧y=.str j∧i.length+j.length≤sizeLine∧Q (.str (i++j)) H):=by
 intro pins s σ H x y v u Q I rx ry h
 obtain ⟨i,j,rfl,rfl,hz,q⟩:=h
 obtain ⟨t,rfl⟩:=rx
 obtain ⟨t',rfl⟩:=ry
 exact add_str (fun t' tk=>⟨.str (i++j),H,I.tok _,⟨_,rfl⟩,q⟩) hz
theorem a4a {x:V} {us:List Value} (r:a0I [x] us):∃u,us=[u]∧a0H x u:=by
 cases r with
 | cons r1 r2=>cases r2;exact ⟨_,rfl,r1⟩
theorem b6e {x y:V} {us:List Value} (r:a0I [x,y] us):∃u w',us=[u,w']∧a0H x u∧a0H y w':=by
 cases r with
 | cons r1 r2=>
  cases r2 with
  | cons r3 r4=>cases r4;exact ⟨_,_,rfl,r1,r3⟩
theorem a9Z (hc:X.calm=true):a1P X (.builtin "max") (fun xs H Q=>∃i j,xs=[.int i,.int j]∧Q (.int (if j > i then j else i)) H):=by
 intro pins s σ H xs us Q I r h
 obtain ⟨i,j,rfl,q⟩:=h
 obtain ⟨u,w',rfl,⟨t,rfl⟩,⟨t',rfl⟩⟩:=b6e r
 refine max_two_ints (I.ok.hd hc) fun h' tk k=>⟨_,H,I.kept k,?_,q⟩
 by_cases hj:j > i
 ·rw [if_pos hj,if_pos hj];exact ⟨_,rfl⟩
 ·rw [if_neg hj,if_neg hj];exact ⟨_,rfl⟩
theorem a9C (hc:X.calm=true):a1P X (.builtin "min") (fun xs H Q=>∃i j,xs=[.int i,.int j]∧Q (.int (if j < i then j else i)) H):=by
 intro pins s σ H xs us Q I r h
 obtain ⟨i,j,rfl,q⟩:=h
 obtain ⟨u,w',rfl,⟨t,rfl⟩,⟨t',rfl⟩⟩:=b6e r
 refine min_two_ints (I.ok.hd hc) fun h' tk k=>⟨_,H,I.kept k,?_,q⟩
 by_cases hj:j < i
 ·rw [if_pos hj,if_pos hj];exact ⟨_,rfl⟩
 ·rw [if_neg hj,if_neg hj];exact ⟨_,rfl⟩
def c4o (K:Qd) (x:V) (H:Hp) (n:Nat):Prop:=
 match x with
 | .str y=>y.length≤sizeLine∧n=y.length
 | .byt y=>y.size≤sizeLine∧n=y.size
 | .ref p=>(∃xs,SqL K H p xs∧n=xs.length)∨∃xs,SqT K H p xs∧n=xs.length
 | _=>False
theorem b1I:a1P X (.builtin "len") (fun xs H Q=>∃x n,xs=[x]∧c4o X.K x H n∧Q (.int n) H):=by
 intro pins s σ H xs us Q I r h
 obtain ⟨x,n,rfl,e,q⟩:=h
 obtain ⟨u,rfl,rx⟩:=a4a r
 have hl:=a5P
 have hs:sizeLine=16777216:=sizeLine_eq
 cases x with
 | str y=>
  obtain ⟨t,rfl⟩:=rx
  obtain ⟨hy,e'⟩:y.length≤sizeLine∧n=y.length:=e
  subst e'
  exact len_str (by omega) ⟨.int _,H,I.tok _,⟨_,rfl⟩,q⟩
 | byt y=>
  obtain ⟨t,rfl⟩:=rx
  obtain ⟨hy,e'⟩:y.size≤sizeLine∧n=y.size:=e
  subst e'
  exact PySem.W.len_bytes (by omega) ⟨.int _,H,I.tok _,⟨_,rfl⟩,q⟩
 | ref p=>
  cases rx
  have e':(∃xs,SqL X.K H p xs∧n=xs.length)∨∃xs,SqT X.K H p xs∧n=xs.length:=e
  rcases e' with ⟨xs,hx,e'⟩ | ⟨xs,hx,e'⟩
  ·subst e'
   obtain ⟨its,r',pl,hz⟩:=I.list hx
   have hlen:=r'.length
   exact Calls.call_len_list pl.isList (by simp only [Qr];omega) ⟨.int xs.length,H,I.tok _,⟨_,by simp only [Qr];rw [hlen]⟩,q⟩
  ·subst e'
   obtain ⟨its,r',pl,hz⟩:=I.tuple hx
   have hlen:=r'.length
   exact len_tuple pl (by simp only [Qr];omega) ⟨.int xs.length,H,I.tok _,⟨_,by simp only [Qr];rw [hlen]⟩,q⟩
 | _=>exact (show False from e).elim
end
end L2
namespace L2
open PySem PySem.Spec PyProof.Rows
structure b5j (h:Heap) (x dx C:Addr) (mA:Str→Option Value):Prop where
 obj:h.get? x=some (Zi C dx)
 ns:h.Ns1 dx mA
 ne:dx≠x
theorem a8O {h:Heap} {dx:Addr} {mA:Str→Option Value} (n:h.Ns1 dx mA):∃od,h.get? dx=some od∧∀name,Ut name od=some (mA name):=by
 obtain ⟨o,es,ep,ho,hd,hk,_,hm⟩:=n
 refine ⟨o,ho,fun name=>?_⟩
 have e:=hm name
 unfold nsFind findBy at e
 rw [←Array.find?_toList] at e
 unfold Ut
 rw [hd]
 dsimp only
 split
 ·rename_i y q
  rw [q] at e
  exact congrArg some e
 ·rename_i q
  rw [q] at e
  have a:es.toList.any (·.refKey)=false:=by
   rw [List.any_eq_false]
   intro y hy
   obtain ⟨z,t,hkey⟩:=hk y (Array.mem_toList_iff.mp hy)
   simp [DictEntry.refKey,hkey]
  have a':¬es.toList.any (·.refKey)=true:=by rw [a];exact Qx
  rw [if_neg a']
  exact congrArg some e
theorem b5j.look {h:Heap} {x dx C:Addr} {mA:Str→Option Value} (I:b5j h x dx C mA):∃od,PySem.W.InstAt h x (Zi C dx) C (some od)∧∀name,Ut name od=some (mA name):=
 let ⟨od,ho,hl⟩:=a8O I.ns
 ⟨od,⟨I.obj,rfl,rfl,ho⟩,hl⟩
section
variable {prog:Program} {w:World} {A:Around} {E:Value→Shared→Prop} {s:Shared} {K:Qd} {x dx C f:Addr} {mA:Str→Option Value} {name:Str} {v:Value}
theorem b4m {expr:Bool} {Q:Value→Shared→Prop} (X:K.In s.heap) (I:b5j s.heap x dx C mA) (hg:Uc K C name=true) (hh:Vc K C=true)
  (ha:Yo K (.ref C) name=some none) (hv:mA name=some v) (hv':Gf v=true) (h:Q v {s with toks:=s.toks+1}):
  wpAny (model prog w) A (getAttr (.ref x) name expr) Q E s:=by
 obtain ⟨od,J,hl⟩:=I.look
 exact PySem.W.get_value X J (Um hg).1 (PySem.W.findObj_own hh ha rfl (by rw [hl,hv])) hv' h
theorem b2s {pl:Sem Bool} {Q:Value×List Value→Shared→Prop} (X:K.In s.heap) (I:b5j s.heap x dx C mA) (hg:Uc K C name=true)
  (hf:Yo K (.ref C) name=some (some (.ref f))) (ht:Wy K (.ref f)=true) (hv:mA name=none) (h:Q (.ref f,[.ref x]) s):
  wpAny (model prog w) A (getMethod (.ref x) name pl) Q E s:=by
 obtain ⟨od,J,hl⟩:=I.look
 exact PySem.W.method_fn X J (Um hg).1 (Um hg).2 hf (beq_iff_eq.mp ht) (by show (Ut name od).map (·.isSome)=some false;rw [hl,hv];rfl) h
theorem b6l {ns:List Str} {Q:Unit→Shared→Prop} (X:K.In s.heap) (I:b5j s.heap x dx C mA)
  (hs:Yo K (.ref C) "__setattr__"=some (some (.builtin "object.__setattr__"))) (hp:Gc K C=true) (ht:Wb K C name=some none) (hh:Vc K C=true)
  (hw:PySem.Within mA ns) (hsz:ns.length≤sizeLine)
  (h:∀h',b5j h' x dx C (fun y=>if y=name then some v else mA y)→Vj dx s.heap h'→Q () {s with heap:=h',toks:=s.toks+2}):
  wpAny (model prog w) A (setAttr (.ref x) name v) Q E s:=by
 obtain ⟨od,J,hl⟩:=I.look
 refine PySem.W.set_plain X J hs (PySem.W.osa_open (s:={s with toks:=s.toks+1}) (r:=none) X J hp ht fun b=>?_)
 obtain ⟨cd,hc,hd'⟩:=PySem.W.any_some hh
 have hx:s.heap.get? x=some ⟨.ref C,some dx,.plain,#[]⟩:=I.obj
 refine wpAny_bind (wpAny_pure (wpAny_bind (wpAny_bind (wpAny_loadPart hx (wpAny_bind (PySem.W.Looks.here (s:={s with toks:=s.toks+1}) (PySem.W.looks_clsIn X hc) ?_))))))
 rw [hd']
 refine wpAny_pure (a:=some dx) (wpAny_bind (wpAny_pure (wpAny_bind ?_)))
 refine wpAny_nsSet1 (s:={s with toks:=s.toks+1}) I.ns fun h' hn2 hs2=>?_
 obtain ⟨oD,esD,epD,hoD,hdD,hcD⟩:=hn2.count (PySem.Within.cons name v hw)
 refine wpAny_bind (wpAny_lookBehind hoD (by rw [hdD];exact pastItsLine_dict (Qj hcD (by rw [Qo];omega))) ?_)
 exact wpAny_pure (h _ ⟨(hs2.2 _ (Ne.symm I.ne)).trans I.obj,hn2,I.ne⟩ hs2)
theorem b1L {R:Result→Shared→Prop} {vs:List Value} {kw:List (Str×Value)} (X:K.In s.heap) (hm:Gi K C=true)
  (hi:Yo K (.ref C) "__init__"=some (some (.ref f))) (hf:Wl K (.ref f)=some (.type "function"))
  (h:codeAny (model prog w) (A.under (.builtin "type.__call__" ⟨.ref C::vs,kw⟩)) (.call (.ref f) ⟨.ref (s.heap.objs.size+1)::vs,kw⟩) (PySem.W.InitBack (s.heap.objs.size+1) R)
   {s with heap:=(s.heap.push Yt).push (Zi C s.heap.objs.size)}):
  codeAny (model prog w) A (.call (.ref C) ⟨vs,kw⟩) R s:=by
 obtain ⟨hh,g,d,t,os⟩:=s
 exact PySem.W.make_core (PySem.W.makes_of X hm) (PySem.W.looks_findIn X hi) (fun self=>PySem.W.bind_fn X self hf) (.inl rfl) h
end
def a1D (f:Str) (v:V):List (Str×V)→List (Str×V)
 | []=>[(f,v)]
 | (g,x)::r=>if g=f then (g,v)::r else (g,x)::a1D f v r
theorem a0i (f g:Str) (v:V):∀fs:List (Str×V),(a1D f v fs).lookup g=if g=f then some v else fs.lookup g
 | []=>by
  show Zv g [(f,v)]=_
  by_cases h:g=f
  ·have hb:(g == f)=true:=beq_iff_eq.mpr h
   simp only [Zv,hb,if_pos h]
  ·have hb:(g == f)=false:=beq_eq_false_iff_ne.mpr h
   simp only [Zv,hb,if_neg h]
 | (k,x)::r=>by
  have ih:=a0i f g v r
  rw [show a1D f v ((k,x)::r)=(if k=f then (k,v)::r else (k,x)::a1D f v r) from rfl]
  by_cases hk:k=f
  ·rw [if_pos hk]
   by_cases h:g=k
   ·have hb:(g == k)=true:=beq_iff_eq.mpr h
    simp only [Zv,hb,if_pos (h.trans hk)]
   ·have hb:(g == k)=false:=beq_eq_false_iff_ne.mpr h
    simp only [Zv,hb,if_neg (fun e:g=f=>h (e.trans hk.symm))]
  ·rw [if_neg hk]
   by_cases h:g=k
   ·have hb:(g == k)=true:=beq_iff_eq.mpr h
    simp only [Zv,hb,if_neg (fun e:g=f=>hk (h.symm.trans e))]
   ·have hb:(g == k)=false:=beq_eq_false_iff_ne.mpr h
    simp only [Zv,hb]
    exact ih
theorem a3C (f:Str) (v:V):∀fs:List (Str×V),f∈(a1D f v fs).map (·.1)∧∀g,g∈fs.map (·.1)→g∈(a1D f v fs).map (·.1)
 | []=>⟨by simp [a1D],fun g h=>by simp at h⟩
 | (k,x)::r=>by
  obtain ⟨i1,i2⟩:=a3C f v r
  rw [show a1D f v ((k,x)::r)=(if k=f then (k,v)::r else (k,x)::a1D f v r) from rfl]
  by_cases hk:k=f
  ·rw [if_pos hk]
   subst hk
   exact ⟨by simp,fun g h=>by simpa using h⟩
  ·rw [if_neg hk]
   refine ⟨?_,fun g h=>?_⟩
   ·rw [Xl]
    exact Qp _ i1
   ·rw [Xl] at h ⊢
    rcases Qy.mp h with e | e
    ·exact Qy.mpr (.inl e)
    ·exact Qp _ (i2 g e)
theorem a3H (f:Str) (v:V):∀fs:List (Str×V),(a1D f v fs).length≤fs.length+1
 | []=>by simp [a1D]
 | (k,x)::r=>by
  have ih:=a3H f v r
  rw [show a1D f v ((k,x)::r)=(if k=f then (k,v)::r else (k,x)::a1D f v r) from rfl]
  by_cases hk:k=f
  ·rw [if_pos hk,Qo,Qo];omega
  ·rw [if_neg hk,Qo,Qo];omega
theorem a4d.some_of {v:V} {o:Option Value} (r:a4d (some v) o):∃u,o=some u∧a0H v u:=by
 cases o with
 | none=>exact (show False from r).elim
 | some u=>exact ⟨u,rfl,r⟩
theorem a4d.none_of {o:Option Value} (r:a4d none o):o=none:=by
 cases o with
 | none=>rfl
 | some u=>exact (show False from r).elim
theorem a9m {v:V} {u:Value} (r:a0H v u):Gf u=true:=by
 cases v with
 | non=>cases (show u=Value.none from r);rfl
 | bl b=>cases (show u=Value.bool b from r);rfl
 | int i=>obtain ⟨t,e⟩:=(show ∃t,u=Value.int i t from r);cases e;rfl
 | str x=>obtain ⟨t,e⟩:=(show ∃t,u=Value.str x t from r);cases e;rfl
 | byt b=>obtain ⟨t,e⟩:=(show ∃t,u=Value.bytes b t from r);cases e;rfl
 | flt b=>obtain ⟨t,e⟩:=(show ∃t,u=Value.float b t from r);cases e;rfl
 | ref a=>cases (show u=Value.ref a from r);rfl
 | ty n=>cases (show u=Value.type n from r);rfl
section
variable {P:Program} {w:World} {H H':Hp} {h h':Heap} {a C dx:Addr} {fs fs':List (Str×V)}
theorem a4D (hok:HOk P w H h) (e:H a=some (.ins C dx fs)):∃mA,b5j h a dx C mA∧(∀f,a4d (fs.lookup f) (mA f))∧PySem.Within mA (fs.map (·.1))∧fs.length≤1000∧H dx=some (.own a):=by
 obtain ⟨d,z,ne,ob,mA,n,r,q⟩:=(show a0Q P w H h a (.ins C dx fs) from hok a _ e)
 exact ⟨mA,⟨ob,n,ne⟩,r,q,z,d⟩
end
structure Cls (K:Qd) (C:Addr):Prop where
 pg:Uc K C Str.empty=true
 hd:Vc K C=true
 po:Gc K C=true
 sa:Yo K (.ref C) "__setattr__"=some (some (.builtin "object.__setattr__"))
theorem Cls.get {K:Qd} {C:Addr} (c:Cls K C) (f:Str):Uc K C f=true:=c.pg
def a0M (K:Qd) (C:Addr) (f:Str):Prop:=Yo K (.ref C) f=some none
theorem a0M.taker {K:Qd} {C:Addr} {f:Str} (n:a0M K C f):Wb K C f=some none:=by
 unfold Wb
 rw [show Yo K (.ref C) f=some none from n]
 rfl
structure a6f (K:Qd) (C:Addr) (m:Str) (f:Addr):Prop where
 at_:Yo K (.ref C) m=some (some (.ref f))
 fn:Wy K (.ref f)=true
 kp:Zf K (.ref f)=true
section
variable {X:Cx} {pins:List (Addr×Obj)} {σ:St} {H:Hp} {s:Shared} {a C dx:Addr} {fs:List (Str×V)} {f:Str} {v:V} {A:Around} {E:Value→Shared→Prop}
theorem a7K {b:Bool} {Q:Value→Shared→Prop} (I:Inv X pins σ H s) (e:H a=some (.ins C dx fs)) (c:Cls X.K C) (n:a0M X.K C f) (l:fs.lookup f=some v)
  (h:∀u s',Inv X pins σ H s'→a0H v u→Q u s'):wpAny (model X.prog X.w) A (getAttr (.ref a) f b) Q E s:=by
 obtain ⟨mA,O,r,_,_,_⟩:=a4D I.hok e
 obtain ⟨u,hu,ru⟩:=a4d.some_of (v:=v) (o:=mA f) (by rw [←l];exact r f)
 exact b4m I.kIn O (c.get f) c.hd n hu (a9m ru) (h u _ (I.tok _) ru)
theorem a4x {m:Str} {g:Addr} {pl:Sem Bool} {Q:Value×List Value→Shared→Prop} (I:Inv X pins σ H s) (e:H a=some (.ins C dx fs)) (c:Cls X.K C) (k:a6f X.K C m g) (l:fs.lookup m=none)
  (h:Q (.ref g,[.ref a]) s):wpAny (model X.prog X.w) A (getMethod (.ref a) m pl) Q E s:=by
 obtain ⟨mA,O,r,_,_,_⟩:=a4D I.hok e
 have hn:mA m=none:=a4d.none_of (by rw [←l];exact r m)
 exact b2s I.kIn O (c.get m) k.at_ k.fn hn h
theorem a7U {y:V} {u:Value} {Q:Unit→Shared→Prop} (I:Inv X pins σ H s) (e:H a=some (.ins C dx fs)) (c:Cls X.K C) (n:a0M X.K C f) (hl:fs.length < 1000) (ry:a0H y u)
  (h:∀s',Inv X pins σ (upd H a (.ins C dx (a1D f y fs))) s'→Q () s'):wpAny (model X.prog X.w) A (setAttr (.ref a) f u) Q E s:=by
 obtain ⟨mA,O,r,wi,_,ho⟩:=a4D I.hok e
 have hz:(fs.map (·.1)).length≤sizeLine:=by rw [Qe,sizeLine_eq];omega
 refine b6l I.kIn O c.sa c.po n.taker c.hd wi hz fun h' O' sb=>h _ ?_
 have hd:∃o,h'.get? dx=some o:=let ⟨o,_,_,e',_⟩:=O'.ns;⟨o,e'⟩
 refine I.write (x:=a) (e:=dx) (by rw [e];exact True.intro) (.inr ho) (fun b q hb z=>(sb.2 b hb).trans z) hd ?_
 refine ⟨by rw [a0a O.ne];exact ho,?_,O.ne,O'.obj,_,O'.ns,fun g=>?_,fun g hg=>?_⟩
 ·have:=a3H f y fs;omega
 ·show a4d ((a1D f y fs).lookup g) (if g=f then some u else mA g)
  rw [a0i]
  by_cases q:g=f
  ·rw [if_pos q,if_pos q];exact ry
  ·rw [if_neg q,if_neg q];exact r g
 ·by_cases q:g=f
  ·rw [q];exact (a3C f y fs).1
  ·refine (a3C f y fs).2 g (wi g fun z=>hg ?_)
   show (if g=f then some u else mA g)=none
   rw [if_neg q];exact z
theorem Inv.made (I:Inv X pins σ H s):Inv X pins σ (upd (upd H s.heap.objs.size (.own (s.heap.objs.size+1))) (s.heap.objs.size+1) (.ins C s.heap.objs.size []))
  {s with heap:=(s.heap.push Yt).push (Zi C s.heap.objs.size)}:=by
 have e1:(s.heap.push Yt).get? s.heap.objs.size=some Yt:=Qw s.heap rfl
 have e2:((s.heap.push Yt).push (Zi C s.heap.objs.size)).get? (s.heap.objs.size+1)=some (Zi C s.heap.objs.size):=by
  have:=Qw (s.heap.push Yt) (o:=Zi C s.heap.objs.size) rfl
  rwa [Ji] at this
 have e3:(s.heap.push Yt).Ns s.heap.objs.size (fun _=>none):=⟨Yt,#[],_,e1,rfl,(fun e he=>absurd he (by simp)),fun _=>rfl⟩
 have I1:=I.laid (a:=s.heap.objs.size) (o:=.own (s.heap.objs.size+1)) (h':=s.heap.push Yt) (t':=s.toks) (fun b u q=>Qk _ q) (Qi _) ⟨_,e1⟩
 refine I1.laid (a:=s.heap.objs.size+1) (o:=.ins C s.heap.objs.size []) (t':=s.toks) (fun b u q=>Qk _ q) (Vk (Ji _ _)) ?_
 have ne:s.heap.objs.size≠s.heap.objs.size+1:=Xg (Vl _)
 refine ⟨by rw [a0a ne,a0d],Xa _,ne,e2,fun _=>none,(Heap.Ns1.of_empty e3).at fun o q=>Qk _ q,fun _=>True.intro,fun y hy=>absurd rfl hy⟩
theorem b5e {prog:Program} {w:World} {env:Env} {e:Expr} {f:Str} {pos:Pos} {s:Shared} {Q:Value→Shared→Prop} (hb:attributeBase e f env (eval e env)=eval e env)
  (h:wpAny (model prog w) A (eval e env) (fun o s₁=>wpAny (model prog w) A (getAttr o f true) Q E s₁) E s):wpAny (model prog w) A (eval (.Attribute e f pos) env) Q E s:=
 Attribute_any_ h (by rw [arm_eval_Attribute,hb])
end
def a4q (K:Qd) (ta:TE) (f:Str):TE:=fun σ H Q=>ta σ H fun x H1=>∃a C dx fs v,x=.ref a∧H1 a=some (.ins C dx fs)∧Cls K C∧a0M K C f∧fs.lookup f=some v∧Q v H1
def c0a (K:Qd) (ta tv:TE) (f:Str):TS:=fun D σ H=>tv σ H fun y H1=>ta σ H1 fun x H2=>∃a C dx fs,x=.ref a∧H2 a=some (.ins C dx fs)∧Cls K C∧a0M K C f∧fs.length < 1000∧
 D.nx σ (upd H2 a (.ins C dx (a1D f y fs)))
section
variable {X:Cx} {o e value:Expr} {f:Str} {pos pos' tpos:Pos} {ta tv:TE}
theorem b3P (he:PE X e ta) (hb:attributeBase e f X.env (eval e X.env)=eval e X.env):PE X (.Attribute e f pos) (a4q X.K ta f):=by
 intro pins s σ H Q I h
 refine b5e hb (thn (he pins s σ H _ I h) fun u s1 ⟨x,H1,I1,rx,a,C,dx,fs,v,ex,ea,c,n,l,q⟩=>?_)
 subst ex
 obtain rfl:u=Value.ref a:=rx
 exact a7K I1 ea c n l fun u' s2 I2 ru=>⟨v,H1,I2,ru,q⟩
theorem b6O (ha:PE X o ta) (hv:PE X value tv) (hs:swapsWith value (some (.Attribute o f pos')) pos.line X.env=pure false):PS X (.Assign [.Attribute o f pos'] value pos) (c0a X.K ta tv f):=by
 intro pins s σ H D I h
 refine plainObj_wpAny_Assign_Attribute (thn (hv pins s σ H _ I h) fun u s1 ⟨y,H1,I1,ry,q⟩=>thn (ha pins s1 σ H1 _ I1 q) fun ov s2 ⟨x,H2,I2,rx,a,C,dx,fs,ex,ea,c,n,l,q2⟩=>?_) hs
 subst ex
 obtain rfl:ov=Value.ref a:=rx
 exact a7U I2 ea c n l ry fun s3 I3=>⟨σ,_,I3,q2⟩
end
section
variable {X:Cx} {pins:List (Addr×Obj)} {σ:St} {H:Hp} {s:Shared} {A:Around} {E:Value→Shared→Prop} {Q:Value→Shared→Prop} {c:Value} {b:Bool}
inductive a8r (K:Qd) (H:Hp):V→Value→Prop where
 | non:a8r K H .non (.type "NoneType")
 | bl (x:Bool):a8r K H (.bl x) (.type "bool")
 | int (i:Int):a8r K H (.int i) (.type "int")
 | str (x:Str):a8r K H (.str x) (.type "str")
 | flt (x:UInt64):a8r K H (.flt x) (.type "float")
 | lst {a:Addr} {xs:List V} (e:H a=some (.lst xs)):a8r K H (.ref a) (.type "list")
 | frz {a:Addr} {o:Obj} {xs:List V} (e:H a=some (.frz o (.lst xs))):a8r K H (.ref a) (.type "list")
 | tup {a:Addr} {xs:List V} (e:H a=some (.tup xs)):a8r K H (.ref a) (.type "tuple")
 | dK {a:Addr} {kvs:List (Key×V)} (e:H a=some (.dK kvs)):a8r K H (.ref a) (.type "dict")
 | dT {a:Addr} {kvs:List (List Key×V)} (e:H a=some (.dT kvs)):a8r K H (.ref a) (.type "dict")
 | ins {a C dx:Addr} {fs:List (Str×V)} (e:H a=some (.ins C dx fs)) (cl:Cls K C) (ha:Yo K (.ref C) "__class__"=some (some (.builtin "object.__class__")))
   (hn:Vd K (.builtin "object.__class__") "__get__"=some (some (.builtin "getset_descriptor.__get__"))) (htk:Gj K (.builtin "object.__class__")=some true)
   (hm:PySem.W.mroIn K C (.type "object")=some true):a8r K H (.ref a) (.ref C)
theorem a9O {x:V} {u t:Value} (I:Inv X pins σ H s) (rx:a0H x u) (ty:a8r X.K H x t) (e:Xw X.K t c=some b) (h:∀tk,Q (.bool b) {s with toks:=tk}):
  wpAny (model X.prog X.w) A (call (.builtin "isinstance") [u,c]) Q E s:=by
 cases ty with
 | non=>cases (show u=Value.none from rx);exact Yr PySem.W.kitx_none I.kIn True.intro e (fun z=>nomatch z) h
 | bl y=>cases (show u=Value.bool y from rx);exact Yr PySem.W.kitx_bool I.kIn True.intro e (fun z=>nomatch z) h
 | int i=>obtain ⟨t,q⟩:=(show ∃t,u=Value.int i t from rx);cases q;exact Yr PySem.W.kitx_int I.kIn True.intro e (fun z=>nomatch z) h
 | str y=>obtain ⟨t,q⟩:=(show ∃t,u=Value.str y t from rx);cases q;exact Yr PySem.W.kitx_str I.kIn True.intro e (fun z=>nomatch z) h
 | flt y=>obtain ⟨t,q⟩:=(show ∃t,u=Value.float y t from rx);cases q;exact Yr PySem.W.kitx_float I.kIn True.intro e (fun z=>nomatch z) h
 | @lst a xs ea=>
  cases (show u=Value.ref a from rx)
  obtain ⟨_,_,n,_,h1⟩:=(show a0Q X.prog X.w H s.heap a (.lst xs) from I.hok a _ ea)
  exact Yr Gd I.kIn ⟨_,h1,rfl⟩ e (fun z=>nomatch z) h
 | @frz a ob xs ea=>
  cases (show u=Value.ref a from rx)
  obtain ⟨_,_,_,n,_,h1⟩:=(show a0Q X.prog X.w H s.heap a (.frz ob (.lst xs)) from I.hok a _ ea)
  exact Yr Gd I.kIn ⟨_,h1,rfl⟩ e (fun z=>nomatch z) h
 | @tup a xs ea=>
  cases (show u=Value.ref a from rx)
  obtain ⟨_,_,_,p⟩:=(show a0Q X.prog X.w H s.heap a (.tup xs) from I.hok a _ ea)
  obtain ⟨o,h1,h2,_⟩:=p
  exact Yr PySem.W.kitx_tuple I.kIn ⟨o,h1,h2⟩ e (fun z=>nomatch z) h
 | @dK a kvs ea=>
  cases (show u=Value.ref a from rx)
  obtain ⟨_,_,vs,_,p⟩:=(show a0Q X.prog X.w H s.heap a (.dK kvs) from I.hok a _ ea)
  obtain ⟨o,es,ep,h1,h2,_⟩:=p
  exact Yr Ge I.kIn ⟨o,h1,h2.1⟩ e (fun z=>nomatch z) h
 | @dT a kvs ea=>
  cases (show u=Value.ref a from rx)
  obtain ⟨_,_,xs,_,o,es,ep,h1,h2,_⟩:=(show a0Q X.prog X.w H s.heap a (.dT kvs) from I.hok a _ ea)
  exact Yr Ge I.kIn ⟨o,h1,h2.1⟩ e (fun z=>nomatch z) h
 | @ins a C dx fs ea cl ha hn htk hm=>
  cases (show u=Value.ref a from rx)
  obtain ⟨mA,O,_⟩:=a4D I.hok ea
  obtain ⟨od,J,_⟩:=O.look
  exact Yr (PySem.W.kitx_own (cl.get _) cl.hd ha hn htk hm) I.kIn J e (fun z=>nomatch z) h
end
end L2
namespace L2
open PySem PySem.Spec PyProof.Rows
structure a2h (k:Nat) (A:Around):Prop where
 hd:A.handled=none
 dp:A.depth+3 * k+5 < recursionLimit
 un:A.units+16 * k+200 < cLine
theorem a2h.mono {j k:Nat} {A:Around} (r:a2h k A) (h:j≤k):a2h j A:=⟨r.hd,by have:=r.dp;omega,by have:=r.un;omega⟩
theorem a2h.deeper {k:Nat} {A:Around} (r:a2h (k+1) A) (env:Env):a2h k (A.deeper env):=
 ⟨r.hd,by have:=r.dp;show A.depth+1+3 * k+5 < _;omega,by have:=r.un;show A.units+3+16 * k+200 < _;omega⟩
theorem a2h.in1 {k:Nat} {A:Around} (r:a2h (k+1) A):a2h k A.in1:=
 ⟨r.hd,by have:=r.dp;show A.depth+3 * k+5 < _;omega,by have:=r.un;show A.units+1+16 * k+200 < _;omega⟩
theorem a8m {A:Around} {C:Addr} {us:List Value} {kw:List (Str×Value)}:(A.under (.builtin "type.__call__" ⟨.ref C::us,kw⟩)).depth=A.depth+1:=by
 first | rfl | simp [Around.under,Code.weight,Code.isCreation,Code.isGuard,Code.isCaller,Code.frames,Code.isFrame,guardIds]
theorem a7S {A:Around} {C:Addr} {us:List Value} {kw:List (Str×Value)}:(A.under (.builtin "type.__call__" ⟨.ref C::us,kw⟩)).units=A.units+1:=by
 first | rfl | simp [Around.under,Code.cUnits,Code.frames,Code.isFrame]
theorem a2h.make {k:Nat} {A:Around} (r:a2h (k+1) A) (C:Addr) (us:List Value) (kw:List (Str×Value)):a2h k (A.under (.builtin "type.__call__" ⟨.ref C::us,kw⟩)):=
 ⟨r.hd,by have:=r.dp;rw [a8m];omega,by have:=r.un;rw [a7S];omega⟩
theorem a2h.depth {k:Nat} {A:Around} (r:a2h k A):A.depth < recursionLimit:=by have:=r.dp;omega
theorem a2h.units {k:Nat} {A:Around} (r:a2h k A):A.units+64 < cLine:=by have:=r.un;omega
def a0t:TA:=fun _ H Q=>Q [] H
def a0h (ta:TE) (tr:TA):TA:=fun σ H Q=>ta σ H fun x H1=>tr σ H1 fun xs H2=>Q (x::xs) H2
section
variable {X:Cx} {e:Expr} {es:List Expr} {te:TE} {t:TA} {pos:Pos}
theorem b3q:PA X [] a0t:=fun _ _ _ _ H Q I h=>Calls.spliced_nil ⟨[],H,I,.nil,h⟩
theorem b0b (ha:PE X e te) (hr:PA X es t) (hs:starEach (e::es) X.env=(false,eval e X.env)::starEach es X.env:=by rfl):PA X (e::es) (a0h te t):=by
 intro pos pins s σ H Q I h
 rw [hs]
 show wpAny _ _ (spliced ((false,eval e X.env)::backTo pos (starEach es X.env))) _ _ s
 refine Calls.spliced_cons (thn (ha pins s σ H _ I h) fun u s1 ⟨x,H1,I1,r1,q1⟩=>?_)
 exact thn (hr pos pins s1 σ H1 _ I1 q1) fun us s2 ⟨xs,H2,I2,r2,q2⟩=>⟨x::xs,H2,I2,.cons r1 r2,q2⟩
def a6Q (t:TA):TE:=fun σ H Q=>t σ H fun xs H1=>xs.length≤sizeLine∧∀p,H1 p=none→Q (.ref p) (upd H1 p (.tup xs))
def a2Q (t:TA):TE:=fun σ H Q=>t σ H fun xs H1=>xs.length≤sizeLine∧∀p,H1 p=none→Q (.ref p) (upd H1 p (.lst xs))
theorem b9x {x1} (h:PA X es t):PE X (.Tuple es x1 pos) (a6Q t):=by
 intro pins s σ H Q I hq
 refine wpAny_Tuple_spliced (thn (h pos pins s σ H _ I hq) fun us s1 ⟨xs,H1,I1,r,z,q⟩=>⟨by rw [←r.length];exact z,?_⟩)
 have hf:H1 s1.heap.objs.size=none:=I1.hok.fresh (Qi _)
 refine ⟨.ref s1.heap.objs.size,upd H1 s1.heap.objs.size (.tup xs),I1.laid (t':=s1.toks) (fun b u e=>Qk _ e) (Qi _) ?_,rfl,q _ hf⟩
 exact ⟨z,us,r,⟨_,Qw _ rfl,rfl,_,rfl⟩⟩
theorem b8Z (h:PA X es t):PE X (.List es pos) (a2Q t):=by
 intro pins s σ H Q I hq
 refine wpAny_List_spliced (thn (h pos pins s σ H _ I hq) fun us s1 ⟨xs,H1,I1,r,z,q⟩=>⟨by rw [←r.length];exact z,?_⟩)
 have hf:H1 s1.heap.objs.size=none:=I1.hok.fresh (Qi _)
 refine ⟨.ref s1.heap.objs.size,upd H1 s1.heap.objs.size (.lst xs),I1.laid (t':=s1.toks) (fun b u e=>Qk _ e) (Qi _) ?_,rfl,q _ hf⟩
 exact ⟨z,us,0,r,Qw _ rfl⟩
end
abbrev Sp:=List V→Hp→VK→XK→Prop
abbrev CXT:=List Env→Hp→Shared→XK→Value→Shared→Prop
structure b4i (P:Program) (w:World) (K:Qd) (mg:Str→Option Value) (base:Heap) (A:Around) (outer:List Env) (s:Shared) (H:Hp):Prop where
 frames:A.frames=some outer
 mod:Mod K mg base
 bs:∀b o,base.get? b=some o→s.heap.get? b=some o∧H b=none
 bsz:base.objs.size≤s.heap.objs.size
 funs:s.heap.FunFrames base outer
 frf:∀b∈frs outer,H b=none
 hok:HOk P w H s.heap
 bare:AllBare s.gens
def CE (outer:List Env) (P:Program) (w:World) (H:Hp) (s:Shared) (Q:VK) (u:Value) (s':Shared):Prop:=
 ∃v H',s'.os=s.os∧AllBare s'.gens∧Un (frs outer) [] H H' s.heap s'.heap∧HOk P w H' s'.heap∧a0H v u∧Q v H'
def CR (CX:CXT) (outer:List Env) (P:Program) (w:World) (H:Hp) (s:Shared) (Q:VK) (E:XK) (r:Result) (s':Shared):Prop:=
 match r with
 | .ok (.ret u)=>CE outer P w H s Q u s'
 | .ok _=>False
 | .error e=>CX outer H s E e s'
structure a1a (P:Program) (w:World) (K:Qd) (mg:Str→Option Value) (base:Heap) (CX:CXT) (k:Nat) (f:Addr) (fd:FuncData) (ps:List Str) (sp:Sp):Prop where
 len:∀vs H Q E,sp vs H Q E→vs.length=ps.length
 run:∀(A:Around) (outer:List Env) (s:Shared) (H:Hp) (args:Args) (us:List Value) (vs:List V) (Q:VK) (E:XK),a2h k A→b4i P w K mg base A outer s H→BindsTo s fd args (ps.zip us)→a0I vs us→sp vs H Q E→
  codeAny (model P w) A (.call (.ref f) args) (CR CX outer P w H s Q E) s
theorem a1a.imp {P:Program} {w:World} {K:Qd} {mg:Str→Option Value} {base:Heap} {CX:CXT} {k:Nat} {f:Addr} {fd:FuncData} {ps:List Str} {sp sp':Sp} (F:a1a P w K mg base CX k f fd ps sp)
  (h:∀vs H Q E,sp' vs H Q E→sp vs H Q E):a1a P w K mg base CX k f fd ps sp':=
 ⟨fun vs H Q E q=>F.len vs H Q E (h _ _ _ _ q),fun A outer s H args us vs Q E hr he hb hv hs=>F.run A outer s H args us vs Q E hr he hb hv (h _ _ _ _ hs)⟩
theorem b4i.make {P:Program} {w:World} {K:Qd} {mg:Str→Option Value} {base:Heap} {A:Around} {outer:List Env} {s:Shared} {H:Hp} (e:b4i P w K mg base A outer s H) (C:Addr) (us:List Value) (kw:List (Str×Value)):
  b4i P w K mg base (A.under (.builtin "type.__call__" ⟨.ref C::us,kw⟩)) outer s H:=⟨by first | exact e.frames | (simpa [Around.under,Code.envs,Code.isFrame,pushEnvs] using e.frames),e.mod,e.bs,e.bsz,e.funs,e.frf,e.hok,e.bare⟩
section
variable {X:Cx} {pins:List (Addr×Obj)} {σ:St} {H:Hp} {s s':Shared}
theorem Inv.env0 (I:Inv X pins σ H s):b4i X.prog X.w X.K X.mg X.base X.A X.stack s H:=
 ⟨I.ok.frames,I.ok.mod,I.bs,Qj I.ok.bsz I.sz,I.stack,I.stkFree,I.hok,I.bare⟩
theorem Inv.after {Q:VK} {u:Value} (I:Inv X pins σ H s) (h:CE X.stack X.prog X.w H s Q u s'):EP X pins σ Q u s':=by
 obtain ⟨v,H',os,bare,un,hok,r,q⟩:=h
 obtain ⟨hh,g,d,t,os'⟩:=s'
 obtain rfl:os'=s.os:=os
 exact ⟨v,H',I.call (h':=hh) (g':=g) (d':=d) (t':=t) (ch:=[]) un hok bare (fun b z=>absurd z (by simp)),r,q⟩
end
def a0x (sp:Sp) (dvs:List V) (E:XK) (t:TA):TE:=fun σ H Q=>t σ H fun vs H1=>sp (vs++dvs) H1 Q E
def a2B (C:Addr) (m:Str) (sp:Sp) (dvs:List V) (E:XK) (ta:TE) (t:TA):TE:=fun σ H Q=>ta σ H fun x H1=>∃a dx fs,x=.ref a∧H1 a=some (.ins C dx fs)∧fs.lookup m=none∧
 t σ H1 fun vs H2=>sp (x::(vs++dvs)) H2 Q E
def b4G (C:Addr) (sp:Sp) (dvs:List V) (E:XK) (t:TA):TE:=fun σ H Q=>t σ H fun vs H1=>∀x dx,H1 x=none→H1 dx=none→dx≠x→
 sp (.ref x::(vs++dvs)) (upd (upd H1 dx (.own x)) x (.ins C dx [])) (fun v H2=>v=.non∧Q (.ref x) H2) E
def a0q (K:Qd) (fd:FuncData) (ps:List Str) (ds:List Value):Prop:=
 ∀(s:Shared) (us:List Value),K.In s.heap→(us++ds).length=ps.length→BindsTo s fd ⟨us,[]⟩ (ps.zip (us++ds))
theorem a0q.all {K:Qd} {fd:FuncData} {ps:List Str} (h:∀us:List Value,us.length=ps.length→bindArgs fd ⟨us,[]⟩=pure (ps.zip us)):a0q K fd ps []:=fun s us _ hl=>by
 rw [Qh] at hl ⊢
 exact .of_eq (h us hl)
def a3j (CX:CXT) (X:Cx) (E:XK):Prop:=∀(pins:List (Addr×Obj)) (σ:St) (H:Hp) (s:Shared) (e:Value) (s':Shared),Inv X pins σ H s→CX X.stack H s E e s'→X.xe e s'
section
variable {X:Cx} {CX:CXT} {k:Nat} {f C:Addr} {fd:FuncData} {ps:List Str} {sp:Sp} {dvs:List V} {ds:List Value} {E:XK} {x m:Str} {p pos apos:Pos} {e o:Expr} {es:List Expr} {ta:TE} {t:TA}
theorem a6Z {pins:List (Addr×Obj)} {σ:St} {H:Hp} {s:Shared} {Q:VK} {us:List Value} {vs:List V} (F:a1a X.prog X.w X.K X.mg X.base CX k f fd ps sp) (hr:a2h k X.A) (hb:a0q X.K fd ps ds) (hd:a0I dvs ds) (hx:a3j CX X E)
  (I:Inv X pins σ H s) (r:a0I vs us) (h:sp (vs++dvs) H Q E):wpAny (model X.prog X.w) X.A (call (.ref f) us) (EP X pins σ Q) X.xe s:=by
 have r2:a0I (vs++dvs) (us++ds):=r.append hd
 have hl:(us++ds).length=ps.length:=by rw [←r2.length];exact F.len _ _ _ _ h
 refine wpAny_call (codeAny_mono (F.run X.A X.stack s H ⟨us,[]⟩ (us++ds) (vs++dvs) Q E hr I.env0 (hb s us I.kIn hl) r2 h) fun r s' hq=>?_)
 cases r with
 | error e=>exact hx pins σ H s e s' I hq
 | ok fl=>
  cases fl with
  | ret u=>exact I.after hq
  | next=>exact False.elim hq
  | brk=>exact False.elim hq
  | cont=>exact False.elim hq
theorem b4A (F:a1a X.prog X.w X.K X.mg X.base CX k f fd ps sp) (hr:a2h k X.A) (hg:Gl X x) (hm:X.mg x=some (.ref f)) (hk:Zf X.K (.ref f)=true) (hb:a0q X.K fd ps ds) (hd:a0I dvs ds) (hx:a3j CX X E)
  (ha:PA X (e::es) t) (hdb:(x == ("__debug__":Str))=false:=by decide) (he:starEach (e::es) X.env=(false,eval e X.env)::starEach es X.env:=by rfl) (hpl:(backTo pos (starEach es X.env)).any (·.1)=false:=by rfl):
  PE X (.Call (.Name x p) (e::es) [] pos) (a0x sp dvs E t):=by
 intro pins s σ H Q I h
 refine wpAny_Call_Name_kw (a6z I hg hm ?_ hdb)
 refine Jv (h₀:=X.base) I.ok.mod.kin hk (thn (ha pos pins s σ H _ I h) fun us s1 ⟨vs,H1,I1,r,q⟩=>⟨I1.kIn,?_⟩) he hpl
 exact a6Z F hr hb hd hx I1 r q
theorem b5G {pl:Sem Bool} (he:PE X o ta) (c:Cls X.K C) (hm:a6f X.K C m f) (F:a1a X.prog X.w X.K X.mg X.base CX k f fd ps sp) (hr:a2h k X.A) (hb:a0q X.K fd ps ds) (hd:a0I dvs ds) (hx:a3j CX X E) (ha:PA X (e::es) t)
  (hst:starEach (e::es) X.env=(false,eval e X.env)::starEach es X.env:=by rfl) (hpl:(backTo pos (starEach es X.env)).any (·.1)=false:=by rfl)
  (ht:eval (.Call (.Attribute o m apos) (e::es) [] pos) X.env=(do
   let ov ←eval o X.env
   standAt apos.atName
   let (f,first) ←holding [ov] (getMethod ov m pl)
   callWith pos f first (backTo pos (starEach (e::es) X.env)) (backToKw pos (keywordEach [] X.env))):=by rfl):
  PE X (.Call (.Attribute o m apos) (e::es) [] pos) (a2B C m sp dvs E ta t):=by
 intro pins s σ H Q I h
 refine Ud (pl:=pl) (thn (he pins s σ H _ I h) fun u s1 ⟨x,H1,I1,rx,a,dx,fs,ex,ea,l,q⟩=>?_) ht
 subst ex
 obtain rfl:u=Value.ref a:=rx
 refine a4x I1 ea c hm l ?_
 refine Jv (first:=[.ref a]) (h₀:=X.base) I.ok.mod.kin hm.kp (thn (ha pos pins s1 σ H1 _ I1 q) fun us s2 ⟨vs,H2,I2,r,q2⟩=>⟨I2.kIn,?_⟩) hst hpl
 exact a6Z (us:=.ref a::us) (vs:=.ref a::vs) F hr hb hd hx I2 (.cons rfl r) q2
theorem b1V {pl:Sem Bool} (he:PE X o ta) (c:Cls X.K C) (hm:a6f X.K C m f) (F:a1a X.prog X.w X.K X.mg X.base CX k f fd ps sp) (hr:a2h k X.A) (hb:a0q X.K fd ps ds) (hd:a0I dvs ds) (hx:a3j CX X E)
  (ht:eval (.Call (.Attribute o m apos) [] [] pos) X.env=(do
   let ov ←eval o X.env
   standAt apos.atName
   let (f,first) ←holding [ov] (getMethod ov m pl)
   callWith pos f first (backTo pos (starEach [] X.env)) (backToKw pos (keywordEach [] X.env))):=by rfl):
  PE X (.Call (.Attribute o m apos) [] [] pos) (a2B C m sp dvs E ta a0t):=by
 intro pins s σ H Q I h
 refine Ud (pl:=pl) (thn (he pins s σ H _ I h) fun u s1 ⟨x,H1,I1,rx,a,dx,fs,ex,ea,l,q⟩=>?_) ht
 subst ex
 obtain rfl:u=Value.ref a:=rx
 refine a4x I1 ea c hm l ?_
 exact PySem.W.callWith_K0 (first:=[.ref a]) I1.kIn hm.kp (a6Z (us:=[.ref a]) (vs:=[.ref a]) F hr hb hd hx I1 (.cons rfl .nil) q)
structure Mk (K:Qd) (C f:Addr):Prop where
 makes:Gi K C=true
 init:Yo K (.ref C) "__init__"=some (some (.ref f))
 fn:Wy K (.ref f)=true
 kp:Zf K (.ref C)=true
theorem b2r {pins:List (Addr×Obj)} {σ:St} {H:Hp} {s:Shared} {Q:VK} {us:List Value} {vs:List V} (M:Mk X.K C f) (F:a1a X.prog X.w X.K X.mg X.base CX k f fd ps sp) (hr:a2h (k+1) X.A) (hb:a0q X.K fd ps ds) (hd:a0I dvs ds)
  (hx:a3j CX X E) (I:Inv X pins σ H s) (r:a0I vs us)
  (h:∀x dx,H x=none→H dx=none→dx≠x→sp (.ref x::(vs++dvs)) (upd (upd H dx (.own x)) x (.ins C dx [])) (fun v H2=>v=.non∧Q (.ref x) H2) E):
  wpAny (model X.prog X.w) X.A (call (.ref C) us) (EP X pins σ Q) X.xe s:=by
 have hq:=h (s.heap.objs.size+1) s.heap.objs.size (I.hok.fresh (Zo _)) (I.hok.fresh (Qi _)) (Xg (Vl _))
 have I2:=Inv.made (C:=C) I
 have r2:a0I (V.ref (s.heap.objs.size+1)::(vs++dvs)) (Value.ref (s.heap.objs.size+1)::(us++ds)):=.cons rfl (r.append hd)
 have hl:(Value.ref (s.heap.objs.size+1)::us++ds).length=ps.length:=by
  have e:=r2.length
  rw [F.len _ _ _ _ hq] at e
  exact e.symm
 refine wpAny_call (b1L (f:=f) I.kIn M.makes M.init (beq_iff_eq.mp M.fn) (codeAny_mono (F.run _ X.stack _ _ ⟨Value.ref (s.heap.objs.size+1)::us,[]⟩ (Value.ref (s.heap.objs.size+1)::(us++ds)) _ _ E (hr.make C us [])
  (I2.env0.make C us []) (hb _ (Value.ref (s.heap.objs.size+1)::us) I2.kIn hl) r2 hq) fun r s' hq'=>?_))
 cases r with
 | error e=>exact hx pins σ _ _ e s' I2 hq'
 | ok fl=>
  cases fl with
  | ret u=>
   obtain ⟨v,H',I3,rv,ev,q3⟩:=I2.after hq'
   subst ev
   exact ⟨rv,⟨V.ref (s.heap.objs.size+1),H',I3,rfl,q3⟩⟩
  | next=>exact False.elim hq'
  | brk=>exact False.elim hq'
  | cont=>exact False.elim hq'
theorem b4C (M:Mk X.K C f) (F:a1a X.prog X.w X.K X.mg X.base CX k f fd ps sp) (hr:a2h (k+1) X.A) (hg:Gl X x) (hm:X.mg x=some (.ref C)) (hb:a0q X.K fd ps ds) (hd:a0I dvs ds) (hx:a3j CX X E)
  (ha:PA X (e::es) t) (hdb:(x == ("__debug__":Str))=false:=by decide) (he:starEach (e::es) X.env=(false,eval e X.env)::starEach es X.env:=by rfl) (hpl:(backTo pos (starEach es X.env)).any (·.1)=false:=by rfl):
  PE X (.Call (.Name x p) (e::es) [] pos) (b4G C sp dvs E t):=by
 intro pins s σ H Q I h
 refine wpAny_Call_Name_kw (a6z I hg hm ?_ hdb)
 refine Jv (h₀:=X.base) I.ok.mod.kin M.kp (thn (ha pos pins s σ H _ I h) fun us s1 ⟨vs,H1,I1,r,q⟩=>⟨I1.kIn,?_⟩) he hpl
 exact b2r M F hr hb hd hx I1 r q
end
structure a0g (N P:List Str) (sc:Scope):Prop where
 kind:sc.kind=.function
 co:sc.isCoroutine=false
 gen:sc.isGenerator=false
 nd:N.Nodup
 pre:N.take P.length=P
 par:∀x∈P,sc.names.lookup x=some .local∨sc.names.lookup x=some .cell
 nofree:∀y∈sc.names,y.2≠.free
theorem a5N {kindOf:Str→Option NameKind} {x:Str}:∀{binds:List (Str×Value)} {m:Str→Option Value},(∀v,(x,v)∉binds)→bindL kindOf binds m x=m x
 | [],_,_=>rfl
 | (n,v)::r,m,h=>by
  unfold bindL
  rw [a5N fun w hw=>h w (Qp _ hw)]
  split
  ·have:x≠n:=by rintro rfl;exact h v Qs
   simp [this]
  ·rfl
theorem a5l {kindOf:Str→Option NameKind} {x:Str}:∀{binds:List (Str×Value)} {m:Str→Option Value},(∀v,(x,v)∉binds)→bindC kindOf binds m x=m x
 | [],_,_=>rfl
 | (n,v)::r,m,h=>by
  unfold bindC
  rw [a5l fun w hw=>h w (Qp _ hw)]
  split
  ·rfl
  ·have:x≠n:=by rintro rfl;exact h v Qs
   simp [this]
theorem a6a {kindOf:Str→Option NameKind} {x:Str} {v:Value}:∀{P:List Str} {vs:List Value} {i:Nat} {m:Str→Option Value},P.Nodup→P[i]?=some x→vs[i]?=some v→kindOf x=some .local→
  bindL kindOf (P.zip vs) m x=some v
 | [],_,_,_,_,h,_,_=>by simp at h
 | _::_,[],_,_,_,_,h,_=>by simp at h
 | p::P,w::vs,0,m,nd,h1,h2,hk=>by
  simp at h1 h2;subst h1;subst h2
  show bindL kindOf ((p,w)::P.zip vs) m p=_
  unfold bindL
  rw [a5N fun v hv=>(Zj.mp nd).1 (Wc hv).1,if_pos hk]
  simp
 | p::P,w::vs,i+1,m,nd,h1,h2,hk=>by
  show bindL kindOf ((p,w)::P.zip vs) m x=_
  unfold bindL
  exact a6a (i:=i) (Zj.mp nd).2 (by simpa using h1) (by simpa using h2) hk
theorem a5X {kindOf:Str→Option NameKind} {x:Str} {v:Value}:∀{P:List Str} {vs:List Value} {i:Nat} {m:Str→Option Value},P.Nodup→P[i]?=some x→vs[i]?=some v→kindOf x≠some .local→
  bindC kindOf (P.zip vs) m x=some v
 | [],_,_,_,_,h,_,_=>by simp at h
 | _::_,[],_,_,_,_,h,_=>by simp at h
 | p::P,w::vs,0,m,nd,h1,h2,hk=>by
  simp at h1 h2;subst h1;subst h2
  show bindC kindOf ((p,w)::P.zip vs) m p=_
  unfold bindC
  rw [a5l fun v hv=>(Zj.mp nd).1 (Wc hv).1,if_neg hk]
  simp
 | p::P,w::vs,i+1,m,nd,h1,h2,hk=>by
  show bindC kindOf ((p,w)::P.zip vs) m x=_
  unfold bindC
  exact a5X (i:=i) (Zj.mp nd).2 (by simpa using h1) (by simpa using h2) hk
def start (N:List Str) (vs:List V):St:=vs.map some++List.replicate (N.length - vs.length) none
def b3G (CX:CXT) (P:Program) (w:World) (K:Qd) (mg:Str→Option Value) (base:Heap) (N:List Str) (qual:Str) (scope:Scope) (f:Addr) (cd:Value) (A:Around) (outer:List Env) (s:Shared) (H:Hp) (E:XK):Cx where
 prog:=P
 w:=w
 K:=K
 mg:=mg
 base:=base
 A:=A.deeper (envOfC qual scope s.heap.objs.size f cd)
 N:=N
 s₀:=s
 H₀:=H
 env:=envOfC qual scope s.heap.objs.size f cd
 outer:=outer
 stack:=envOfC qual scope s.heap.objs.size f cd::outer
 ex:=[]
 calm:=true
 fn:=fun _=>true
 pn:=[]
 xe:=fun e s'=>wpAny (model P w) (A.deeper (envOfC qual scope s.heap.objs.size f cd)) (leaving (envOfC qual scope s.heap.objs.size f cd) e) (fun _ s''=>CX outer H s E e s'') (fun e' s''=>CX outer H s E e' s'') s'
theorem a7a {sc:Scope} {n:Nat} {x:Str} (h:sc.names.lookup x=some .cell):∃c,(cellsFrom n sc.names []).lookup x=some c:=by
 have q:=We sc.names n [] (.inl h)
 exact Vm.mp q
theorem b1b {CX:CXT} {P:Program} {w:World} {K:Qd} {mg:Str→Option Value} {base:Heap} {N ps:List Str} {qual:Str} {scope:Scope} {f:Addr} {cd:Value} {A:Around} {outer:List Env} {s s1:Shared} {H:Hp} {E:XK} {us:List Value} {vs:List V}
  (S:a0g N ps scope) (hd:A.handled=none) (e0:b4i P w K mg base A outer s H) (hl:vs.length=ps.length) (r:a0I vs us)
  (x:InCallC s s.heap.objs.size (bindL (envOfC qual scope s.heap.objs.size f cd).kindOf (ps.zip us) fun _=>none) (cellsFrom (s.heap.objs.size+1) scope.names []) (bindC (envOfC qual scope s.heap.objs.size f cd).kindOf (ps.zip us) fun _=>none) s1):
  Inv (b3G CX P w K mg base N qual scope f cd A outer s H E) [] (start N vs) H s1:=by
 have hpl:ps.length≤N.length:=by have:=congrArg Yl S.pre;rw [Xo] at this;omega
 obtain ⟨h1,tk,rfl,hk⟩:=x.done
 have noA:∀b:Addr,b∉(b3G CX P w K mg base N qual scope f cd A outer s H E).ex:=fun b z=>absurd (show b∈([]:List Addr) from z) (by simp)
 refine ⟨⟨e0.mod,S.kind,rfl,rfl,Qi _,fun y z c h1 h2=>?_,fun y hy=>?_,fun y c _ h=>?_,fun _=>hd,Around.frames_deeper e0.frames,.inr ⟨rfl,rfl⟩,fun b z=>absurd z (noA b),e0.bs,e0.bsz,fun b _ _=>noA b,fun b z=>absurd z (noA b),e0.funs,e0.frf⟩,
  rfl,e0.bare,Un.kept hk,⟨_,x.toInCall.ns,fun i y v h1 h2 h3=>?_⟩,fun y c h=>⟨_,x.cell y c h⟩,e0.hok.fresh (Qi _),fun y c h=>?_,fun p hp=>absurd (show p∈([]:List (Addr×Obj)) from hp) (by simp),e0.hok.kept hk,?_⟩
 ·exact name_of_addr x.apart (PySem.mem_of_lookup h1) (PySem.mem_of_lookup h2)
 ·have hy:scope.names.lookup y=some .cell∨scope.names.lookup y=some .free:=hy
  rcases hy with hy | hy
  ·exact a7a hy
  ·exact absurd rfl (S.nofree _ (PySem.mem_of_lookup hy))
 ·exact Vi (x.above y c (PySem.mem_of_lookup h))
 ·have hi:i < vs.length:=by
   unfold start at h2
   by_cases hi:i < vs.length
   ·exact hi
   ·rw [Xv (by simpa using hi)] at h2
    rw [List.getElem?_replicate] at h2
    split at h2<;>cases h2
  have ha:vs[i]?=some v:=by
   unfold start at h2
   rw [Xx (by simpa using hi),Qn] at h2
   cases e:vs[i]? with
   | none=>rw [e] at h2;cases h2
   | some a=>rw [e] at h2;cases h2;rfl
  obtain ⟨u,hu,rv⟩:=r.get ha
  have hp:ps[i]?=some y:=by
   rw [←S.pre,List.getElem?_take_of_lt (by omega)];exact h1
  have ndP:ps.Nodup:=by rw [←S.pre];exact S.nd.sublist (List.take_sublist _ _)
  refine ⟨u,rv,?_⟩
  rcases S.par y (Ug hp) with k | k
  ·exact .inl ⟨k,a6a ndP hp hu k⟩
  ·obtain ⟨c,e⟩:=a7a (n:=s.heap.objs.size+1) k
   refine .inr ⟨.inl k,c,e,?_⟩
   have q:=x.cell y c e
   rw [a5X ndP hp hu (by show scope.names.lookup y≠_;rw [k];decide)] at q
   exact q
 ·exact e0.hok.fresh (Vi (x.above y c (PySem.mem_of_lookup h)))
 ·unfold start
  show _=N.length
  rw [Xq,Qe,List.length_replicate]
  omega
theorem b4X {CX:CXT} {P:Program} {w:World} {K:Qd} {mg:Str→Option Value} {base:Heap} {k:Nat} {f:Addr} {name qual:Str} {params:Arguments} {body:List Stmt} {scope:Scope} {dV kV doc pm cdv ct oc:Value} {an od:Option Addr}
  {osl:Array (Option Value)} {N ps:List Str} {sp:Sp} (lk:K.lookup f=some ⟨oc,od,.func (Yw name qual params body scope dV kV doc pm an cdv ct),osl⟩) (hcd:Jj K cdv qual=true) (S:a0g N ps scope)
  (len:∀vs H Q E,sp vs H Q E→vs.length=ps.length)
  (hbody:∀(A:Around) (outer:List Env) (s:Shared) (H:Hp) (vs:List V) (Q:VK) (E:XK),a2h k (A.deeper (envOfC qual scope s.heap.objs.size f cdv))→sp vs H Q E→
   ∃t,PSs (b3G CX P w K mg base N qual scope f cdv A outer s H E) body t∧t {nx:=fun _ H'=>Q .non H',rt:=Q} (start N vs) H):
  a1a P w K mg base CX (k+1) f (Yw name qual params body scope dV kV doc pm an cdv ct) ps sp:=by
 refine ⟨len,fun A outer s H args us vs Q E hr e0 hb r hsp=>?_⟩
 have hl:=len _ _ _ _ hsp
 have KX:K.In s.heap:=e0.mod.kin.keeps fun b o e=>(e0.bs b o e).1
 have lim:s.heap.NoLimit:=e0.mod.nolimit.keeps fun b o e=>(e0.bs b o e).1
 have hkind:∀y∈ps.zip us,scope.names.lookup y.1=some .local∨(scope.names.lookup y.1=some .cell∧((cellsFrom (s.heap.objs.size+1) scope.names []).lookup y.1).isSome=true):=fun ⟨n,v⟩ hy=>by
  rcases S.par n (Wc hy).1 with q | q
  ·exact .inl q
  ·exact .inr ⟨q,We _ _ _ (.inl q)⟩
 refine codeAny_call_function hr.depth (KX _ _ lk) rfl S.co S.gen rfl (PySem.W.codeRec_of KX hcd) (hb _ _ _ _ ?_)
 refine wpAny_newFunctionEnv_cells S.kind hkind fun env he s1 x=>?_
 subst he
 refine ⟨lim.keeps x.toInCall.keep,codeAny_func ?_⟩
 obtain ⟨t,ht,hq⟩:=hbody A outer s H vs Q E (hr.deeper _) hsp
 have I:Inv (b3G CX P w K mg base N qual scope f cdv A outer s H E) [] (start N vs) H s1:=b1b S hr.hd e0 hl r x
 refine wpAny_mono (ht [] s1 (start N vs) H _ I hq) (fun fl s' hs=>?_) fun e s' hs=>hs
 have fin:∀{σ':St} {H':Hp} {v:V} {u:Value},Inv (b3G CX P w K mg base N qual scope f cdv A outer s H E) [] σ' H' s'→a0H v u→Q v H'→CE outer P w H s Q u s':=
  fun {σ' H' v u} J rv q=>⟨v,H',J.os,J.bare,J.base,J.hok,rv,q⟩
 cases fl with
 | ret u=>
  obtain ⟨v,σ',H',J,rv,q⟩:=hs
  exact fin J rv q
 | next=>
  obtain ⟨σ',H',J,q⟩:=hs
  exact fin (v:=V.non) (u:=Value.none) J rfl q
 | brk=>
  obtain ⟨_,_,_,q⟩:=hs
  exact False.elim q
 | cont=>
  obtain ⟨_,_,_,q⟩:=hs
  exact False.elim q
end L2
namespace L2
open PySem PySem.Spec PyProof.Rows
section
variable {X:Cx} {x:Str} {p pos:Pos} {e:Expr} {es:List Expr} {t:TA} {id T:String} {r:List V→Hp→VK→Prop}
def tCB (r:List V→Hp→VK→Prop) (t:TA):TE:=fun σ H Q=>t σ H fun vs H1=>r vs H1 Q
theorem b1N (hc:a1P X (.builtin id) r) (hg:Gl X x) (hm:X.mg x=none) (hv:bootBuiltins x=some (.builtin id)) (ha:PA X (e::es) t) (hn:x≠"__name__":=by decide) (hdb:(x == ("__debug__":Str))=false:=by decide)
  (he:starEach (e::es) X.env=(false,eval e X.env)::starEach es X.env:=by rfl) (hpl:(backTo pos (starEach es X.env)).any (·.1)=false:=by rfl):PE X (.Call (.Name x p) (e::es) [] pos) (tCB r t):=by
 intro pins s σ H Q I h
 refine wpAny_Call_Name_kw (a2U I hg hm hv ?_ hn hdb)
 exact PyProof.Rows.callWith_builtin1 (thn (ha pos pins s σ H _ I h) fun us s1 ⟨vs,H1,I1,r1,q1⟩=>hc pins s1 σ H1 vs us Q I1 r1 q1) he hpl
theorem b0L (hc:a1P X (.type T) r) (hg:Gl X x) (hm:X.mg x=none) (hv:bootBuiltins x=some (.type T)) (ha:PA X (e::es) t) (hn:x≠"__name__":=by decide) (hdb:(x == ("__debug__":Str))=false:=by decide)
  (he:starEach (e::es) X.env=(false,eval e X.env)::starEach es X.env:=by rfl) (hpl:(backTo pos (starEach es X.env)).any (·.1)=false:=by rfl):PE X (.Call (.Name x p) (e::es) [] pos) (tCB r t):=by
 intro pins s σ H Q I h
 refine wpAny_Call_Name_kw (a2U I hg hm hv ?_ hn hdb)
 exact PyProof.Rows.callWith_type1 (thn (ha pos pins s σ H _ I h) fun us s1 ⟨vs,H1,I1,r1,q1⟩=>hc pins s1 σ H1 vs us Q I1 r1 q1) he hpl
end
end L2
namespace HT
open PySem PyProof.Rows
section
variable {prog:Program} {w:World} {A:Around} {E:Value→Shared→Prop} {s:Shared}
theorem cat_tup {t b:Addr} {vs ws:List Value} {Q:Value→Shared→Prop} (ht:IsTup s.heap t vs.toArray) (hb:IsTup s.heap b ws.toArray) (hv:vs≠[])
  (h1:ws=[]→Q (.ref t) s) (h2:ws≠[]→Q (.ref s.heap.objs.size) {s with heap:=s.heap.push {cls:=.type "tuple",data:=.seq (vs++ws).toArray}})
  (hsz:vs.length+ws.length≤sizeLine):wpAny (model prog w) A (binaryOp .Add (.ref t) (.ref b)) Q E s:=by
 obtain ⟨⟨cls,dd,data,sl⟩,ho,hc,n,hd⟩:=id ht
 obtain ⟨⟨cls2,dd2,data2,sl2⟩,ho2,hc2,n2,hd2⟩:=id hb
 simp only at hc hd hc2 hd2
 subst hc hd hc2 hd2
 have e:vs.toArray++ws.toArray=(vs++ws).toArray:=by simp
 by_cases hw:ws=[]
 ·exact concat_meets ⟨_,ho,rfl⟩ ⟨_,ho2,rfl⟩ noFill_tuple_add seq_tuple_add Wf Vw (Vn _ _)
   (tuple_addW1 t b vs.toArray ws.toArray n n2 dd dd2 sl sl2 (by simpa using hv) (by simp [hw])) ⟨ho,ho2,h1 hw⟩
 ·refine concat_meets ⟨_,ho,rfl⟩ ⟨_,ho2,rfl⟩ noFill_tuple_add seq_tuple_add Wf Vw (Vn _ _)
   (tuple_addW2 t b vs.toArray ws.toArray n n2 dd dd2 sl sl2 (by simpa using hv) (by simpa using hw) (by rw [Qr,Qr];exact hsz)) ⟨ho,ho2,?_⟩
  rw [e]
  exact h2 hw
def sIx (n d:Nat):Option Int→Nat
 | none=>d
 | some v=>if v < 0 then (v+(n:Int)).toNat else min v.toNat n
theorem b6z (n d:Nat) (hd:d≤n) (o:Option Int):sIx n d o≤n:=by
 cases o with
 | none=>exact hd
 | some v=>
  show (if v < 0 then (v+(n:Int)).toNat else min v.toNat n)≤n
  by_cases hv:v < 0
  ·rw [if_pos hv];omega
  ·rw [if_neg hv];exact Nat.min_le_right _ _
theorem a8M (v:Int) (n d:Nat):(if v < 0 then max (v+(n:Int)) 0 else min v (n:Int))=((sIx n d (some v):Nat):Int):=by
 show (if v < 0 then max (v+(n:Int)) 0 else min v (n:Int))=(((if v < 0 then (v+(n:Int)).toNat else min v.toNat n):Nat):Int)
 by_cases hv:v < 0
 ·simp only [if_pos hv];omega
 ·simp only [if_neg hv];omega
theorem a8o (lo hi:Option Int) (n:Nat):Builtin.Slice.sliceAdjust lo hi 1 (n:Int)=(((sIx n 0 lo:Nat):Int),((sIx n n hi:Nat):Int)):=by
 have h1:¬((1:Int) < 0):=by omega
 unfold Builtin.Slice.sliceAdjust
 simp only [h1,if_false]
 refine Prod.ext ?_ ?_
 ·cases lo with
  | none=>rfl
  | some v=>exact a8M v n 0
 ·cases hi with
  | none=>rfl
  | some v=>exact a8M v n n
theorem a8i (i j:Nat):Builtin.Slice.slicePlaces (i:Int) (j:Int) 1=j - i:=by
 unfold Builtin.Slice.slicePlaces
 have h1:(1:Int) > 0:=by omega
 simp only [h1,if_true,Int.ediv_one]
 split<;>omega
theorem a4m {v:Value} {o:Option Int} {Q:Option Int→Shared→Prop} (p:IsPart v o) (h:Q o s):wpAny (model prog w) A (Builtin.Slice.slicePartIndex v) Q E s:=by
 cases p with
 | none=>exact slicePart_none h
 | int i t=>exact slicePart_int h
theorem a3l {sl:Addr} {vl vu:Value} {lo hi:Option Int} {n:Nat} {Q:Int×Int×Nat→Shared→Prop} (hs:s.heap.IsSliceOf sl vl vu .none) (pl:IsPart vl lo) (pu:IsPart vu hi)
  (h:Q (((sIx n 0 lo:Nat):Int),1,sIx n n hi - sIx n 0 lo) s):wpAny (model prog w) A (Builtin.Slice.sliceApplied (.ref sl) (pure (n:Int))) Q E s:=by
 obtain ⟨os,hos,hcs,hds⟩:=id hs
 unfold Builtin.Slice.sliceApplied Builtin.Slice.sliceFields
 refine wpAny_bind (wpAny_bind (wpAny_field hos hds (x:=vl) rfl (wpAny_bind (wpAny_field hos hds (x:=vu) rfl (wpAny_bind (wpAny_field hos hds (x:=.none) rfl (wpAny_pure ?_)))))))
 refine wpAny_bind (slicePart_none ?_)
 show wpAny _ _ (if ((1:Int) == 0)=true then _ else _) _ _ s
 rw [if_neg (by decide)]
 refine wpAny_bind (a4m pl (wpAny_bind (a4m pu (wpAny_bind (wpAny_pure ?_)))))
 show wpAny _ _ (match Builtin.Slice.sliceAdjust lo hi 1 (n:Int) with | (lo,hi)=>pure (lo,(1:Int),Builtin.Slice.slicePlaces lo hi 1)) _ _ s
 rw [a8o lo hi n]
 show wpAny _ _ (pure (((sIx n 0 lo:Nat):Int),(1:Int),Builtin.Slice.slicePlaces ((sIx n 0 lo:Nat):Int) ((sIx n n hi:Nat):Int) 1)) _ _ s
 rw [a8i]
 exact wpAny_pure h
theorem b2K (xs:Array Value) (i k:Nat):((Yg k).filterMap fun (m:Nat)=>xs[((i:Int)+(m:Int) * 1).toNat]?).toArray=((xs.toList.drop i).take k).toArray:=by
 have e:(fun (m:Nat)=>xs[((i:Int)+(m:Int) * 1).toNat]?)=fun m=>xs[i+m]?:=by
  funext m
  have:((i:Int)+(m:Int) * 1).toNat=i+m:=by omega
  rw [this]
 rw [e]
 have:=pick_run xs i k
 rw [List.filterMap_map] at this
 have e2:((fun x=>xs[x]?)∘fun x=>i+x)=fun m=>xs[i+m]?:=rfl
 rw [e2] at this
 rw [this]
theorem getItem_tuple_cut {t sl:Addr} {items:Array Value} {vl vu:Value} {lo hi:Option Int} {Q:Value→Shared→Prop} (ht:IsTup s.heap t items) (hs:s.heap.IsSliceOf sl vl vu .none) (pl:IsPart vl lo) (pu:IsPart vu hi)
  (hw:¬(sIx items.size 0 lo=0∧sIx items.size items.size hi=items.size))
  (h:Q (.ref s.heap.objs.size) {s with heap:=s.heap.push {cls:=.type "tuple",data:=.seq ((items.toList.drop (sIx items.size 0 lo)).take (sIx items.size items.size hi - sIx items.size 0 lo)).toArray}})
  (hsz:items.size≤sizeLine):wpAny (model prog w) A (getItem (.ref t) (.ref sl)) Q E s:=by
 have htake:sizeOk (.seq ((items.toList.drop (sIx items.size 0 lo)).take (sIx items.size items.size hi - sIx items.size 0 lo)).toArray):=by
  show ((items.toList.drop (sIx items.size 0 lo)).take (sIx items.size items.size hi - sIx items.size 0 lo)).toArray.size≤sizeLine
  rw [Qr,Xo,Jn,Ja]
  omega
 have hj:sIx items.size items.size hi≤items.size:=b6z _ _ (Qi _) hi
 obtain ⟨os,hos,hcs,hds⟩:=id hs
 have hTs:s.TypeIs (.ref sl) "slice":=⟨os,hos,hcs⟩
 unfold getItem
 try with_reducible refine wpAny_holding ?_
 first | refine wpAny_bind (wpAny_pure ?_) | skip
 refine wpAny_bind (wpAny_sequenceKey ht.typeIs (by decide) ?_)
 refine wpAny_bind (wpAny_callSpecial?_slot (name:=Jw "__getitem__") ht.typeIs PyProof.Rows.slot_tuple_getitem
  (wpAny_call_entry PyProof.Rows.slot_tuple_getitem ht.typeIs entry_tuple_getitem ?_ (args_tuple_getitem _ _)))
 show wpAny _ _ (Builtin.Tuple.tupleItemsOf (.ref t) >>= _) _ _ s
 refine wpAny_bind (tupleItemsOf_ ht ?_)
 refine wpAny_bind (wpAny_typeOf hTs ?_)
 rw [if_pos (by decide)]
 refine wpAny_bind (a3l hs pl pu ?_)
 have hno:¬((((sIx items.size 0 lo:Nat):Int) == 0 && (1:Int) == 1 && (sIx items.size items.size hi - sIx items.size 0 lo) == items.size)=true):=by
  intro q
  rw [Xn,Xn] at q
  have q1:((sIx items.size 0 lo:Nat):Int)=0:=eq_of_beq q.1.1
  have q2:sIx items.size items.size hi - sIx items.size 0 lo=items.size:=eq_of_beq q.2
  exact hw ⟨by omega,by omega⟩
 show wpAny _ _ (if (((sIx items.size 0 lo:Nat):Int) == 0 && (1:Int) == 1 && (sIx items.size items.size hi - sIx items.size 0 lo) == items.size)=true then _ else _) _ _ s
 rw [if_neg hno,b2K]
 first
  | exact wpAny_bind (m:=Builtin.Tuple.tupleExact _) (wpAny_newObj_type (wpAny_pure ⟨_,rfl,wpAny_pure h⟩) htake)
  | exact wpAny_bind (m:=Builtin.Tuple.tupleExact _) (wpAny_newObj_type (wpAny_bind (wpAny_pure (wpAny_pure ⟨_,rfl,wpAny_pure h⟩))) htake)
  | exact wpAny_bind (wpAny_bind (m:=Builtin.Tuple.tupleExact _) (wpAny_newObj_type (wpAny_pure (wpAny_pure ⟨_,rfl,wpAny_pure h⟩)) htake))
  | exact wpAny_bind (wpAny_bind (m:=Builtin.Tuple.tupleExact _) (wpAny_newObj_type (wpAny_pure ⟨_,rfl,wpAny_pure h⟩) htake))
end
end HT
namespace L2
open PySem PySem.Spec PyProof.Rows
abbrev TO:=St→Hp→(Option Int→Hp→Prop)→Prop
def PO (X:Cx) (e:Option Expr) (t:TO):Prop:=
 ∀(pins:List (Addr×Obj)) (s:Shared) (σ:St) (H:Hp) (Q:Option Int→Hp→Prop),Inv X pins σ H s→t σ H Q→
  wpAny (model X.prog X.w) X.A (evalPart e X.env) (fun u s'=>∃o H',Inv X pins σ H' s'∧IsPart u o∧Q o H') X.xe s
def a6v:TO:=fun _ H Q=>Q none H
def b2S (t:TE):TO:=fun σ H Q=>t σ H fun x H1=>∃i,x=.int i∧Q (some i) H1
section
variable {X:Cx} {e:Expr} {te:TE} {lo hi:Option Expr} {tl th:TO} {pos p2:Pos}
theorem b6f:PO X none a6v:=by
 intro pins s σ H Q I h
 rw [evalPart_none]
 exact wpAny_pure ⟨none,H,I,.none,h⟩
theorem b5q (h:PE X e te):PO X (some e) (b2S te):=by
 intro pins s σ H Q I hw
 rw [evalPart_some]
 refine thn (h pins s σ H _ I hw) fun u s1 ⟨x,H1,I1,r1,q1⟩=>?_
 obtain ⟨i,rfl,q⟩:=q1
 obtain ⟨t,rfl⟩:=r1
 exact ⟨some i,H1,I1,.int i t,q⟩
def SlR (X:Cx) (r:V→Option Int→Option Int→Hp→VK→Prop):Prop:=
 ∀(pins:List (Addr×Obj)) (s:Shared) (σ:St) (H:Hp) (x:V) (v vl vu:Value) (lo hi:Option Int) (sl:Addr) (Q:VK),Inv X pins σ H s→a0H x v→s.heap.IsSliceOf sl vl vu .none→IsPart vl lo→IsPart vu hi→r x lo hi H Q→
  ∃T id,typeLookup (.type T) "__getitem__"=pure (some (.builtin id))∧s.TypeIs v T∧wpAny (model X.prog X.w) X.A (getItem v (.ref sl)) (EP X pins σ Q) X.xe s
theorem SlR.or {r r':V→Option Int→Option Int→Hp→VK→Prop} (h:SlR X r) (h':SlR X r'):SlR X (fun x lo hi H Q=>r x lo hi H Q∨r' x lo hi H Q):=by
 intro pins s σ H x v vl vu lo hi sl Q I rx hs pl pu q
 rcases q with q | q
 ·exact h pins s σ H x v vl vu lo hi sl Q I rx hs pl pu q
 ·exact h' pins s σ H x v vl vu lo hi sl Q I rx hs pl pu q
def tSl (r:V→Option Int→Option Int→Hp→VK→Prop) (te:TE) (tl th:TO):TE:=fun σ H Q=>te σ H fun x H1=>tl σ H1 fun l H2=>th σ H2 fun u H3=>r x l u H3 Q
theorem b1R {r:V→Option Int→Option Int→Hp→VK→Prop} (hr:SlR X r) (he:PE X e te) (hl:PO X lo tl) (hu:PO X hi th):PE X (.Subscript e (.Slice lo hi none p2) pos) (tSl r te tl th):=by
 intro pins s σ H Q I h
 refine Subscript_ (thn (he pins s σ H _ I h) fun v s1 ⟨x,H1,I1,r1,q1⟩=>?_)
 refine wpAny_Slice (thn (hl pins s1 σ H1 _ I1 q1) fun vl s2 ⟨l,H2,I2,pl,q2⟩=>thn (hu pins s2 σ H2 _ I2 q2) fun vu s3 ⟨u,H3,I3,pu,q3⟩=>?_)
 rw [evalPart_none]
 refine wpAny_pure ?_
 have I4:Inv X pins σ H3 {s3 with heap:=s3.heap.push {cls:=.type "slice",data:=.fields #[vl,vu,.none]}}:=I3.kept (t':=s3.toks) fun b ob q=>Qk _ q
 obtain ⟨T,id,hT,ht,hg⟩:=hr pins {s3 with heap:=s3.heap.push {cls:=.type "slice",data:=.fields #[vl,vu,.none]}} σ H3 x v vl vu l u s3.heap.objs.size Q I4 r1 (Heap.IsSliceOf.new ..) pl pu q3
 show wpAny (model X.prog X.w) X.A (subscriptTail e (.Slice lo hi none p2) v (.ref s3.heap.objs.size)) (EP X pins σ Q) X.xe {s3 with heap:=s3.heap.push {cls:=.type "slice",data:=.fields #[vl,vu,.none]}}
 exact tail_any (ops:=[.ref s3.heap.objs.size,v]) ht hT hg (by with_unfolding_all rfl)
def a9c (xs:List V) (lo hi:Option Int):List V:=(xs.drop (HT.sIx xs.length 0 lo)).take (HT.sIx xs.length xs.length hi - HT.sIx xs.length 0 lo)
theorem a3E (xs:List V) (lo hi:Option Int):(a9c xs lo hi).length≤xs.length:=by
 unfold a9c
 rw [Xo,Jn]
 omega
def c3V (K:Qd):V→Option Int→Option Int→Hp→VK→Prop:=fun x lo hi H Q=>∃a xs,x=.ref a∧SqT K H a xs∧
 ¬(HT.sIx xs.length 0 lo=0∧HT.sIx xs.length xs.length hi=xs.length)∧∀p,H p=none→Q (.ref p) (upd H p (.tup (a9c xs lo hi)))
theorem b9d:SlR X (c3V X.K):=by
 intro pins s σ H x v vl vu lo hi sl Q I rx hs pl pu h
 obtain ⟨a,xs,rfl,hx,hw,q⟩:=h
 cases rx
 obtain ⟨its,r,ht,hz⟩:=I.tuple hx
 have hlen:its.toArray.size=xs.length:=by rw [Qr];exact r.length.symm
 refine ⟨"tuple",_,PyProof.Rows.slot_tuple_getitem.lookup,ht.typeIs,?_⟩
 refine HT.getItem_tuple_cut ht hs pl pu (by rw [hlen];exact hw) ?_ (by rw [hlen];exact hz)
 rw [hlen]
 refine ⟨.ref s.heap.objs.size,_,I.laid (t':=s.toks) (o:=.tup (a9c xs lo hi)) (fun b ob q=>Qk _ q) (Qi _) ?_,rfl,q _ (I.hok.fresh (Qi _))⟩
 exact ⟨Qj (a3E xs lo hi) hz,_,(r.drop (HT.sIx xs.length 0 lo)).take (HT.sIx xs.length xs.length hi - HT.sIx xs.length 0 lo),IsTup.new _ _⟩
def b7t (K:Qd):R2:=fun x y H Q=>∃a b xs ys,x=.ref a∧y=.ref b∧SqT K H a xs∧SqT K H b ys∧xs≠[]∧xs.length+ys.length≤sizeLine∧
 (ys=[]→Q (.ref a) H)∧(ys≠[]→∀p,H p=none→Q (.ref p) (upd H p (.tup (xs++ys))))
theorem a0I.nil_iff {xs:List V} {us:List Value} (r:a0I xs us):us=[]↔xs=[]:=by
 cases r with
 | nil=>simp
 | cons _ _=>simp
theorem b4B:OpR X (binaryOp .Add) (b7t X.K):=by
 intro pins s σ H x y v u Q I rx ry h
 obtain ⟨a,b,xs,ys,rfl,rfl,ha,hb,hx,hz,q1,q2⟩:=h
 cases rx
 cases ry
 obtain ⟨its,r1,p1,_⟩:=I.tuple ha
 obtain ⟨its2,r2,p2,_⟩:=I.tuple hb
 refine HT.cat_tup p1 p2 (fun z=>hx (r1.nil_iff.mp z)) (fun z=>⟨.ref a,H,I,rfl,q1 (r2.nil_iff.mp z)⟩) (fun z=>?_) (by rw [←r1.length,←r2.length];exact hz)
 refine ⟨.ref s.heap.objs.size,_,I.laid (t':=s.toks) (o:=.tup (xs++ys)) (fun b ob q=>Qk _ q) (Qi _) ?_,rfl,q2 (fun w=>z (r2.nil_iff.mpr w)) _ (I.hok.fresh (Qi _))⟩
 exact ⟨by rw [Xq];exact hz,_,r1.append r2,IsTup.new _ _⟩
end
end L2
namespace L2
open PySem PySem.Spec PyProof.Rows
def ixN (n:Nat) (i:Int):Option Nat:=if 0≤i then (if i < n then some i.toNat else none) else if -(n:Int)≤i then some (i+n).toNat else none
def atI {α:Type} (xs:List α) (i:Int):Option α:=(ixN xs.length i).bind fun j=>xs[j]?
theorem a9T {n:Nat} {i:Int} {j:Nat} (h:ixN n i=some j):seqIndex? i n=some j∧j < n∧-(n:Int)≤i∧i < n:=by
 unfold ixN at h
 by_cases h0:0≤i
 ·rw [if_pos h0] at h
  by_cases h1:i < n
  ·rw [if_pos h1] at h
   have e:i.toNat=j:=Option.some.inj h
   exact ⟨by rw [seqIndex_of h0 h1,e],by omega,by omega,h1⟩
  ·rw [if_neg h1] at h;cases h
 ·rw [if_neg h0] at h
  by_cases h1:-(n:Int)≤i
  ·rw [if_pos h1] at h
   have e:(i+n).toNat=j:=Option.some.inj h
   exact ⟨by rw [seqIndex_neg (by omega) h1,e],by omega,h1,by omega⟩
  ·rw [if_neg h1] at h;cases h
theorem a6H {α:Type} {xs:List α} {i:Int} {v:α} (h:atI xs i=some v):∃j,seqIndex? i xs.length=some j∧xs[j]?=some v∧j < xs.length∧-(xs.length:Int)≤i∧i < xs.length:=by
 unfold atI at h
 cases e:ixN xs.length i with
 | none=>rw [e] at h;cases h
 | some j=>
  rw [e] at h
  obtain ⟨h1,h2,h3,h4⟩:=a9T e
  exact ⟨j,h1,h,h2,h3,h4⟩
def b5l (b:Expr):Prop:=∀o i,subscripted b false o i=operate [o,i] (getItem o i)
def IxR (X:Cx) (r:R2):Prop:=
 ∀(value slice:Expr) (pins:List (Addr×Obj)) (s:Shared) (σ:St) (H:Hp) (x y:V) (v u:Value) (Q:VK),Inv X pins σ H s→a0H x v→a0H y u→r x y H Q→
  subscripted slice false v u=operate [v,u] (getItem v u)→wpAny (model X.prog X.w) X.A (subscriptTail value slice v u) (EP X pins σ Q) X.xe s
def MtR (X:Cx) (id:String) (r:V→List V→Hp→VK→Prop):Prop:=
 ∀(pins:List (Addr×Obj)) (s:Shared) (σ:St) (H:Hp) (x:V) (xs:List V) (v:Value) (us:List Value) (Q:VK),Inv X pins σ H s→a0H x v→a0I xs us→r x xs H Q→
  wpAny (model X.prog X.w) X.A (call (.builtin id) (v::us)) (EP X pins σ Q) X.xe s
section
variable {X:Cx} {a b:Expr} {ta tb:TE} {pos:Pos}
theorem IxR.or {r r':R2} (h:IxR X r) (h':IxR X r'):IxR X (fun x y H Q=>r x y H Q∨r' x y H Q):=by
 intro value slice pins s σ H x y v u Q I rx ry q hs
 rcases q with q | q
 ·exact h value slice pins s σ H x y v u Q I rx ry q hs
 ·exact h' value slice pins s σ H x y v u Q I rx ry q hs
theorem c0p {r:R2} (hr:IxR X r) (ha:PE X a ta) (hb:PE X b tb) (hs:b5l b):PE X (.Subscript a b pos) (tOp r ta tb):=by
 intro pins s σ H Q I h
 exact Subscript_ (c0l ha hb I h fun v u s2 x y H2 I2 rx ry q=>hr a b pins s2 σ H2 x y v u Q I2 rx ry q (hs _ _))
def c1D (K:Qd):R2:=fun x y H Q=>∃p xs i v,x=.ref p∧y=.int i∧SqL K H p xs∧atI xs i=some v∧Q v H
def c1T (K:Qd):R2:=fun x y H Q=>∃p xs i v,x=.ref p∧y=.int i∧SqT K H p xs∧atI xs i=some v∧Q v H
def c3G:R2:=fun x y H Q=>∃z i c,x=.str z∧y=.int i∧z.length≤sizeLine∧atI z.cps.toList i=some c∧Q (.str ⟨#[c]⟩) H
theorem b4x:IxR X (c1D X.K):=by
 intro value slice pins s σ H x y v u Q I rx ry h hs
 obtain ⟨p,xs,i,z,rfl,rfl,hq,he,q⟩:=h
 cases rx
 obtain ⟨t,rfl⟩:=ry
 obtain ⟨its,r,pl,hz⟩:=I.list hq
 obtain ⟨j,h1,h2,h3,h4,h5⟩:=a6H he
 obtain ⟨w,ew,rw'⟩:=r.get h2
 have hl:=r.length
 have hn:=a5P
 have fin:EP X pins σ Q w s:=⟨z,H,I,rw',q⟩
 by_cases h0:0≤i
 ·have hj:i.toNat=j:=by
   rw [seqIndex_of h0 h5] at h1
   exact Option.some.inj h1
  exact item_listR pl.isList h0 (by omega) (by rw [hj];simpa using ew) fin hs
 ·have hj:(i+(its.toArray.size:Int)).toNat=j:=by
   rw [seqIndex_neg (by omega) h4] at h1
   rw [Qr,←hl]
   exact Option.some.inj h1
  exact subscriptTail_builtinR (x:=w) pl.isList.typeIs slot_list_getitem.lookup
   (wpAny_getItem_list_neg (Q:=fun r s'=>r=w∧EP X pins σ Q r s') pl.isList (by omega) (by rw [Qr]<;>omega) (by omega) (by rw [hj];simpa using ew) ⟨rfl,fin⟩) hs
theorem b9A:IxR X (c1T X.K):=by
 intro value slice pins s σ H x y v u Q I rx ry h hs
 obtain ⟨p,xs,i,z,rfl,rfl,hq,he,q⟩:=h
 cases rx
 obtain ⟨t,rfl⟩:=ry
 obtain ⟨its,r,pl,hz⟩:=I.tuple hq
 obtain ⟨j,h1,h2,h3,h4,h5⟩:=a6H he
 obtain ⟨w,ew,rw'⟩:=r.get h2
 have hl:=r.length
 have hn:=a5P
 have fin:EP X pins σ Q w s:=⟨z,H,I,rw',q⟩
 exact subscriptTail_builtinR (x:=w) pl.typeIs slot_tuple_getitem.lookup
  (getItem_tuple (j:=j) (Q:=fun r s'=>r=w∧EP X pins σ Q r s') pl (by omega) (by omega) (by rw [Qr,←hl];exact h1) (by simpa using ew) ⟨rfl,fin⟩) hs
theorem b9B:IxR X c3G:=by
 intro value slice pins s σ H x y v u Q I rx ry h hs
 obtain ⟨z,i,c,rfl,rfl,hz,he,q⟩:=h
 obtain ⟨t,rfl⟩:=rx
 obtain ⟨t',rfl⟩:=ry
 obtain ⟨j,h1,h2,h3,h4,h5⟩:=a6H he
 have hl:z.cps.toList.length=z.length:=by simp [Str.length]
 rw [hl] at h1 h4 h5
 have hn:=a5P
 exact tail_any (typeIs_str s z t) slot_str_getitem.lookup (getItem_str (c:=c) (by
  have e1:decide (i < -(2 ^ 63:Int))=false:=decide_eq_false (by omega)
  have e2:decide (i≥2 ^ 63)=false:=decide_eq_false (by omega)
  rw [e1,e2,Bool.or_false]) (by rw [h1];simpa using h2) ⟨.str ⟨#[c]⟩,H,I.tok _,⟨_,rfl⟩,q⟩) hs
def rIx (K:Qd):R2:=fun x y H Q=>c1D K x y H Q∨c1T K x y H Q∨c3G x y H Q
theorem a0s:IxR X (rIx X.K):=b4x.or (b9A.or b9B)
theorem a8c (its:List Value) (n j:Nat) (u:Value):Obj.mapSeq (·.setIfInBounds j u) {cls:=.type "list",data:=.seq its.toArray n}={cls:=.type "list",data:=.seq (its.set j u).toArray n}:=by
 simp [Obj.mapSeq]
theorem Inv.lst {pins:List (Addr×Obj)} {σ:St} {H:Hp} {s:Shared} {p:Addr} {xs:List V} (I:Inv X pins σ H s) (h:H p=some (.lst xs)):
  ∃(its:List Value) (n:Nat),a0I xs its∧s.heap.get? p=some {cls:=.type "list",data:=.seq its.toArray n}∧xs.length≤sizeLine:=by
 obtain ⟨z,its,n,r,e⟩:=I.hok p _ h
 exact ⟨its,n,r,e,z⟩
theorem Inv.lstUpd {pins:List (Addr×Obj)} {σ:St} {H:Hp} {s:Shared} {p:Addr} {xs ys:List V} {its its':List Value} {n n':Nat} {f:Obj→Obj} (I:Inv X pins σ H s) (h:H p=some (.lst xs))
  (ho:s.heap.get? p=some {cls:=.type "list",data:=.seq its.toArray n}) (hf:f {cls:=.type "list",data:=.seq its.toArray n}={cls:=.type "list",data:=.seq its'.toArray n'}) (r:a0I ys its') (hz:ys.length≤sizeLine) (t:Nat):
  Inv X pins σ (upd H p (.lst ys)) {s with heap:=s.heap.update p f,toks:=t}:=by
 have e:(s.heap.update p f).get? p=some {cls:=.type "list",data:=.seq its'.toArray n'}:=by
  rw [Wm f ho (by rw [hf]<;>rfl),hf]
 refine I.write (x:=p) (e:=p) (by rw [h];trivial) (.inl rfl) (fun b u hb q=>(Jz _ _ (Ne.symm hb)).trans q) ⟨_,e⟩ ?_
 exact ⟨hz,its',n',r,e⟩
def c0k:V→V→V→Hp→(Hp→Prop)→Prop:=fun o i v H Q=>∃p xs k j,o=.ref p∧i=.int k∧H p=some (.lst xs)∧ixN xs.length k=some j∧Q (upd H p (.lst (xs.set j v)))
theorem b2H:c2M X c0k:=by
 intro pins s σ H o i v ov iv u Q I ro ri rv h
 obtain ⟨p,xs,k,j,rfl,rfl,hp,hj,q⟩:=h
 cases ro
 obtain ⟨t,rfl⟩:=ri
 obtain ⟨its,n,r,ho,hz⟩:=I.lst hp
 obtain ⟨h1,h2,h3,h4⟩:=a9T hj
 have hl:=r.length
 have hn:=a5P
 have I':Inv X pins σ (upd H p (.lst (xs.set j v))) {s with heap:=s.heap.update p (Obj.mapSeq (·.setIfInBounds j u))}:=
  I.lstUpd hp ho (a8c its n j u) (r.set rv j) (by rw [List.length_set];exact hz) s.toks
 by_cases h0:0≤k
 ·have hk:k.toNat=j:=by
   rw [seqIndex_of h0 h4] at h1
   exact Option.some.inj h1
  exact PySem.W.ki_setAt ho h0 (by omega) (by rw [Qr,←hl];exact h4) (by rw [hk];exact ⟨_,I',q⟩)
 ·have hk:(k+(its.toArray.size:Int)).toNat=j:=by
   rw [seqIndex_neg (by omega) h3] at h1
   rw [Qr,←hl]
   exact Option.some.inj h1
  exact PySem.W.ki_setBack ho (by omega) (by rw [Qr,←hl];exact h3) (by omega) (by rw [hk];exact ⟨_,I',q⟩)
theorem a5M (lo hi:Option Int) (n:Nat):(sliceBounds lo hi none n).1=((HT.sIx n 0 lo:Nat):Int)∧(sliceBounds lo hi none n).2.1=((HT.sIx n n hi:Nat):Int)∧(sliceBounds lo hi none n).2.2=1:=by
 refine ⟨?_,?_,rfl⟩
 ·cases lo with
  | none=>simp [sliceBounds,HT.sIx]
  | some i=>
   simp only [sliceBounds,HT.sIx,Gg,show (1:Int) > 0 by decide,if_true]
   by_cases h:i < 0
   ·simp only [h,if_true]<;>omega
   ·simp only [h,if_false]<;>omega
 ·cases hi with
  | none=>simp [sliceBounds,HT.sIx]
  | some i=>
   simp only [sliceBounds,HT.sIx,Gg,show (1:Int) > 0 by decide,if_true]
   by_cases h:i < 0
   ·simp only [h,if_true]<;>omega
   ·simp only [h,if_false]<;>omega
theorem a4J (its:List Value) (lo hi:Option Int):slicePick its.toArray lo hi none=((its.drop (HT.sIx its.length 0 lo)).take (HT.sIx its.length its.length hi - HT.sIx its.length 0 lo)).toArray:=by
 obtain ⟨h1,h2,h3⟩:=a5M lo hi its.toArray.size
 unfold slicePick
 rw [h1,h2,h3]
 simp only [sliceRange_one,pick_run,Qr]<;>rfl
def c2t (K:Qd):V→Option Int→Option Int→Hp→VK→Prop:=fun x lo hi H Q=>∃a xs,x=.ref a∧SqL K H a xs∧∀p,H p=none→Q (.ref p) (upd H p (.lst (a9c xs lo hi)))
theorem b6j:SlR X (c2t X.K):=by
 intro pins s σ H x v vl vu lo hi sl Q I rx hs pl pu h
 obtain ⟨a,xs,rfl,hx,q⟩:=h
 cases rx
 obtain ⟨its,r,ht,hz⟩:=I.list hx
 have hlen:=r.length
 refine ⟨"list",_,slot_list_getitem.lookup,ht.isList.typeIs,?_⟩
 refine wpAny_getItem_list_slice ht.isList hs pl pu .none (by simp) ?_ (by rw [Qr]<;>omega)
 rw [a4J,←hlen]
 refine ⟨.ref s.heap.objs.size,_,I.laid (t':=s.toks) (o:=.lst (a9c xs lo hi)) (fun b ob q=>Qk _ q) (Qi _) ?_,rfl,q _ (I.hok.fresh (Qi _))⟩
 exact ⟨Qj (a3E xs lo hi) hz,_,0,(r.drop (HT.sIx xs.length 0 lo)).take (HT.sIx xs.length xs.length hi - HT.sIx xs.length 0 lo),Qw _ rfl⟩
def a4H:V→Bool
 | .non=>true
 | .bl _=>true
 | .int _=>true
 | .str _=>true
 | _=>false
def eqV:V→V→Bool
 | .non,.non=>true
 | .bl a,.bl b=>a == b
 | .bl a,.int b=>(if a then 1 else 0) == b
 | .int a,.bl b=>a == (if b then 1 else 0)
 | .int a,.int b=>a == b
 | .str a,.str b=>a == b
 | _,_=>false
theorem b8E {A:Around} {s:Shared} {y x:V} {u v:Value} (ry:a0H y u) (rx:a0H x v) (fy:a4H y=true) (fx:a4H x=true):Ye A s u v (eqV y x):=by
 cases y with
 | non=>
  cases ry
  cases x with
  | non=>cases rx;exact Ye.same _
  | bl b=>cases rx;exact Ye.none_bool b
  | int b=>obtain ⟨t,rfl⟩:=rx;exact Ye.none_int b t
  | str b=>obtain ⟨t,rfl⟩:=rx;exact Ye.none_str b t
  | _=>exact absurd (show false=true from fx) Qx
 | bl a=>
  cases ry
  cases x with
  | non=>cases rx;exact Ye.bool_none a
  | bl b=>cases rx;exact Ye.bool_bool a b
  | int b=>obtain ⟨t,rfl⟩:=rx;exact Ye.bool_int a b t
  | str b=>obtain ⟨t,rfl⟩:=rx;exact Ye.bool_str a b t
  | _=>exact absurd (show false=true from fx) Qx
 | int a=>
  obtain ⟨t',rfl⟩:=ry
  cases x with
  | non=>cases rx;exact Ye.int_none a t'
  | bl b=>cases rx;exact Ye.int_bool a t' b
  | int b=>obtain ⟨t,rfl⟩:=rx;exact Ye.int_int a t' b t
  | str b=>obtain ⟨t,rfl⟩:=rx;exact Ye.int_str a t' b t
  | _=>exact absurd (show false=true from fx) Qx
 | str a=>
  obtain ⟨t',rfl⟩:=ry
  cases x with
  | non=>cases rx;exact Ye.str_none a t'
  | bl b=>cases rx;exact Ye.str_bool a t' b
  | int b=>obtain ⟨t,rfl⟩:=rx;exact Ye.str_int a t' b t
  | str b=>obtain ⟨t,rfl⟩:=rx;exact Ye.str_str a t' b t
  | _=>exact absurd (show false=true from fx) Qx
 | _=>exact absurd (show false=true from fy) Qx
def eqU (x:V) (u:Value):Bool:=match u with
 | .none=>eqV .non x
 | .bool b=>eqV (.bl b) x
 | .int i _=>eqV (.int i) x
 | .str z _=>eqV (.str z) x
 | _=>false
theorem b3I {x y:V} {u:Value} (r:a0H y u) (f:a4H y=true):eqU x u=eqV y x:=by
 cases y with
 | non=>cases r;rfl
 | bl b=>cases r;rfl
 | int i=>obtain ⟨t,rfl⟩:=r;rfl
 | str z=>obtain ⟨t,rfl⟩:=r;rfl
 | _=>exact absurd (show false=true from f) Qx
theorem a3N {x:V}:∀{xs:List V} {us:List Value},a0I xs us→xs.all a4H=true→us.any (eqU x)=xs.any fun y=>eqV y x
 | _,_,.nil,_=>rfl
 | y::xs,u::us,.cons r t,f=>by
  rw [Uz,Xn] at f
  rw [Jb,Jb,b3I r f.1,a3N t f.2]
theorem a2L {A:Around} {s:Shared} {x:V} {v:Value} (rx:a0H x v) (fx:a4H x=true):∀{xs:List V} {us:List Value},a0I xs us→xs.all a4H=true→∀u∈us,Ye A s u v (eqU x u)
 | _,_,.nil,_=>fun u hu=>by cases hu
 | y::xs,u::us,.cons r t,f=>fun u' hu=>by
  rw [Uz,Xn] at f
  rcases Qy.mp hu with rfl | hu
  ·rw [b3I r f.1];exact b8E r rx f.1 fx
  ·exact a2L rx fx t f.2 u' hu
def inV (x:V) (xs:List V):Bool:=xs.any fun y=>eqV y x
def rIn (K:Qd) (neg:Bool):R2:=fun x y H Q=>∃p xs,y=.ref p∧(SqL K H p xs∨SqT K H p xs)∧a4H x=true∧xs.all a4H=true∧Q (.bl (if neg then !inV x xs else inV x xs)) H
theorem b0o:OpR X (compareOp .In) (rIn X.K false):=by
 intro pins s σ H x y v u Q I rx ry h
 obtain ⟨p,xs,rfl,hq,fx,fs,q⟩:=h
 cases ry
 rcases hq with hq | hq
 ·obtain ⟨its,r,pl,hz⟩:=I.list hq
  refine SeqAt.in_listAt (eqU x) pl.isList (fun w hw=>a2L rx fx r fs w (by simpa using hw)) ⟨.bl _,H,I,rfl,?_⟩
  rw [show its.toArray.any (eqU x)=its.any (eqU x) by simp,a3N r fs]
  exact q
 ·obtain ⟨its,r,pl,hz⟩:=I.tuple hq
  refine SeqAt.in_tupleAt (eqU x) pl (fun w hw=>a2L rx fx r fs w (by simpa using hw)) ⟨.bl _,H,I,rfl,?_⟩
  rw [show its.toArray.any (eqU x)=its.any (eqU x) by simp,a3N r fs]
  exact q
theorem a5t:OpR X (compareOp .NotIn) (rIn X.K true):=by
 intro pins s σ H x y v u Q I rx ry h
 obtain ⟨p,xs,rfl,hq,fx,fs,q⟩:=h
 cases ry
 rcases hq with hq | hq
 ·obtain ⟨its,r,pl,hz⟩:=I.list hq
  refine SeqAt.notIn_listAt (eqU x) pl.isList (fun w hw=>a2L rx fx r fs w (by simpa using hw)) ⟨.bl _,H,I,rfl,?_⟩
  rw [show its.toArray.any (eqU x)=its.any (eqU x) by simp,a3N r fs]
  exact q
 ·obtain ⟨its,r,pl,hz⟩:=I.tuple hq
  refine SeqAt.notIn_tupleAt (eqU x) pl (fun w hw=>a2L rx fx r fs w (by simpa using hw)) ⟨.bl _,H,I,rfl,?_⟩
  rw [show its.toArray.any (eqU x)=its.any (eqU x) by simp,a3N r fs]
  exact q
theorem a1P.or {f:Value} {r r':List V→Hp→VK→Prop} (h:a1P X f r) (h':a1P X f r'):a1P X f (fun xs H Q=>r xs H Q∨r' xs H Q):=by
 intro pins s σ H xs us Q I rs q
 rcases q with q | q
 ·exact h pins s σ H xs us Q I rs q
 ·exact h' pins s σ H xs us Q I rs q
theorem a5J:a1P X (.type "list") (fun xs H Q=>∃p ys,xs=[.ref p]∧(SqL X.K H p ys∨SqT X.K H p ys)∧∀l,H l=none→Q (.ref l) (upd H l (.lst ys))):=by
 intro pins s σ H xs us Q I r h
 obtain ⟨p,ys,rfl,hq,q⟩:=h
 obtain ⟨u,rfl,rx⟩:=a4a r
 cases rx
 have fin:∀(its:List Value),a0I ys its→ys.length≤sizeLine→∀(h':Heap) (c':Nat),(∀b o',s.heap.get? b=some o'→h'.get? b=some o')→
   h'.get? s.heap.objs.size=some {cls:=.type "list",dict:=none,data:=.seq its.toArray c',slots:=#[]}→EP X pins σ Q (.ref s.heap.objs.size) {s with heap:=h'}:=fun its r' hz h' c' kp e=>
  ⟨.ref s.heap.objs.size,_,I.laid (t':=s.toks) kp (Qi _) (show a0Q X.prog X.w _ h' _ (.lst ys) from ⟨hz,its,c',r',e⟩),rfl,q _ (I.hok.fresh (Qi _))⟩
 rcases hq with hq | hq
 ·obtain ⟨its,r',pl,hz⟩:=I.list hq
  have hlen:=r'.length
  obtain ⟨o,ho,hc,n,hd⟩:=pl.isList
  exact call_list_seq p (.inl rfl) ho hc hd (fun h' c' kp e=>fin its r' hz h' c' kp e) (by simp only [Qr]<;>omega)
 ·obtain ⟨its,r',pl,hz⟩:=I.tuple hq
  have hlen:=r'.length
  obtain ⟨o,ho,hc,n,hd⟩:=pl
  exact call_list_seq p (.inr rfl) ho hc hd (fun h' c' kp e=>fin its r' hz h' c' kp e) (by simp only [Qr]<;>omega)
theorem a4I:a1P X (.type "tuple") (fun xs H Q=>∃p ys,xs=[.ref p]∧((SqL X.K H p ys∧∀l,H l=none→Q (.ref l) (upd H l (.tup ys)))∨(SqT X.K H p ys∧Q (.ref p) H))):=by
 intro pins s σ H xs us Q I r h
 obtain ⟨p,ys,rfl,h⟩:=h
 obtain ⟨u,rfl,rx⟩:=a4a r
 cases rx
 rcases h with ⟨hq,q⟩ | ⟨hq,q⟩
 ·obtain ⟨its,r',pl,hz⟩:=I.list hq
  have hlen:=r'.length
  refine call_tuple_list pl.isList (fun h' kp=>?_) (by simp only [Qr]<;>omega)
  have I1:Inv X pins σ H {s with heap:=h'}:=I.kept (t':=s.toks) kp
  have I2:Inv X pins σ (upd H h'.objs.size (.tup ys)) {s with heap:=h'.push {cls:=.type "tuple",data:=.seq its.toArray}}:=
   I1.laid (t':=s.toks) (fun b o e=>Qk _ e) (Qi _) (show a0Q X.prog X.w _ _ _ (.tup ys) from ⟨hz,its,r',IsTup.new _ _⟩)
  exact ⟨.ref h'.objs.size,_,I2,rfl,q _ (I1.hok.fresh (Qi _))⟩
 ·obtain ⟨its,r',pl,hz⟩:=I.tuple hq
  exact call_tuple_same pl ⟨.ref p,H,I,rfl,q⟩
def tyV (K:Qd) (T:String) (x:V) (H:Hp):Prop:=match x with
 | .str _=>T="str"
 | .int _=>T="int"
 | .ref p=>(T="list"∧∃xs,SqL K H p xs)∨(T="tuple"∧∃o,K.lookup p=some o∧o.cls=.type "tuple"∧o.dict=none)∨
   (T="dict"∧((∃kvs,H p=some (.dK kvs))∨∃kvs,H p=some (.dT kvs)))∨(T="set"∧∃S n,H p=some (.set S n))
 | _=>False
theorem b3v {pins:List (Addr×Obj)} {σ:St} {H:Hp} {s:Shared} {T:String} {x:V} {v:Value} (I:Inv X pins σ H s) (r:a0H x v) (ty:tyV X.K T x H):
  s.TypeIs v T∧∀a,v=.ref a→∃ob,s.heap.get? a=some ob∧ob.dict=none:=by
 cases x with
 | str z=>
  obtain ⟨t,rfl⟩:=r
  cases (show T="str" from ty)
  exact ⟨typeIs_str s z t,fun _ e=>nomatch e⟩
 | int i=>
  obtain ⟨t,rfl⟩:=r
  cases (show T="int" from ty)
  exact ⟨typeIs_int s i t,fun _ e=>nomatch e⟩
 | ref p=>
  cases r
  rcases ty with ⟨rfl,xs,hq⟩ | ⟨rfl,o,hk,hc,hd⟩ | ⟨rfl,hk⟩ | ⟨rfl,S,n,hk⟩
  ·obtain ⟨its,_,pl,_⟩:=I.list hq
   refine ⟨pl.isList.typeIs,fun a e=>?_⟩
   cases e
   obtain ⟨o,n,e,c,hd,_⟩:=pl
   exact ⟨o,e,hd⟩
  ·refine ⟨⟨o,I.kIn p o hk,hc⟩,fun a e=>?_⟩
   cases e
   exact ⟨o,I.kIn _ o hk,hd⟩
  ·have z:∃o,s.heap.get? p=some o∧o.ExactDict:=by
    rcases hk with ⟨kvs,hk⟩ | ⟨kvs,hk⟩
    ·obtain ⟨_,_,_,_,o,_,_,e,ex,_⟩:=I.hok p _ hk
     exact ⟨o,e,ex⟩
    ·obtain ⟨_,_,_,_,o,_,_,e,ex,_⟩:=I.hok p _ hk
     exact ⟨o,e,ex⟩
   obtain ⟨o,e,ex⟩:=z
   refine ⟨⟨o,e,ex.1⟩,fun a e2=>?_⟩
   cases e2
   exact ⟨o,e,ex.2.1⟩
  ·obtain ⟨o,_,_,_,e,ex,_⟩:=I.hok p _ hk
   refine ⟨⟨o,e,ex.1⟩,fun a e2=>?_⟩
   cases e2
   exact ⟨o,e,ex.2.1⟩
 | _=>exact False.elim ty
def c0L (K:Qd) (T:String) (r:V→List V→Hp→VK→Prop) (to:TE):TE:=fun σ H Q=>to σ H fun x H1=>tyV K T x H1∧r x [] H1 Q
def tBM (K:Qd) (T:String) (r:V→List V→Hp→VK→Prop) (to:TE) (t:TA):TE:=fun σ H Q=>to σ H fun x H1=>tyV K T x H1∧t σ H1 fun xs H2=>r x xs H2 Q
variable {o e:Expr} {es:List Expr} {to:TE} {t:TA} {name:Str} {apos cpos:Pos} {T id:String} {r:V→List V→Hp→VK→Prop}
theorem b9K (pa:PlainAttrs T) (slot:Slot T name id) (hty:typeOf (.builtin id)=pure (.type "method_descriptor")) (hm:MtR X id r) (ho:PE X o to)
  (hbase:attributeBase o name X.env (eval o X.env)=eval o X.env:=by rfl) (hline:(apos.endLine == cpos.line)=true:=by rfl):PE X (.Call (.Attribute o name apos) [] [] cpos) (c0L X.K T r to):=by
 intro pins s σ H Q I h
 refine wpAny_Call_method0_late hbase hline (thn (ho pins s σ H _ I h) fun v s1 ⟨x,H1,I1,r1,ty,q1⟩=>?_)
 obtain ⟨h1,h2⟩:=b3v I1 r1 ty
 exact ⟨T,id,pa,slot,hty,h1,h2,Calls.callWith_builtin rfl (PySem.evalArgs_none (hm pins s1 σ H1 x [] v [] Q I1 r1 .nil q1))⟩
theorem c0N (pa:PlainAttrs T) (slot:Slot T name id) (hty:typeOf (.builtin id)=pure (.type "method_descriptor")) (hm:MtR X id r) (ho:PE X o to) (ha:PA X (e::es) t)
  (hbase:attributeBase o name X.env (eval o X.env)=eval o X.env:=by rfl)
  (hfew:((backTo cpos (starEach (e::es) X.env)).all (fun x=>!x.1) && (backToKw cpos (keywordEach [] X.env)).all (fun x=>x.1.isSome)
   && decide ((e::es).length+([]:List Keyword).length+(if ([]:List Keyword).isEmpty then 0 else 1) < 30))=true:=by rfl)
  (hline:(apos.endLine == cpos.line)=true:=by rfl) (hs:starEach (e::es) X.env=(false,eval e X.env)::starEach es X.env:=by rfl) (hplain:(backTo cpos (starEach es X.env)).any (·.1)=false:=by rfl):
  PE X (.Call (.Attribute o name apos) (e::es) [] cpos) (tBM X.K T r to t):=by
 intro pins s σ H Q I h
 refine wpAny_Call_method_late hbase hfew hline rfl (thn (ho pins s σ H _ I h) fun v s1 ⟨x,H1,I1,r1,ty,q1⟩=>?_)
 obtain ⟨h1,h2⟩:=b3v I1 r1 ty
 refine ⟨T,id,pa,slot,hty,h1,h2,?_⟩
 have hA:=ha cpos pins s1 σ H1 _ I1 q1
 rw [hs] at hA ⊢
 refine Calls.callWith_builtin (by show (false || (backTo cpos (starEach es X.env)).any (·.1))=false;rw [hplain]<;>rfl) (Calls.evalArgs_plain ?_)
 exact thn hA fun us s2 ⟨vs,H2,I2,r2,q2⟩=>hm pins s2 σ H2 x vs v us Q I2 r1 r2 q2
end
end L2
namespace L2
open PySem PySem.Spec PyProof.Rows
def MtM (X:Cx) (id:String) (r:V→List V→Hp→VK→Prop):Prop:=
 ∀(pins:List (Addr×Obj)) (s:Shared) (σ:St) (H:Hp) (x:V) (xs:List V) (v:Value) (us:List Value) (Q:VK),Inv X pins σ H s→a0H x v→a0I xs us→r x xs H Q→
  wpAny (model X.prog X.w) X.A (call (.builtin id) (v::us)) (EP X pins σ Q) X.xe s
theorem a0I.one:∀{x:V} {us:List Value},a0I [x] us→∃u,us=[u]∧a0H x u
 | _,_,.cons r .nil=>⟨_,rfl,r⟩
theorem a0I.zero:∀{us:List Value},a0I [] us→us=[]
 | _,.nil=>rfl
theorem a0I.reverse {xs:List V} {us:List Value} (h:a0I xs us):a0I xs.reverse us.reverse:=by
 induction h with
 | nil=>exact .nil
 | cons r t ih=>rw [List.reverse_cons,List.reverse_cons];exact a0I.append ih (.cons r .nil)
section
variable {X:Cx} {pins:List (Addr×Obj)} {σ:St} {H:Hp} {s:Shared} {l b:Addr} {xs ys zs:List V}
theorem Inv.lset {its its':List Value} {n:Nat} {f:Array Value→Array Value} {t':Nat} (I:Inv X pins σ H s) (hH:H l=some (.lst xs))
  (e:s.heap.get? l=some {cls:=.type "list",data:=.seq its.toArray n}) (hf:f its.toArray=its'.toArray) (hv:a0I ys its') (hz:ys.length≤sizeLine):
  Inv X pins σ (upd H l (.lst ys)) {s with heap:=s.heap.update l (Obj.mapSeq f),toks:=t'}:=by
 have q:=PySem.IsL.update e f
 rw [hf] at q
 refine I.write (x:=l) (e:=l) (by rw [hH];exact trivial) (.inl rfl) (fun b' u hb hu=>(Jz s.heap (Obj.mapSeq f) (Ne.symm hb)).trans hu) ⟨_,q⟩ ?_
 exact ⟨hz,its',_,hv,q⟩
theorem Inv.lnew {its:List Value} {t':Nat} (I:Inv X pins σ H s) (hv:a0I ys its) (hz:ys.length≤sizeLine):
  Inv X pins σ (upd H s.heap.objs.size (.lst ys)) {s with heap:=s.heap.push {cls:=.type "list",data:=.seq its.toArray},toks:=t'}:=
 I.laid (fun _ _ q=>Qk _ q) (Qi _) ⟨hz,its,0,hv,Qw _ rfl⟩
theorem Inv.fresh (I:Inv X pins σ H s):H s.heap.objs.size=none:=I.hok.fresh (Qi _)
theorem Inv.lstM (I:Inv X pins σ H s) (hH:H l=some (.lst xs)):xs.length≤sizeLine∧∃(its:List Value) (n:Nat),a0I xs its∧xs.length=its.length∧s.heap.get? l=some {cls:=.type "list",data:=.seq its.toArray n}:=by
 obtain ⟨z,its,n,r,e⟩:=I.hok l _ hH
 exact ⟨z,its,n,r,r.length,e⟩
end
section
variable {X:Cx}
def b0d:V→List V→Hp→VK→Prop:=fun x vs H Q=>∃l xs y,x=.ref l∧vs=[y]∧H l=some (.lst xs)∧xs.length < sizeLine∧Q .non (upd H l (.lst (xs++[y])))
theorem a0S:MtM X "list.append" b0d:=by
 intro pins s σ H x vs v us Q I rx rv h
 obtain ⟨l,xs,y,rfl,rfl,hH,hz,q⟩:=h
 cases rx
 obtain ⟨u,rfl,ru⟩:=rv.one
 obtain ⟨z,its,n,r,hl,e⟩:=I.lstM hH
 refine call_meets F.slot_list_append ⟨_,e,rfl⟩ F.entry_list_append (F.args_list_append_2 _ _) (PySem.list_append l its.toArray n u (by rw [Qr];omega)) ⟨e,?_⟩
 refine ⟨.non,_,I.lset (its':=its++[u]) hH e (by simp) (r.append (.cons ru .nil)) ?_,rfl,q⟩
 rw [Xq,List.length_singleton]
 omega
def c3h:R2:=fun x y H Q=>∃l b xs zs,x=.ref l∧y=.ref b∧H l=some (.lst xs)∧H b=some (.lst zs)∧xs.length+zs.length≤sizeLine∧∀p,H p=none→Q (.ref p) (upd H p (.lst (xs++zs)))
theorem b7n:OpR X (binaryOp .Add) c3h:=by
 intro pins s σ H x y v u Q I rx ry h
 obtain ⟨l,b,xs,zs,rfl,rfl,hH,hB,hz,q⟩:=h
 cases rx
 cases ry
 obtain ⟨z,its,n,r,hl,e⟩:=I.lstM hH
 obtain ⟨z2,its2,n2,r2,hl2,e2⟩:=I.lstM hB
 refine PySem.P.add_list e e2 ?_ (by rw [Qr,Qr];omega)
 have ea:its.toArray++its2.toArray=(its++its2).toArray:=by simp
 rw [ea]
 exact ⟨.ref _,_,I.lnew (t':=s.toks) (r.append r2) (by rw [Xq];omega),rfl,q _ I.fresh⟩
end
section
variable {prog:Program} {w:World} {A:Around} {E:Value→Shared→Prop} {s:Shared}
set_option maxRecDepth 100000 in
end
end L2
namespace L2
open PySem PySem.Spec PyProof.Rows
section
variable {κ:Type} [DecidableEq κ]
def a0P (kvs:List (κ×V)) (k:κ):Option V:=(kvs.find? fun kv=>decide (kv.1=k)).map (·.2)
def a2k (kvs:List (κ×V)) (k:κ) (v:V):List (κ×V):=
 if (kvs.any fun kv=>decide (kv.1=k))=true then kvs.map (fun kv=>if kv.1=k then (kv.1,v) else kv) else kvs++[(k,v)]
def b8J (kvs:List (κ×V)) (k:κ):List (κ×V):=kvs.filter fun kv=>decide (kv.1≠k)
theorem a0A {p:κ×V} {r:List (κ×V)} {k:κ} (e:p.1=k):a0P (p::r) k=some p.2:=by simp [a0P,Yz,e]
theorem a0w {p:κ×V} {r:List (κ×V)} {k:κ} (e:¬p.1=k):a0P (p::r) k=a0P r k:=by simp [a0P,Yz,e]
theorem a1L (k:κ):∀kvs:List (κ×V),(kvs.any fun kv=>decide (kv.1=k))=(a0P kvs k).isSome
 | []=>rfl
 | p::r=>by
  rw [Jb]
  by_cases e:p.1=k
  ·simp only [a0A e,decide_eq_true e,Bool.true_or,Option.isSome_some]
  ·rw [a0w e,decide_eq_false e,Bool.false_or];exact a1L k r
theorem a7r (k j:κ) (y:V):∀kvs:List (κ×V),a0P (kvs.map fun kv=>if kv.1=k then (kv.1,y) else kv) j=(a0P kvs j).map fun x=>if j=k then y else x
 | []=>rfl
 | p::r=>by
  have ih:=a7r k j y r
  rw [Xl]
  by_cases h:p.1=k
  ·rw [if_pos h]
   by_cases e:p.1=j
   ·rw [a0A (p:=(p.1,y)) e,a0A e,Jc,if_pos (e.symm.trans h)]
   ·rw [a0w (p:=(p.1,y)) e,a0w e,ih]
  ·rw [if_neg h]
   by_cases e:p.1=j
   ·rw [a0A (p:=p) e,a0A e,Jc,if_neg (fun z=>h (e.trans z))]
   ·rw [a0w (p:=p) e,a0w e,ih]
theorem a5V (k j:κ) (y:V):∀kvs:List (κ×V),a0P kvs k=none→a0P (kvs++[(k,y)]) j=if j=k then some y else a0P kvs j
 | [],_=>by
  by_cases e:k=j
  ·rw [if_pos e.symm];exact a0A (p:=(k,y)) e
  ·rw [if_neg (fun z=>e z.symm)];exact a0w (p:=(k,y)) e
 | p::r,hn=>by
  rw [Jo]
  have hk:¬p.1=k:=fun z=>by rw [a0A z] at hn;cases hn
  rw [a0w hk] at hn
  have ih:=a5V k j y r hn
  by_cases e:p.1=j
  ·rw [a0A e,a0A e,if_neg (fun z=>hk (e.trans z))]
  ·rw [a0w e,a0w e,ih]
theorem a1B (kvs:List (κ×V)) (k j:κ) (y:V):a0P (a2k kvs k y) j=if j=k then some y else a0P kvs j:=by
 unfold a2k
 by_cases a:(kvs.any fun kv=>decide (kv.1=k))=true
 ·rw [if_pos a,a7r]
  rw [a1L] at a
  by_cases e:j=k
  ·obtain ⟨x,hx⟩:=Vm.mp a
   rw [if_pos e,e,hx,Jc,if_pos rfl]
  ·rw [if_neg e]
   cases a0P kvs j with
   | none=>rfl
   | some x=>rw [Jc,if_neg e]
 ·rw [if_neg a]
  refine a5V k j y kvs ?_
  rw [a1L] at a
  cases q:a0P kvs k with
  | none=>rfl
  | some x=>rw [q] at a;exact (a rfl).elim
theorem a0N (kvs:List (κ×V)) (k:κ) (v:V):(a2k kvs k v).length≤kvs.length+1:=by
 unfold a2k
 split
 ·rw [Qe];omega
 ·rw [Xq,Qo,Xb];omega
theorem a3s {kvs:List (κ×V)} {k:κ} (v:V) (h:a0P kvs k=none):a2k kvs k v=kvs++[(k,v)]:=by
 unfold a2k
 rw [a1L,h]
 exact if_neg (by decide)
theorem a4d.isSome_eq {o:Option V} {u:Option Value} (r:a4d o u):o.isSome=u.isSome:=by
 cases o with
 | none=>cases u with
  | none=>rfl
  | some _=>exact (show False from r).elim
 | some _=>cases u with
  | none=>exact (show False from r).elim
  | some _=>rfl
theorem a4d.getD {o:Option V} {u:Option Value} {d:V} {d':Value} (r:a4d o u) (rd:a0H d d'):a0H (o.getD d) (u.getD d'):=by
 cases o with
 | none=>cases u with
  | none=>exact rd
  | some _=>exact (show False from r).elim
 | some _=>cases u with
  | none=>exact (show False from r).elim
  | some _=>exact r
theorem KV.val {kvs:List (κ×V)} {vs:List (κ×Value)} (r:KV kvs vs) (k:κ):a4d (a0P kvs k) (valueAt vs k):=by
 unfold KV at r
 induction r with
 | nil=>exact True.intro
 | @cons p q ps qs h t ih=>
  obtain ⟨h1,h2⟩:=h
  by_cases e:p.1=k
  ·have e':q.1=k:=h1.symm.trans e
   have b:valueAt (q::qs) k=some q.2:=by simp [valueAt,Yz,e']
   rw [a0A e,b];exact h2
  ·have e':¬q.1=k:=fun z=>e (h1.trans z)
   have b:valueAt (q::qs) k=valueAt qs k:=by simp [valueAt,Yz,e']
   rw [a0w e,b];exact ih
theorem KV.any {kvs:List (κ×V)} {vs:List (κ×Value)} (r:KV kvs vs) (k:κ):(kvs.any fun kv=>decide (kv.1=k))=vs.any fun kv=>decide (kv.1=k):=by
 unfold KV at r
 induction r with
 | nil=>rfl
 | cons h t ih=>rw [Jb,Jb,ih,h.1]
theorem KV.repl {kvs:List (κ×V)} {vs:List (κ×Value)} (r:KV kvs vs) (k:κ) {y:V} {u:Value} (ry:a0H y u):
  KV (kvs.map fun kv=>if kv.1=k then (kv.1,y) else kv) (vs.map fun kv=>if kv.1=k then (kv.1,u) else kv):=by
 unfold KV at r ⊢
 induction r with
 | nil=>exact .nil
 | @cons p q ps qs h t ih=>
  rw [Xl,Xl]
  refine .cons ?_ ih
  obtain ⟨h1,h2⟩:=h
  by_cases e:p.1=k
  ·rw [if_pos e,if_pos (h1.symm.trans e)];exact ⟨h1,ry⟩
  ·rw [if_neg e,if_neg (fun z=>e (h1.trans z))];exact ⟨h1,h2⟩
theorem KV.put {kvs:List (κ×V)} {vs:List (κ×Value)} (r:KV kvs vs) (k:κ) {y:V} {u:Value} (ry:a0H y u):KV (a2k kvs k y) (stored vs k u):=by
 unfold a2k stored
 rw [r.any k]
 by_cases e:(vs.any fun kv=>decide (kv.1=k))=true
 ·rw [if_pos e,if_pos e];exact r.repl k ry
 ·rw [if_neg e,if_neg e];exact Paired.snoc r ⟨rfl,ry⟩
theorem KV.drop {kvs:List (κ×V)} {vs:List (κ×Value)} (r:KV kvs vs) (k:κ):KV (b8J kvs k) (without vs k):=by
 unfold KV at r ⊢
 unfold b8J without
 induction r with
 | nil=>exact .nil
 | @cons p q ps qs h t ih=>
  obtain ⟨h1,h2⟩:=h
  rw [Ym,Ym]
  by_cases e:p.1=k
  ·have a:¬decide (p.1≠k)=true:=by simp [e]
   have b:¬decide (q.1≠k)=true:=by simp [h1.symm.trans e]
   rw [if_neg a,if_neg b];exact ih
  ·have e':¬q.1=k:=fun z=>e (h1.trans z)
   have a:decide (p.1≠k)=true:=by simp [e]
   have b:decide (q.1≠k)=true:=by simp [e']
   rw [if_pos a,if_pos b];exact .cons ⟨h1,h2⟩ ih
theorem KV.length {kvs:List (κ×V)} {vs:List (κ×Value)} (r:KV kvs vs):kvs.length=vs.length:=Paired.length r
end
theorem a6x {P:Program} {w:World} {k:Key} {u:Value} (r:a0H (kV k) u):(a0k P w).is k u=true:=by
 cases k with
 | inl i=>obtain ⟨t,e⟩:=(show ∃t,u=Value.int i t from r);subst e;exact a6n P w i t
 | inr x=>obtain ⟨t,e⟩:=(show ∃t,u=Value.str x t from r);subst e;exact a6I P w x t
theorem a5W {P:Program} {w:World}:∀{ks:List Key} {us:List Value},a0I (ks.map kV) us→ItemsAre (a0k P w) ks us
 | [],_,r=>by rw [Jk] at r;cases r;exact .nil
 | k::ks,_,r=>by
  rw [Xl] at r
  cases r with
  | cons h t=>exact .cons (a6x h) (a5W t)
abbrev KT (H:Hp):List (List Key×V)→List (List Key×Addr×Value)→Prop:=Paired fun p q=>p.1=q.1∧H q.2.1=some (.tup (p.1.map kV))∧a0H p.2 q.2.2
theorem KT.val {H:Hp} {kvs:List (List Key×V)} {xs:List (List Key×Addr×Value)} (r:KT H kvs xs) (k:List Key):a4d (a0P kvs k) ((atKey xs k).map (·.2)):=by
 induction r with
 | nil=>exact True.intro
 | @cons p q ps qs h t ih=>
  obtain ⟨h1,_,h2⟩:=h
  by_cases e:p.1=k
  ·have e':q.1=k:=h1.symm.trans e
   have b:atKey (q::qs) k=some q.2:=by simp [atKey,Yz,e']
   rw [a0A e,b];exact h2
  ·have e':¬q.1=k:=fun z=>e (h1.trans z)
   have b:atKey (q::qs) k=atKey qs k:=by simp [atKey,Yz,e']
   rw [a0w e,b];exact ih
theorem KT.repl {H:Hp} {kvs:List (List Key×V)} {xs:List (List Key×Addr×Value)} (r:KT H kvs xs) (k:List Key) {y:V} {u:Value} (ry:a0H y u):
  KT H (kvs.map fun kv=>if kv.1=k then (kv.1,y) else kv) (xs.map (putAt k u)):=by
 induction r with
 | nil=>exact .nil
 | @cons p q ps qs h t ih=>
  rw [Xl,Xl]
  refine .cons ?_ ih
  obtain ⟨h1,h2,h3⟩:=h
  unfold putAt
  by_cases e:p.1=k
  ·rw [if_pos e,if_pos (h1.symm.trans e)];exact ⟨h1,h2,ry⟩
  ·rw [if_neg e,if_neg (fun z=>e (h1.trans z))];exact ⟨h1,h2,h3⟩
theorem KT.put {H:Hp} {kvs:List (List Key×V)} {xs:List (List Key×Addr×Value)} (r:KT H kvs xs) (k:List Key) {b:Addr} {y:V} {u:Value} (hb:H b=some (.tup (k.map kV))) (ry:a0H y u):
  KT H (a2k kvs k y) (storedH xs k b u):=by
 have e:(kvs.any fun kv=>decide (kv.1=k))=(atKey xs k).isSome:=by
  rw [a1L,(r.val k).isSome_eq,Ve]
 unfold a2k storedH
 rw [e]
 by_cases q:(atKey xs k).isSome=true
 ·rw [if_pos q,if_pos q];exact r.repl k ry
 ·rw [if_neg q,if_neg q];exact Paired.snoc r ⟨rfl,hb,ry⟩
theorem KT.keeps {H H':Hp} {kvs:List (List Key×V)} {xs:List (List Key×Addr×Value)} (r:KT H kvs xs) (ht:∀b ys,H b=some (.tup ys)→H' b=some (.tup ys)):KT H' kvs xs:=
 Paired.mapP r fun _ _ z=>⟨z.1,ht _ _ z.2.1,z.2.2⟩
section
variable {P:Program} {w:World} {H:Hp} {h:Heap} {a:Addr}
theorem b8c {u:HO} (ok:HOk P w H h) (e:Rd H a u):a0Q P w H h a u:=e.ok ok
theorem a4c {kvs:List (Key×V)} (ok:HOk P w H h) (e:Rd H a (.dK kvs)):kvs.length≤sizeLine∧(a == sysModules)=false∧∃vs,KV kvs vs∧h.DictOf (a0k P w) a vs:=
 show a0Q P w H h a (.dK kvs) from b8c ok e
theorem a2u {kvs:List (Key×V)} (ok:HOk P w H h) (e:H a=some (.dK kvs)):kvs.length≤sizeLine∧(a == sysModules)=false∧∃vs,KV kvs vs∧h.DictOf (a0k P w) a vs:=a4c ok (.inl e)
theorem a4v {ks:List Key} (ok:HOk P w H h) (e:H a=some (.tup (ks.map kV))):(tupleKind (a0k P w)).is h ks a:=by
 obtain ⟨_,its,r,o,h1,h2,n,h3⟩:=(show a0Q P w H h a (.tup (ks.map kV)) from ok a _ e)
 exact ⟨o,its.toArray,n,h1,h2,h3,by simpa using a5W r⟩
theorem a6C {kvs:List (List Key×V)} (ok:HOk P w H h) (e:Rd H a (.dT kvs)):kvs.length≤sizeLine∧(a == sysModules)=false∧
  ∃xs,KT H kvs xs∧h.DictOfH (tupleKind (a0k P w)) a xs:=by
 obtain ⟨z,y,xs,r,o,es,ep,h1,h2,h3,h4,h5⟩:=(show a0Q P w H h a (.dT kvs) from b8c ok e)
 refine ⟨z,y,xs,r,o,es,ep,h1,h2,h3,h4,fun x hx=>?_,h5⟩
 have all:∀{l:List (List Key×V)} {m:List (List Key×Addr×Value)},KT H l m→∀x∈m,(tupleKind (a0k P w)).is h x.1 x.2.1:=by
  intro l m q
  induction q with
  | nil=>intro x hx;exact nomatch hx
  | @cons p q ps qs hq t ih=>
   intro x hx
   rcases Qy.mp hx with e | hx
   ·subst e
    exact a4v ok (by rw [←hq.1];exact hq.2.1)
   ·exact ih x hx
 exact all r x hx
theorem c0B {kvs:List (List Key×V)} (ok:HOk P w H h) (e:H a=some (.dT kvs)):kvs.length≤sizeLine∧(a == sysModules)=false∧
  ∃xs,KT H kvs xs∧h.DictOfH (tupleKind (a0k P w)) a xs:=a6C ok (.inl e)
end
def a2S (H:Hp) (a:Addr) (y:V) (r:Option V):Prop:=
 (∃kvs k,Rd H a (.dK kvs)∧y=kV k∧r=a0P kvs k)∨∃kvs k b,Rd H a (.dT kvs)∧y=.ref b∧H b=some (.tup (k.map kV))∧r=a0P kvs k
def a4k (H:Hp) (a:Addr) (y v:V) (H':Hp):Prop:=
 (∃kvs k,H a=some (.dK kvs)∧y=kV k∧kvs.length < sizeLine∧H'=upd H a (.dK (a2k kvs k v)))∨
 ∃kvs k b,H a=some (.dT kvs)∧y=.ref b∧H b=some (.tup (k.map kV))∧kvs.length < sizeLine∧H'=upd H a (.dT (a2k kvs k v))
theorem a2S.k {H:Hp} {a:Addr} {kvs:List (Key×V)} {k:Key} (e:H a=some (.dK kvs)):a2S H a (kV k) (a0P kvs k):=.inl ⟨kvs,k,.inl e,rfl,rfl⟩
theorem a2S.t {H:Hp} {a b:Addr} {kvs:List (List Key×V)} {k:List Key} (e:H a=some (.dT kvs)) (eb:H b=some (.tup (k.map kV))):a2S H a (.ref b) (a0P kvs k):=.inr ⟨kvs,k,b,.inl e,rfl,eb,rfl⟩
theorem a4k.k {H:Hp} {a:Addr} {kvs:List (Key×V)} {k:Key} {v:V} (e:H a=some (.dK kvs)) (hl:kvs.length < sizeLine):a4k H a (kV k) v (upd H a (.dK (a2k kvs k v))):=.inl ⟨kvs,k,e,rfl,hl,rfl⟩
theorem a4k.t {H:Hp} {a b:Addr} {kvs:List (List Key×V)} {k:List Key} {v:V} (e:H a=some (.dT kvs)) (eb:H b=some (.tup (k.map kV))) (hl:kvs.length < sizeLine):
  a4k H a (.ref b) v (upd H a (.dT (a2k kvs k v))):=.inr ⟨kvs,k,b,e,rfl,eb,hl,rfl⟩
section
variable {X:Cx} {pins:List (Addr×Obj)} {σ:St} {H:Hp} {s:Shared} {a:Addr} {y v:V} {u r:Value} {o:Option V} {A:Around} {E:Value→Shared→Prop}
theorem Inv.big (I:Inv X pins σ H s):sysModules < s.heap.objs.size:=by
 have h:mainGlobals < s.heap.objs.size:=(I.mod.glob.keeps I.bk).lt
 exact Nat.lt_trans (by decide) h
theorem a9X {Q:Value→Shared→Prop} (hu:A.units+1 < cLine) (I:Inv X pins σ H s) (g:a2S H a y (some v)) (ry:a0H y u) (h:∀w' s',Inv X pins σ H s'→a0H v w'→Q w' s'):
  wpAny (model X.prog X.w) A (getItem (.ref a) u) Q E s:=by
 rcases g with ⟨kvs,k,e,ey,l⟩ | ⟨kvs,k,b,e,ey,eb,l⟩
 ·subst ey
  obtain ⟨z,hd,vs,rel,dd⟩:=a4c I.hok e
  obtain ⟨w',hw,rw'⟩:=a4d.some_of (v:=v) (o:=valueAt vs k) (by rw [l];exact rel.val k)
  exact wpAny_getItem_of (a6x ry) dd.mapOf hw (h w' _ (I.tok _) rw')
 ·subst ey
  cases (show u=Value.ref b from ry)
  obtain ⟨z,hd,xs,rel,dd⟩:=a6C I.hok e
  obtain ⟨w',hw,rw'⟩:=a4d.some_of (v:=v) (o:=(atKey xs k).map (·.2)) (by rw [l];exact rel.val k)
  obtain ⟨p,hp,hp2⟩:=Jd.mp hw
  refine wpAny_getItem_heap (tupleKind_room_in1 hu) (a4v I.hok eb) dd hp ?_
  rw [hp2]
  exact h w' _ (I.tok _) rw'
theorem c6H {Q:Value→Shared→Prop} (hu:A.units+1 < cLine) (I:Inv X pins σ H s) (g:a2S H a y o) (ry:a0H y u) (h:∀s',Inv X pins σ H s'→Q (.bool o.isSome) s'):
  wpAny (model X.prog X.w) A (compareOp .In u (.ref a)) Q E s:=by
 rcases g with ⟨kvs,k,e,ey,l⟩ | ⟨kvs,k,b,e,ey,eb,l⟩
 ·subst ey
  obtain ⟨z,hd,vs,rel,dd⟩:=a4c I.hok e
  refine wpAny_in_of (a6x ry) hd dd.mapOf ?_
  rw [←(rel.val k).isSome_eq,←l]
  exact h _ (I.tok _)
 ·subst ey
  cases (show u=Value.ref b from ry)
  obtain ⟨z,hd,xs,rel,dd⟩:=a6C I.hok e
  refine wpAny_in_heap (tupleKind_room_in1 hu) (a4v I.hok eb) hd dd ?_
  have q:=(rel.val k).isSome_eq
  rw [Ve] at q
  rw [←q,←l]
  exact h _ (I.tok _)
theorem b4l {Q:Value→Shared→Prop} (hu:A.units+1 < cLine) (I:Inv X pins σ H s) (g:a2S H a y o) (ry:a0H y u) (h:∀s',Inv X pins σ H s'→Q (.bool (!o.isSome)) s'):
  wpAny (model X.prog X.w) A (compareOp .NotIn u (.ref a)) Q E s:=by
 rcases g with ⟨kvs,k,e,ey,l⟩ | ⟨kvs,k,b,e,ey,eb,l⟩
 ·subst ey
  obtain ⟨z,hd,vs,rel,dd⟩:=a4c I.hok e
  refine wpAny_notIn_of (a6x ry) hd dd.mapOf ?_
  rw [←(rel.val k).isSome_eq,←l]
  exact h _ (I.tok _)
 ·subst ey
  cases (show u=Value.ref b from ry)
  obtain ⟨z,hd,xs,rel,dd⟩:=a6C I.hok e
  refine wpAny_notIn_heap (tupleKind_room_in1 hu) (a4v I.hok eb) hd dd ?_
  have q:=(rel.val k).isSome_eq
  rw [Ve] at q
  rw [←q,←l]
  exact h _ (I.tok _)
theorem a3I {h':Heap} {t':Nat} {ob:HO} (I:Inv X pins σ H s) (mu:Mut (H a)) (hs:Vj a s.heap h') (he:∃q,h'.get? a=some q) (new:a0Q X.prog X.w (upd H a ob) h' a ob):
  Inv X pins σ (upd H a ob) {s with heap:=h',toks:=t'}:=
 I.write (x:=a) (e:=a) mu (.inl rfl) (fun b q hb z=>(hs.2 b hb).trans z) he new
theorem a5u {P:Program} {w:World} {H':Hp} {h':Heap} {kvs:List (Key×V)} {vs:List (Key×Value)} (z:kvs.length≤sizeLine) (hd:(a == sysModules)=false) (rel:KV kvs vs) (dd:h'.DictOf (a0k P w) a vs):
  a0Q P w H' h' a (.dK kvs):=⟨z,hd,vs,rel,dd⟩
theorem a9S {H':Hp} {Q:Unit→Shared→Prop} (hu:A.units+1 < cLine) (I:Inv X pins σ H s) (g:a4k H a y v H') (ry:a0H y u) (rv:a0H v r) (h:∀s',Inv X pins σ H' s'→Q () s'):
  wpAny (model X.prog X.w) A (setItem (.ref a) u r) Q E s:=by
 rcases g with ⟨kvs,k,e,ey,l,eH⟩ | ⟨kvs,k,b,e,ey,eb,l,eH⟩
 ·subst ey eH
  obtain ⟨z,hd,vs,rel,dd⟩:=a2u I.hok e
  have hz:vs.length≤sizeLine:=by rw [←rel.length];exact z
  have hl:(a2k kvs k v).length≤sizeLine:=by have:=a0N kvs k v;omega
  refine wpAny_setItem_pairs (hsz:=hz) (a6x ry) dd fun h' dd' hs=>h _ ?_
  have he:∃q,h'.get? a=some q:=let ⟨q,_,_,hq,_⟩:=dd';⟨q,hq⟩
  exact a3I I (by rw [e];exact True.intro) hs he (a5u hl hd (rel.put k rv) dd')
 ·subst ey eH
  cases (show u=Value.ref b from ry)
  obtain ⟨z,hd,xs,rel,dd⟩:=c0B I.hok e
  have hz:xs.length≤sizeLine:=by rw [←Paired.length rel];exact z
  have hl:(a2k kvs k v).length≤sizeLine:=by have:=a0N kvs k v;omega
  refine wpAny_setItem_heap (hsz:=hz) (tupleKind_room_in1 hu) (a4v I.hok eb) dd fun h' dd' hs=>h _ ?_
  obtain ⟨q,es,ep,hq,h2,h3,h4,_,h5⟩:=dd'
  refine a3I I (by rw [e];exact True.intro) hs ⟨q,hq⟩ ⟨hl,hd,_,(rel.put k eb rv).keeps fun c ys ec=>?_,q,es,ep,hq,h2,h3,h4,h5⟩
  rw [a0a (a0B ec e (fun z=>nomatch z))]
  exact ec
end
section
variable {X:Cx} {pins:List (Addr×Obj)} {σ:St} {H:Hp} {s:Shared} {a:Addr} {kvs:List (Key×V)} {k:Key} {u:Value} {A:Around} {E:Value→Shared→Prop}
theorem b5t {Q:Value→Shared→Prop} (I:Inv X pins σ H s) (e:H a=some (.dK kvs)) (h:∀s',Inv X pins σ (upd H a (.dK [])) s'→Q .none s'):wpAny (model X.prog X.w) A (call (.builtin "dict.clear") [.ref a]) Q E s:=by
 obtain ⟨z,hd,vs,rel,dd⟩:=a2u I.hok e
 refine call_meetsIn Vx dd.typeIs PySem.F.entry_dict_clear (PySem.F.args_dict_clear_1 _) (meets_dict_clear (a0k X.prog X.w) a) ⟨vs,dd,by rw [←rel.length];exact z,fun h' dd' hs=>h _ ?_⟩
 have he:∃q,h'.get? a=some q:=let ⟨q,_,_,hq,_⟩:=dd';⟨q,hq⟩
 exact a3I (t':=s.toks) I (by rw [e];exact True.intro) hs he (a5u (Xa _) hd .nil dd')
theorem c0v {Q:Value→Shared→Prop} (I:Inv X pins σ H s) (e:Rd H a (.dK kvs)) (h:∀t s',Inv X pins σ H s'→Q (.int kvs.length t) s'):wpAny (model X.prog X.w) A (call (.builtin "len") [.ref a]) Q E s:=by
 obtain ⟨z,hd,vs,rel,dd⟩:=a4c I.hok e
 refine call_len_dict hd dd (by rw [←rel.length];rw [sizeLine_eq] at z;omega) ?_
 rw [←rel.length]
 exact h _ _ (I.tok _)
end
def c0Q (i:Expr):Prop:=∀ov iv,subscripted i false ov iv=operate [ov,iv] (getItem ov iv)
theorem b4F {prog:Program} {w:World} {A:Around} {E:Value→Shared→Prop} {s:Shared} {env:Env} {value slice:Expr} {pos:Pos} {T id:String} {Q:Value→Shared→Prop}
  (hl:typeLookup (.type T) "__getitem__"=pure (some (.builtin id))) (hs:c0Q slice)
  (h:wpAny (model prog w) A (eval value env) (fun o s₁=>wpAny (model prog w) A (eval slice env) (fun i s₂=>s₂.TypeIs o T∧wpAny (model prog w) A (getItem o i) Q E s₂) E s₁) E s):
  wpAny (model prog w) A (eval (.Subscript value slice pos) env) Q E s:=by
 refine Subscript_ (wpAny_mono h (fun o s₁ h₁=>wpAny_mono h₁ (fun i s₂ h₂=>?_) fun _ _ x=>x) fun _ _ x=>x)
 obtain ⟨hT,h₂⟩:=h₂
 unfold subscriptTail
 refine wpAny_bind ?_
 rw [getitemInPython_of_ne hT.not_modules]
 refine wpAny_bind (wpAny_specialOf hT hl ?_)
 have fin:wpAny (model prog w) A (subscripted slice false o i) (fun r s₃=>wpAny (model prog w) A (letTemporaryGo value o r >>= fun _=>pure r) Q E s₃) E s₂:=by
  rw [hs o i]
  exact wpAny_operating (wpAny_mono h₂ (fun r s₃ h₃=>wpAny_bind (wpAny_letTemporaryGo (wpAny_pure h₃))) fun _ _ x=>x)
 first
  | exact wpAny_pure (wpAny_bind fin)
  | exact wpAny_bind (wpAny_pure (wpAny_bind fin))
  | exact wpAny_bind fin
theorem a6i {X:Cx} {pins:List (Addr×Obj)} {σ:St} {H:Hp} {s:Shared} {a:Addr} {y:V} {o:Option V} (I:Inv X pins σ H s) (g:a2S H a y o):s.TypeIs (.ref a) "dict":=by
 rcases g with ⟨kvs,k,e,_,_⟩ | ⟨kvs,k,b,e,_,_,_⟩
 ·obtain ⟨_,_,vs,_,dd⟩:=a4c I.hok e
  exact dd.typeIs
 ·obtain ⟨_,_,xs,_,dd⟩:=a6C I.hok e
  exact dd.typeIs
def b2u (td ty:TE):TE:=fun σ H Q=>td σ H fun x H1=>ty σ H1 fun y H2=>∃a v,x=.ref a∧a2S H2 a y (some v)∧Q v H2
def b6p (ty td:TE):TE:=fun σ H Q=>ty σ H fun y H1=>td σ H1 fun x H2=>∃a o,x=.ref a∧a2S H2 a y o∧Q (.bl o.isSome) H2
def a3d (ty td:TE):TE:=fun σ H Q=>ty σ H fun y H1=>td σ H1 fun x H2=>∃a o,x=.ref a∧a2S H2 a y o∧Q (.bl (!o.isSome)) H2
def a3z (td ty tv:TE):TS:=fun D σ H=>tv σ H fun v H1=>td σ H1 fun x H2=>ty σ H2 fun y H3=>∃a H4,x=.ref a∧a4k H3 a y v H4∧D.nx σ H4
section
variable {X:Cx} {o i e value:Expr} {pos pos' tpos:Pos} {td ty tv:TE}
theorem b4c (hu:X.A.units+1 < cLine) (ho:PE X o td) (hi:PE X i ty) (hs:c0Q i):PE X (.Subscript o i pos) (b2u td ty):=by
 intro pins s σ H Q I h
 refine b4F PySem.F.slot_dict_getitem.lookup hs (thn (ho pins s σ H _ I h) fun u s1 ⟨x,H1,I1,rx,q1⟩=>thn (hi pins s1 σ H1 _ I1 q1) fun iv s2 ⟨y,H2,I2,ry,a,v,ex,g,q2⟩=>?_)
 subst ex
 obtain rfl:u=Value.ref a:=rx
 exact ⟨a6i I2 g,a9X hu I2 g ry fun w' s3 I3 rw'=>⟨v,H2,I3,rw',q2⟩⟩
theorem a2F (hu:X.A.units+1 < cLine) (hi:PE X i ty) (ho:PE X o td):PC X .In i o (b6p ty td):=by
 intro pins s σ H Q I h
 refine thn (hi pins s σ H _ I h) fun iv s1 ⟨y,H1,I1,ry,q1⟩=>thn (ho pins s1 σ H1 _ I1 q1) fun u s2 ⟨x,H2,I2,rx,a,ov,ex,g,q2⟩=>?_
 subst ex
 obtain rfl:u=Value.ref a:=rx
 exact c6H hu I2 g ry fun s3 I3=>⟨.bl ov.isSome,H2,I3,rfl,q2⟩
theorem a8S (hu:X.A.units+1 < cLine) (hi:PE X i ty) (ho:PE X o td):PC X .NotIn i o (a3d ty td):=by
 intro pins s σ H Q I h
 refine thn (hi pins s σ H _ I h) fun iv s1 ⟨y,H1,I1,ry,q1⟩=>thn (ho pins s1 σ H1 _ I1 q1) fun u s2 ⟨x,H2,I2,rx,a,ov,ex,g,q2⟩=>?_
 subst ex
 obtain rfl:u=Value.ref a:=rx
 exact b4l hu I2 g ry fun s3 I3=>⟨.bl (!ov.isSome),H2,I3,rfl,q2⟩
theorem b5m (hu:X.A.units+1 < cLine) (ho:PE X o td) (hi:PE X i ty) (hv:PE X value tv) (hs:swapsWith value (some (.Subscript o i pos')) pos.line X.env=pure false):
  PS X (.Assign [.Subscript o i pos'] value pos) (a3z td ty tv):=by
 intro pins s σ H D I h
 refine wpAny_Assign_Subscript (thn (hv pins s σ H _ I h) fun r s1 ⟨v,H1,I1,rv,q1⟩=>thn (ho pins s1 σ H1 _ I1 q1) fun u s2 ⟨x,H2,I2,rx,q2⟩=>thn (hi pins s2 σ H2 _ I2 q2) fun iv s3 ⟨y,H3,I3,ry,a,H4,ex,g,q3⟩=>?_) hs
 subst ex
 obtain rfl:u=Value.ref a:=rx
 exact a9S hu I3 g ry rv fun s4 I4=>⟨σ,H4,I4,q3⟩
end
theorem b2T {P:Program} {w:World} {H:Hp} (h:Heap) (hb:sysModules < h.objs.size):a0Q P w H (h.push {cls:=.type "dict",data:=.dict #[]}) h.objs.size (.dK []):=
 ⟨Xa _,beq_eq_false_iff_ne.mpr (Ne.symm (Xg hb)),[],.nil,Heap.DictOf.new h⟩
theorem b1P {P:Program} {w:World} {H:Hp} (h:Heap) (hb:sysModules < h.objs.size):a0Q P w H (h.push {cls:=.type "dict",data:=.dict #[]}) h.objs.size (.dT []):=
 ⟨Xa _,beq_eq_false_iff_ne.mpr (Ne.symm (Xg hb)),[],.nil,_,#[],0,Qw _ rfl,⟨rfl,rfl,rfl⟩,rfl,rfl,Uu⟩
def a1V:TE:=fun _ H Q=>∀p,H p=none→Q (.ref p) (upd H p (.dK []))
def b6N:TE:=fun _ H Q=>∀p,H p=none→Q (.ref p) (upd H p (.dT []))
section
variable {X:Cx} {pos:Pos}
theorem b2l:PE X (.Dict [] [] pos) a1V:=fun pins s σ H Q I h=>
 wpAny_Dict_empty ⟨.ref s.heap.objs.size,_,I.laid (a:=s.heap.objs.size) (o:=.dK []) (t':=s.toks) (fun _ _ q=>Qk _ q) (Qi _) (b2T s.heap I.big),rfl,h _ (I.hok.fresh (Qi _))⟩
theorem b2C:PE X (.Dict [] [] pos) b6N:=fun pins s σ H Q I h=>
 wpAny_Dict_empty ⟨.ref s.heap.objs.size,_,I.laid (a:=s.heap.objs.size) (o:=.dT []) (t':=s.toks) (fun _ _ q=>Qk _ q) (Qi _) (b1P s.heap I.big),rfl,h _ (I.hok.fresh (Qi _))⟩
end
def a1F (kvs more:List (Key×V)):List (Key×V):=more.foldl (fun acc kv=>a2k acc kv.1 kv.2) kvs
theorem KV.merge:∀{more:List (Key×V)} {rs:List (Key×Value)} {kvs:List (Key×V)} {vs:List (Key×Value)},KV more rs→KV kvs vs→KV (a1F kvs more) (merged vs rs):=by
 intro more rs kvs vs r
 unfold KV at r
 induction r generalizing kvs vs with
 | nil=>intro q;exact q
 | @cons p q ps qs h t ih=>
  intro r0
  have e:KV (a2k kvs p.1 p.2) (stored vs q.1 q.2):=by
   have:=r0.put p.1 h.2
   rw [←h.1];exact this
  exact ih e
theorem a1z:∀(more kvs:List (Key×V)),(a1F kvs more).length≤kvs.length+more.length
 | [],kvs=>by show kvs.length≤kvs.length+0;omega
 | p::r,kvs=>by
  have h1:=a1z r (a2k kvs p.1 p.2)
  have h2:=a0N kvs p.1 p.2
  show (a1F (a2k kvs p.1 p.2) r).length≤_
  rw [Qo];omega
structure M2 (X:Cx) (o:Expr) (m:Str) (apos:Pos) (e f:Expr) (cpos:Pos):Prop where
 base:attributeBase o m X.env (eval o X.env)=eval o X.env
 few:((backTo cpos (starEach [e,f] X.env)).all (fun x=>!x.1) && (backToKw cpos (keywordEach [] X.env)).all (fun x=>x.1.isSome)
  && decide (([e,f]:List Expr).length+([]:List Keyword).length+(if ([]:List Keyword).isEmpty then 0 else 1) < 30))=true
 line:(apos.endLine == cpos.line)=true
 trees:backTo cpos (starEach [e,f] X.env)=[(false,eval e X.env),(false,eval f X.env)]
def IsD (H:Hp) (a:Addr):Prop:=(∃kvs,Rd H a (.dK kvs))∨∃kvs,Rd H a (.dT kvs)
theorem a7c {X:Cx} {pins:List (Addr×Obj)} {σ:St} {H:Hp} {s:Shared} {a:Addr} (I:Inv X pins σ H s) (d:IsD H a):
  s.TypeIs (.ref a) "dict"∧(∀b,Value.ref a=.ref b→∃ob,s.heap.get? b=some ob∧ob.dict=none)∧(a == sysModules)=false:=by
 rcases d with ⟨kvs,e⟩ | ⟨kvs,e⟩
 ·obtain ⟨_,hd,vs,_,dd⟩:=a4c I.hok e
  refine ⟨dd.typeIs,fun b q=>?_,hd⟩
  cases q
  obtain ⟨ob,_,_,h1,h2,_⟩:=dd
  exact ⟨ob,h1,h2.2.1⟩
 ·obtain ⟨_,hd,xs,_,dd⟩:=a6C I.hok e
  refine ⟨dd.typeIs,fun b q=>?_,hd⟩
  cases q
  obtain ⟨ob,_,_,h1,h2,_⟩:=dd
  exact ⟨ob,h1,h2.2.1⟩
section
variable {X:Cx} {pins:List (Addr×Obj)} {σ:St} {H:Hp} {s:Shared} {a:Addr} {y d:V} {u r:Value} {o:Option V} {A:Around} {E:Value→Shared→Prop}
theorem b9X {Q:Value→Shared→Prop} (hu:A.units+1 < cLine) (I:Inv X pins σ H s) (g:a2S H a y o) (ry:a0H y u) (rd:a0H d r) (h:∀w' s',Inv X pins σ H s'→a0H (o.getD d) w'→Q w' s'):
  wpAny (model X.prog X.w) A (call (.builtin "dict.get") [.ref a,u,r]) Q E s:=by
 rcases g with ⟨kvs,k,e,ey,l⟩ | ⟨kvs,k,b,e,ey,eb,l⟩
 ·subst ey
  obtain ⟨z,hd,vs,rel,dd⟩:=a4c I.hok e
  refine call_meetsIn Ue dd.typeIs Wg (Vy _ _ _) (meets_dict_get_default (a0k X.prog X.w) a (a6x ry) hd r) ⟨_,dd.mapOf,h _ _ (I.tok _) ?_⟩
  rw [l]
  exact (rel.val k).getD rd
 ·subst ey
  cases (show u=Value.ref b from ry)
  obtain ⟨z,hd,xs,rel,dd⟩:=a6C I.hok e
  refine call_meetsIn Ue dd.typeIs Wg (Vy _ _ _) (meetsH_dict_get_default (tupleKind (a0k X.prog X.w)) a b hd r) ⟨tupleKind_room_in1 hu,k,xs,a4v I.hok eb,dd,h _ _ (I.tok _) ?_⟩
  rw [l]
  exact (rel.val k).getD rd
end
def a5D (td ty tx:TE):TE:=fun σ H Q=>td σ H fun x H1=>∃a,x=.ref a∧IsD H1 a∧ty σ H1 fun y H2=>tx σ H2 fun z H3=>∃o,a2S H3 a y o∧Q (o.getD z) H3
section
variable {X:Cx} {o e f:Expr} {apos cpos:Pos} {td ty tx:TE}
theorem b1w (hu:X.A.units+1 < cLine) (ho:PE X o td) (he:PE X e ty) (hf:PE X f tx) (m:M2 X o "get" apos e f cpos):PE X (.Call (.Attribute o "get" apos) [e,f] [] cpos) (a5D td ty tx):=by
 intro pins s σ H Q I h
 refine wpAny_Call_method m.base m.few m.line Ys Ue PySem.F.type_dict_get (thn (ho pins s σ H _ I h) fun u s1 ⟨x,H1,I1,rx,a,ex,d,q1⟩=>?_)
 subst ex
 obtain rfl:u=Value.ref a:=rx
 obtain ⟨t1,t2,_⟩:=a7c I1 d
 refine ⟨t1,t2,?_⟩
 rw [m.trees]
 refine Calls.callWith_builtin rfl (Calls.evalArgs_plain (Calls.spliced_cons (thn (he pins s1 σ H1 _ I1 q1) fun iv s2 ⟨y,H2,I2,ry,q2⟩=>
  Calls.spliced_cons (thn (hf pins s2 σ H2 _ I2 q2) fun fv s3 ⟨z,H3,I3,rz,ov,g,q3⟩=>Calls.spliced_nil ?_))))
 exact b9X hu I3 g ry rz fun w' s4 I4 rw'=>⟨_,H3,I4,rw',q3⟩
end
end L2
namespace Att
open PySem PySem.W PySem.Calls PyProof.Rows
theorem a3L {P:Params} {h:Heap}:∀(ns:List Int) (vs:List Value),WellAll P h vs (ns.map WData.int)→IntsAre vs ns:=by
 intro ns
 induction ns with
 | nil=>
  intro vs w
  rw [Jk] at w
  cases w
  exact .nil
 | cons n ns ih=>
  intro vs w
  rw [Xl] at w
  cases w with
  | cons a b=>
   cases a
   exact .cons _ _ (ih _ b)
theorem b0Y {l:OpenLaw} {n:Nat} (hn:l.most=some n) {P:Params} {h:Heap} {args:List WData} {vals:List Value}
  (hpre:l.row.toRowW.claim.pre args=true) (hwl:WellAll P h vals args):
  ∃a vs ns,vals=[Value.ref a]∧args=[WData.list (ns.map WData.int)]∧h.get? a=some {cls:=.type "list",data:=.seq vs.toArray}∧IntsAre vs ns∧ns.length≤n:=by
 have hsh:WShape.hasAll [] args [.list .int]=true:=(pre_splitW hpre).1
 have hc:l.pre.holds [] {args:=args}=true:=(pre_splitW hpre).2
 obtain ⟨d,r,rfl,h1,h2⟩:=hasAllW_cons hsh
 obtain rfl:=hasAllW_nil h2
 obtain ⟨xs,rfl,h3⟩:=hasW_list h1
 obtain ⟨ns,rfl⟩:=items_int h3
 have hlen:ns.length≤n:=by
  unfold OpenLaw.pre at hc
  have h4:(WTm.not (.lt (.lit (.int (n:Int))) (.len (.arg 0)))).holds [] {args:=[.list (ns.map .int)]}=true:=by
   have h4:=(holds_andW hc).1
   rw [hn] at h4
   exact h4
  have h5:=condW_of h4 (w_not (w_lt w_lit (w_len_list (w_arg rfl))))
  rw [Qe] at h5
  refine Nat.le_of_not_lt fun q=>?_
  have q':(n:Int) < ((ns.length:Nat):Int):=by omega
  first
   | (rw [decide_eq_true q'] at h5;exact absurd h5 (by decide))
   | (simp at h5;omega)
 cases hwl with
 | cons w1 w2=>
  cases w2
  cases w1 with
  | list ho hall=>exact ⟨_,_,ns,rfl,rfl,ho,a3L ns _ hall,hlen⟩
theorem b0r (l:OpenLaw) (args:List WData):l.row.toRowW.claim.post args (.bool true) args=true:=
 postW_of (r:=l.row.toRowW) (X:=(true == true))
  (show WShape.has [] (.bool true) .bool=true by first | rfl | decide | simp [WShape.has,WShape.arms,WShape.armsAll])
  (show (WTm.eq .res (.lit (.bool true))).value [] {args:=args,res:=some (.bool true),after:=args}=some (.bool (true == true)) from w_eq_bool (w_res rfl) w_lit) rfl
theorem attach_call {l:OpenLaw} {n:Nat} {q:Program} {loose:List Str} {XP:(Str→Option Value)→Heap→Prop} {YP:World→Heap→Prop} {d:DefRec}
  (hn:l.most=some n) (hdf:d.params.defaults=[])
  (call:∀(w:World) (s₀ s₁:Shared) (mg mb:Str→Option Value) (fa:Addr) (o:Obj) (pm cd doc:Value) (a:Addr) (vs:List Value) (ns:List Int),
   Ground q loose [] XP w s₀ mg mb s₁.heap→YP w s₁.heap→
   s₁.heap.get? fa=some o→o.data=.func (docDef d.name d.params d.body d.scope pm cd doc)→s₁.heap.CodeRec cd d.name→mg d.name=some (.ref fa)→
   s₁.heap.get? a=some {cls:=.type "list",data:=.seq vs.toArray}→IntsAre vs ns→ns.length≤n→s₁.gens=#[]→
   codeAny (model l.prog w) callerA (.call (.ref fa) ⟨[.ref a],[]⟩) (fun r s'=>r=.ok (.ret (.bool true))∧OldK s₁.heap s'.heap∧s'.os=s₁.os∧AllBare s'.gens) s₁):
  WalkO q loose XP YP l.row.toRowW d [] (fun f vs=>PySem.call f vs):=by
 intro w s₀ s₁ mg mb G Y fa o pm cd doc dV kV ho hd hcd hD hmg hg args vals as hpre hlay hrd hwl hlo
 obtain rfl:dV=.none:=Dflts.none hD hdf
 obtain rfl:kV=.none:=Dflts.noKw hD
 obtain ⟨a,vs,ns,rfl,rfl,hobj,hints,hlen⟩:=b0Y hn hpre hwl
 refine enter_call (codeAny_mono (call w s₀ s₁ mg mb fa o pm cd doc a vs ns G Y ho (fd_plain hd) hcd hmg hobj hints hlen hg) fun r s' hq=>?_)
 obtain ⟨rfl,h2,h3,h4⟩:=hq
 exact ⟨.inl ⟨.bool true,.bool true,[],rfl,fun _=>rfl,.bool true,b0r l _,fun _=>⟨List.Pairwise.nil,fun _ hm=>(nomatch hm)⟩⟩,h2,h3,h4⟩
end Att
namespace L2
open PySem PySem.Spec PyProof.Rows
theorem a5i:∀{vs:List Value} {ns:List Int},IntsAre vs ns→a0I (ns.map V.int) vs
 | _,_,.nil=>.nil
 | _,_,.cons n t h=>.cons ⟨t,rfl⟩ (a5i h)
end L2
namespace L2
open PySem PySem.Spec PyProof.Rows
abbrev KOf {K:Qd} {h:Heap} (_:K.In h):Qd:=K
end L2
namespace L2
open PySem PySem.Spec PyProof.Rows
def a0j (s:Stmt) (j:Nat):Stmt:=match s with
 | .ClassDef _ _ _ body _ _ _ _ _ _ _=>body.getD j (.Pass ⟨0,0,0,0⟩)
 | _=>.Pass ⟨0,0,0,0⟩
def a1H (s:Stmt):Arguments:=match s with
 | .FunctionDef _ a _ _ _ _ _ _ _ _=>a
 | _=>{posonlyargs:=[],args:=[],vararg:=none,kwonlyargs:=[],kw_defaults:=[],kwarg:=none,defaults:=[]}
def a1f (s:Stmt):List Stmt:=match s with
 | .FunctionDef _ _ b _ _ _ _ _ _ _=>b
 | _=>[]
def a0b (s:Stmt):Scope:=match s with
 | .FunctionDef _ _ _ _ _ _ sc _ _ _=>sc
 | _=>{kind:=.function,names:=[],isGenerator:=false,isCoroutine:=false}
abbrev CX0:CXT:=fun _ _ _ _ _ _=>False
abbrev E0:XK:=fun _ _ _=>False
theorem b0Z {X:Cx}:a3j CX0 X E0:=fun _ _ _ _ _ _ _ h=>h.elim
structure Fun (K:Qd) (x qual:Str) (st:Stmt) (f:Addr) (fd:FuncData):Prop where
 ex:∃(oc:Value) (od:Option Addr) (kV doc pm:Value) (an:Option Addr) (cdv ct:Value) (osl:Array (Option Value)),
  fd=Yw x qual (a1H st) (a1f st) (a0b st) .none kV doc pm an cdv ct∧K.lookup f=some ⟨oc,od,.func fd,osl⟩∧Jj K cdv qual=true
 kp:Zf K (.ref f)=true
section
variable {P:Program} {w:World} {K:Qd} {mg:Str→Option Value} {base:Heap}
theorem Fun.ok {x qual:Str} {st:Stmt} {f:Addr} {fd:FuncData} {N ps:List Str} {k:Nat} {sp:Sp} (F:Fun K x qual st f fd) (S:a0g N ps (a0b st)) (len:∀vs H Q E,sp vs H Q E→vs.length=ps.length)
  (hbody:∀(cdv:Value) (A:Around) (outer:List Env) (s:Shared) (H:Hp) (vs:List V) (Q:VK) (E:XK),a2h k (A.deeper (envOfC qual (a0b st) s.heap.objs.size f cdv))→sp vs H Q E→
   ∃t,PSs (b3G CX0 P w K mg base N qual (a0b st) f cdv A outer s H E).nox (a1f st) t∧t {nx:=fun _ H'=>Q .non H',rt:=Q} (start N vs) H):a1a P w K mg base CX0 (k+1) f fd ps sp:=by
 obtain ⟨oc,od,kV,doc,pm,an,cdv,ct,osl,rfl,lk,hcd⟩:=F.ex
 refine b4X lk hcd S len fun A outer s H vs Q E hr hsp=>?_
 obtain ⟨t,h,q⟩:=hbody cdv A outer s H vs Q E hr hsp
 exact ⟨t,h.nox,q⟩
theorem b8h {x qual:Str} {st:Stmt} {f:Addr} {oc:Value} {od an:Option Addr} {osl:Array (Option Value)} {kV doc pm cdv ct:Value} (l:K.lookup f=some ⟨oc,od,.func (Yw x qual (a1H st) (a1f st) (a0b st) .none kV doc pm an cdv ct),osl⟩)
  (c:Jj K cdv qual=true) (k:Zf K (.ref f)=true):Fun K x qual st f (Yw x qual (a1H st) (a1f st) (a0b st) .none kV doc pm an cdv ct):=⟨⟨oc,od,kV,doc,pm,an,cdv,ct,osl,rfl,l,c⟩,k⟩
end
theorem a3b {A:Around} {k:Nat} (hr:a2h k A):A.units+1 < cLine:=Xk (Nat.add_le_add_left (by decide:1≤64) _) hr.units
section
variable {X:Cx}
theorem pv (i:Nat) {x:Str} {pos:Pos} (hN:X.N[i]?=some x:=by rfl) (hv:Vis X.env.scope x:=by first | exact Or.inl rfl | exact Or.inr (Or.inl rfl) | exact Or.inr (Or.inr rfl)) (hd:(x == ("__debug__":Str))=false:=by decide)
  (hcd:(x == ("__classdict__":Str))=false:=by decide):PE X (.Name x pos) (a0l i):=b7d hN hv hd hcd
end
theorem a1C {c A B:Prop} [Decidable c] (h1:c→A) (h2:¬c→B):if c then A else B:=by
 by_cases h:c
 ·rw [if_pos h]
  exact h1 h
 ·rw [if_neg h]
  exact h2 h
def a0f (H H':Hp):Prop:=∀b o,H b=some o→H' b=some o
theorem a0f.refl (H:Hp):a0f H H:=fun _ _ h=>h
theorem a0f.trans {H H1 H2:Hp} (a:a0f H H1) (b:a0f H1 H2):a0f H H2:=fun c o h=>b c o (a c o h)
theorem a0f.free {H H':Hp} (e:a0f H H') {l:Addr} (h:H' l=Option.none):H l=Option.none:=by
 cases q:H l with
 | none=>rfl
 | some o=>
  rw [e l o q] at h
  cases h
theorem a0f.seq {K:Qd} {H H':Hp} {a:Addr} {xs:List V} (e:a0f H H') (h:SqL K H a xs):SqL K H' a xs:=by
 rcases h with (h | ⟨o,h⟩) | h
 ·exact .inl (.inl (e _ _ h))
 ·exact .inl (.inr ⟨o,e _ _ h⟩)
 ·exact .inr h
section
variable {X:Cx}
theorem a9K:a1P X (.builtin "len") (fun xs H Q=>∃a kvs,xs=[V.ref a]∧H a=some (.dK kvs)∧Q (.int kvs.length) H):=by
 intro pins s σ H xs us Q I r h
 obtain ⟨a,kvs,rfl,ha,q⟩:=h
 obtain ⟨u,rfl,ru⟩:=a4a r
 cases ru
 exact c0v I (.inl ha) fun t s' I'=>⟨.int kvs.length,H,I',⟨t,rfl⟩,q⟩
end
end L2
namespace Tx
open PySem PySem.Builtin PySem.Builtin.Str PySem.StrLaws PyProof.Rows
abbrev mk (l:List Nat):Str:=⟨l.toArray⟩
theorem b9r (x:Str):mk x.cps.toList=x:=by obtain ⟨⟨l⟩⟩:=x;rfl
theorem a0y (l:List Nat):(mk l).length=l.length:=by show l.toArray.size=_;simp
theorem a2j (a b:List Nat):mk a++mk b=mk (a++b):=by
 show (⟨a.toArray++b.toArray⟩:Str)=_
 simp
theorem a5F {a b:List Nat} (h:mk a=mk b):a=b:=by simpa [mk] using h
theorem a8J (l:List Nat) (c i:Nat):subAt (mk l) (mk [c]) i=decide (l[i]?=some c):=by
 rw [subAt_eq]
 show ((l.drop i).take 1 == [c])=_
 cases e:l[i]? with
 | none=>
  have:l.drop i=[]:=List.drop_eq_nil_of_le (by simpa using e)
  rw [this];simp
 | some d=>
  have hi:=(Qm.mp e)
  obtain ⟨h1,h2⟩:=hi
  rw [List.drop_eq_getElem_cons h1,h2]
  show (d == c && true)=decide (some d=some c)
  by_cases z:d=c
  ·subst z;simp
  ·simp [z]
theorem b6X (l:List Nat) (i j:Nat):strSub (mk l) i j=mk ((l.drop i).take (j - i)):=by
 rw [←b9r (strSub (mk l) i j),strSub_toList]
theorem a7J (c:Nat) (l:List Nat):Jl (mk l) (mk [c])=decide (l[0]?=some c):=by
 unfold Jl
 rw [a8J,a0y,a0y]
 cases l with
 | nil=>rfl
 | cons d r=>simp
theorem a8p (l:List Nat) {i:Int} (h0:0≤i) (h1:i≤l.length):Uw (mk l) (some i) none=mk (l.drop i.toNat):=by
 have:=slice_closes_fromL (x:=mk l) (b:=l.length) h0 (by rw [a0y];exact h1) (by rw [a0y])
 have e:=eq_of_beq this
 rw [e]
 simp
 rw [List.take_of_length_le]
 rw [Jn];omega
end Tx
namespace L2
open PySem PySem.Spec PyProof.Rows
abbrev NoE:Value→Shared→Prop:=fun _ _=>False
section
variable {prog:Program} {w:World} {A:Around} {R:Result→Shared→Prop} {s:Shared}
theorem a5o {elt target iter:Expr} {ifs:List Expr} {scope:Scope} {pos:Pos} {it acc:Value} {env:Env} (I:Nat→Shared→Prop)
  (turn:∀n s,I n s→wpAny (model prog w) A (pyNext it) (fun r s₁=>match r with
   | none=>R (.ok .next) s₁
   | some v=>wpAny (model prog w) A (letOwnedTupleGo target it v) (fun _ s₂=>wpAny (model prog w) A (assign target env v) (fun _ s₃=>
     wpAny (model prog w) A (forIn ifs true fun c r=>if r=true then do let ok ←isTrue c env (eval c env);pure (ForInStep.yield ok) else pure (ForInStep.yield r)) (fun ok s₄=>
      if ok=true then wpAny (model prog w) A (eval elt env) (fun x s₅=>wpAny (model prog w) A (call (.builtin "list.append") [acc,x]) (fun _ s₆=>∃m,m < n∧I m s₆) NoE s₅) NoE s₄
      else ∃m,m < n∧I m s₄) NoE s₃) NoE s₂) NoE s₁) NoE s)
  (n:Nat) (h:I n s):codeAny (model prog w) A (.compLoop (.ListComp elt [⟨target,iter,ifs,0⟩] scope pos) 0 it acc env) R s:=by
 refine codeAny_loop rfl I (fun n s hI=>?_) n h
 show wpAny _ A ((compTurn (.ListComp elt [⟨target,iter,ifs,0⟩] scope pos) 0 it acc env).onRaise (fun x=>do noteFrame x env;theTreesLotGoes x)) _ _ s
 refine wpAny_noted ?_
 rw [compTurn_list]
 refine wpAny_noRaise ?_
 refine wpAny_bind (wpAny_standAt (wpAny_bind (wpAny_mono (turn n s hI) (fun r s₁ h₁=>?_) fun _ _ h'=>h')))
 cases r with
 | none=>exact wpAny_pure h₁
 | some v=>
  refine wpAny_bind (wpAny_mono h₁ (fun _ s₂ h₂=>wpAny_bind (wpAny_mono h₂ (fun _ s₃ h₃=>wpAny_bind (wpAny_mono h₃ (fun ok s₄ h₄=>?_) fun _ _ h'=>h')) fun _ _ h'=>h')) fun _ _ h'=>h')
  cases ok with
  | false=>exact wpAny_pure ⟨rfl,h₄⟩
  | true=>exact wpAny_bind (wpAny_bind (wpAny_mono h₄ (fun x s₅ h₅=>wpAny_bind (wpAny_mono h₅ (fun _ s₆ h₆=>wpAny_pure (wpAny_pure ⟨rfl,h₆⟩)) fun _ _ h'=>h')) fun _ _ h'=>h'))
end
def a2b (env:Env):List (Str×NameKind)→List (Str×Addr)→List (Str×Addr)
 | [],cs=>cs
 | (n,k)::r,cs=>a2b env r (if (k == NameKind.free)=true then (n,(env.cells.lookup n).getD 0)::cs else cs)
theorem a1I {scope:Scope} {env:Env} (h:∀y∈scope.names,y.2=NameKind.free→∃c,env.cells.lookup y.1=some c):closureFor scope env=pure (a2b env scope.names []):=by
 have all:∀(l:List (Str×NameKind)) (cs:List (Str×Addr)),(∀y∈l,y.2=NameKind.free→∃c,env.cells.lookup y.1=some c)→
   (forIn l cs fun (x:Str×NameKind) (cs:List (Str×Addr))=>(if (x.2 == NameKind.free)=true then do let a ←cellOf env x.1;pure (ForInStep.yield ((x.1,a)::cs)) else pure (ForInStep.yield cs):Sem (ForInStep (List (Str×Addr)))))=pure (a2b env l cs):=by
  intro l
  induction l with
  | nil=>intro cs _;rfl
  | cons y l ih=>
   intro cs hy
   obtain ⟨n,k⟩:=y
   rw [List.forIn_cons]
   by_cases hk:(k == NameKind.free)=true
   ·obtain ⟨c,hc⟩:=hy (n,k) Qs (by simpa using hk)
    have e1:cellOf env n=pure c:=by unfold cellOf;rw [hc]
    have e2:a2b env ((n,k)::l) cs=a2b env l ((n,c)::cs):=by
     show a2b env l (if (k == NameKind.free)=true then (n,(env.cells.lookup n).getD 0)::cs else cs)=_
     rw [if_pos hk,hc];rfl
    rw [e2,←ih ((n,c)::cs) fun z hz=>hy z (Qp _ hz)]
    simp only [hk,if_true,e1,pure_bind]
   ·have e2:a2b env ((n,k)::l) cs=a2b env l cs:=by
     show a2b env l (if (k == NameKind.free)=true then (n,(env.cells.lookup n).getD 0)::cs else cs)=_
     rw [if_neg hk]
    rw [e2,←ih cs fun z hz=>hy z (Qp _ hz)]
    have hk':(k == NameKind.free)=false:=by simpa using hk
    simp only [hk',Zg,if_false,pure_bind]
 have e:=all scope.names [] h
 unfold closureFor
 first
  | (rw [show (pure (a2b env scope.names []):Sem (List (Str×Addr)))=(pure (a2b env scope.names []) >>= fun cs=>pure cs) from rfl,←e];rfl)
  | (simp only [bind_pure];exact e)
  | (simpa using e)
theorem a3R {env:Env} {x:Str} {c:Addr}:∀{l:List (Str×NameKind)} {cs:List (Str×Addr)},(∀y∈l,y.2=NameKind.free→∃c,env.cells.lookup y.1=some c)→
  (∀y d,cs.lookup y=some d→env.cells.lookup y=some d)→(a2b env l cs).lookup x=some c→env.cells.lookup x=some c
 | [],_,_,hc,h=>hc x c h
 | (n,k)::r,cs,hy,hc,h=>by
  refine a3R (l:=r) (cs:=if (k == NameKind.free)=true then (n,(env.cells.lookup n).getD 0)::cs else cs) (fun z hz=>hy z (Qp _ hz)) (fun y d q=>?_) h
  by_cases hk:(k == NameKind.free)=true
  ·rw [if_pos hk] at q
   obtain ⟨c',hc'⟩:=hy (n,k) Qs (by simpa using hk)
   rw [hc',Yh] at q
   by_cases e:(y == n)=true
   ·rw [e] at q
    have e':y=n:=by simpa using e
    rw [e',hc'];exact q
   ·have e':(y == n)=false:=by simpa using e
    rw [e'] at q
    exact hc y d q
  ·rw [if_neg hk] at q
   exact hc y d q
theorem a2I {env:Env} {x:Str}:∀{l:List (Str×NameKind)} {cs:List (Str×Addr)},((x,NameKind.free)∈l∨∃c,cs.lookup x=some c)→∃c,(a2b env l cs).lookup x=some c
 | [],_,h=>by
  rcases h with h | h
  ·cases h
  ·exact h
 | (n,k)::r,cs,h=>by
  refine a2I (l:=r) (cs:=if (k == NameKind.free)=true then (n,(env.cells.lookup n).getD 0)::cs else cs) ?_
  rcases h with h | ⟨c,h⟩
  ·rcases Qy.mp h with e | e
   ·cases e
    refine .inr ?_
    rw [if_pos (by rfl),Yh,beq_self_eq_true]
    exact ⟨_,rfl⟩
   ·exact .inl e
  ·refine .inr ?_
   by_cases hk:(k == NameKind.free)=true
   ·rw [if_pos hk,Yh]
    by_cases e:(x == n)=true
    ·rw [e];exact ⟨_,rfl⟩
    ·have e':(x == n)=false:=by simpa using e
     rw [e'];exact ⟨c,h⟩
   ·rw [if_neg hk];exact ⟨c,h⟩
theorem a1G {env:Env}:∀{names:List (Str×NameKind)} {x:Str},names.lookup x=some .free→
  (names.map fun (n,k)=>if (k == NameKind.free && env.scope.kind == .function && env.kindOf n == some .cell) then (n,NameKind.cell) else (n,k)).lookup x=some .cell∨
  (names.map fun (n,k)=>if (k == NameKind.free && env.scope.kind == .function && env.kindOf n == some .cell) then (n,NameKind.cell) else (n,k)).lookup x=some .free
 | [],_,h=>by simp at h
 | (n,k)::r,x,h=>by
  have ih:=@a1G env r x
  rw [Xl]
  show Zv x ((if (k == NameKind.free && env.scope.kind == .function && env.kindOf n == some .cell)=true then (n,NameKind.cell) else (n,k))::_)=_∨Zv x ((if (k == NameKind.free && env.scope.kind == .function && env.kindOf n == some .cell)=true then (n,NameKind.cell) else (n,k))::_)=_
  cases hx:x == n with
  | true=>
   simp only [Yh,hx] at h
   cases h
   by_cases hc:(NameKind.free == NameKind.free && env.scope.kind == .function && env.kindOf n == some .cell)=true
   ·rw [if_pos hc];exact .inl (by simp only [Yh,hx])
   ·rw [if_neg hc];exact .inr (by simp only [Yh,hx])
  | false=>
   simp only [Yh,hx] at h
   by_cases hc:(k == NameKind.free && env.scope.kind == .function && env.kindOf n == some .cell)=true
   ·rw [if_pos hc];simp only [Yh,hx];exact ih h
   ·rw [if_neg hc];simp only [Yh,hx];exact ih h
theorem a4A {env:Env}:∀{names:List (Str×NameKind)} {x:Str},(∀y∈names,y.2≠NameKind.cell)→
  ((names.map fun (n,k)=>if (k == NameKind.free && env.scope.kind == .function && env.kindOf n == some .cell) then (n,NameKind.cell) else (n,k)).lookup x=some .cell∨
  (names.map fun (n,k)=>if (k == NameKind.free && env.scope.kind == .function && env.kindOf n == some .cell) then (n,NameKind.cell) else (n,k)).lookup x=some .free)→(x,NameKind.free)∈names
 | [],_,_,h=>by rcases h with h | h<;>simp at h
 | (n,k)::r,x,hn,h=>by
  have ih:=@a4A env r x fun y hy=>hn y (Qp _ hy)
  have hk:=hn (n,k) Qs
  rw [Xl] at h
  by_cases hc:(k == NameKind.free && env.scope.kind == .function && env.kindOf n == some .cell)=true
  ·have hk1:k=NameKind.free:=by
    rw [Xn,Xn] at hc
    simpa using hc.1.1
   simp only [hc,if_true,Yh] at h
   cases hx:x == n with
   | true=>have e:x=n:=(by simpa using hx);rw [e,hk1];exact Qs
   | false=>rw [hx] at h;exact Qp _ (ih h)
  ·have hc':(k == NameKind.free && env.scope.kind == .function && env.kindOf n == some .cell)=false:=by simpa using hc
   simp only [hc',Zg,if_false,Yh] at h
   cases hx:x == n with
   | true=>
    rw [hx] at h
    have e:x=n:=by simpa using hx
    rcases h with h | h
    ·exact absurd (Option.some.inj h) hk
    ·rw [e,Option.some.inj h];exact Qs
   | false=>rw [hx] at h;exact Qp _ (ih h)
def a1k (X:Cx) (Nc:List Str) (scope:Scope) (cl:List (Str×Addr)) (C:Addr) (s:Shared) (H:Hp) (ex:List Addr):Cx where
 prog:=X.prog
 w:=X.w
 K:=X.K
 mg:=X.mg
 base:=X.base
 A:=X.A
 N:=Nc
 s₀:=s
 H₀:=H
 env:=compEnvC scope cl C X.env
 outer:=X.stack
 stack:=X.stack
 ex:=ex
 fn:=fun _=>false
 calm:=X.calm
 pn:=[]
 xe:=NoE
def a1w (js:List (Option Nat)) (σ:St):St:=js.map fun o=>match o with
 | none=>none
 | some j=>(σ[j]?).getD none
structure a3h (X:Cx) (Nc:List Str) (js:List (Option Nat)) (scope:Scope):Prop where
 kind:scope.kind=.function
 nocell:∀y∈scope.names,y.2≠NameKind.cell
 names:∀y∈scope.names,y.2=NameKind.local→scope.names.lookup y.1=some NameKind.local
 free:∀y∈scope.names,y.2=NameKind.free→X.env.kindOf y.1=some NameKind.cell∨X.env.kindOf y.1=some NameKind.free
 len:js.length=Nc.length
 map:∀(i:Nat) (y:Str) (j:Nat),Nc[i]?=some y→js[i]?=some (some j)→X.N[j]?=some y∧scope.names.lookup y=some NameKind.free
def b7N (sc:Scope) (N Nc:List Str) (js:List (Option Nat)) (scope:Scope):Bool:=
 scope.kind == .function && scope.names.all (fun y=>y.2 != NameKind.cell) && scope.names.all (fun y=>y.2 != NameKind.local || scope.names.lookup y.1 == some NameKind.local) &&
 scope.names.all (fun y=>y.2 != NameKind.free || sc.names.lookup y.1 == some NameKind.cell || sc.names.lookup y.1 == some NameKind.free) && js.length == Nc.length &&
 (Nc.zip js).all (fun p=>match p.2 with | none=>true | some j=>N[j]? == some p.1 && scope.names.lookup p.1 == some NameKind.free)
theorem b1g {X:Cx} {sc:Scope} {N Nc:List Str} {js:List (Option Nat)} {scope:Scope} (hsc:X.env.scope=sc) (hN:X.N=N) (h:b7N sc N Nc js scope=true):a3h X Nc js scope:=by
 unfold b7N at h
 rw [Xn,Xn,Xn,Xn,Xn] at h
 obtain ⟨⟨⟨⟨⟨h1,h2⟩,h3⟩,h4⟩,h5⟩,h6⟩:=h
 rw [Zx] at h2 h3 h4 h6
 have h5':js.length=Nc.length:=by simpa using h5
 refine ⟨by simpa using h1,fun y hy=>by simpa using h2 y hy,fun y hy e=>?_,fun y hy e=>?_,h5',fun i y j e1 e2=>?_⟩
 ·have q:=h3 y hy
  rw [e] at q
  simpa using q
 ·have q:=h4 y hy
  rw [e] at q
  show X.env.scope.names.lookup y.1=_∨X.env.scope.names.lookup y.1=_
  rw [hsc]
  simpa using q
 ·have hm:(y,some j)∈Nc.zip js:=by
   refine Ug (i:=i) ?_
   rw [List.getElem?_zip_eq_some]
   exact ⟨e1,e2⟩
  have q:=h6 _ hm
  simp only [Xn,beq_iff_eq] at q
  rw [hN]
  exact q
def PTs (X:Cx) (ifs:List Expr) (t:TT):Prop:=
 ∀(pins:List (Addr×Obj)) (s:Shared) (σ:St) (H:Hp) (Q:Bool→Hp→Prop),Inv X pins σ H s→t σ H Q→
  wpAny (model X.prog X.w) X.A (forIn ifs true fun c r=>if r=true then do let ok ←isTrue c X.env (eval c X.env);pure (ForInStep.yield ok) else pure (ForInStep.yield r)) (TP X pins σ Q) X.xe s
def b8n:TT:=fun _ H Q=>Q true H
theorem b5f {X:Cx}:PTs X [] b8n:=fun pins s σ H Q I h=>wpAny_tests_nil ⟨H,I,h⟩
theorem b4s {X:Cx} {c:Expr} {t:TT} (hc:PT X c t):PTs X [c] t:=fun pins s σ H Q I h=>wpAny_tests_one (hc pins s σ H Q I h)
def b1M (js:List (Option Nat)) (wi:TI) (g:TG) (tt:TT) (te:TE):TE:=fun σ H Q=>wi σ H fun J H1=>∀D,H1 D=none→∃W:Nat→Nat→St→Hp→List V→Prop,(∃m,W 0 m (a1w js σ) (upd H1 D (.lst [])) [])∧
 ∀i m σ' H' ys,W i m σ' H' ys→H' D=some (.lst ys)∧((J.stop i H'∧Q (.ref D) H')∨(J.go i H'∧ys.length < sizeLine∧∀x H2,J.yld i H' x H2→g x σ' H2 fun σ2 H3=>tt σ2 H3 fun b H4=>
  if b=true then te σ2 H4 fun v H5=>H5 D=some (.lst ys)∧∃m',m' < m∧W (i+1) m' σ2 (upd H5 D (.lst (ys++[v]))) (ys++[v]) else ∃m',m' < m∧W (i+1) m' σ2 H4 ys))
section
variable {X:Cx} {elt target iter:Expr} {ifs:List Expr} {scope:Scope} {pos:Pos} {Nc:List Str} {js:List (Option Nat)} {wi:TI} {g:TG} {tt:TT} {te:TE}
theorem a4n {pins:List (Addr×Obj)} {σ:St} {H2:Hp} {s₂:Shared} {E:Value→Shared→Prop} {it:Addr} {fp:List Addr} {tn:Nat→Heap→Prop} {J:It} {Q:VK} {RR:Value→Addr→Result→Shared→Prop} (ok:a3h X Nc js scope) (hc:X.calm=true)
  (hg:∀C cl s H ex,PG (a1k X Nc scope cl C s H ex) target g) (ht:∀C cl s H ex,PTs (a1k X Nc scope cl C s H ex) ifs tt) (he:∀C cl s H ex,PE (a1k X Nc scope cl C s H ex) elt te)
  (I2:Inv X pins σ H2 s₂) (T:b1G X.prog X.w X.K target J fp it tn) (st2:tn 0 s₂.heap) (f2:∀b∈fp,a7i X pins H2 b)
  (h:∀D,H2 D=none→∃W:Nat→Nat→St→Hp→List V→Prop,(∃m,W 0 m (a1w js σ) (upd H2 D (.lst [])) [])∧
   ∀i m σ' H' ys,W i m σ' H' ys→H' D=some (.lst ys)∧((J.stop i H'∧Q (.ref D) H')∨(J.go i H'∧ys.length < sizeLine∧∀x H2,J.yld i H' x H2→g x σ' H2 fun σ2 H3=>tt σ2 H3 fun b H4=>
    if b=true then te σ2 H4 fun v H5=>H5 D=some (.lst ys)∧∃m',m' < m∧W (i+1) m' σ2 (upd H5 D (.lst (ys++[v]))) (ys++[v]) else ∃m',m' < m∧W (i+1) m' σ2 H4 ys)))
  (hRR:∀(D C:Addr) (s':Shared) (H':Hp) (m:Str→Option Value),Inv X pins σ H' s'→s'.heap.Ns C m→a7i X pins H' C→Q (.ref D) H'→RR (.ref D) C (.ok .next) s'):
  wpAny (model X.prog X.w) X.A (newList []) (fun acc s₃=>wpAny (model X.prog X.w) X.A (newFunctionEnv scope X.env.globals (a2b X.env scope.names []) [] X.env.qual none .none (some X.env)) (fun cenv s₄=>
   codeAny (model X.prog X.w) X.A (.compStart (.ListComp elt [⟨target,iter,ifs,0⟩] scope pos) 0 (.ref it) acc {cenv with scope:=relabel scope X.env}) (RR acc cenv.locals) s₄) E s₃) E s₂:=by
 have hfr:∀y∈scope.names,y.2=NameKind.free→∃c,X.env.cells.lookup y.1=some c:=fun y hy e=>I2.ok.has y.1 (ok.free y hy e)
 refine wpAny_newObj_type (wpAny_newFunctionEnv ok.nocell (by intro y hy;simp at hy) (fun h₁ hns₁ hsb₁=>?_) ok.kind)
 dsimp only at hns₁ hsb₁ ⊢
 generalize hHL:s₂.heap.push {cls:=.type "list",dict:=none,data:=.seq ([]:List Value).toArray}=HL at hns₁ hsb₁ ⊢
 have hC:HL.objs.size=s₂.heap.objs.size+1:=by rw [←hHL,Ji]
 have hCle:s₂.heap.objs.size≤HL.objs.size:=by rw [hC];exact Zo _
 have hDC:s₂.heap.objs.size≠HL.objs.size:=by rw [hC];exact Xg (Vl _)
 have old:∀b o,s₂.heap.get? b=some o→h₁.get? b=some o:=fun b o e=>hsb₁.extBut b o (Xg (Xd (Qu e) hCle)) (Qk _ (hHL ▸ Qk _ e))
 have hacc:h₁.get? s₂.heap.objs.size=some {cls:=.type "list",dict:=none,data:=.seq ([]:List Value).toArray}:=hsb₁.extBut _ _ hDC (Qk _ (hHL ▸ Qw _ rfl))
 have hD0:H2 s₂.heap.objs.size=none:=I2.hok.fresh (Qi _)
 have hC0:H2 HL.objs.size=none:=I2.hok.fresh hCle
 obtain ⟨W,⟨m0,w0⟩,turn⟩:=h _ hD0
 have hlook:∀x c,(a2b X.env scope.names []).lookup x=some c→X.env.cells.lookup x=some c:=fun x c e=>a3R hfr (fun y d q=>by simp at q) e
 have hlt:∀b∈fp,b < s₂.heap.objs.size:=fun b hb=>let ⟨o,e,_⟩:=T.obj 0 _ st2 b hb;Qu e
 have okc:(a1k X Nc scope (a2b X.env scope.names []) HL.objs.size s₂ H2 fp).Ok:=by
  refine ⟨I2.ok.mod,by show scope.kind=_;exact ok.kind,I2.ok.glob,I2.ok.blt,hCle,fun x y c e1 e2=>I2.ok.inj x y c (hlook x c e1) (hlook y c e2),fun x hx=>?_,fun x c z _=>absurd z Qx,I2.ok.hd,I2.ok.frames,.inl rfl,fun b hb=>⟨?_,fun x c e=>(f2 b hb).2.2.2.2.1 x c (hlook x c e)⟩,
   I2.bs,Qj I2.ok.bsz I2.sz,fun b o e hb=>?_,fun b hb z=>?_,I2.stack,I2.stkFree⟩
  ·exact a2I (.inl (a4A ok.nocell hx))
  ·exact Xg (Xd (hlt b hb) hCle)
  ·rcases (f2 b hb).2.2.2.1 with z | z
   ·exact I2.ok.noex b o e z
   ·exact absurd (Xd (Qu e) (Qj I2.ok.bsz z)) (Zc _)
  ·rcases Qy.mp (I2.stkSub b z) with e | e
   ·exact (f2 b hb).2.1 e
   ·exact (f2 b hb).2.2.1 e
 have fpc:∀{H':Hp},(∀b∈fp,H' b=none)→∀b∈fp,a7i (a1k X Nc scope (a2b X.env scope.names []) HL.objs.size s₂ H2 fp) [] H' b:=fun {H'} hn b hb=>
  ⟨hn b hb,(okc.exf b hb).1,okc.exfs b hb,.inl hb,(okc.exf b hb).2,fun p hp=>absurd (show p∈([]:List (Addr×Obj)) from hp) (by simp)⟩
 have Ic:Inv (a1k X Nc scope (a2b X.env scope.names []) HL.objs.size s₂ H2 fp) [] (a1w js σ) (upd H2 s₂.heap.objs.size (.lst [])) {s₂ with heap:=h₁,toks:=s₂.toks+([]:List (Str×Value)).length}:=by
  refine ⟨okc,rfl,I2.bare,Un.laid old (Qi _) hD0,⟨_,hns₁,fun i x v e1 e2 e3=>?_⟩,fun x c e=>?_,?_,fun x c e=>?_,fun p hp=>absurd (show p∈([]:List (Addr×Obj)) from hp) (by simp),?_,?_⟩
  ·have e1':Nc[i]?=some x:=e1
   unfold a1w at e2
   rw [Qn] at e2
   cases ej:js[i]? with
   | none=>rw [ej] at e2;simp at e2
   | some oj=>
    rw [ej] at e2
    cases oj with
    | none=>simp at e2
    | some j=>
     have e2':(σ[j]?).getD none=some v:=by simpa using e2
     have e2'':σ[j]?=some (some v):=by
      cases q:σ[j]? with
      | none=>rw [q] at e2';simp at e2'
      | some z=>rw [q] at e2';simp at e2';rw [e2']
     obtain ⟨hN,hF⟩:=ok.map i x j e1' ej
     have hmem:(x,NameKind.free)∈scope.names:=PySem.mem_of_lookup hF
     have hkX:=ok.free _ hmem rfl
     obtain ⟨m,hn,hl⟩:=I2.loc
     have hvis:Vis X.env.scope x:=by
      rcases hkX with z | z
      ·exact .inr (.inl z)
      ·exact .inr (.inr z)
     obtain ⟨u,ru,lk⟩:=hl j x v hN e2'' hvis
     refine ⟨u,ru,.inr ?_⟩
     rcases lk with ⟨k1,_⟩ | ⟨_,c,ec,ic⟩
     ·have k1':X.env.kindOf x=some NameKind.local:=k1
      rcases hkX with z | z
      ·rw [z] at k1';cases k1'
      ·rw [z] at k1';cases k1'
     ·obtain ⟨c',hc'⟩:=a2I (env:=X.env) (l:=scope.names) (cs:=[]) (x:=x) (.inl hmem)
      have e':=hlook x c' hc'
      rw [ec] at e'
      cases e'
      exact ⟨a1G hF,c,hc',ic.keeps old⟩
  ·obtain ⟨v,q⟩:=I2.cell x c (hlook x c e)
   exact ⟨v,q.keeps old⟩
  ·show upd H2 s₂.heap.objs.size (.lst []) HL.objs.size=none
   rw [a0a (Ne.symm hDC)];exact hC0
  ·obtain ⟨v,q⟩:=I2.cell x c (hlook x c e)
   rw [a0a (Xg q.lt)]
   exact I2.freeC x c (hlook x c e)
  ·exact I2.hok.laid old (Qi _) ⟨Xa _,[],_,.nil,hacc⟩
  ·show (a1w js σ).length=Nc.length
   unfold a1w
   rw [Qe];exact ok.len
 have back:∀{σ':St} {H':Hp} {s':Shared},Inv (a1k X Nc scope (a2b X.env scope.names []) HL.objs.size s₂ H2 fp) [] σ' H' s'→Inv X pins σ H' s':=fun {σ' H' s'} I4=>
  I2.call' (ch:=fp) I4.os I4.base I4.hok I4.bare fun b hb=>⟨(f2 b hb).2.2.2.1,(f2 b hb).2.1,(f2 b hb).2.2.2.2.1,(f2 b hb).2.2.2.2.2⟩
 have st1:tn 0 h₁:=T.keep 0 _ _ st2 fun b _ o e=>old b o e
 have loop:∀s₃:Shared,s₃={s₂ with heap:=h₁,toks:=s₂.toks+([]:List (Str×Value)).length}→
   codeAny (model X.prog X.w) X.A (.compLoop (.ListComp elt [⟨target,iter,ifs,0⟩] scope pos) 0 (.ref it) (.ref s₂.heap.objs.size) (compEnvC scope (a2b X.env scope.names []) HL.objs.size X.env))
    (RR (.ref s₂.heap.objs.size) HL.objs.size) s₃:=by
  rintro s₃ rfl
  refine a5o (fun n s'=>∃i σ' H' ys,Inv (a1k X Nc scope (a2b X.env scope.names []) HL.objs.size s₂ H2 fp) [] σ' H' s'∧tn i s'.heap∧(∀b∈fp,H' b=none)∧W i n σ' H' ys) ?_ m0
   ⟨0,a1w js σ,_,[],Ic,st1,fun b hb=>by rw [a0a (Xg (hlt b hb))];exact (f2 b hb).1,w0⟩
  rintro n s3 ⟨i,σ3,H3,ys,I3,st3,fr3,w3⟩
  obtain ⟨hD3,tn3⟩:=turn i n σ3 H3 ys w3
  rcases tn3 with ⟨stop,q⟩ | ⟨go,hys,step⟩
  ·refine thn (T.done (a1k X Nc scope (a2b X.env scope.names []) HL.objs.size s₂ H2 fp) rfl rfl rfl hc i [] s3 σ3 H3 NoE I3 (fpc fr3) st3 stop) fun r s4 ⟨hr,I4⟩=>?_
   subst hr
   obtain ⟨m4,n4,_⟩:=I4.loc
   exact hRR _ _ s4 H3 m4 (back I4) n4 (I2.fpOk hCle I4.free) q
  ·refine thn (T.item (a1k X Nc scope (a2b X.env scope.names []) HL.objs.size s₂ H2 fp) rfl rfl rfl hc i [] s3 σ3 H3 NoE I3 (fpc fr3) st3 go) fun r s4 ⟨u,hr,h4⟩=>?_
   subst hr
   refine thn h4 fun _ s5 ⟨x,H5,I5,r5,y5,st5,fr5⟩=>?_
   have I5':=I5.pinned (fpc fr5) (T.obj _ _ st5)
   have fin:∀{σ7:St} {H7:Hp} {s7:Shared} {zs:List V} {m':Nat},Inv (a1k X Nc scope (a2b X.env scope.names []) HL.objs.size s₂ H2 fp) ([]++a5n fp s5.heap) σ7 H7 s7→m' < n→W (i+1) m' σ7 H7 zs→
     ∃m,m < n∧∃i σ' H' ys,Inv (a1k X Nc scope (a2b X.env scope.names []) HL.objs.size s₂ H2 fp) [] σ' H' s7∧tn i s7.heap∧(∀b∈fp,H' b=none)∧W i m σ' H' ys:=fun {σ7 H7 s7 zs m'} I7 hm w7=>by
    refine ⟨m',hm,i+1,σ7,H7,zs,I7.unpinned,T.keep _ _ _ st5 fun b hb o e=>(I7.pin (b,o) (Qz _ (Qz _ (a2p hb e)))).1,fun b hb=>?_,w7⟩
    obtain ⟨o,e,d⟩:=T.obj _ _ st5 b hb
    exact (I7.pin (b,o) (Qz _ (Qz _ (a2p hb e)))).2.1
   refine thn (hg _ _ _ _ _ _ s5 σ3 H5 x u _ I5' r5 (step x H5 y5)) fun _ s6 ⟨σ6,H6,I6,q6⟩=>?_
   refine thn (ht _ _ _ _ _ _ s6 σ6 H6 _ I6 q6) fun b s7 ⟨H7,I7,q7⟩=>?_
   cases b with
   | false=>
    obtain ⟨m',hm,w7⟩:=q7
    exact fin I7 hm w7
   | true=>
    refine thn (he _ _ _ _ _ _ s7 σ6 H7 _ I7 q7) fun v s8 ⟨y,H8,I8,r8,hD8,m',hm,w8⟩=>?_
    refine thn (a0S _ s8 σ6 H8 (.ref s₂.heap.objs.size) [y] (.ref s₂.heap.objs.size) [v] (fun _ H9=>H9=upd H8 s₂.heap.objs.size (.lst (ys++[y]))) I8 rfl (.cons r8 .nil) ⟨_,ys,y,rfl,rfl,hD8,hys,rfl⟩) fun v9 s9 ⟨_,H9,I9,_,e9⟩=>?_
    subst e9
    exact fin I9 hm w8
 exact codeAny_compStart_list (loop _ rfl) (T.self X.A 0 _ _ _ st1 (loop _ rfl))
theorem b4f (ok:a3h X Nc js scope) (hc:X.calm=true) (hi:PI X target iter wi)
  (hg:∀C cl s H ex,PG (a1k X Nc scope cl C s H ex) target g) (ht:∀C cl s H ex,PTs (a1k X Nc scope cl C s H ex) ifs tt) (he:∀C cl s H ex,PE (a1k X Nc scope cl C s H ex) elt te)
  (hs:∀x,foldedSetIterable iter X.env x=pure x:=by intro _;rfl):PE X (.ListComp elt [⟨target,iter,ifs,0⟩] scope pos) (b1M js wi g tt te):=by
 intro pins s σ H Q I h
 have hfr:∀y∈scope.names,y.2=NameKind.free→∃c,X.env.cells.lookup y.1=some c:=fun y hy e=>I.ok.has y.1 (ok.free y hy e)
 rw [eval_ListComp]
 refine wpAny_comprehension_free (use:=none) rfl hs (a1I hfr) ok.kind ok.names (thn (hi pins s σ H _ I h) fun v s1 h1=>thn h1 fun itv s2 h2=>?_)
 obtain ⟨it,fp,tn,J,H2,e,I2,T,st2,f2,h⟩:=h2
 subst e
 refine a4n (RR:=fun acc C=>compPost (model X.prog X.w) X.A X.xe none (EP X pins σ Q) acc C) (Q:=Q) ok hc hg ht he I2 T st2 f2 h ?_
 intro D C s' H' m I' n' fC q
 refine ⟨m,n',fun h' sb=>⟨.ref D,H',?_,rfl,q⟩⟩
 exact I'.turned (t':=s'.toks) (fun b o hb e=>(sb.2 b hb).trans e) fC.1 fC.2.1 fC.2.2.2.1 fC.2.2.2.2.1 fC.2.2.2.2.2
theorem a7V {i:Nat} {y:Str} {py spos:Pos} (ok:a3h X Nc js scope) (hc:X.calm=true) (hi:PI X target iter wi)
  (hg:∀C cl s H ex,PG (a1k X Nc scope cl C s H ex) target g) (ht:∀C cl s H ex,PTs (a1k X Nc scope cl C s H ex) ifs tt) (he:∀C cl s H ex,PE (a1k X Nc scope cl C s H ex) elt te)
  (hN:X.N.Nodup) (hy:X.N[i]?=some y) (hx:Loc X.env.scope y) (hsw:swapsWith (.ListComp elt [⟨target,iter,ifs,0⟩] scope pos) (some (.Name y py)) spos.line X.env=pure true)
  (hs:∀x,foldedSetIterable iter X.env x=pure x:=by intro _;rfl) (hf:X.fn y=true∨X.env.scope.names.lookup y=some .local:=by first | exact .inl rfl | exact .inr rfl | assumption):
  PS X (.Assign [.Name y py] (.ListComp elt [⟨target,iter,ifs,0⟩] scope pos) spos) (fun D σ H=>b1M js wi g tt te σ H fun v H'=>D.nx (σ.set i (some v)) H'):=by
 intro pins s σ H D I h
 have hfr:∀y∈scope.names,y.2=NameKind.free→∃c,X.env.cells.lookup y.1=some c:=fun y hy e=>I.ok.has y.1 (ok.free y hy e)
 rw [exec_Assign_Name_used _ _ _ _ hsw]
 refine wpAny_bind (wpAny_standAt (wpAny_bind ?_))
 show wpAny _ X.A (do let _ ←comprehension (.ListComp elt [⟨target,iter,ifs,0⟩] scope pos) scope X.env _ (newList []) false (eval iter X.env) (some (assign (.Name y py) X.env))) _ _ s
 refine wpAny_bind (thn (wpAny_comprehension_free (use:=some (assign (.Name y py) X.env)) (Q:=fun _ s'=>SP X pins D .next s') rfl hs (a1I hfr) ok.kind ok.names
  (thn (hi pins s σ H _ I h) fun v s1 h1=>thn h1 fun itv s2 h2=>?_)) fun _ s' hq=>wpAny_pure (wpAny_pure hq))
 obtain ⟨it,fp,tn,J,H2,e,I2,T,st2,f2,h⟩:=h2
 subst e
 refine a4n (RR:=fun acc C=>compPost (model X.prog X.w) X.A X.xe (some (assign (.Name y py) X.env)) (fun _ s'=>SP X pins D .next s') acc C) (Q:=fun v H'=>D.nx (σ.set i (some v)) H') ok hc hg ht he I2 T st2 f2 h ?_
 intro Da C s' H' m I' n' fC q
 show wpAny _ X.A (assign (.Name y py) X.env (.ref Da)) _ _ _
 refine wpAny_assign_Name (a5G I' hN hy hx (show a0H (.ref Da) (.ref Da) from rfl) (fun s'' I'' hsb=>?_) hf)
 obtain ⟨a,sb,ha⟩:=hsb
 have hCa:C≠a:=by
  rcases ha with e | e
  ·rw [e];exact fC.2.1
  ·exact fun z=>fC.2.2.2.2.1 y a e z.symm
 refine ⟨m,n'.sameBut sb hCa,fun h' sb'=>⟨σ.set i (some (.ref Da)),H',?_,q⟩⟩
 exact I''.turned (t':=s''.toks) (fun b o hb e=>(sb'.2 b hb).trans e) fC.1 fC.2.1 fC.2.2.2.1 fC.2.2.2.2.1 fC.2.2.2.2.2
end
section
variable {js:List (Option Nat)} {g:TG} {tt:TT} {te:TE} {σ:St} {H:Hp} {Q:VK}
def a3W (J:It) (js:List (Option Nat)) (g:TG) (tt:TT) (te:TE) (σ:St) (H:Hp) (Q:VK):Prop:=
 ∀D,H D=none→∃W:Nat→Nat→St→Hp→List V→Prop,(∃m,W 0 m (a1w js σ) (upd H D (.lst [])) [])∧
 ∀i m σ' H' ys,W i m σ' H' ys→H' D=some (.lst ys)∧((J.stop i H'∧Q (.ref D) H')∨(J.go i H'∧ys.length < sizeLine∧∀x H2,J.yld i H' x H2→g x σ' H2 fun σ2 H3=>tt σ2 H3 fun b H4=>
  if b=true then te σ2 H4 fun v H5=>H5 D=some (.lst ys)∧∃m',m' < m∧W (i+1) m' σ2 (upd H5 D (.lst (ys++[v]))) (ys++[v]) else ∃m',m' < m∧W (i+1) m' σ2 H4 ys))
structure Src (J:It) (n:Nat) (f:Nat→V) (Ok:Hp→Prop):Prop where
 go:∀i H,i < n→Ok H→J.go i H
 yld:∀i H x H',i < n→Ok H→J.yld i H x H'→H'=H∧x=f i
 stop:∀H,Ok H→J.stop n H
theorem a2M {K:Qd} {a:Addr} {xs:List V}:Src (Itl K a) xs.length (fun i=>(xs[i]?).getD .non) (fun H=>SqL K H a xs):=
 ⟨fun i H hi h=>⟨xs,xs[i],h,by simp [hi]⟩,fun i H x H' hi h y=>⟨y.1,by rw [y.2 xs h];rfl⟩,fun H h=>⟨xs,h,Qi _⟩⟩
theorem a4G {K:Qd} {a:Addr} {xs:List V}:Src (Itt K a) xs.length (fun i=>(xs[i]?).getD .non) (fun H=>SqT K H a xs):=
 ⟨fun i H hi h=>⟨xs,xs[i],h,by simp [hi]⟩,fun i H x H' hi h y=>⟨y.1,by rw [y.2 xs h];rfl⟩,fun H h=>⟨xs,h,Qi _⟩⟩
theorem a2K {lo:Int} {n:Nat}:Src (Itr lo n) n (fun i=>.int (lo+i)) (fun _=>True):=
 ⟨fun i H hi _=>hi,fun i H x H' hi _ y=>y,fun H _=>Qi _⟩
theorem a6y {J:It} {n:Nat} {f:Nat→V} {Ok:Hp→Prop} (S:Src J n f Ok) (hn:n≤sizeLine) (Pv:Addr→Nat→St→Hp→List V→Prop) (h0:∀D,H D=none→Pv D 0 (a1w js σ) (upd H D (.lst [])) [])
  (hk:∀D i σ' H' ys,H D=none→i≤n→Pv D i σ' H' ys→Ok H'∧H' D=some (.lst ys)∧ys.length≤i)
  (hs:∀D i σ' H' ys (R:St→Hp→List V→Prop),H D=none→i < n→Pv D i σ' H' ys→(∀a b c,Pv D (i+1) a b c→R a b c)→g (f i) σ' H' fun σ2 H3=>tt σ2 H3 fun b H4=>
   if b=true then te σ2 H4 fun v H5=>H5 D=some (.lst ys)∧R σ2 (upd H5 D (.lst (ys++[v]))) (ys++[v]) else R σ2 H4 ys)
  (hd:∀D σ' H' ys,H D=none→Pv D n σ' H' ys→Q (.ref D) H'):a3W J js g tt te σ H Q:=by
 intro D hD
 refine ⟨fun i m σ' H' ys=>m=n - i∧i≤n∧Pv D i σ' H' ys,⟨n,by simp,Xa _,h0 D hD⟩,?_⟩
 rintro i m σ' H' ys ⟨rfl,hi,p⟩
 obtain ⟨q1,q2,q3⟩:=hk D i σ' H' ys hD hi p
 refine ⟨q2,?_⟩
 by_cases hlt:i < n
 ·refine .inr ⟨S.go i H' hlt q1,by omega,fun x H2 y=>?_⟩
  obtain ⟨rfl,rfl⟩:=S.yld i H' x H2 hlt q1 y
  exact hs D i σ' _ ys (fun σ2 H3 ys'=>∃m',m' < n - i∧(m'=n - (i+1)∧i+1≤n∧Pv D (i+1) σ2 H3 ys')) hD hlt p fun a b c r=>⟨n - (i+1),by omega,rfl,hlt,r⟩
 ·have e:i=n:=by omega
  subst e
  exact .inl ⟨S.stop H' q1,hd D σ' H' ys hD p⟩
end
end L2
namespace L2
open PySem PySem.Spec PyProof.Rows
section
variable {X:Cx}
def c0W:V→Option Value
 | .ty n=>some (.type n)
 | .ref a=>some (.ref a)
 | _=>none
theorem b2c {c:V} {u v:Value} (h:c0W c=some u) (r:a0H c v):v=u:=by
 cases c with
 | ty n=>cases h;exact r
 | ref a=>cases h;exact r
 | _=>cases h
def c2L (K:Qd):List V→Hp→VK→Prop:=fun xs H Q=>∃x c u t b,xs=[x,c]∧c0W c=some u∧a8r K H x t∧Xw K t u=some b∧Q (.bl b) H
theorem a2a:a1P X (.builtin "isinstance") (c2L X.K):=by
 intro pins s σ H xs us Q I r h
 obtain ⟨x,c,u,t,b,rfl,hu,ty,e,q⟩:=h
 obtain ⟨v,u',rfl,rv,ru'⟩:=b6e r
 cases b2c hu ru'
 exact a9O I rv ty e fun tk=>⟨.bl b,H,I.tok _,rfl,q⟩
theorem a6R {bs:List Bool} {its:List Value} (r:a0I (bs.map V.bl) its) {i:Nat} {v:Value} (h:its[i]?=some v):∃b,bs[i]?=some b∧v=.bool b:=by
 have hi:i < its.length:=(Qm.mp h).1
 have hl:=r.length
 rw [Qe] at hl
 have hb:bs[i]?=some bs[i]:=Qc (by omega)
 obtain ⟨u,hu,ru⟩:=r.get (i:=i) (x:=V.bl bs[i]) (by rw [Qn,hb];rfl)
 rw [h] at hu;cases hu
 exact ⟨_,hb,ru⟩
theorem a2y (hc:X.calm=true):a1P X (.builtin "all") (fun xs H Q=>∃(p:Addr) (bs:List Bool),xs=[.ref p]∧SqL X.K H p (bs.map V.bl)∧Q (.bl (bs.all id)) H):=by
 intro pins s σ H xs us Q I r h
 obtain ⟨p,bs,rfl,hq,q⟩:=h
 obtain ⟨u,rfl,ru⟩:=a4a r
 cases ru
 obtain ⟨its,rv,pl,hz⟩:=I.list hq
 have hl:=pl.isList
 have hlt:p < s.heap.objs.size:=by obtain ⟨_,e,_⟩:=hl;exact Qu e
 refine call_all_walk (wpAny_pyIter_list hl ?_)
 refine ⟨s.heap.objs.size,[s.heap.objs.size,p],[s.heap.objs.size],its.toArray.size,_,_,fun i=>(bs[i]?).getD true,rfl,Walks.list (A:=X.A.in1) (I.ok.hd hc) _ p (Xg hlt) its.toArray,
  ⟨⟨_,Qw _ rfl,rfl,rfl⟩,hl.push _⟩,fun i v s' Q' E' hP hQ=>?_,fun h' tk hk=>?_⟩
 ·obtain ⟨b,e,rfl⟩:=a6R rv (i:=i) (v:=v) (by simpa using hP)
  simp only [e,Xr] at hQ
  exact wpAny_truthy_bool hQ
 ·have e:((Yg its.toArray.size).all fun i=>(bs[i]?).getD true)=bs.all id:=by
   have hb:=rv.length
   rw [Qe] at hb
   rw [Qr,←hb];exact LSm.range_all bs
  rw [e]
  exact ⟨.bl (bs.all id),H,I.kept (t':=tk) (LSm.kept_iter hk),rfl,q⟩
theorem a1S (hc:X.calm=true):a1P X (.builtin "any") (fun xs H Q=>∃(p:Addr) (bs:List Bool),xs=[.ref p]∧SqL X.K H p (bs.map V.bl)∧Q (.bl (bs.any id)) H):=by
 intro pins s σ H xs us Q I r h
 obtain ⟨p,bs,rfl,hq,q⟩:=h
 obtain ⟨u,rfl,ru⟩:=a4a r
 cases ru
 obtain ⟨its,rv,pl,hz⟩:=I.list hq
 have hl:=pl.isList
 have hlt:p < s.heap.objs.size:=by obtain ⟨_,e,_⟩:=hl;exact Qu e
 refine call_any_walk (wpAny_pyIter_list hl ?_)
 refine ⟨s.heap.objs.size,[s.heap.objs.size,p],[s.heap.objs.size],its.toArray.size,_,_,fun i=>(bs[i]?).getD false,rfl,Walks.list (A:=X.A.in1) (I.ok.hd hc) _ p (Xg hlt) its.toArray,
  ⟨⟨_,Qw _ rfl,rfl,rfl⟩,hl.push _⟩,fun i v s' Q' E' hP hQ=>?_,fun h' tk hk=>?_⟩
 ·obtain ⟨b,e,rfl⟩:=a6R rv (i:=i) (v:=v) (by simpa using hP)
  simp only [e,Xr] at hQ
  exact wpAny_truthy_bool hQ
 ·have e:((Yg its.toArray.size).any fun i=>(bs[i]?).getD false)=bs.any id:=by
   have hb:=rv.length
   rw [Qe] at hb
   rw [Qr,←hb];exact LSm.range_any bs
  rw [e]
  exact ⟨.bl (bs.any id),H,I.kept (t':=tk) (LSm.kept_iter hk),rfl,q⟩
def c1R:V→Option Int→Option Int→Hp→VK→Prop:=fun x lo hi H Q=>∃z,x=.str z∧z.length≤sizeLine∧Q (.str (Uw z lo hi)) H
theorem b9Y:SlR X c1R:=by
 intro pins s σ H x v vl vu lo hi sl Q I rx hs pl pu h
 obtain ⟨z,rfl,hz,q⟩:=h
 obtain ⟨t,rfl⟩:=rx
 obtain ⟨o,ho,hc,hd⟩:=hs
 refine ⟨"str",_,PySem.F.slot_str_getitem.lookup,typeIs_str _ _ _,?_⟩
 have fin:∀(l u:Option Int) (t':Tok) (k:Nat),Q (.str (Uw z l u)) H→EP X pins σ Q (.str (Uw z l u) t') {s with toks:=k}:=fun l u t' k q=>⟨.str _,H,I.tok _,⟨_,rfl⟩,q⟩
 cases pl with
 | none=>
  cases pu with
  | none=>exact wpAny_getItem_str_slice (l:=none) (u:=none) (st:=none) ⟨o,ho,hc,hd⟩ rfl (post_val_or_str ⟨Qj (Vo z _ _) hz,fun t' k=>fin _ _ t' k q⟩)
  | int j uj=>exact wpAny_getItem_str_slice (l:=none) (u:=some (j,uj)) (st:=none) ⟨o,ho,hc,hd⟩ rfl (post_val_or_str ⟨Qj (Vo z _ _) hz,fun t' k=>fin _ _ t' k q⟩)
 | int i ui=>
  cases pu with
  | none=>exact wpAny_getItem_str_slice (l:=some (i,ui)) (u:=none) (st:=none) ⟨o,ho,hc,hd⟩ rfl (post_val_or_str ⟨Qj (Vo z _ _) hz,fun t' k=>fin _ _ t' k q⟩)
  | int j uj=>exact wpAny_getItem_str_slice (l:=some (i,ui)) (u:=some (j,uj)) (st:=none) ⟨o,ho,hc,hd⟩ rfl (post_val_or_str ⟨Qj (Vo z _ _) hz,fun t' k=>fin _ _ t' k q⟩)
theorem a4U:MtR X "str.startswith" (fun x xs H Q=>∃a b,x=.str a∧xs=[.str b]∧Q (.bl (Jl a b)) H):=by
 intro pins s σ H x xs v us Q I rx rs h
 obtain ⟨a,b,rfl,rfl,q⟩:=h
 obtain ⟨t,rfl⟩:=rx
 obtain ⟨u,rfl,t',rfl⟩:=a4a rs
 exact SC.startswith ⟨.bl _,H,I,rfl,q⟩
end
end L2
namespace L2
open PySem PySem.Spec PyProof.Rows
theorem a1u:bootBuiltins "len"=some (.builtin "len"):=by decide+kernel
theorem a1b:bootBuiltins "isinstance"=some (.builtin "isinstance"):=by decide+kernel
theorem a5U:bootBuiltins "all"=some (.builtin "all"):=by decide+kernel
theorem a3S:bootBuiltins "any"=some (.builtin "any"):=by decide+kernel
theorem a8x:bootBuiltins "bool"=some (.type "bool"):=by decide+kernel
theorem b0q:bootBuiltins "int"=some (.type "int"):=by decide+kernel
theorem a1n:bootBuiltins "list"=some (.type "list"):=by decide+kernel
theorem a1J:bootBuiltins "tuple"=some (.type "tuple"):=by decide+kernel
theorem a8h:bootBuiltins "dict"=some (.type "dict"):=by decide+kernel
section
variable {X:Cx}
def c0w:R2:=fun x y H Q=>∃i j,x=.str i∧y=.str j∧i.length+j.length≤sizeLine∧Q (.str (i++j)) H
def c0C:R2:=rI0 fun i j=>.int (i+j)
def b1E (K:Qd):R2:=fun x y H Q=>c0C x y H Q∨c0w x y H Q∨c3h x y H Q∨b7t K x y H Q
theorem a0u:OpR X (binaryOp .Add) (b1E X.K):=b9i.or (a8s.or (b7n.or b4B))
theorem a0L {K:Qd} {i j:Int} {H:Hp} {Q:VK}:b1E K (.int i) (.int j) H Q↔Q (.int (i+j)) H:=by
 constructor
 ·rintro (⟨a,b,e1,e2,q⟩ | ⟨a,b,e1,_⟩ | ⟨a,b,_,_,e1,_⟩ | ⟨a,b,_,_,e1,_⟩)
  ·cases e1;cases e2;exact q
  ·cases e1
  ·cases e1
  ·cases e1
 ·exact fun q=>.inl ⟨i,j,rfl,rfl,q⟩
theorem a1s {K:Qd} {i j:Str} {H:Hp} {Q:VK}:b1E K (.str i) (.str j) H Q↔(i.length+j.length≤sizeLine∧Q (.str (i++j)) H):=by
 constructor
 ·rintro (⟨a,b,e1,_⟩ | ⟨a,b,e1,e2,q⟩ | ⟨a,b,_,_,e1,_⟩ | ⟨a,b,_,_,e1,_⟩)
  ·cases e1
  ·cases e1;cases e2;exact q
  ·cases e1
  ·cases e1
 ·exact fun q=>.inr (.inl ⟨i,j,rfl,rfl,q⟩)
theorem b0T {i j:Int} {H:Hp} {Q:VK}:rEq (.int i) (.int j) H Q↔Q (.bl (decide (i=j))) H:=by
 unfold rEq
 have e:decide (V.int i=V.int j)=decide (i=j):=by
  by_cases h:i=j
  ·subst h;simp
  ·simp [h]
 rw [e]
 exact ⟨fun h=>h.2,fun h=>⟨rfl,h⟩⟩
theorem b0z {i j:Str} {H:Hp} {Q:VK}:rEq (.str i) (.str j) H Q↔Q (.bl (decide (i=j))) H:=by
 unfold rEq
 have e:decide (V.str i=V.str j)=decide (i=j):=by
  by_cases h:i=j
  ·subst h;simp
  ·simp [h]
 rw [e]
 exact ⟨fun h=>h.2,fun h=>⟨rfl,h⟩⟩
def inS (c s:Str):Bool:=!(Builtin.Str.occurrences s c 0 s.length 1).isEmpty
def c0V:R2:=fun x y H Q=>∃i j,x=.str i∧y=.str j∧Q (.bl (inS i j)) H
def a9I:R2:=fun x y H Q=>∃i j,x=.str i∧y=.str j∧Q (.bl (!inS i j)) H
def b9l (K:Qd):R2:=fun x y H Q=>c0V x y H Q∨rIn K false x y H Q
def a6A (K:Qd):R2:=fun x y H Q=>a9I x y H Q∨rIn K true x y H Q
theorem b9g:OpR X (compareOp .In) c0V:=b0g
theorem a9H:OpR X (compareOp .NotIn) a9I:=a5C
theorem a2G:OpR X (compareOp .In) (b9l X.K):=b9g.or b0o
theorem a9E:OpR X (compareOp .NotIn) (a6A X.K):=a9H.or a5t
def b4k (K:Qd):List V→Hp→VK→Prop:=fun xs H Q=>(∃x n,xs=[x]∧c4o K x H n∧Q (.int n) H)∨∃a kvs,xs=[V.ref a]∧H a=some (.dK kvs)∧Q (.int kvs.length) H
theorem a1t:a1P X (.builtin "len") (b4k X.K):=b1I.or a9K
theorem b1a {K:Qd} {z:Str} {H:Hp} {Q:VK}:b4k K [.str z] H Q↔(z.length≤sizeLine∧Q (.int z.length) H):=by
 constructor
 ·rintro (⟨x,n,e1,e2,q⟩ | ⟨a,kvs,e1,_⟩)
  ·cases e1
   obtain ⟨h1,rfl⟩:z.length≤sizeLine∧n=z.length:=e2
   exact ⟨h1,q⟩
  ·cases e1
 ·exact fun q=>.inl ⟨.str z,z.length,rfl,⟨q.1,rfl⟩,q.2⟩
theorem a1Y {K:Qd} {a:Addr} {xs:List V} {H:Hp} {Q:VK} (h:SqL K H a xs) (q:Q (.int xs.length) H):b4k K [.ref a] H Q:=.inl ⟨.ref a,xs.length,rfl,.inl ⟨xs,h,rfl⟩,q⟩
def c3I (K:Qd):V→Option Int→Option Int→Hp→VK→Prop:=fun x lo hi H Q=>c1R x lo hi H Q∨c2t K x lo hi H Q∨c3V K x lo hi H Q
theorem b9k:SlR X (c3I X.K):=b9Y.or (b6j.or b9d)
theorem a7n {K:Qd} {z:Str} {lo hi:Option Int} {H:Hp} {Q:VK}:c3I K (.str z) lo hi H Q↔(z.length≤sizeLine∧Q (.str (Uw z lo hi)) H):=by
 constructor
 ·rintro (⟨x,e1,q⟩ | ⟨a,xs,e1,_⟩ | ⟨a,xs,e1,_⟩)
  ·cases e1;exact q
  ·cases e1
  ·cases e1
 ·exact fun q=>.inl ⟨z,rfl,q⟩
theorem b4H {K:Qd} {z:Str} {i:Int} {H:Hp} {Q:VK}:rIx K (.str z) (.int i) H Q↔(z.length≤sizeLine∧∃c,atI z.cps.toList i=some c∧Q (.str ⟨#[c]⟩) H):=by
 constructor
 ·rintro (⟨p,xs,j,v,e1,_⟩ | ⟨p,xs,j,v,e1,_⟩ | ⟨y,j,c,e1,e2,h1,h2,q⟩)
  ·cases e1
  ·cases e1
  ·cases e1;cases e2;exact ⟨h1,c,h2,q⟩
 ·rintro ⟨h1,c,h2,q⟩
  exact .inr (.inr ⟨z,i,c,rfl,rfl,h1,h2,q⟩)
theorem a0o {K:Qd} {a:Addr} {xs:List V} {i:Int} {v:V} {H:Hp} {Q:VK} (h:SqL K H a xs) (e:atI xs i=some v) (q:Q v H):rIx K (.ref a) (.int i) H Q:=.inl ⟨a,xs,i,v,rfl,rfl,h,e,q⟩
theorem a1O {K:Qd} {a:Addr} {xs:List V} {i:Int} {v:V} {H:Hp} {Q:VK} (h:SqT K H a xs) (e:atI xs i=some v) (q:Q v H):rIx K (.ref a) (.int i) H Q:=.inr (.inl ⟨a,xs,i,v,rfl,rfl,h,e,q⟩)
theorem a0J {C:Int→Int→Prop} {g:Int→Int→V} {i j:Int} {H:Hp} {Q:VK}:rI C g (.int i) (.int j) H Q↔(C i j∧Q (g i j) H):=by
 constructor
 ·rintro ⟨a,b,e1,e2,q⟩;cases e1;cases e2;exact q
 ·exact fun q=>⟨i,j,rfl,rfl,q⟩
theorem a3M {g:Int→Int→V} {i j:Int} {H:Hp} {Q:VK}:rI0 g (.int i) (.int j) H Q↔Q (g i j) H:=by
 constructor
 ·rintro ⟨a,b,e1,e2,q⟩;cases e1;cases e2;exact q
 ·exact fun q=>⟨i,j,rfl,rfl,q⟩
theorem a1e {k:Bool} {P:Bool→Prop}:(∃c,V.bl k=V.bl c∧P c)↔P k:=by
 constructor
 ·rintro ⟨c,e,q⟩;cases e;exact q
 ·exact fun q=>⟨k,rfl,q⟩
theorem b5u {k:Int} {P:Int→Prop}:(∃c,V.int k=V.int c∧P c)↔P k:=by
 constructor
 ·rintro ⟨c,e,q⟩;cases e;exact q
 ·exact fun q=>⟨k,rfl,q⟩
theorem a0e {v:V} {P:V→Prop}:(∃x,some (some v)=some (some x)∧P x)↔P v:=by
 constructor
 ·rintro ⟨c,e,q⟩;cases e;exact q
 ·exact fun q=>⟨v,rfl,q⟩
end
theorem a0f.upd {H:Hp} {a:Addr} {o:HO} (h:H a=none):a0f H (upd H a o):=fun b u e=>by rw [a0a (a0c e h)];exact e
section
variable {X:Cx} {st:Stmt} {a6e:List Stmt} {t u:TS}
def c5B (t u:TS):TS:=fun D σ H=>∃M:St→Hp→Prop,t {D with nx:=M} σ H∧∀σ' H',M σ' H'→u D σ' H'
theorem b6m (h1:PS X st t) (h2:PSs X a6e u):PSs X (st::a6e) (c5B t u):=by
 intro pins s σ H D I h
 obtain ⟨M,q1,q2⟩:=h
 refine wpAny_execs_cons (thn (h1 pins s σ H {D with nx:=M} I q1) fun f s1 q=>?_)
 cases f with
 | next=>
  obtain ⟨σ',H',I',q⟩:=q
  exact h2 pins s1 σ' H' D I' (q2 σ' H' q)
 | ret v=>exact q
 | brk=>exact q
 | cont=>exact q
end
end L2
namespace L2
open PySem PySem.Spec PyProof.Rows
theorem a0D {k:Addr} {P:Addr→Prop}:(∃c,V.ref k=V.ref c∧P c)↔P k:=by
 constructor
 ·rintro ⟨c,e,q⟩;cases e;exact q
 ·exact fun q=>⟨k,rfl,q⟩
theorem b1n {i j:Int} {H:Hp} {Q:VK}:rNe (.int i) (.int j) H Q↔Q (.bl (!decide (i=j))) H:=by
 unfold rNe
 have e:decide (V.int i=V.int j)=decide (i=j):=by
  by_cases h:i=j
  ·subst h;simp
  ·simp [h]
 rw [e]
 exact ⟨fun h=>h.2,fun h=>⟨rfl,h⟩⟩
theorem b1m {i j:Str} {H:Hp} {Q:VK}:rNe (.str i) (.str j) H Q↔Q (.bl (!decide (i=j))) H:=by
 unfold rNe
 have e:decide (V.str i=V.str j)=decide (i=j):=by
  by_cases h:i=j
  ·subst h;simp
  ·simp [h]
 rw [e]
 exact ⟨fun h=>h.2,fun h=>⟨rfl,h⟩⟩
theorem a3i {α:Type} {xs:List α} {i:Int} (h0:0≤i) (h1:i < xs.length):∃v,atI xs i=some v∧v∈xs∧xs[i.toNat]?=some v:=by
 have hk:i.toNat < xs.length:=by omega
 refine ⟨xs[i.toNat],?_,Xi hk,Qc hk⟩
 unfold atI ixN
 rw [if_pos h0,if_pos h1]
 exact Qc hk
theorem a1d {i j:Int} (h:0 < j):0≤i % j∧i % j < j:=⟨Za _ (by omega),Yx _ h⟩
theorem a7s {A B:Prop}:(if false=true then A else B)=B:=if_neg Qx
theorem b0v {A B:Prop}:(if true=false then A else B)=B:=if_neg (by decide)
theorem a0V {H:Hp} {p:Addr} (hp:H p=none) (o:HO):∃H',upd H p o=H'∧a0f H H'∧H' p=some o:=⟨_,rfl,a0f.upd hp,a0d⟩
def c6g (J:It) (g:TG) (tb:TS) (D:a6d) (σ:St) (H:Hp):Prop:=∃W:Nat→Nat→St→Hp→Prop,(∃m,W 0 m σ H)∧∀i m σ H,W i m σ H→
 (J.stop i H∧D.nx σ H)∨(J.go i H∧∃N:St→Hp→Prop,(∀σ' H',N σ' H'→∃m',m' < m∧W (i+1) m' σ' H')∧∀x H',J.yld i H x H'→g x σ H' fun σ2 H2=>tb {D with nx:=N,ct:=N,bk:=D.nx} σ2 H2)
theorem a0E {wi:TI} {g:TG} {tb:TS} {D:a6d} {σ:St} {H:Hp}:b6d wi g tb D σ H=wi σ H fun J H1=>c6g J g tb D σ H1:=rfl
theorem a0p {js:List (Option Nat)} {wi:TI} {g:TG} {tt:TT} {te:TE} {σ:St} {H:Hp} {Q:VK}:b1M js wi g tt te σ H Q=wi σ H fun J H1=>a3W J js g tt te σ H1 Q:=rfl
theorem a4i {J:It} {n:Nat} {f:Nat→V} {Ok:Hp→Prop} {js:List (Option Nat)} {te:TE} {σ:St} {H:Hp} {Q:VK} (S:Src J n f Ok) (hn:n≤sizeLine) (σr:St) (hσ:a1w js σ=none::σr) (Pr:Nat→V→Prop)
  (hOk:∀H',a0f H H'→Ok H') (hs:∀i H' (R:V→Hp→Prop),i < n→a0f H H'→(∀v H'',a0f H' H''→Pr i v→R v H'')→te (some (f i)::σr) H' R)
  (hd:∀D H' ys,H D=none→a0f H H'→H' D=some (.lst ys)→ys.length=n→(∀i v,ys[i]?=some v→Pr i v)→Q (.ref D) H'):a3W J js (a0m 0) b8n te σ H Q:=by
 refine a6y S hn (fun D i σ' H' ys=>(∃a,σ'=a::σr)∧a0f H H'∧H' D=some (.lst ys)∧ys.length=i∧∀j v,ys[j]?=some v→Pr j v) ?_ ?_ ?_ ?_
 ·intro D hD
  exact ⟨⟨none,hσ⟩,a0f.upd hD,a0d,rfl,fun j v e=>by simp at e⟩
 ·rintro D i σ' H' ys hD hi ⟨_,s,h,hl,_⟩
  exact ⟨hOk _ s,h,Vk hl⟩
 ·rintro D i σ' H' ys R hD hi ⟨⟨a,rfl⟩,s,h,hl,hp⟩ hR
  show te (some (f i)::σr) H' _
  refine hs i H' _ hi s fun v H'' s2 pv=>⟨s2 _ _ h,hR _ _ _ ⟨⟨_,rfl⟩,?_,a0d,by simp [hl],fun j v' e=>?_⟩⟩
  ·intro b o e
   rw [a0a (a0c e hD)]
   exact s2 b o (s b o e)
  ·rw [Wp] at e
   split at e
   ·exact hp j v' e
   ·rename_i hj
    have e1:j=ys.length:=by
     have:=(Qm.mp e).1
     simp at this;omega
    subst e1
    simp at e
    subst e
    rw [hl];exact pv
 ·rintro D σ' H' ys hD ⟨_,s,h,hl,hp⟩
  exact hd D H' ys hD s h hl hp
end L2
namespace L2
open PySem PySem.Spec PyProof.Rows
theorem a3F {K:Qd}:Xw K (.type "tuple") (.type "tuple")=some true:=by kernel_rfl
section
variable {K:Qd} {H:Hp} {Q:VK}
def b0w:V→List V→Hp→VK→Prop:=fun x xs H Q=>∃a b,x=.str a∧xs=[.str b]∧Q (.bl (Jl a b)) H
theorem a4j {a b:Str}:b0w (.str a) [.str b] H Q↔Q (.bl (Jl a b)) H:=⟨by rintro ⟨_,_,e1,e2,q⟩;cases e1;cases e2;exact q,fun q=>⟨_,_,rfl,rfl,q⟩⟩
theorem b1r {z:Str} {P:Prop}:(tyV K "str" (.str z) H∧P)↔P:=⟨fun h=>h.2,fun h=>⟨rfl,h⟩⟩
def b6K (K:Qd):List V→Hp→VK→Prop:=fun xs H Q=>∃p ys,xs=[.ref p]∧((SqL K H p ys∧∀l,H l=none→Q (.ref l) (upd H l (.tup ys)))∨SqT K H p ys∧Q (.ref p) H)
def a9f (K:Qd):List V→Hp→VK→Prop:=fun xs H Q=>∃p ys,xs=[.ref p]∧(SqL K H p ys∨SqT K H p ys)∧∀l,H l=none→Q (.ref l) (upd H l (.lst ys))
end
def c0F:R2:=fun x y H Q=>y=.non∧Q (.bl (decide (x=.non))) H
section
variable {H:Hp} {Q:VK}
theorem b1F {a:Addr}:c0F (.ref a) .non H Q↔Q (.bl false) H:=⟨fun h=>h.2,fun h=>⟨rfl,h⟩⟩
theorem b2U:c0F .non .non H Q↔Q (.bl true) H:=⟨fun h=>h.2,fun h=>⟨rfl,h⟩⟩
end
mutual
inductive Den (K:Qd) (H:Hp):V→PyData→Prop
 | non:Den K H .non .none
 | bl (b:Bool):Den K H (.bl b) (.bool b)
 | int (i:Int):Den K H (.int i) (.int i)
 | str (x:Str):Den K H (.str x) (.str x)
 | lst {a:Addr} {xs:List V} {ds:List PyData}:SqL K H a xs→DenAll K H xs ds→Den K H (.ref a) (.list ds)
 | tup {a:Addr} {xs:List V} {ds:List PyData}:SqT K H a xs→DenAll K H xs ds→Den K H (.ref a) (.tuple ds)
inductive DenAll (K:Qd) (H:Hp):List V→List PyData→Prop
 | nil:DenAll K H [] []
 | cons {x:V} {xs:List V} {d:PyData} {ds:List PyData}:Den K H x d→DenAll K H xs ds→DenAll K H (x::xs) (d::ds)
end
theorem a3e {K:Qd} {H:Hp}:∀ys:List Str,DenAll K H (ys.map V.str) (ys.map Zp)
 | []=>.nil
 | y::ys=>.cons (.str y) (a3e ys)
def c2j (K:Qd):R2:=fun x y H Q=>∃d e,Den K H x d∧Den K H y e∧Yi d=true∧Yi e=true∧Q (.bl (Xp d e)) H
def c1a (K:Qd):R2:=fun x y H Q=>∃d e,Den K H x d∧Den K H y e∧Yi d=true∧Yi e=true∧Q (.bl (!PyData.eqv d e)) H
def b5L (K:Qd):R2:=fun x y H Q=>rEq x y H Q∨c2j K x y H Q
def b6t (K:Qd):R2:=fun x y H Q=>rNe x y H Q∨c1a K x y H Q
section
variable {K:Qd} {H:Hp} {Q:VK}
theorem a2H {i j:Str}:b5L K (.str i) (.str j) H Q↔Q (.bl (decide (i=j))) H:=by
 constructor
 ·rintro (h | ⟨d,e,h1,h2,_,_,q⟩)
  ·exact b0z.mp h
  ·cases h1;cases h2
   rw [show decide (i=j)=Xp (.str i) (.str j) from by simp only [Xp];by_cases z:i=j<;>simp [z]];exact q
 ·exact fun q=>.inl (b0z.mpr q)
theorem a1q {i j:Int}:b5L K (.int i) (.int j) H Q↔Q (.bl (decide (i=j))) H:=by
 constructor
 ·rintro (h | ⟨d,e,h1,h2,_,_,q⟩)
  ·exact b0T.mp h
  ·cases h1;cases h2
   rw [show decide (i=j)=Xp (.int i) (.int j) from by simp only [Xp];by_cases z:i=j<;>simp [z]];exact q
 ·exact fun q=>.inl (b0T.mpr q)
theorem a6V {i j:Str}:b6t K (.str i) (.str j) H Q↔Q (.bl (!decide (i=j))) H:=by
 constructor
 ·rintro (h | ⟨d,e,h1,h2,_,_,q⟩)
  ·exact b1m.mp h
  ·cases h1;cases h2
   rw [show decide (i=j)=Xp (.str i) (.str j) from by simp only [Xp];by_cases z:i=j<;>simp [z]];exact q
 ·exact fun q=>.inl (b1m.mpr q)
theorem b2w {i j:Int}:b6t K (.int i) (.int j) H Q↔Q (.bl (!decide (i=j))) H:=by
 constructor
 ·rintro (h | ⟨d,e,h1,h2,_,_,q⟩)
  ·exact b1n.mp h
  ·cases h1;cases h2
   rw [show decide (i=j)=Xp (.int i) (.int j) from by simp only [Xp];by_cases z:i=j<;>simp [z]];exact q
 ·exact fun q=>.inl (b1n.mpr q)
mutual
theorem a7d:∀d:PyData,Yi d=true→Xp d d=true
 | .none,_=>rfl
 | .bool b,_=>by simp [Xp]
 | .int i,_=>by simp [Xp]
 | .str x,_=>by simp [Xp]
 | .list xs,h=>by
  simp only [Xp]
  exact eqvAll_self xs (by unfold Yi at h;simpa [Xj] using (Jp.mp h).1)
 | .tuple xs,h=>by
  simp only [Xp]
  exact eqvAll_self xs (by unfold Yi at h;simpa [Xj] using (Jp.mp h).1)
 | .dict _,h=>by unfold Yi at h;simp [Xj] at h
theorem eqvAll_self:∀ds:List PyData,Zl ds=true→Ws ds ds=true
 | [],_=>rfl
 | d::ds,h=>by
  simp only [Zl,Xn] at h
  simp only [Ws,Xn]
  exact ⟨eqv_self' d h.1,eqvAll_self ds h.2⟩
theorem eqv_self':∀d:PyData,Xj d=true→Xp d d=true
 | .none,_=>rfl
 | .bool b,_=>by simp [Xp]
 | .int i,_=>by simp [Xp]
 | .str x,_=>by simp [Xp]
 | .list xs,h=>by
  simp only [Xp]
  exact eqvAll_self xs (by simpa [Xj] using h)
 | .tuple xs,h=>by
  simp only [Xp]
  exact eqvAll_self xs (by simpa [Xj] using h)
 | .dict _,h=>by simp [Xj] at h
end
theorem b2F {a:Addr} {xs:List V} (h:H a=some (.tup xs)) (q:Q (.bl true) H):c2L K [.ref a,.ty "tuple"] H Q:=⟨_,_,_,_,_,rfl,rfl,.tup h,a3F,q⟩
end
section
variable {X:Cx}
theorem b7B:OpR X (compareOp .Is) c0F:=b7G
theorem a5A:MtR X "str.startswith" b0w:=a4U
theorem a2o:a1P X (.type "tuple") (b6K X.K):=by
 intro pins s σ H xs us Q I r h
 obtain ⟨p,ys,e,h⟩:=h
 exact a4I pins s σ H xs us Q I r ⟨p,ys,e,h⟩
theorem a1o:a1P X (.type "list") (a9f X.K):=a5J
mutual
theorem Den.reads {pins:List (Addr×Obj)} {σ:St} {H:Hp} {s:Shared} (I:Inv X pins σ H s):∀{x:V} {d:PyData} {u:Value},Den X.K H x d→a0H x u→∃as,Reads s.heap u d as
 | _,_,_,.non,r=>by cases r;exact ⟨_,.none⟩
 | _,_,_,.bl b,r=>by cases r;exact ⟨_,.bool b⟩
 | _,_,_,.int i,r=>by obtain ⟨t,rfl⟩:=r;exact ⟨_,.int i t⟩
 | _,_,_,.str x,r=>by obtain ⟨t,rfl⟩:=r;exact ⟨_,.str x t⟩
 | _,_,_,.lst h hs,r=>by
  cases r
  obtain ⟨its,rv,pl,_⟩:=I.list h
  obtain ⟨o,ho,hc,n,hd⟩:=pl.isList
  obtain ⟨as,ra⟩:=DenAll.reads I hs rv
  exact ⟨_,.list ho hc hd (by simpa using ra)⟩
 | _,_,_,.tup h hs,r=>by
  cases r
  obtain ⟨its,rv,pl,_⟩:=I.tuple h
  obtain ⟨o,ho,hc,n,hd⟩:=pl
  obtain ⟨as,ra⟩:=DenAll.reads I hs rv
  exact ⟨_,.tuple ho hc hd (by simpa using ra)⟩
theorem DenAll.reads {pins:List (Addr×Obj)} {σ:St} {H:Hp} {s:Shared} (I:Inv X pins σ H s):∀{xs:List V} {ds:List PyData} {us:List Value},DenAll X.K H xs ds→a0I xs us→∃as,ReadsAll s.heap us ds as
 | _,_,_,.nil,r=>by cases r;exact ⟨_,.nil⟩
 | _,_,_,.cons h hs,r=>by
  cases r with
  | cons r1 r2=>
   obtain ⟨as,ra⟩:=Den.reads I h r1
   obtain ⟨bs,rb⟩:=DenAll.reads I hs r2
   exact ⟨_,.cons ra rb⟩
end
theorem b9V (hu:X.A.units+64 < cLine):OpR X (compareOp .Eq) (c2j X.K):=by
 intro pins s σ H x y v u Q I rx ry h
 obtain ⟨d,e,h1,h2,s1,s2,q⟩:=h
 obtain ⟨as,ra⟩:=h1.reads I rx
 obtain ⟨bs,rb⟩:=h2.reads I ry
 exact eq_dataH ra rb s1 s2 hu ⟨.bl _,H,I,rfl,q⟩
theorem b6S (hu:X.A.units+64 < cLine):OpR X (compareOp .NotEq) (c1a X.K):=by
 intro pins s σ H x y v u Q I rx ry h
 obtain ⟨d,e,h1,h2,s1,s2,q⟩:=h
 obtain ⟨as,ra⟩:=h1.reads I rx
 obtain ⟨bs,rb⟩:=h2.reads I ry
 exact ne_dataH ra rb s1 s2 hu ⟨.bl _,H,I,rfl,q⟩
theorem a1g (hu:X.A.units+64 < cLine):OpR X (compareOp .Eq) (b5L X.K):=c0g.or (b9V hu)
theorem a5R (hu:X.A.units+64 < cLine):OpR X (compareOp .NotEq) (b6t X.K):=c0J.or (b6S hu)
variable {K:Qd}
theorem a6B (h:X.K=K):OpR X (binaryOp .Add) (b1E K):=h ▸ a0u
theorem b2Y (h:X.K=K):OpR X (compareOp .In) (b9l K):=h ▸ a2G
theorem b0D (h:X.K=K):OpR X (compareOp .NotIn) (a6A K):=h ▸ a9E
theorem a4h (hu:X.A.units+64 < cLine) (h:X.K=K):OpR X (compareOp .Eq) (b5L K):=h ▸ a1g hu
theorem b3Q (hu:X.A.units+64 < cLine) (h:X.K=K):OpR X (compareOp .NotEq) (b6t K):=h ▸ a5R hu
theorem a2W (h:X.K=K):IxR X (rIx K):=h ▸ a0s
end
end L2
namespace L2
open PySem PySem.Spec PyProof.Rows PySem.W
end L2
namespace L2
open PySem PySem.Spec PyProof.Rows
theorem a8V {J:It} {n:Nat} {f:Nat→V} {Ok:Hp→Prop} {js:List (Option Nat)} {te:TE} {σ:St} {H:Hp} {Q:VK} (S:Src J n f Ok) (hn:n≤sizeLine) (σr:St) (hσ:a1w js σ=none::σr) (Pr:Addr→Nat→V→Hp→Prop)
  (mono:∀D i v (H1 H2:Hp),(∀b o,b≠D→H1 b=some o→H2 b=some o)→Pr D i v H1→Pr D i v H2)
  (hOk:∀H',a0f H H'→Ok H') (hs:∀D i H' (R:V→Hp→Prop),i < n→H D=none→a0f H H'→(∃ys,H' D=some (.lst ys))→(∀v H'',a0f H' H''→Pr D i v H''→R v H'')→te (some (f i)::σr) H' R)
  (hd:∀D H' ys,H D=none→a0f H H'→H' D=some (.lst ys)→ys.length=n→(∀i v,ys[i]?=some v→Pr D i v H')→Q (.ref D) H'):a3W J js (a0m 0) b8n te σ H Q:=by
 refine a6y S hn (fun D i σ' H' ys=>(∃a,σ'=a::σr)∧a0f H H'∧H' D=some (.lst ys)∧ys.length=i∧∀j v,ys[j]?=some v→Pr D j v H') ?_ ?_ ?_ ?_
 ·intro D hD
  exact ⟨⟨none,hσ⟩,a0f.upd hD,a0d,rfl,fun j v e=>by simp at e⟩
 ·rintro D i σ' H' ys hD hi ⟨_,s,h,hl,_⟩
  exact ⟨hOk _ s,h,Vk hl⟩
 ·rintro D i σ' H' ys R hD hi ⟨⟨a,rfl⟩,s,h,hl,hp⟩ hR
  show te (some (f i)::σr) H' _
  refine hs D i H' _ hi hD s ⟨_,h⟩ fun v H'' s2 pv=>⟨s2 _ _ h,hR _ _ _ ⟨⟨_,rfl⟩,?_,a0d,by simp [hl],fun j v' e=>?_⟩⟩
  ·intro b o e
   rw [a0a (a0c e hD)]
   exact s2 b o (s b o e)
  ·have up:∀b o,b≠D→H'' b=some o→upd H'' D (.lst (ys++[v])) b=some o:=fun b o hb e=>by rw [a0a hb];exact e
   rw [Wp] at e
   split at e
   ·exact mono _ _ _ _ _ (fun b o hb e=>up b o hb (s2 b o e)) (hp j v' e)
   ·have e1:j=ys.length:=by
     have:=(Qm.mp e).1
     simp at this;omega
    subst e1
    simp at e
    subst e
    rw [hl];exact mono _ _ _ _ _ up pv
 ·rintro D σ' H' ys hD ⟨_,s,h,hl,hp⟩
  exact hd D H' ys hD s h hl hp
theorem a3T {J:It} {n:Nat} {f:Nat→V} {Ok:Hp→Prop} {js:List (Option Nat)} {tt:TT} {te:TE} {σ:St} {H:Hp} {Q:VK} (S:Src J n f Ok) (hn:n≤sizeLine) (σr:St) (hσ:a1w js σ=none::σr) (keep:Nat→Bool) (val:Nat→V)
  (hOk:∀H',a0f H H'→Ok H') (hs:∀i H' (R:Bool→Hp→Prop),i < n→a0f H H'→(∀H'',a0f H' H''→R (keep i) H'')→tt (some (f i)::σr) H' R)
  (he:∀i H' (R:V→Hp→Prop),i < n→a0f H H'→(∀H'',a0f H' H''→R (val i) H'')→te (some (f i)::σr) H' R)
  (hd:∀D H',H D=none→a0f H H'→H' D=some (.lst (((Yg n).filter keep).map val))→Q (.ref D) H'):a3W J js (a0m 0) tt te σ H Q:=by
 refine a6y S hn (fun D i σ' H' ys=>(∃a,σ'=a::σr)∧a0f H H'∧H' D=some (.lst ys)∧ys=((Yg i).filter keep).map val) ?_ ?_ ?_ ?_
 ·intro D hD
  exact ⟨⟨none,hσ⟩,a0f.upd hD,a0d,rfl⟩
 ·rintro D i σ' H' ys hD hi ⟨_,s,h,rfl⟩
  refine ⟨hOk _ s,h,?_⟩
  rw [Qe]
  exact Qj (Qq _ _) (by simp)
 ·rintro D i σ' H' ys R hD hi ⟨⟨a,rfl⟩,s,h,rfl⟩ hR
  show tt (some (f i)::σr) H' _
  refine hs i H' _ hi s fun H2 s2=>?_
  cases hk:keep i with
  | false=>
   rw [if_neg Qx]
   refine hR _ _ _ ⟨⟨_,rfl⟩,s.trans s2,s2 _ _ h,?_⟩
   rw [Jt,Zh,Ym,hk];simp
  | true=>
   rw [if_pos rfl]
   refine he i H2 _ hi (s.trans s2) fun H3 s3=>⟨s3 _ _ (s2 _ _ h),hR _ _ _ ⟨⟨_,rfl⟩,?_,a0d,?_⟩⟩
   ·intro b o e
    rw [a0a (a0c e hD)]
    exact s3 b o (s2 b o (s b o e))
   ·rw [Jt,Zh,Ym,hk];simp
 ·rintro D σ' H' ys hD ⟨_,s,h,rfl⟩
  exact hd D H' hD s h
structure b8g (K:Qd) (C:Addr) (m:Str) (f:Addr):Prop where
 ga:Vd K (.ref C) "__getattribute__"=some (some (.builtin "type.__getattribute__"))
 rd:PySem.W.readsIn K C (.type "type")=true
 at_:PySem.W.findCls K (.ref C) (.type "type") m=some (.val (.ref f))
 kp:Zf K (.ref f)=true
structure TyI (K:Qd) (C:Addr):Prop where
 ha:Yo K (.ref C) "__class__"=some (some (.builtin "object.__class__"))
 hn:Vd K (.builtin "object.__class__") "__get__"=some (some (.builtin "getset_descriptor.__get__"))
 htk:Gj K (.builtin "object.__class__")=some true
 hm:PySem.W.mroIn K C (.type "object")=some true
theorem b9L {K:Qd} {C D:Addr} {cd:ClassData} {b:Bool} (hc:PySem.W.clsIn K D=some cd) (ht:Wl K (.ref D)=some (.type "type")) (hs:Wt K (.ref C) (.ref D)=some b) (ho:Wt K (.ref C) (.ref C)=some true):
  Xw K (.ref C) (.ref D)=some b:=by
 unfold Xw
 by_cases e:(Value.ref C == Value.ref D)=true
 ·rw [if_pos e]
  have e':C=D:=by
   have:=eq_of_beq e
   injection this
  rw [←e',ho] at hs
  exact hs
 ·rw [if_neg e]
  show (if ((PySem.W.clsIn K D).isSome && Wl K (.ref D) == some (.type "type"))=true then Wt K (.ref C) (.ref D) else none)=_
  rw [hc,ht,if_pos (by simp),hs]
section
variable {X:Cx}
def c4F:R2:=fun x y H Q=>∃i j,x=.str i∧y=.str j∧Q (.bl (decide (i.cps.toList < j.cps.toList))) H
def c2Z:R2:=fun x y H Q=>rI0 (fun i j=>.bl (decide (i < j))) x y H Q∨c4F x y H Q
theorem b0y:OpR X (compareOp .Lt) c2Z:=c0n.or b0R
theorem a4E {i j:Int} {H:Hp} {Q:VK}:c2Z (.int i) (.int j) H Q↔Q (.bl (decide (i < j))) H:=by
 constructor
 ·rintro (⟨a,b,e1,e2,q⟩ | ⟨a,b,e1,_⟩)
  ·cases e1;cases e2;exact q
  ·cases e1
 ·exact fun q=>.inl ⟨i,j,rfl,rfl,q⟩
end
section
variable {X:Cx} {o e:Expr} {es:List Expr} {apos pos:Pos} {m:Str} {C f:Addr} {fd:FuncData} {ps:List Str} {sp:Sp} {CX:CXT} {k:Nat} {E:XK} {dvs:List V} {ds:List Value} {ta:TE} {t:TA}
def b8v (t u:TE):TE:=fun σ H Q=>t σ H Q∨u σ H Q
theorem b9u {t u:TE} (h1:PE X e t) (h2:PE X e u):PE X e (b8v t u):=fun pins s σ H Q I h=>h.elim (h1 pins s σ H Q I) (h2 pins s σ H Q I)
def b2W (C:Addr) (sp:Sp) (dvs:List V) (E:XK) (ta:TE) (t:TA):TE:=fun σ H Q=>ta σ H fun x H1=>x=.ref C∧t σ H1 fun vs H2=>sp (vs++dvs) H2 Q E
theorem b1J {pl:Sem Bool} (he:PE X o ta) (hm:b8g X.K C m f) (F:a1a X.prog X.w X.K X.mg X.base CX k f fd ps sp) (hr:a2h k X.A) (hb:a0q X.K fd ps ds) (hd:a0I dvs ds) (hx:a3j CX X E) (ha:PA X (e::es) t)
  (hst:starEach (e::es) X.env=(false,eval e X.env)::starEach es X.env:=by rfl) (hpl:(backTo pos (starEach es X.env)).any (·.1)=false:=by rfl)
  (ht:eval (.Call (.Attribute o m apos) (e::es) [] pos) X.env=(do
   let ov ←eval o X.env
   standAt apos.atName
   let (f,first) ←holding [ov] (getMethod ov m pl)
   callWith pos f first (backTo pos (starEach (e::es) X.env)) (backToKw pos (keywordEach [] X.env))):=by rfl):
  PE X (.Call (.Attribute o m apos) (e::es) [] pos) (b2W C sp dvs E ta t):=by
 intro pins s σ H Q I h
 refine Ud (pl:=pl) (thn (he pins s σ H _ I h) fun u s1 ⟨x,H1,I1,rx,ex,q⟩=>?_) ht
 subst ex
 obtain rfl:u=Value.ref C:=rx
 refine PySem.W.method_cls I1.kIn hm.ga (PySem.W.cls_value I1.kIn hm.rd hm.at_ rfl ?_)
 refine Jv (first:=[]) (h₀:=X.base) I.ok.mod.kin hm.kp (thn (ha pos pins _ σ H1 _ (I1.tok _) q) fun us s2 ⟨vs,H2,I2,r,q2⟩=>⟨I2.kIn,?_⟩) hst hpl
 exact a6Z (us:=us) (vs:=vs) F hr hb hd hx I2 r q2
end
end L2
namespace L2
open PySem PySem.Spec PyProof.Rows
theorem a6J {c:TT} {tb:TS} {D:a6d} {σ:St} {H:Hp} (W:Nat→St→Hp→Prop) (m0:Nat) (h0:W m0 σ H)
  (hs:∀m σ H,W m σ H→c σ H fun b H1=>if b=true then ∃N:St→Hp→Prop,(∀σ' H',N σ' H'→∃m',m' < m∧W m' σ' H')∧tb {D with nx:=N,ct:=N,bk:=D.nx} σ H1 else D.nx σ H1):b2Z c tb D σ H:=⟨W,⟨m0,h0⟩,hs⟩
theorem a0T {α β:Type} (d:α) (P:α→Bool) (g:α→β):∀ps:List α,((Yg ps.length).filter fun i=>P ((ps[i]?).getD d)).map (fun i=>g ((ps[i]?).getD d))=(ps.filter P).map g:=by
 intro ps
 have h:(Yg ps.length).map (fun i=>(ps[i]?).getD d)=ps:=by
  refine Jy fun i=>?_
  rw [Qn]
  by_cases hi:i < ps.length
  ·rw [Wu hi,Qc hi,Jc,Qc hi];rfl
  ·rw [Yb (by simp;omega),Yb (by omega)];rfl
 conv=>rhs;rw [←h]
 rw [Zk,Xh];rfl
theorem a9W (z:Str) (r:List Str):inV (.str z) (r.map V.str)=decide (z∈r):=by
 unfold inV
 rw [Xu,Ze,decide_eq_true_eq]
 constructor
 ·rintro ⟨v,hv,e⟩
  obtain ⟨l,hl,rfl⟩:=Ql.mp hv
  have e':(l == z)=true:=e
  rw [←eq_of_beq e'];exact hl
 ·intro h
  exact ⟨.str z,Ql.mpr ⟨z,h,rfl⟩,(beq_self_eq_true z:(z == z)=true)⟩
theorem a5q (qs:List Str):(qs.map V.str).all a4H=true:=by
 rw [Zx];intro v hv
 obtain ⟨l,_,rfl⟩:=Ql.mp hv;rfl
theorem a3c {K:Qd} {H:Hp} {Q:VK} {z:Str} {a:Addr} {r:List Str} (h:SqL K H a (r.map V.str)) (q:Q (.bl (decide (z∈r))) H):b9l K (.str z) (.ref a) H Q:=
 .inr ⟨a,_,rfl,.inl h,rfl,a5q _,by rw [if_neg Qx,a9W];exact q⟩
theorem a7X {K:Qd} {H:Hp} {Q:VK} {z:Str} {a:Addr} {r:List Str} (h:SqL K H a (r.map V.str)) (q:Q (.bl (!decide (z∈r))) H):a6A K (.str z) (.ref a) H Q:=
 .inr ⟨a,_,rfl,.inl h,rfl,a5q _,by rw [if_pos rfl,a9W];exact q⟩
theorem none_of {H H':Hp} (s:a0f H H') {p:Addr} (h:H' p=none):H p=none:=by
 cases e:H p with
 | none=>rfl
 | some o=>rw [s _ _ e] at h;cases h
def b4h:V→List V→Hp→VK→Prop:=fun x vs H Q=>∃(a:Addr) (kvs:List (Key×V)),x=.ref a∧vs=[]∧H a=some (.dK kvs)∧Q .non (upd H a (.dK []))
section
variable {X:Cx}
theorem b3Y {K:Qd} {pos:Pos} {es:List Expr} {k:Nat} {t:TGs} {n:Nat} (hK:X.K=K) (hc:X.calm=true) (h:PGs X es t)
  (hn:(assignEach es X.env).length=n:=by rfl) (hst:(assignEach es X.env).findIdx? (·.1)=none:=by rfl):PG X (.Tuple es k pos) (b8S K n t):=hK ▸ b3o hc h hn hst
theorem a9M:MtM X "dict.clear" b4h:=by
 intro pins s σ H x vs v us Q I rx rv h
 obtain ⟨a,kvs,rfl,rfl,hH,q⟩:=h
 cases rx
 have hus:=rv.zero
 subst hus
 exact b5t I hH fun s' I'=>⟨.non,_,I',rfl,q⟩
end
theorem b0V:bootBuiltins "min"=some (.builtin "min"):=by decide+kernel
end L2
namespace L2
open PySem PySem.Spec PyProof.Rows PySem.W
def Ite (K:Qd) (a:Addr):It:=
 ⟨fun i H=>∃xs x,SqL K H a xs∧xs[i]?=some x,fun i H x H'=>∃p v,H p=none∧(∀xs,SqL K H a xs→xs[i]?=some v)∧x=.ref p∧H'=upd H p (.tup [.int i,v]),fun i H=>∃xs,SqL K H a xs∧xs.length≤i⟩
def b2d (K:Qd) (ta:TA):TI:=fun σ H R=>ta σ H fun vs H1=>∃a,vs=[.ref a]∧(∃xs,SqL K H1 a xs)∧R (Ite K a) H1
theorem b8q {K:Qd} {a:Addr} {xs:List V} {js:List (Option Nat)} {te:TE} {σ:St} {H:Hp} {Q:VK} (hn:xs.length≤sizeLine) (σr:St) (hσ:a1w js σ=none::none::σr) (Pr:Addr→Nat→V→Hp→Prop)
  (mono:∀D i v (H1 H2:Hp),(∀b o,b≠D→H1 b=some o→H2 b=some o)→Pr D i v H1→Pr D i v H2)
  (ha:SqL K H a xs) (hs:∀D i H' (R:V→Hp→Prop) (hi:i < xs.length),H D=none→a0f H H'→(∃ys,H' D=some (.lst ys))→(∀v H'',a0f H' H''→Pr D i v H''→R v H'')→te (some (.int i)::some xs[i]::σr) H' R)
  (hd:∀D H' ys,H D=none→a0f H H'→H' D=some (.lst ys)→ys.length=xs.length→(∀i v,ys[i]?=some v→Pr D i v H')→Q (.ref D) H'):a3W (Ite K a) js (b8S K 2 (a8w (a0m 0) (a8w (a0m 1) c0c))) b8n te σ H Q:=by
 intro D hD
 refine ⟨fun i m σ' H' ys=>m=xs.length - i∧i≤xs.length∧(∃u v,σ'=u::v::σr)∧a0f H H'∧H' D=some (.lst ys)∧ys.length=i∧∀j v,ys[j]?=some v→Pr D j v H',⟨xs.length,by simp,Xa _,⟨none,none,hσ⟩,a0f.upd hD,a0d,rfl,fun j v e=>by simp at e⟩,?_⟩
 rintro i m σ' H' ys ⟨rfl,hi,⟨u,v,rfl⟩,s,h,hl,hp⟩
 refine ⟨h,?_⟩
 by_cases hlt:i < xs.length
 ·refine .inr ⟨⟨xs,xs[i],s.seq ha,Qc hlt⟩,by omega,?_⟩
  rintro x H2 ⟨p,w,hpn,hw,rfl,rfl⟩
  have ew:w=xs[i]:=by have:=hw xs (s.seq ha);rw [Qc hlt] at this;exact (Option.some.inj this).symm
  subst ew
  obtain ⟨H3,e3,s3,h3⟩:∃H3,upd H' p (.tup [.int i,xs[i]])=H3∧a0f H' H3∧H3 p=some (.tup [.int i,xs[i]]):=⟨_,rfl,a0f.upd hpn,a0d⟩
  rw [e3]
  refine ⟨p,_,rfl,SqT.of h3,rfl,_,_,rfl,_,_,rfl,rfl,?_⟩
  unfold b8n;dsimp only
  rw [if_pos rfl]
  show te (some (.int i)::some xs[i]::σr) H3 _
  refine hs D i H3 _ hlt hD (s.trans s3) ⟨_,s3 _ _ h⟩ fun v H'' s2 pv=>⟨s2 _ _ (s3 _ _ h),xs.length - (i+1),by omega,rfl,hlt,⟨_,_,rfl⟩,?_,a0d,by simp [hl],fun j v' e=>?_⟩
  ·intro b o e
   rw [a0a (a0c e hD)];exact s2 _ _ (s3 _ _ (s b o e))
  ·have up:∀b o,b≠D→H'' b=some o→upd H'' D (.lst (ys++[v])) b=some o:=fun b o hb q=>by rw [a0a hb];exact q
   by_cases hj:j < ys.length
   ·rw [Xx hj] at e
    exact mono _ _ _ _ _ up (mono _ _ _ _ _ (fun b o _ q=>s2 _ _ (s3 _ _ q)) (hp j v' e))
   ·have hj2:=(Qm.mp e).1
    have ej:j=ys.length:=by simp at hj2;omega
    subst ej
    rw [Xv (Qi _),Uh] at e
    cases e
    rw [hl];exact mono _ _ _ _ _ up pv
 ·have e:i=xs.length:=by omega
  subst e
  exact .inl ⟨⟨xs,s.seq ha,Qi _⟩,hd D H' ys hD s h hl hp⟩
def a7E (K:Qd) (te:TE):TE:=fun σ H Q=>te σ H fun x H1=>∃a xs,x=.ref a∧SqL K H1 a xs∧∀p,H1 p=none→Q (.ref p) (upd H1 p (.lst xs.reverse))
def Itv (o:Obj) (a:Addr) (kvs:List (Key×V)):It:=⟨fun i H=>H a=some (.frz o (.dK kvs))∧i < kvs.length,fun i H x H'=>H'=H∧∃k,kvs[i]?=some (k,x),fun i H=>H a=some (.frz o (.dK kvs))∧kvs.length≤i⟩
def b9f (td:TE):TI:=fun σ H R=>td σ H fun x H1=>∃(a:Addr) (kvs:List (Key×V)),x=.ref a∧H1 a=some (.dK kvs)∧∀o,R (Itv o a kvs) (upd H1 a (.frz o (.dK kvs)))
def b8o (te:TE):TE:=fun σ H Q=>∃(a:Addr) (kvs:List (Key×V)),H a=some (.dK kvs)∧te σ H fun v H1=>∃o,H1 a=some (.frz o (.dK kvs))∧Q v (upd H1 a (.dK kvs))
section
variable {X:Cx} {pins:List (Addr×Obj)} {σ:St} {H:Hp} {s:Shared} {h':Heap} {tg:Expr}
theorem Inv.turned2 {t':Nat} {e it:Addr} (I:Inv X pins σ H s) (k:∀b o,b≠e→b≠it→s.heap.get? b=some o→h'.get? b=some o) (f1:a7i X pins H e) (f2:a7i X pins H it):Inv X pins σ H {s with heap:=h',toks:=t'}:=by
 obtain ⟨a0,a1,a2,a3,a4,a5⟩:=f1
 obtain ⟨b0,b1,b2,b3,b4,b5⟩:=f2
 have ne:∀b u,H b=some u→b≠e:=fun b u q z=>by rw [z,a0] at q;cases q
 have nit:∀b u,H b=some u→b≠it:=fun b u q z=>by rw [z,b0] at q;cases q
 refine I.step (g':=s.gens) (d':=s.drawn) (ch:=[e,it]) (fun b hb=>?_) (fun b o _ _ hc q _=>k b o (fun z=>hc (by simp [z])) (fun z=>hc (by simp [z])) q) (fun b o _ _ hc q _=>⟨o.slots,k b o (fun z=>hc (by simp [z])) (fun z=>hc (by simp [z])) q⟩) (fun _ _ _ _ n=>n)
  (fun b o hc q=>⟨o,k b o (fun z=>hc (by simp [z])) (fun z=>hc (by simp [z])) q⟩) (fun _ _ q=>q) (fun _ _ _ q=>q) (fun b ps q=>⟨#[],by rw [q];simp⟩) (fun m hm=>?_) (fun b u q=>?_) I.bare
 ·rcases Qy.mp hb with z | z
  ·subst z;exact ⟨a3,a1,a4,a5⟩
  ·rw [Xm.mp z];exact ⟨b3,b1,b4,b5⟩
 ·obtain ⟨o,es,ep,ho,r⟩:=hm
  exact ⟨o,es,ep,k _ o (Ne.symm a1) (Ne.symm b1) ho,r⟩
 ·refine (I.hok b u q).stay (fun c v hc z=>k c v ?_ ?_ z) (fun _ z=>z) fun _ _ z=>z
  ·rcases hc with z | z
   ·rw [z];exact ne b u q
   ·exact ne c _ z
  ·rcases hc with z | z
   ·rw [z];exact nit b u q
   ·exact nit c _ z
theorem b0I {P:Program} {w:World} {K:Qd} {elts:List Expr} {x1:Nat} {pos:Pos} (a e it:Addr) (hei:e≠it):b1G P w K (.Tuple elts x1 pos) (Ite K a) [e,it] e (fun i h=>(∃old,IsEnum h e it i old)∧h.IsListIter it a i) where
 mem:=by simp
 obj:=fun i h st b hb=>by
  obtain ⟨⟨old,he⟩,o,e1,c,d⟩:=st
  rcases Qy.mp hb with z | z
  ·subst z;exact ⟨_,he,fun v z=>by cases z⟩
  ·rw [Xm.mp z];exact ⟨o,e1,fun v z=>by rw [d] at z;cases z⟩
 keep:=fun i h h' st k=>by
  obtain ⟨⟨old,he⟩,hit⟩:=st
  exact ⟨⟨old,k e (by simp) _ he⟩,hit.at fun o q=>k it (by simp) o q⟩
 item:=by
  intro X hP hw hK hc i pins s σ H E I hf st hg
  subst hP hw hK
  obtain ⟨⟨old,he⟩,hit⟩:=st
  obtain ⟨xs,x,hq,hx⟩:=hg
  obtain ⟨its,rv,p,hz⟩:=I.list hq
  obtain ⟨u,hu,ru⟩:=rv.get hx
  refine wpAny_pyNext_enum_item he hit p.isList (x:=u) (by simpa using hu) hei fun h' ho hit' hT hsz hk=>?_
  refine ⟨_,rfl,?_⟩
  refine wpAny_letOwnedTupleGo_enum ho fun h2 he2 hs2=>?_
  have hfr:H s.heap.objs.size=none:=I.hok.fresh (Qi _)
  have helt:e < s.heap.objs.size:=Qu he
  have hilt:it < s.heap.objs.size:=by obtain ⟨_,z,_⟩:=hit;exact Qu z
  have hL:=Qw s.heap (o:={cls:=.type "tuple",data:=.seq #[.int i s.toks,u]}) rfl
  have I1:Inv X pins σ (upd H s.heap.objs.size (.tup [.int i,x])) {s with heap:=s.heap.push {cls:=.type "tuple",data:=.seq #[.int i s.toks,u]},toks:=s.toks+1}:=
   I.laid (t':=s.toks+1) (fun b o q=>Qk _ q) (Qi _) ⟨by simp only [Qo,Xb];decide,[.int i s.toks,u],.cons ⟨_,rfl⟩ (.cons ru .nil),⟨_,hL,rfl,_,rfl⟩⟩
  have up:∀b,b < s.heap.objs.size→upd H s.heap.objs.size (.tup [.int i,x]) b=H b:=fun b hb=>a0a (Xg hb)
  have fp:∀b,b < s.heap.objs.size→a7i X pins H b→a7i X pins (upd H s.heap.objs.size (.tup [.int i,x])) b:=fun b hb ⟨c0,c1,c2,c3,c4,c5⟩=>⟨by rw [up b hb];exact c0,c1,c2,c3,c4,c5⟩
  have I2:Inv X pins σ (upd H s.heap.objs.size (.tup [.int i,x])) {s with heap:=h2,toks:=s.toks+1}:=by
   refine I1.turned2 (h':=h2) (t':=s.toks+1) (fun b o h1 h3 q=>?_) (fp e helt (hf e (by simp))) (fp it hilt (hf it (by simp)))
   rw [hs2.2 b h1]
   by_cases z:b=s.heap.objs.size
   ·subst z
    have q':(s.heap.push {cls:=.type "tuple",data:=.seq #[.int i s.toks,u]}).get? s.heap.objs.size=some o:=q
    rw [hL] at q';rw [←q'];exact hT
   ·have q':s.heap.get? b=some o:=by
     have q2:(s.heap.push {cls:=.type "tuple",data:=.seq #[.int i s.toks,u]}).get? b=some o:=q
     rw [Heap.get?_push_ne _ _ _ z] at q2;exact q2
    exact hk b o h1 h3 q'
  exact ⟨.ref s.heap.objs.size,_,I2,rfl,⟨s.heap.objs.size,x,hfr,fun ys hy=>by rw [I.list_inj hy hq];exact hx,rfl,rfl⟩,⟨⟨_,by simpa using he2⟩,hit'.at fun o y=>(hs2.2 it hei.symm).trans y⟩,fun b hb=>by
   have hb':b < s.heap.objs.size:=by
    rcases Qy.mp hb with z | z
    ·rw [z];exact helt
    ·rw [Xm.mp z];exact hilt
   rw [up b hb'];exact (hf b hb).1⟩
 done:=by
  intro X hP hw hK hc i pins s σ H E I hf st hg
  subst hP hw hK
  obtain ⟨⟨old,he⟩,hit⟩:=st
  obtain ⟨xs,hq,hx⟩:=hg
  obtain ⟨its,rv,p,hz⟩:=I.list hq
  have hl:=rv.length
  exact wpAny_pyNext_enum_end (I.ok.hd hc) he hit p.isList (by simp;omega) fun h' hk=>⟨rfl,I.turned2 (t':=s.toks) (fun b o h1 h3 q=>hk b o h3 q) (hf e (by simp)) (hf it (by simp))⟩
 self:=fun _ _ _ _ _ st h=>by
  obtain ⟨⟨old,he⟩,_⟩:=st
  exact wpAny_pyIter_enum he h
theorem a3Q:bootBuiltins "enumerate"=some (.type "enumerate"):=by decide+kernel
theorem b5v {a:Expr} {ta:TA} {p pos:Pos} {elts:List Expr} {x1:Nat} {tpos:Pos} (hg:Gl X "enumerate") (hm:X.mg "enumerate"=none) (ha:PA X [a] ta) (hs:starEach [a] X.env=[(false,eval a X.env)]:=by rfl):PI X (.Tuple elts x1 tpos) (.Call (.Name "enumerate" p) [a] [] pos) (b2d X.K ta):=by
 intro pins s σ H R I h
 refine Call_ (a2U I hg hm a3Q (PyProof.Rows.callWith_type1 (thn (ha pos pins s σ H _ I h) fun us s1 ⟨vs,H1,I1,r1,q1⟩=>?_) hs rfl))
 obtain ⟨l,e,⟨xs,hq⟩,q⟩:=q1
 subst e
 cases r1 with
 | cons r rr=>
  cases rr
  cases r
  obtain ⟨its,rv,pl,hz⟩:=I1.list hq
  refine call_enumerate_list pl.isList fun h' he hit hsz hk=>?_
  refine wpAny_pyIter_enum he ?_
  have I2:=I1.kept (t':=s1.toks) hk
  refine ⟨s1.heap.objs.size+1,[s1.heap.objs.size+1,s1.heap.objs.size],_,_,H1,rfl,I2,b0I l _ _ (Nat.succ_ne_self _),⟨⟨_,he⟩,hit⟩,fun b hb=>?_,q⟩
  have hb':s1.heap.objs.size≤b:=by
   rcases Qy.mp hb with z | z
   ·rw [z];exact Zo _
   ·rw [Xm.mp z];exact Qi _
  exact I1.fpOk hb' (I1.hok.fresh hb')
theorem b5p {K:Qd} {e:Expr} {ta:TE} {f:Str} {pos:Pos} (hK:X.K=K) (he:PE X e ta) (hb:attributeBase e f X.env (eval e X.env)=eval e X.env):PE X (.Attribute e f pos) (a4q K ta f):=hK ▸ b3P he hb
end
end L2
namespace L2
open PySem PySem.Spec PyProof.Rows PySem.W
section
variable {prog:Program} {w:World} {A:Around} {E:Value→Shared→Prop} {s:Shared}
theorem b1c:typeLookup (.type "list_reverseiterator") "__len__"=pure none:=by rw [typeLookup_type,builtinLookup_eq_fast];kernel_rfl
theorem b2f:typeLookup (.type "list_reverseiterator") "__length_hint__"=pure (some (.builtin "list_reverseiterator.__length_hint__")):=by rw [typeLookup_type,builtinLookup_eq_fast];kernel_rfl
theorem a3Y {I l:Addr} {i:Int} {Q:Bool→Shared→Prop} (hit:s.heap.IsRevIter I l i) (h:Q false s):wpAny (model prog w) A (Builtin.List.listLengthHint (.ref I)) Q E s:=by
 unfold Builtin.List.listLengthHint
 refine wpAny_bind (wpAny_specialOf hit.typeIs b1c ?_)
 show wpAny _ A (specialOf (Value.ref I) (Jw "__length_hint__") >>= _) _ _ _
 refine wpAny_bind (wpAny_specialOf hit.typeIs b2f ?_)
 generalize hid:("list_reverseiterator.__length_hint__":String)=id0
 wp_delta
 rw [show splitId id0=some ("list_reverseiterator","__length_hint__") from by subst hid;decide+kernel]
 subst hid
 refine wpAny_bind (wpAny_isInstance (b:=true) hit.typeIs (by rw [isSubtype_type];kernel_rfl) ?_)
 exact wpAny_pure h
theorem a3m {R:Result→Shared→Prop} {I l:Addr} {items:Array Value} (hh:A.handled=none) (hit:s.heap.IsRevIter I l ((items.size:Int) - 1)) (hl:s.heap.IsList l items) (hlI:l≠I) (hsz:items.size≤sizeLine) (S:Addr) (res:Value) (c₀:Nat)
  (hS:s.heap.get? S=some {cls:=.type "list",data:=.seq #[] c₀}) (hSI:S≠I) (hSl:S≠l)
  (hR:∀h' tk acc' c',(∀b o,b≠S→b≠I→s.heap.get? b=some o→h'.get? b=some o)→h'.get? S=some {cls:=.type "list",dict:=none,data:=.seq acc' c',slots:=#[]}→
   ItemsOf (fun i v=>items[items.size - 1 - i]?=some v) acc' items.size→R (.ok (.ret res)) {s with heap:=h',toks:=tk}):
  wpAny (model prog w) A.in1 (Builtin.List.listExtendWith (.ref S) (.ref I) res)
   (fun fin s'=>match fin with | .done f=>R (.ok f) s' | .again c'=>c'.quiet=true∧codeAny (model prog w) A c' R s') (fun e s'=>R (.error e) s') s:=by
 have W:=(Walks.listRev (prog:=prog) (w:=w) (A:=A.in1) hh I l hlI items).toS
 have hSf:S∉[I,l]:=fun hm=>by
  rcases Qy.mp hm with z | z
  ·exact hSI z
  ·exact hSl (Xm.mp z)
 unfold Builtin.List.listExtendWith
 refine wpAny_bind (wpAny_typeOf hit.typeIs ?_)
 have h1:Builtin.List.listSameRef (.ref S) (.ref I)=false:=by simp [Builtin.List.listSameRef,hSI]
 have h2:(Value.type "list_reverseiterator" == Value.type "list")=false:=by decide
 have h3:(Value.type "list_reverseiterator" == Value.type "tuple")=false:=by decide
 simp only [h1,h2,h3,Bool.or_false,Zg,if_false]
 refine wpAny_bind (wpAny_pyIter_revIter hit ?_)
 refine wpAny_bind (wpAny_holding (a3Y hit ?_))
 refine wpAny_ite_split (fun hab=>absurd hab (by decide)) (fun _=>wpAny_pure ⟨plainId_quiet F.plain_extend_loop _,codeAny_extend_loopS W hsz S hSf res items.size 0 _ #[] c₀ rfl (Xa _) ⟨Xa _,by simpa using hit,hl⟩ hS (ItemsOf.nil _) fun s' acc' c' hm hS' hacc=>?_⟩)
 rw [Moved.eq_with hm]
 refine hR s'.heap s'.toks acc' c' (fun b o hb hbI e=>hm.heap b o (fun hmem=>?_) e) hS' hacc
 rcases Qy.mp hmem with e' | hmem
 ·exact hb e'
 ·exact hbI (Xm.mp hmem)
theorem a4Q {Q:Value→Shared→Prop} {I l:Addr} {items:Array Value} (hh:A.handled=none) (hit:s.heap.IsRevIter I l ((items.size:Int) - 1)) (hl:s.heap.IsList l items) (hlI:l≠I) (hsz:items.size≤sizeLine)
  (hQ:∀h' tk acc' c',(∀b o,b≠I→s.heap.get? b=some o→h'.get? b=some o)→
   h'.get? s.heap.objs.size=some {cls:=.type "list",dict:=none,data:=.seq acc' c',slots:=#[]}→ItemsOf (fun i v=>items[items.size - 1 - i]?=some v) acc' items.size→Q (.ref s.heap.objs.size) {s with heap:=h',toks:=tk}):
  wpAny (model prog w) A (call (.type "list") [.ref I]) Q E s:=by
 refine callType_codes (Q₁:=fun obj s₁=>obj=.ref s.heap.objs.size∧s₁={s with heap:=s.heap.push {cls:=.type "list",data:=.seq #[]}}) F.called_list (F.typeCall_list_1 _) F.entry_list_init
  (code_list_new _ ⟨rfl,rfl⟩) fun obj s₁ h₁=>?_
 obtain ⟨rfl,rfl⟩:=h₁
 have hS:(s.heap.push {cls:=.type "list",data:=.seq #[]}).get? s.heap.objs.size=some {cls:=.type "list",data:=.seq #[]}:=Qw _ rfl
 have hIlt:I < s.heap.objs.size:=by obtain ⟨_,z,_⟩:=hit;exact Qu z
 have hllt:l < s.heap.objs.size:=by obtain ⟨_,z,_⟩:=hl;exact Qu z
 refine ⟨⟨_,hS,rfl⟩,F.args_list_init_2 _ _,?_⟩
 show wpAny _ _ (do let old ←Builtin.List.listItems (.ref s.heap.objs.size);Builtin.List.listUpdate (.ref s.heap.objs.size) (fun _=>#[]);letGo old.toList.reverse;Builtin.List.listExtendWith (.ref s.heap.objs.size) (.ref I) .none) _ _ _
 refine wpAny_bind ?_
 unfold Builtin.List.listItems
 refine wpAny_bind (wpAny_seqItems hS rfl (wpAny_pure ?_))
 show wpAny _ _ (updateSeq s.heap.objs.size (fun _=>#[]) >>= fun _=>letGo (#[]:Array Value).toList.reverse >>= fun _=>Builtin.List.listExtendWith (.ref s.heap.objs.size) (.ref I) .none) _ _ _
 refine wpAny_bind (wpAny_updateSeq hS rfl ?_)
 have hS₂:=Wm (Obj.mapSeq (fun _=>(#[]:Array Value))) hS rfl
 have oth:∀b o,b≠s.heap.objs.size→s.heap.get? b=some o→((s.heap.push {cls:=.type "list",data:=.seq #[]}).update s.heap.objs.size (Obj.mapSeq (fun _=>(#[]:Array Value)))).get? b=some o:=
  fun b o hb e=>(Jz _ _ (Ne.symm hb)).trans (Qk _ e)
 refine wpAny_bind (wpAny_letGo ?_)
 refine a3m (A:=A.in1) hh (hit.at fun o e=>oth I o (Xg hIlt) e) (hl.at fun o e=>oth l o (Xg hllt) e) hlI hsz s.heap.objs.size .none _ hS₂ (Jh hIlt) (Jh hllt) fun h' tk acc' c' hk hS' hacc=>?_
 exact ⟨rfl,hQ h' tk acc' c' (fun b o hb e=>hk b o (Xg (Qu e)) hb (oth b o (Xg (Qu e)) e)) hS' hacc⟩
end
section
variable {X:Cx}
theorem a4b:bootBuiltins "reversed"=some (.type "reversed"):=by decide+kernel
theorem b1j {its:List Value} {acc:Array Value} (h:ItemsOf (fun i v=>its.toArray[its.toArray.size - 1 - i]?=some v) acc its.toArray.size):acc.toList=its.reverse:=by
 obtain ⟨h1,h2⟩:=h
 have h1':acc.size=its.length:=by simpa using h1
 refine Jy fun i=>?_
 by_cases hi:i < its.length
 ·have hi':i < acc.size:=by omega
  have e:its[its.length - 1 - i]?=some acc[i]:=by simpa using h2 i acc[i] (Array.getElem?_eq_getElem hi')
  rw [List.getElem?_reverse hi,e]
  simp [hi']
 ·rw [Yb (by simp;omega),Yb (by simp;omega)]
theorem a7G {e:Expr} {te:TE} {p1 p2 q1 q2:Pos} (hc:X.calm=true) (hg1:Gl X "list") (hm1:X.mg "list"=none) (hg2:Gl X "reversed") (hm2:X.mg "reversed"=none) (he:PE X e te)
  (hs1:starEach [Expr.Call (.Name "reversed" p2) [e] [] q2] X.env=[(false,eval (.Call (.Name "reversed" p2) [e] [] q2) X.env)]:=by rfl) (hs2:starEach [e] X.env=[(false,eval e X.env)]:=by rfl):
  PE X (.Call (.Name "list" p1) [.Call (.Name "reversed" p2) [e] [] q2] [] q1) (a7E X.K te):=by
 intro pins s σ H Q I h
 refine Call_ (a2U I hg1 hm1 a1n (PyProof.Rows.callWith_type1 ?_ hs1 rfl))
 rw [hs1]
 show wpAny _ _ (spliced ((false,eval (.Call (.Name "reversed" p2) [e] [] q2) X.env)::[])) _ _ s
 refine Calls.spliced_cons ?_
 refine Call_ (a2U I hg2 hm2 a4b (PyProof.Rows.callWith_type1 ?_ hs2 rfl))
 rw [hs2]
 show wpAny _ _ (spliced ((false,eval e X.env)::[])) _ _ s
 refine Calls.spliced_cons (thn (he pins s σ H _ I h) fun u s1 ⟨x,H1,I1,r1,q1⟩=>?_)
 refine Calls.spliced_nil ?_
 obtain ⟨a,xs,rfl,hq,q⟩:=q1
 cases r1
 obtain ⟨its,rv,pl,hz⟩:=I1.list hq
 have hl:=pl.isList
 have hlt:a < s1.heap.objs.size:=by obtain ⟨_,z,_⟩:=hl;exact Qu z
 refine call_reversed_list hl ?_
 refine Calls.spliced_nil ?_
 have hlen:=rv.length
 refine a4Q (I:=s1.heap.objs.size) (l:=a) (items:=its.toArray) (I1.ok.hd hc) ⟨_,Qw _ rfl,rfl,rfl⟩ (hl.push _) (Xg hlt) (by rw [Qr,←hlen];exact hz) fun h' tk acc' c' hk hS' hacc=>?_
 have hp:(s1.heap.push (revObj a ((its.toArray.size:Int) - 1))).objs.size=s1.heap.objs.size+1:=Ji ..
 have keep:∀b u,s1.heap.get? b=some u→h'.get? b=some u:=fun b u z=>hk b u (Xg (Qu z)) (Qk _ z)
 have hfr:H1 (s1.heap.objs.size+1)=none:=I1.hok.fresh (Zo _)
 have hS2:h'.get? (s1.heap.objs.size+1)=some {cls:=.type "list",dict:=none,data:=.seq acc' c',slots:=#[]}:=by rw [←hp];exact hS'
 have ea:acc'=its.reverse.toArray:=by rw [←b1j hacc]
 refine ⟨.ref (s1.heap.objs.size+1),upd H1 (s1.heap.objs.size+1) (.lst xs.reverse),I1.laid (t':=tk) keep (Zo _) ⟨by rw [Wv];exact hz,its.reverse,c',rv.reverse,by rw [hS2,ea]⟩,?_,q _ hfr⟩
 show Value.ref _=Value.ref _
 rw [←hp]
end
section
variable {X:Cx} {pins:List (Addr×Obj)} {σ:St} {H:Hp} {s:Shared} {a:Addr} {kvs:List (Key×V)} {tg:Expr}
theorem Inv.freeze (I:Inv X pins σ H s) (e:H a=some (.dK kvs)):∃o,s.heap.get? a=some o∧Inv X pins σ (upd H a (.frz o (.dK kvs))) s:=by
 obtain ⟨z,hd,vs,rel,dd⟩:=a2u I.hok e
 obtain ⟨o,es,ep,ho,r⟩:=id dd
 exact ⟨o,ho,I.write (x:=a) (e:=a) (t':=s.toks) (h':=s.heap) (by rw [e];exact True.intro) (.inl rfl) (fun b u _ q=>q) ⟨o,ho⟩ ⟨ho,z,hd,vs,rel,dd⟩⟩
theorem Inv.thaw {o:Obj} (I:Inv X pins σ H s) (e:H a=some (.frz o (.dK kvs))) (hn:∀ob u,X.H₀ a≠some (.frz ob u)):Inv X pins σ (upd H a (.dK kvs)) s:=by
 have ne:∀b,H b=none→b≠a:=fun b q z=>by rw [z,e] at q;cases q
 refine ⟨I.ok,I.os,I.bare,⟨I.base.keep,I.base.slot,fun b ob q n hx=>?_,I.base.there,fun b xs q=>?_,fun b ob u q=>?_,fun b ps q=>?_⟩,I.loc,I.cell,?_,fun x c q=>?_,fun p hp=>?_,fun b u q=>?_,I.len⟩
 ·have:=I.base.free b ob q n hx;rw [a0a (ne b this)];exact this
 ·have:=I.base.tups b xs q;rw [a0a (a0B this e (by intro z;cases z))];exact this
 ·have:=I.base.frzs b ob u q
  by_cases z:b=a
  ·subst z;exact absurd q (hn _ _)
  ·rw [a0a z];exact this
 ·obtain ⟨m,h⟩:=I.base.tbls b ps q
  exact ⟨m,by rw [a0a (a0B h e (by intro z;cases z))];exact h⟩
 ·rw [a0a (ne _ I.free)];exact I.free
 ·rw [a0a (ne _ (I.freeC x c q))];exact I.freeC x c q
 ·obtain ⟨h1,h2,h3⟩:=I.pin p hp
  exact ⟨h1,by rw [a0a (ne _ h2)];exact h2,h3⟩
 ·have ow:∀c y,H c=some (.own y)→upd H a (.dK kvs) c=some (.own y):=fun c y r=>by rw [a0a (a0B r e (by intro z;cases z))];exact r
  have tu:∀c xs,H c=some (.tup xs)→upd H a (.dK kvs) c=some (.tup xs):=fun c xs r=>by rw [a0a (a0B r e (by intro z;cases z))];exact r
  by_cases z:b=a
  ·subst z
   rw [a0d] at q;cases q
   exact (show a0Q X.prog X.w H s.heap b (.dK kvs) from (I.hok b _ e).2).stay (fun c v _ r=>r) (fun c r=>ow c _ r) tu
  ·rw [a0a z] at q
   exact (I.hok b u q).stay (fun c v _ r=>r) (fun c r=>ow c _ r) tu
theorem b8K:∀{r:List (Key×V)} {rs:List (Key×Value)},KV r rs→∀{i:Nat} {p:Key×V},r[i]?=some p→∃q,rs[i]?=some q∧a0H p.2 q.2:=by
 intro r rs h
 unfold KV at h
 induction h with
 | nil=>intro i p e;simp at e
 | @cons p q ps qs h t ih=>
  intro i p' e
  cases i with
  | zero=>cases e;exact ⟨q,rfl,h.2⟩
  | succ i=>exact ih e
theorem a9v {P:Program} {w:World} {K:Qd} {tg:Expr} (o:Obj) (a it:Addr) (kvs:List (Key×V)):b1G P w K tg (Itv o a kvs) [it] it (fun i h=>∃es ep,o.data=.dict es ep∧h.IsValIter it a i kvs.length ep) where
 mem:=by simp
 obj:=fun i h st b hb=>by
  have e:b=it:=by simpa using hb
  subst e
  obtain ⟨_,_,_,ob,e,c,d⟩:=st
  exact ⟨ob,e,fun v z=>by rw [d] at z;cases z⟩
 keep:=fun i h h' st k=>by
  obtain ⟨es,ep,hd,hit⟩:=st
  exact ⟨es,ep,hd,hit.at fun o e=>k it (by simp) o e⟩
 item:=by
  intro X hP hw hK hc i pins s σ H E I hf st hg
  subst hP hw hK
  obtain ⟨es,ep,hd,hit⟩:=st
  obtain ⟨hfr,hi⟩:=hg
  obtain ⟨ho,z,hds,vs,rel,dd⟩:=(show a0Q X.prog X.w H s.heap a (.frz o (.dK kvs)) from I.hok a _ hfr)
  obtain ⟨o',es',ep',ho',hx,hdat,r⟩:=dd
  rw [ho] at ho';cases ho'
  rw [hd] at hdat;cases hdat
  have hm:s.heap.DictAt (a0k X.prog X.w) a vs ep:=⟨o,es,ho,hx,hd,r⟩
  have hl:=rel.length
  rw [hl] at hit
  obtain ⟨⟨k,u⟩,hq,ru⟩:=b8K rel (Qc hi)
  obtain ⟨f0,f1,f2,f3,f4,f5⟩:=hf it (by simp)
  refine wpAny_pyNext_values_item hit hm hq fun h' st' sb=>?_
  have I1:Inv X pins σ H {s with heap:=h'}:=I.turned (t':=s.toks) (fun b o hb e=>(sb.2 b hb).trans e) f0 f1 f3 f4 f5
  obtain ⟨ob,e,c,d⟩:=id st'
  exact ⟨u,rfl,b1u (s:={s with heap:=h'}) e c d (by decide) ⟨kvs[i].2,H,I1,ru,⟨rfl,kvs[i].1,Qc hi⟩,⟨es,ep,hd,by rw [hl];exact st'⟩,fun b hb=>(hf b hb).1⟩⟩
 done:=by
  intro X hP hw hK hc i pins s σ H E I hf st hg
  subst hP hw hK
  obtain ⟨es,ep,hd,hit⟩:=st
  obtain ⟨hfr,hi⟩:=hg
  obtain ⟨ho,z,hds,vs,rel,dd⟩:=(show a0Q X.prog X.w H s.heap a (.frz o (.dK kvs)) from I.hok a _ hfr)
  obtain ⟨o',es',ep',ho',hx,hdat,r⟩:=dd
  rw [ho] at ho';cases ho'
  rw [hd] at hdat;cases hdat
  have hm:s.heap.DictAt (a0k X.prog X.w) a vs ep:=⟨o,es,ho,hx,hd,r⟩
  have hl:=rel.length
  rw [hl] at hit
  obtain ⟨f0,f1,f2,f3,f4,f5⟩:=hf it (by simp)
  exact wpAny_pyNext_values_end (I.ok.hd hc) hit hm (Yb (by omega)) fun h' eb=>⟨rfl,I.turned (t':=s.toks) (fun b o hb e=>eb b o hb e) f0 f1 f3 f4 f5⟩
 self:=fun _ _ _ _ _ st h=>by
  obtain ⟨es,ep,hd,hit⟩:=st
  exact wpAny_pyIter_valiter hit h
theorem b4g {o:Expr} {td:TE} {apos cpos:Pos} (ho:PE X o td) (hbase:attributeBase o "values" X.env (eval o X.env)=eval o X.env:=by rfl) (hline:(apos.endLine == cpos.line)=true:=by rfl):PI X tg (.Call (.Attribute o "values" apos) [] [] cpos) (b9f td):=by
 intro pins s σ H R I h
 refine wpAny_Call_method0_late hbase hline (thn (ho pins s σ H _ I h) fun v s1 ⟨x,H1,I1,r1,q1⟩=>?_)
 obtain ⟨a,kvs,rfl,hH,q⟩:=q1
 cases r1
 obtain ⟨t1,t2,_⟩:=a7c I1 (.inl ⟨kvs,.inl hH⟩)
 obtain ⟨z,hds,vs,rel,dd⟩:=a2u I1.hok hH
 obtain ⟨ob,es,ep,hob,hx,hdat,r⟩:=id dd
 refine ⟨"dict","dict.values",Ys,Vp,PySem.F.type_dict_values,t1,t2,Calls.callWith_builtin rfl (PySem.evalArgs_none ?_)⟩
 refine call_meetsIn Vp t1 PySem.F.entry_dict_values (PySem.F.args_dict_values_1 _) (meets_dict_values (a0k X.prog X.w) a hds) ⟨⟨vs,dd⟩,?_⟩
 have hm:(s1.heap.push {cls:=.type "dict_values",data:=.fields #[.ref a]}).DictAt (a0k X.prog X.w) a vs ep:=⟨ob,es,Qk _ hob,hx,hdat,r⟩
 refine wpAny_pyIter_values (knd:=a0k X.prog X.w) (v:=s1.heap.objs.size) (d:=a) ⟨_,Qw _ rfl,rfl,rfl⟩ hm ?_
 have keep:∀b u,s1.heap.get? b=some u→((s1.heap.push {cls:=.type "dict_values",data:=.fields #[.ref a]}).push {cls:=.type "dict_valueiterator",data:=.fields #[.ref a,.int 0 0,.int vs.length 0,.int ep 0]}).get? b=some u:=fun b u e=>Qk _ (Qk _ e)
 have I2:=I1.kept (t':=s1.toks) keep
 obtain ⟨o2,ho2,I3⟩:=I2.freeze hH
 have e2:o2=ob:=by
  have:=keep a ob hob
  rw [show _=some o2 from ho2] at this
  exact Option.some.inj this
 subst e2
 have hl:=rel.length
 have hsz:(s1.heap.push {cls:=.type "dict_values",data:=.fields #[.ref a]}).objs.size=s1.heap.objs.size+1:=Ji ..
 have hfr:∀b,s1.heap.objs.size≤b→upd H1 a (.frz o2 (.dK kvs)) b=none:=fun b hb=>by
  have hn:=I1.hok.fresh (a:=b) hb
  rw [a0a (a0c hH hn).symm];exact hn
 refine ⟨(s1.heap.push {cls:=.type "dict_values",data:=.fields #[.ref a]}).objs.size,[(s1.heap.push {cls:=.type "dict_values",data:=.fields #[.ref a]}).objs.size],_,_,_,rfl,I3,a9v o2 a _ kvs,⟨es,ep,hdat,_,Qw _ rfl,rfl,by rw [hl];rfl⟩,fun b hb=>?_,q o2⟩
 have e:b=s1.heap.objs.size+1:=by rw [←hsz];simpa using hb
 subst e
 exact I1.fpOk (Zo _) (hfr _ (Zo _))
theorem b4r {e:Expr} {te:TE} (he:PE X e te):PE X e (b8o te):=by
 intro pins s σ H Q I h
 obtain ⟨a,kvs,hH,h⟩:=h
 refine thn (he pins s σ H _ I h) fun v s1 ⟨x,H1,I1,r1,o,e1,q⟩=>?_
 refine ⟨x,_,I1.thaw e1 (fun ob u z=>?_),r1,q⟩
 have:=I.base.frzs a ob u z
 rw [hH] at this;cases this
end
structure b3f (K:Qd) (x qual:Str) (st:Stmt) (f:Addr) (fd:FuncData) (T:Addr) (ds:List Value):Prop where
 ex:∃(oc:Value) (od:Option Addr) (kV doc pm:Value) (an:Option Addr) (cdv ct:Value) (osl:Array (Option Value)) (oT:Obj) (nT:Nat),
  fd=Yw x qual (a1H st) (a1f st) (a0b st) (.ref T) kV doc pm an cdv ct∧K.lookup f=some ⟨oc,od,.func fd,osl⟩∧Jj K cdv qual=true∧K.lookup T=some oT∧oT.data=.seq ds.toArray nT
 kp:Zf K (.ref f)=true
section
variable {P:Program} {w:World} {K:Qd} {mg:Str→Option Value} {base:Heap}
theorem b3f.ok {x qual:Str} {st:Stmt} {f:Addr} {fd:FuncData} {T:Addr} {ds:List Value} {N ps:List Str} {k:Nat} {sp:Sp} (F:b3f K x qual st f fd T ds) (S:a0g N ps (a0b st)) (len:∀vs H Q E,sp vs H Q E→vs.length=ps.length)
  (hbody:∀(cdv:Value) (A:Around) (outer:List Env) (s:Shared) (H:Hp) (vs:List V) (Q:VK) (E:XK),a2h k (A.deeper (envOfC qual (a0b st) s.heap.objs.size f cdv))→sp vs H Q E→
   ∃t,PSs (b3G CX0 P w K mg base N qual (a0b st) f cdv A outer s H E).nox (a1f st) t∧t {nx:=fun _ H'=>Q .non H',rt:=Q} (start N vs) H):a1a P w K mg base CX0 (k+1) f fd ps sp:=by
 obtain ⟨oc,od,kV,doc,pm,an,cdv,ct,osl,oT,nT,rfl,lk,hcd,_⟩:=F.ex
 refine b4X lk hcd S len fun A outer s H vs Q E hr hsp=>?_
 obtain ⟨t,h,q⟩:=hbody cdv A outer s H vs Q E hr hsp
 exact ⟨t,h.nox,q⟩
theorem b3f.binds {x qual:Str} {st:Stmt} {f:Addr} {fd:FuncData} {T:Addr} {ds:List Value} {ps:List Str} (es:List Value) (F:b3f K x qual st f fd T ds)
  (h:∀(kV doc pm:Value) (an:Option Addr) (cdv ct:Value) (us:List Value),(us++es).length=ps.length→∃k,bindArgs (Yw x qual (a1H st) (a1f st) (a0b st) (.ref T) kV doc pm an cdv ct) ⟨us,[]⟩=seqItems? (.ref T) >>= k∧k (some ds.toArray)=pure (ps.zip (us++es))):a0q K fd ps es:=by
 obtain ⟨oc,od,kV,doc,pm,an,cdv,ct,osl,oT,nT,rfl,lk,hcd,lT,hT⟩:=F.ex
 intro s us X hl
 obtain ⟨k,h1,h2⟩:=h kV doc pm an cdv ct us hl
 exact PySem.W.binds_K X rfl lT hT h1 h2
theorem a6K {x qual:Str} {st:Stmt} {f T:Addr} {oc:Value} {od an:Option Addr} {osl:Array (Option Value)} {kV doc pm cdv ct:Value} {oT:Obj} {nT:Nat} {ds:List Value} (l:K.lookup f=some ⟨oc,od,.func (Yw x qual (a1H st) (a1f st) (a0b st) (.ref T) kV doc pm an cdv ct),osl⟩)
  (c:Jj K cdv qual=true) (k:Zf K (.ref f)=true) (lT:K.lookup T=some oT) (hT:oT.data=.seq ds.toArray nT):b3f K x qual st f (Yw x qual (a1H st) (a1f st) (a0b st) (.ref T) kV doc pm an cdv ct) T ds:=⟨⟨oc,od,kV,doc,pm,an,cdv,ct,osl,oT,nT,rfl,l,c,lT,hT⟩,k⟩
end
end L2
namespace L2
open PySem PySem.Spec PyProof.Rows PySem.W
section
variable {X:Cx} {pins:List (Addr×Obj)} {σ:St} {H:Hp} {s:Shared} {h':Heap} {tg:Expr}
theorem Inv.turnedL {t':Nat} (fp:List Addr) (I:Inv X pins σ H s) (k:∀b o,b∉fp→s.heap.get? b=some o→h'.get? b=some o) (f:∀b∈fp,a7i X pins H b):Inv X pins σ H {s with heap:=h',toks:=t'}:=by
 have ne:∀b u,H b=some u→b∉fp:=fun b u q z=>by rw [(f b z).1] at q;cases q
 refine I.step (g':=s.gens) (d':=s.drawn) (ch:=fp) (fun b hb=>?_) (fun b o _ _ hc q _=>k b o hc q) (fun b o _ _ hc q _=>⟨o.slots,k b o hc q⟩) (fun _ _ _ _ n=>n)
  (fun b o hc q=>⟨o,k b o hc q⟩) (fun _ _ q=>q) (fun _ _ _ q=>q) (fun b ps q=>⟨#[],by rw [q];simp⟩) (fun m hm=>?_) (fun b u q=>?_) I.bare
 ·obtain ⟨_,a1,_,a3,a4,a5⟩:=f b hb
  exact ⟨a3,a1,a4,a5⟩
 ·obtain ⟨o,es,ep,ho,r⟩:=hm
  exact ⟨o,es,ep,k _ o (fun z=>(f _ z).2.1 rfl) ho,r⟩
 ·refine (I.hok b u q).stay (fun c v hc z=>k c v ?_ z) (fun _ z=>z) fun _ _ z=>z
  rcases hc with z | z
  ·rw [z];exact ne b u q
  ·exact ne c _ z
end
end L2
namespace L2
open PySem PySem.Spec PyProof.Rows PySem.W
section
variable {X:Cx} {pins:List (Addr×Obj)} {σ:St} {H:Hp} {s:Shared} {a:Addr} {kvs:List (Key×V)} {k:Key} {u:Value} {A:Around} {E:Value→Shared→Prop}
theorem b6w {z:V} {r:Value} {Q:Value→Shared→Prop} (I:Inv X pins σ H s) (e:H a=some (.dK kvs)) (ry:a0H (kV k) u) (rz:a0H z r) (hz:kvs.length < sizeLine)
  (h1:∀v w' s',a0P kvs k=some v→Inv X pins σ H s'→a0H v w'→Q w' s') (h2:a0P kvs k=none→∀s',Inv X pins σ (upd H a (.dK (a2k kvs k z))) s'→Q r s'):
  wpAny (model X.prog X.w) A (call (.builtin "dict.setdefault") [.ref a,u,r]) Q E s:=by
 obtain ⟨z0,hd,vs,rel,dd⟩:=a2u I.hok e
 refine call_meetsIn Uv dd.typeIs PySem.F.entry_dict_setdefault (PySem.F.args_dict_setdefault_3 _ _ _) (kt_meets_setdefault (a0k X.prog X.w) a (a6x ry) hd r) ⟨vs,dd,by rw [←rel.length];exact z0,fun v hv=>?_,fun hn h' dd' hs=>?_⟩
 ·cases l:a0P kvs k with
  | none=>
   have:=a4d.none_of (o:=valueAt vs k) (by rw [←l];exact rel.val k)
   rw [this] at hv;cases hv
  | some x=>
   obtain ⟨w',hw,rw'⟩:=a4d.some_of (v:=x) (o:=valueAt vs k) (by rw [←l];exact rel.val k)
   rw [hw] at hv;cases hv
   exact h1 x _ _ l (I.tok _) rw'
 ·have l:a0P kvs k=none:=by
   cases l:a0P kvs k with
   | none=>rfl
   | some x=>
    obtain ⟨w',hw,_⟩:=a4d.some_of (v:=x) (o:=valueAt vs k) (by rw [←l];exact rel.val k)
    rw [hw] at hn;cases hn
  refine h2 l _ ?_
  have he:∃q,h'.get? a=some q:=let ⟨q,_,_,hq,_⟩:=dd';⟨q,hq⟩
  exact a3I I (by rw [e];exact True.intro) hs he (a5u (by have:=a0N kvs k z;omega) hd (rel.put k rz) dd')
end
def a6U (td ty tx:TE):TE:=fun σ H Q=>td σ H fun x H1=>∃a,x=.ref a∧IsD H1 a∧ty σ H1 fun y H2=>tx σ H2 fun z H3=>∃kvs k,H3 a=some (.dK kvs)∧y=kV k∧kvs.length < sizeLine∧
 (∀v,a0P kvs k=some v→Q v H3)∧(a0P kvs k=none→Q z (upd H3 a (.dK (a2k kvs k z))))
section
variable {X:Cx} {o e f:Expr} {apos cpos:Pos} {td ty tx:TE}
theorem b1W (ho:PE X o td) (he:PE X e ty) (hf:PE X f tx) (m:M2 X o "setdefault" apos e f cpos):PE X (.Call (.Attribute o "setdefault" apos) [e,f] [] cpos) (a6U td ty tx):=by
 intro pins s σ H Q I h
 refine wpAny_Call_method m.base m.few m.line Ys Uv PySem.F.type_dict_setdefault (thn (ho pins s σ H _ I h) fun u s1 ⟨x,H1,I1,rx,a,ex,d,q1⟩=>?_)
 subst ex
 obtain rfl:u=Value.ref a:=rx
 obtain ⟨t1,t2,_⟩:=a7c I1 d
 refine ⟨t1,t2,?_⟩
 rw [m.trees]
 refine Calls.callWith_builtin rfl (Calls.evalArgs_plain (Calls.spliced_cons (thn (he pins s1 σ H1 _ I1 q1) fun iv s2 ⟨y,H2,I2,ry,q2⟩=>
  Calls.spliced_cons (thn (hf pins s2 σ H2 _ I2 q2) fun fv s3 ⟨z,H3,I3,rz,kvs,k,hH,ey,hz,q3,q4⟩=>Calls.spliced_nil ?_))))
 subst ey
 exact b6w I3 hH ry rz hz (fun v w' s' l I' r'=>⟨v,H3,I',r',q3 v l⟩) (fun l s' I'=>⟨z,_,I',rz,q4 l⟩)
end
section
variable {α β:Type}
def TOk (n:Nat) (P:α→Prop):KasT α→Prop
 | .ret a=>P a
 | .ask i j k=>i < n∧j < n∧∀b,TOk n P (k b)
def a0Y (lt:Nat→Nat→Bool):KasT α→α
 | .ret a=>a
 | .ask i j k=>a0Y lt (k (lt i j))
theorem TOk.run {n:Nat} {P:α→Prop} {lt:Nat→Nat→Bool}:∀{t:KasT α},TOk n P t→P (a0Y lt t)
 | .ret _,h=>h
 | .ask i j k,h=>show P (a0Y lt (k (lt i j))) from TOk.run (h.2.2 (lt i j))
theorem TOk.wp {n:Nat} {P:α→Prop} {lt:Nat→Nat→Bool} {cmp:Nat→Nat→(Bool→Shared→Prop)→Shared→Prop} {Q:α→Shared→Prop} {s:Shared} (hc:∀i j C,i < n→j < n→C (lt i j) s→cmp i j C s):∀{t:KasT α},TOk n P t→Q (a0Y lt t) s→t.kasWp cmp Q s
 | .ret _,_,q=>q
 | .ask i j k,h,q=>hc i j _ h.1 h.2.1 (TOk.wp hc (h.2.2 _) q)
theorem TOk.bind {n:Nat} {P:α→Prop} {R:β→Prop} {f:α→KasT β} (hf:∀a,P a→TOk n R (f a)):∀{t:KasT α},TOk n P t→TOk n R (t.bind f)
 | .ret _,h=>hf _ h
 | .ask i j k,h=>⟨h.1,h.2.1,fun b=>TOk.bind hf (h.2.2 b)⟩
end
def a0C (n:Nat) (p:Array Nat):Prop:=p.Perm (Yp (Yg n))
theorem a0C.list {n:Nat} {p:Array Nat} (h:a0C n p):p.toList.Perm (Yg n):=Array.perm_iff_toList_perm.mp h
theorem a0C.lt {n:Nat} {p:Array Nat} (h:a0C n p) (hn:0 < n) (i:Nat):p.getD i 0 < n:=by
 by_cases hi:i < p.size
 ·have h1:p[i]∈Yg n:=h.list.mem_iff.mp (by simp)
  have e:p.getD i 0=p[i]:=by simp [Jq,hi]
  rw [e];exact Us.mp h1
 ·have e:p.getD i 0=0:=by simp [Jq,hi]
  rw [e];exact hn
theorem a0C.rev {n:Nat} {p:Array Nat} (h:a0C n p) (i j:Nat):a0C n (kas_rev p i j):=(mirror_perm _ _ _ _).trans h
theorem a0C.bub {n:Nat} {p:Array Nat} (h:a0C n p) (i j:Nat):a0C n (bubble p i j):=(bubble_perm _ _ _).trans h
section
variable {n:Nat} (hn:0 < n)
include hn
theorem a9h {p:Array Nat} (hp:a0C n p):∀f m,TOk n (fun _=>True) (kas_asc p f m)
 | 0,m=>trivial
 | f+1,m=>⟨hp.lt hn _,hp.lt hn _,fun b=>by
   show TOk n _ (if b=true then _ else _)
   split
   ·exact trivial
   ·exact a9h hp f (m+1)⟩
theorem a5b:∀f (p:Array Nat) m q,a0C n p→TOk n (fun r=>a0C n r.1) (kas_desc f p m q)
 | 0,p,m,q,hp=>hp
 | f+1,p,m,q,hp=>⟨hp.lt hn _,hp.lt hn _,fun b=>by
   show TOk n _ (if b=true then _ else _)
   split
   ·split
    ·exact a5b f _ _ _ (hp.rev _ _)
    ·exact a5b f _ _ _ hp
   ·refine ⟨hp.lt hn _,hp.lt hn _,fun d=>?_⟩
    show TOk n _ (if d=true then _ else _)
    split
    ·exact hp
    ·exact a5b f _ _ _ hp⟩
theorem a6X {p:Array Nat} (hp:a0C n p) (m r:Nat):TOk n (fun r=>a0C n r.2) (kas_tail3 m r p):=by
 unfold kas_tail3
 refine TOk.bind (P:=fun _=>True) (fun k _=>?_) (a9h hn (hp.rev _ _) _ _)
 exact hp.rev 0 m
theorem a3B {p:Array Nat} (hp:a0C n p) (m r:Nat):TOk n (fun r=>a0C n r.2) (kas_descPart m r p):=TOk.bind (fun a ha=>by
 split
 ·exact a6X hn (a0C.rev ha _ _) _ _
 ·exact a6X hn ha _ _) (a5b hn _ _ _ _ hp)
theorem b1Z {p:Array Nat} (hp:a0C n p) (r:Nat):TOk n (fun r=>a0C n r.2) (kas_count r p):=TOk.bind (fun a _=>by
 split
 ·exact hp
 ·split
  ·refine ⟨hp.lt hn _,hp.lt hn _,fun b=>?_⟩
   show TOk n _ (if b=true then _ else _)
   split
   ·exact hp
   ·exact a3B hn (hp.rev _ _) _ _
  ·exact a3B hn hp _ _) (a9h hn hp _ _)
theorem a4V {p:Array Nat} (hp:a0C n p) (k:Nat):∀f l r,TOk n (fun _=>True) (kas_place p k f l r)
 | 0,l,r=>trivial
 | f+1,l,r=>by
  show TOk n _ (if l≥r then _ else _)
  split
  ·exact trivial
  ·refine ⟨hp.lt hn _,hp.lt hn _,fun b=>?_⟩
   show TOk n _ (if b=true then _ else _)
   split
   ·exact a4V hp k f _ _
   ·exact a4V hp k f _ _
theorem b3n:∀f (p:Array Nat) k,a0C n p→TOk n (a0C n) (kas_bin f p k)
 | 0,p,k,hp=>hp
 | f+1,p,k,hp=>TOk.bind (fun l _=>b3n f _ _ (hp.bub _ _)) (a4V hn hp k _ _ _)
theorem b6a:TOk n (a0C n) (kas_sort n):=TOk.bind (fun r hr=>by
 split
 ·exact b3n hn _ _ _ hr
 ·exact hr) (b1Z hn (Gk.refl _) n)
end
theorem a9b {ss:List Str} {its:List Value} (h:StrsAre its ss):a0I (ss.map V.str) its:=by
 induction h with
 | nil=>exact .nil
 | cons x t h ih=>exact .cons ⟨t,rfl⟩ ih
section
variable {X:Cx}
theorem b4z {P:Program} {w:World} {z:Str} {v:Value} (h:(a0k P w).is (Sum.inr z) v=true):∃t,v=.str z t:=Value.isStrOf_shape h
theorem b1f {P:Program} {w:World} {k:Key} {v:Value} (h:(a0k P w).is k v=true):a0H (kV k) v:=by
 cases k with
 | inl i=>obtain ⟨t,e⟩:=Value.isInt_shape (k:=i) (v:=v) h;exact ⟨t,e⟩
 | inr x=>obtain ⟨t,e⟩:=Value.isStrOf_shape (x:=x) (v:=v) h;exact ⟨t,e⟩
theorem a4l:∀{its:List Value} {ss:List Str},its.length=ss.length→(∀(j:Nat) v,its[j]?=some v→∃z t,ss[j]?=some z∧v=.str z t)→StrsAre its ss
 | [],[],_,_=>.nil
 | [],_::_,h,_=>by simp at h
 | _::_,[],h,_=>by simp at h
 | v::its,z::ss,h,hv=>by
  obtain ⟨z',t,e1,e2⟩:=hv 0 v rfl
  cases e1
  rw [e2]
  exact .cons _ _ (a4l (by simpa using h) fun j u e=>by
   obtain ⟨a,b,c,d⟩:=hv (j+1) u (by simpa using e)
   exact ⟨a,b,by simpa using c,d⟩)
theorem b1s:∀{r:List (Key×V)} {rs:List (Key×Value)},KV r rs→∀{i:Nat} {k:Key} {x:Value},rs[i]?=some (k,x)→∃y,r[i]?=some (k,y)∧a0H y x:=by
 intro r rs h
 unfold KV at h
 induction h with
 | nil=>intro i k x e;simp at e
 | @cons p q ps qs h t ih=>
  intro i k x e
  cases i with
  | zero=>
   simp only [Qa,Option.some.injEq] at e
   subst e
   exact ⟨p.2,by simp only [Qa];rw [show (k,p.2)=p from by rw [←show p.1=k from h.1]],h.2⟩
  | succ i=>exact ih (by simpa using e)
def ltP (x y:Int×Str):Bool:=if x.1=y.1 then (if x.2=y.2 then false else decide (x.2.cps.toList < y.2.cps.toList)) else decide (x.1 < y.1)
theorem b3S {P:Program} {w:World} {H:Hp} {h:Heap} {a:Addr} {i:Int} {z:Str} (ok:a0Q P w H h a (.tup [.int i,.str z])):∃o n t t',h.get? a=some o∧o.cls=.type "tuple"∧o.data=.seq #[.int i t,.str z t'] n:=by
 obtain ⟨_,its,rv,o,ho,hc,n,hd⟩:=ok
 cases rv with
 | cons h1 r=>
  cases r with
  | cons h2 r=>
   cases r
   obtain ⟨t,rfl⟩:=h1
   obtain ⟨t',rfl⟩:=h2
   exact ⟨o,n,t,t',ho,hc,hd⟩
theorem b0E {P:Program} {w:World} {H:Hp} {h h':Heap} (hok:∀a o,H a=some o→a0Q P w H h a o) (hk:∀b o,h.get? b=some o→h'.get? b=some o):∀{ys:List V} {its:List Value},a0I ys its→(∀v∈ys,∃a i z,v=.ref a∧H a=some (.tup [.int i,.str z]))→
  ∃fs,KatTups h' its fs∧fs.length=its.length∧∀v∈fs,∃i t,v=.int i t
 | [],_,r,_=>by cases r;exact ⟨[],trivial,rfl,by simp⟩
 | y::ys,_,r,hT=>by
  cases r with
  | cons h1 r=>
   obtain ⟨fs,g1,g2,g3⟩:=b0E hok hk r fun v hv=>hT v (Qp _ hv)
   obtain ⟨a,i,z,rfl,ha⟩:=hT y Qs
   cases h1
   obtain ⟨o,n,t,t',e1,e2,e3⟩:=b3S (hok _ _ ha)
   refine ⟨.int i t::fs,KatTups.cons (hk _ _ e1) e2 e3 rfl g1,by simp [g2],fun v hv=>?_⟩
   rcases Qy.mp hv with e | e
   ·exact ⟨i,t,e⟩
   ·exact g3 v e
theorem a5O {ys:List V} {its:List Value} (r:a0I ys its):∀(l:List Nat),(∀i∈l,i < ys.length)→a0I (l.map fun i=>ys.getD i .non) (l.map fun i=>its.getD i Value.none)
 | [],_=>.nil
 | i::l,h=>by
  have hi:=h i Qs
  obtain ⟨u,hu,ru⟩:=r.get (Qc hi)
  refine .cons ?_ (a5O r l fun j hj=>h j (Qp _ hj))
  show a0H (ys.getD i .non) (its.getD i Value.none)
  rw [Yj,Qc hi,Yj,hu]
  exact ru
theorem a5I:bootBuiltins "sorted"=some (.builtin "sorted"):=by decide+kernel
end
def Iti (o:Obj) (a:Addr) (kvs:List (Key×V)):It:=⟨fun i H=>H a=some (.frz o (.dK kvs))∧i < kvs.length,fun i H x H'=>∃p k v,H p=none∧kvs[i]?=some (k,v)∧x=.ref p∧H'=upd H p (.tup [kV k,v]),fun i H=>H a=some (.frz o (.dK kvs))∧kvs.length≤i⟩
def b3C (td:TE):TI:=fun σ H R=>td σ H fun x H1=>∃(a:Addr) (kvs:List (Key×V)),x=.ref a∧H1 a=some (.dK kvs)∧∀o,R (Iti o a kvs) (upd H1 a (.frz o (.dK kvs)))
section
variable {X:Cx}
theorem a7Z {P:Program} {w:World} {K:Qd} {elts:List Expr} {x1:Nat} {pos:Pos} (o:Obj) (a it:Addr) (kvs:List (Key×V)):b1G P w K (.Tuple elts x1 pos) (Iti o a kvs) [it] it (fun i h=>∃es ep ok ov,o.data=.dict es ep∧IsItemIter h it a i kvs.length ep ok ov) where
 mem:=by simp
 obj:=fun i h st b hb=>by
  have e:b=it:=by simpa using hb
  subst e
  obtain ⟨_,_,_,_,_,e⟩:=st
  exact ⟨_,e,fun v z=>by cases z⟩
 keep:=fun i h h' st k=>by
  obtain ⟨es,ep,ok,ov,hd,hit⟩:=st
  exact ⟨es,ep,ok,ov,hd,k it (by simp) _ hit⟩
 item:=by
  intro X hP hw hK hc i pins s σ H E I hf st hg
  subst hP hw hK
  obtain ⟨es,ep,ok,ov,hd,hit⟩:=st
  obtain ⟨hfr,hi⟩:=hg
  obtain ⟨ho,z,hds,vs,rel,dd⟩:=(show a0Q X.prog X.w H s.heap a (.frz o (.dK kvs)) from I.hok a _ hfr)
  obtain ⟨o',es',ep',ho',hx,hdat,r⟩:=dd
  rw [ho] at ho';cases ho'
  rw [hd] at hdat;cases hdat
  have hm:s.heap.DictAt (a0k X.prog X.w) a vs ep:=⟨o,es,ho,hx,hd,r⟩
  have hl:=rel.length
  rw [hl] at hit
  obtain ⟨⟨k,u⟩,hq⟩:∃q,vs[i]?=some q:=⟨_,Qc (by omega)⟩
  obtain ⟨y,hy,ry⟩:=b1s rel hq
  obtain ⟨f0,f1,f2,f3,f4,f5⟩:=hf it (by simp)
  refine wpAny_pyNext_items_item hit hm hq fun key h' hkey hit' hT hsz hk=>?_
  refine ⟨_,rfl,?_⟩
  refine wpAny_letOwnedTupleGo_items hit' fun hh hitt hs2=>?_
  have hfr':H s.heap.objs.size=none:=I.hok.fresh (Qi _)
  have hlt:it < s.heap.objs.size:=Qu hit
  have hL:=Qw s.heap (o:={cls:=.type "tuple",data:=.seq #[key,u]}) rfl
  have I1:Inv X pins σ (upd H s.heap.objs.size (.tup [kV k,y])) {s with heap:=s.heap.push {cls:=.type "tuple",data:=.seq #[key,u]},toks:=s.toks}:=
   I.laid (t':=s.toks) (fun b o q=>Qk _ q) (Qi _) ⟨by simp only [Qo,Xb];decide,[key,u],.cons (b1f hkey) (.cons ry .nil),⟨_,hL,rfl,_,rfl⟩⟩
  have up:∀b,b < s.heap.objs.size→upd H s.heap.objs.size (.tup [kV k,y]) b=H b:=fun b hb=>a0a (Xg hb)
  have I2:Inv X pins σ (upd H s.heap.objs.size (.tup [kV k,y])) {s with heap:=hh,toks:=s.toks}:=by
   refine Inv.turnedL (s:={s with heap:=s.heap.push {cls:=.type "tuple",data:=.seq #[key,u]},toks:=s.toks}) (h':=hh) (t':=s.toks) [it] I1 (fun b o hb q=>?_) (fun b hb=>?_)
   ·have hb':b≠it:=by simpa using hb
    rw [hs2.2 b hb']
    by_cases e:b=s.heap.objs.size
    ·subst e
     have q':(s.heap.push {cls:=.type "tuple",data:=.seq #[key,u]}).get? s.heap.objs.size=some o:=q
     rw [hL] at q';rw [←q'];exact hT
    ·have q2:(s.heap.push {cls:=.type "tuple",data:=.seq #[key,u]}).get? b=some o:=q
     rw [Heap.get?_push_ne _ _ _ e] at q2
     exact hk b o hb' q2
   ·have e:b=it:=by simpa using hb
    subst e
    obtain ⟨c0,c1,c2,c3,c4,c5⟩:=hf b hb
    exact ⟨by rw [up b hlt];exact c0,c1,c2,c3,c4,c5⟩
  exact ⟨.ref s.heap.objs.size,_,I2,rfl,⟨s.heap.objs.size,k,y,hfr',hy,rfl,rfl⟩,⟨es,ep,key,u,hd,by rw [hl];exact hitt⟩,fun b hb=>by
   have e:b=it:=by simpa using hb
   subst e
   rw [up b hlt];exact (hf b hb).1⟩
 done:=by
  intro X hP hw hK hc i pins s σ H E I hf st hg
  subst hP hw hK
  obtain ⟨es,ep,ok,ov,hd,hit⟩:=st
  obtain ⟨hfr,hi⟩:=hg
  obtain ⟨ho,z,hds,vs,rel,dd⟩:=(show a0Q X.prog X.w H s.heap a (.frz o (.dK kvs)) from I.hok a _ hfr)
  obtain ⟨o',es',ep',ho',hx,hdat,r⟩:=dd
  rw [ho] at ho';cases ho'
  rw [hd] at hdat;cases hdat
  have hm:s.heap.DictAt (a0k X.prog X.w) a vs ep:=⟨o,es,ho,hx,hd,r⟩
  have hl:=rel.length
  rw [hl] at hit
  obtain ⟨f0,f1,f2,f3,f4,f5⟩:=hf it (by simp)
  exact wpAny_pyNext_items_end (I.ok.hd hc) hit hm (Yb (by omega)) fun h' eb=>⟨rfl,I.turned (t':=s.toks) (fun b o hb e=>eb b o hb e) f0 f1 f3 f4 f5⟩
 self:=fun _ _ _ _ _ st h=>by
  obtain ⟨es,ep,ok,ov,hd,hit⟩:=st
  exact kcp_self hit h
theorem b2E {o:Expr} {td:TE} {apos cpos:Pos} {elts:List Expr} {x1:Nat} {tpos:Pos} (ho:PE X o td) (hbase:attributeBase o "items" X.env (eval o X.env)=eval o X.env:=by rfl) (hline:(apos.endLine == cpos.line)=true:=by rfl):PI X (.Tuple elts x1 tpos) (.Call (.Attribute o "items" apos) [] [] cpos) (b3C td):=by
 intro pins s σ H R I h
 refine wpAny_Call_method0_late hbase hline (thn (ho pins s σ H _ I h) fun v s1 ⟨x,H1,I1,r1,q1⟩=>?_)
 obtain ⟨a,kvs,rfl,hH,q⟩:=q1
 cases r1
 obtain ⟨t1,t2,_⟩:=a7c I1 (.inl ⟨kvs,.inl hH⟩)
 obtain ⟨z,hds,vs,rel,dd⟩:=a2u I1.hok hH
 obtain ⟨ob,es,ep,hob,hx,hdat,r⟩:=id dd
 refine ⟨"dict","dict.items",Ys,Vz,PySem.F.type_dict_items,t1,t2,Calls.callWith_builtin rfl (PySem.evalArgs_none ?_)⟩
 refine call_meetsIn Vz t1 PySem.F.entry_dict_items (PySem.F.args_dict_items_1 _) (meets_dict_items (a0k X.prog X.w) a hds) ⟨⟨vs,dd⟩,?_⟩
 have hm:(s1.heap.push {cls:=.type "dict_items",data:=.fields #[.ref a]}).DictAt (a0k X.prog X.w) a vs ep:=⟨ob,es,Qk _ hob,hx,hdat,r⟩
 refine wpAny_pyIter_items (knd:=a0k X.prog X.w) (v:=s1.heap.objs.size) (d:=a) ⟨_,Qw _ rfl,rfl,rfl⟩ hm ?_
 have keep:∀b u,s1.heap.get? b=some u→((s1.heap.push {cls:=.type "dict_items",data:=.fields #[.ref a]}).push {cls:=.type "dict_itemiterator",data:=.fields #[.none,.bool false,.ref a,.int 0 0,.int vs.length 0,.int ep 0,.none,.none]}).get? b=some u:=fun b u e=>Qk _ (Qk _ e)
 have I2:=I1.kept (t':=s1.toks) keep
 obtain ⟨o2,ho2,I3⟩:=I2.freeze hH
 have e2:o2=ob:=by
  have:=keep a ob hob
  rw [show _=some o2 from ho2] at this
  exact Option.some.inj this
 subst e2
 have hl:=rel.length
 have hsz:(s1.heap.push {cls:=.type "dict_items",data:=.fields #[.ref a]}).objs.size=s1.heap.objs.size+1:=Ji ..
 have hfr:∀b,s1.heap.objs.size≤b→upd H1 a (.frz o2 (.dK kvs)) b=none:=fun b hb=>by
  have hn:=I1.hok.fresh (a:=b) hb
  rw [a0a (a0c hH hn).symm];exact hn
 refine ⟨(s1.heap.push {cls:=.type "dict_items",data:=.fields #[.ref a]}).objs.size,[(s1.heap.push {cls:=.type "dict_items",data:=.fields #[.ref a]}).objs.size],_,_,_,rfl,I3,a7Z o2 a _ kvs,⟨es,ep,.none,.none,hdat,by rw [hl];exact Qw _ rfl⟩,fun b hb=>?_,q o2⟩
 have e:b=s1.heap.objs.size+1:=by rw [←hsz];simpa using hb
 subst e
 exact I1.fpOk (Zo _) (hfr _ (Zo _))
end
end L2
namespace L2
open PySem PySem.Spec PyProof.Rows PySem.W
def b3R:List V→Hp→VK→Prop:=fun xs H Q=>∃(p:Addr) (kvs:List (Key×V)),xs=[.ref p]∧Rd H p (.dK kvs)∧∀l,H l=none→Q (.ref l) (upd H l (.lst (kvs.map fun kv=>kV kv.1)))
def b3z (K:Qd):List V→Hp→VK→Prop:=fun xs H Q=>a9f K xs H Q∨b3R xs H Q
def a0K (H:Hp) (xs:List V) (pl:List (Str×Str)):Prop:=∃as:List Addr,xs=as.map V.ref∧as.length=pl.length∧∀(i:Nat) (a:Addr) (p:Str×Str),as[i]?=some a→pl[i]?=some p→H a=some (.tup [.str p.1,.str p.2])
def b1v (H:Hp) (a:Addr):Option (Str×Str):=match H a with
 | some (.tup [.str x,.str y])=>some (x,y)
 | _=>none
def c3d (K:Qd):R2:=fun x y H Q=>∃(q l:Addr) (a b:Str) (xs:List V) (pl:List (Str×Str)),x=.ref q∧y=.ref l∧H q=some (.tup [.str a,.str b])∧SqL K H l xs∧a0K H xs pl∧(Yd a=true∧Yd b=true)∧(∀p∈pl,Yd p.1=true∧Yd p.2=true)∧Q (.bl (decide ((a,b)∈pl))) H
section
variable {X:Cx} {pos:Pos}
theorem a5p {P:Program} {w:World}:∀{kvs:List (Key×V)} {its:List Value},its.length=kvs.length→(∀(j:Nat) v,its[j]?=some v→∃k y,kvs[j]?=some (k,y)∧(a0k P w).is k v=true)→a0I (kvs.map fun kv=>kV kv.1) its
 | [],[],_,_=>.nil
 | [],_::_,h,_=>by simp at h
 | _::_,[],h,_=>by simp at h
 | p::kvs,v::its,h,hv=>by
  obtain ⟨k,y,e1,e2⟩:=hv 0 v rfl
  cases e1
  exact .cons (b1f e2) (a5p (by simpa using h) fun j u e=>by
   obtain ⟨a,b,c,d⟩:=hv (j+1) u (by simpa using e)
   exact ⟨a,b,by simpa using c,d⟩)
theorem a8l (hc:X.calm=true):a1P X (.type "list") b3R:=by
 intro pins s σ H xs us Q I r h
 obtain ⟨p,kvs,rfl,hq,q⟩:=h
 obtain ⟨u,rfl,ru⟩:=a4a r
 cases ru
 obtain ⟨z,hd,vs,rel,dd⟩:=a4c I.hok hq
 obtain ⟨ep,hat⟩:=dd.dictAt
 have hl:=rel.length
 refine kdl_call (kdl_dict (knd:=a0k X.prog X.w) (kvs:=vs) (ep:=ep) hd) (I.ok.hd hc) hat (by rw [←hl];exact z) fun h' tk acc c hk hD hacc=>?_
 have hv:a0I (kvs.map fun kv=>kV kv.1) acc.toList:=a5p (P:=X.prog) (w:=X.w) (by rw [Ja,hacc.1,hl]) fun j v e=>by
  obtain ⟨k,x,hx,hkv⟩:=hacc.2 j v (by rw [←Wn];exact e)
  obtain ⟨y,hy,_⟩:=b1s rel hx
  exact ⟨k,y,hy,hkv⟩
 have I1:=I.laid (a:=s.heap.objs.size) (o:=.lst (kvs.map fun kv=>kV kv.1)) (h':=h') (t':=tk) hk (Qi _) ⟨by rw [Qe];exact z,acc.toList,c,hv,hD⟩
 exact ⟨.ref s.heap.objs.size,_,I1,rfl,q _ (I.hok.fresh (Qi _))⟩
theorem a7P (hc:X.calm=true):a1P X (.type "list") (b3z X.K):=a1P.or a1o (a8l hc)
theorem a7C {K:Qd} {H:Hp} {a:Addr} {x y:Str} (h:H a=some (.tup [.str x,.str y])):Den K H (.ref a) (.tuple [.str x,.str y]):=.tup (SqT.of h) (.cons (.str x) (.cons (.str y) .nil))
theorem a7l {x y:Str} (h1:Yd x=true) (h2:Yd y=true):Xj (.tuple [.str x,.str y])=true:=by
 show (Xj (.str x) && (Xj (.str y) && true))=true
 rw [show Xj (.str x)=true from h1,show Xj (.str y)=true from h2];rfl
theorem b2v (x y a b:Str):Xp (.tuple [.str x,.str y]) (.tuple [.str a,.str b])=decide ((x,y)=(a,b)):=by
 have e:Xp (.tuple [.str x,.str y]) (.tuple [.str a,.str b])=(decide (x=a) && (decide (y=b) && true)):=by first | rfl | simp [Xp,Ws]
 rw [e]
 by_cases h1:x=a<;>by_cases h2:y=b<;>simp [h1,h2]
theorem b8D (hu:X.A.units+64 < cLine):OpR X (compareOp .In) (c3d X.K):=by
 intro pins s σ H x y v u Q I rx ry h
 obtain ⟨q,l,a,b,xs,pl,rfl,rfl,hq,hl,⟨as,rfl,hal,hat⟩,hab,hpo,qq⟩:=h
 cases rx
 cases ry
 obtain ⟨its,rv,p1,hz⟩:=I.list hl
 have hits:its=as.map Value.ref:=by
  have:∀{as:List Addr} {its:List Value},a0I (as.map V.ref) its→its=as.map Value.ref:=by
   intro as
   induction as with
   | nil=>intro its r;cases r;rfl
   | cons a as ih=>
    intro its r
    cases r with
    | cons h t=>cases h;rw [ih t];rfl
  exact this rv
 subst hits
 have hpr:∀c∈as,∃p∈pl,H c=some (.tup [.str p.1,.str p.2]):=fun c hc=>by
  obtain ⟨i,hi,rfl⟩:=Yv hc
  have hi':i < pl.length:=by omega
  exact ⟨pl[i],Xi hi',hat i _ _ (Qc hi) (Qc hi')⟩
 obtain ⟨bs,rb⟩:=(a7C (K:=X.K) hq).reads I (show a0H (V.ref q) (Value.ref q) from rfl)
 refine SeqAt.in_listAt (fun w=>match w with | .ref c=>decide (b1v H c=some (a,b)) | _=>false) p1.isList (fun w hw=>?_) ⟨.bl _,H,I,rfl,?_⟩
 ·obtain ⟨c,hc,rfl⟩:=Ql.mp (show w∈as.map Value.ref by simpa using hw)
  obtain ⟨p,hp,hc2⟩:=hpr c hc
  obtain ⟨cs,rc⟩:=(a7C (K:=X.K) hc2).reads I (show a0H (V.ref c) (Value.ref c) from rfl)
  have e0:=Vq _ _ X.A.in1 s _ _ _ _ rc rb (a7l (hpo p hp).1 (hpo p hp).2) (a7l hab.1 hab.2) (by
   have h1:min (Yq (.tuple [.str p.1,.str p.2])) (Yq (.tuple [.str a,.str b]))≤1:=Qj (Nat.min_le_left _ _) (by simp [Yq,Zb])
   have h2:X.A.in1.units≤X.A.units+1:=by first | exact Qi _ | exact Zo _ | (simp [Around.in1])
   omega)
  rw [b2v] at e0
  have e1:(match Value.ref c with | .ref c=>decide (b1v H c=some (a,b)) | _=>false)=decide ((p.1,p.2)=(a,b)):=by
   show decide (b1v H c=some (a,b))=_
   have:b1v H c=some (p.1,p.2):=by unfold b1v;rw [hc2]
   rw [this,Xu,decide_eq_true_eq,decide_eq_true_eq,Option.some.injEq]
  rw [e1];exact e0
 ·have e2:(Yp (as.map Value.ref)).any (fun w=>match w with | .ref c=>decide (b1v H c=some (a,b)) | _=>false)=decide ((a,b)∈pl):=by
   rw [List.any_toArray,Zy,Xu,Ze,decide_eq_true_eq]
   constructor
   ·rintro ⟨c,hc,e⟩
    obtain ⟨p,hp,hc2⟩:=hpr c hc
    have e':b1v H c=some (a,b):=of_decide_eq_true e
    have:b1v H c=some (p.1,p.2):=by unfold b1v;rw [hc2]
    rw [this] at e'
    have e3:p=(a,b):=Option.some.inj e'
    rw [←e3];exact hp
   ·intro hm
    obtain ⟨i,hi,e⟩:=Yv hm
    have hi':i < as.length:=by omega
    have h1:=hat i _ _ (Qc hi') (Qc hi)
    refine ⟨as[i],Xi hi',decide_eq_true ?_⟩
    unfold b1v;rw [h1,e]
  rw [e2];exact qq
theorem b5J {K:Qd} (hu:X.A.units+64 < cLine) (hK:X.K=K):OpR X (compareOp .In) (c3d K):=hK ▸ b8D hu
end
theorem a9Q {K:Qd} {a:Addr} {xs:List V} {js:List (Option Nat)} {tt:TT} {te:TE} {σ:St} {H:Hp} {Q:VK} (σr:St) (hn:xs.length≤sizeLine) (hσ:a1w js σ=none::none::σr) (keep:Nat→Bool→Prop) (ha:SqL K H a xs)
  (hs:∀i H' (R:Bool→Hp→Prop) (hi:i < xs.length),a0f H H'→(∀b H'',a0f H' H''→keep i b→R b H'')→tt (some (.int i)::some xs[i]::σr) H' R)
  (he:∀i H' (R:V→Hp→Prop) (hi:i < xs.length),a0f H H'→(∀H'',a0f H' H''→R xs[i] H'')→te (some (.int i)::some xs[i]::σr) H' R)
  (hd:∀D H' (bs:List Bool),bs.length=xs.length→(∀i b,bs[i]?=some b→keep i b)→H D=none→a0f H H'→H' D=some (.lst ((xs.zip bs).filterMap fun p=>if p.2=true then some p.1 else none))→Q (.ref D) H'):a3W (Ite K a) js (b8S K 2 (a8w (a0m 0) (a8w (a0m 1) c0c))) tt te σ H Q:=by
 intro D hD
 refine ⟨fun i m σ' H' ys=>m=xs.length - i∧i≤xs.length∧(∃u v,σ'=u::v::σr)∧a0f H H'∧H' D=some (.lst ys)∧∃bs:List Bool,bs.length=i∧(∀j b,bs[j]?=some b→keep j b)∧ys=((xs.take i).zip bs).filterMap fun p=>if p.2=true then some p.1 else none,
  ⟨xs.length,by simp,Xa _,⟨none,none,hσ⟩,a0f.upd hD,a0d,[],rfl,fun j b e=>by simp at e,by simp⟩,?_⟩
 rintro i m σ' H' ys ⟨rfl,hi,⟨u,v,rfl⟩,s,h,bs,hbl,hbk,hys⟩
 refine ⟨h,?_⟩
 by_cases hlt:i < xs.length
 ·have hyl:ys.length≤i:=by
   rw [hys]
   refine Qj (List.length_filterMap_le _ _) ?_
   rw [List.length_zip,Xo];omega
  refine .inr ⟨⟨xs,xs[i],s.seq ha,Qc hlt⟩,by omega,?_⟩
  rintro x H2 ⟨p,w,hpn,hw,rfl,rfl⟩
  have ew:w=xs[i]:=by have:=hw xs (s.seq ha);rw [Qc hlt] at this;exact (Option.some.inj this).symm
  subst ew
  obtain ⟨H3,e3,s3,h3⟩:∃H3,upd H' p (.tup [.int i,xs[i]])=H3∧a0f H' H3∧H3 p=some (.tup [.int i,xs[i]]):=⟨_,rfl,a0f.upd hpn,a0d⟩
  rw [e3]
  refine ⟨p,_,rfl,SqT.of h3,rfl,_,_,rfl,_,_,rfl,rfl,?_⟩
  show tt (some (.int i)::some xs[i]::σr) H3 _
  have hstep:∀b,keep i b→(∀j b',(bs++[b])[j]?=some b'→keep j b')∧(((xs.take (i+1)).zip (bs++[b])).filterMap fun p=>if p.2=true then some p.1 else none)=ys++(if b=true then [xs[i]] else []):=fun b hb=>by
   refine ⟨fun j b' e=>?_,?_⟩
   ·by_cases hj:j < bs.length
    ·rw [Xx hj] at e;exact hbk j b' e
    ·have hj2:=(Qm.mp e).1
     have ej:j=bs.length:=by simp at hj2;omega
     subst ej
     rw [Xv (Qi _),Uh] at e
     cases e;rw [hbl];exact hb
   ·rw [Qt hlt,List.zip_append (by rw [Xo,hbl];omega),Uf,←hys]
    cases b<;>rfl
  refine hs i H3 _ hlt (s.trans s3) fun b H4 s4 hb=>?_
  obtain ⟨st1,st2⟩:=hstep b hb
  cases b with
  | false=>
   rw [if_neg Qx]
   refine ⟨xs.length - (i+1),by omega,rfl,hlt,⟨_,_,rfl⟩,(s.trans s3).trans s4,s4 _ _ (s3 _ _ h),bs++[false],by simp [hbl],st1,?_⟩
   rw [st2,if_neg Qx,Qh]
  | true=>
   rw [if_pos rfl]
   refine he i H4 _ hlt ((s.trans s3).trans s4) fun H5 s5=>⟨s5 _ _ (s4 _ _ (s3 _ _ h)),xs.length - (i+1),by omega,rfl,hlt,⟨_,_,rfl⟩,?_,a0d,bs++[true],by simp [hbl],st1,?_⟩
   ·intro b o e;rw [a0a (a0c e hD)];exact s5 _ _ (s4 _ _ (s3 _ _ (s b o e)))
   ·rw [st2,if_pos rfl]
 ·have e:i=xs.length:=by omega
  subst e
  rw [Xs] at hys
  exact .inl ⟨⟨xs,s.seq ha,Qi _⟩,hd D H' bs hbl hbk hD s (by rw [←hys];exact h)⟩
def b8V (t u:TT):TT:=fun σ H Q=>t σ H Q∨u σ H Q
theorem b9R {X:Cx} {e:Expr} {t u:TT} (h1:PT X e t) (h2:PT X e u):PT X e (b8V t u):=fun pins s σ H Q I h=>h.elim (h1 pins s σ H Q I) (h2 pins s σ H Q I)
end L2
namespace L2
open PySem PySem.Spec PyProof.Rows PySem.W
end L2
namespace L2
open PySem PySem.Spec PySem.W PyProof.Rows
theorem a1T {α β:Type} {lt:Nat→Nat→Bool} {f:α→KasT β}:∀(t:KasT α),a0Y lt (t.bind f)=a0Y lt (f (a0Y lt t))
 | .ret _=>rfl
 | .ask i j k=>a1T (k (lt i j))
theorem a6p {α:Type} {lt:Nat→Nat→Bool} {c:Prop} [Decidable c] {x y:KasT α}:a0Y lt (if c then x else y)=if c then a0Y lt x else a0Y lt y:=by split<;>rfl
structure c0M (lt:Nat→Nat→Bool) (n:Nat):Prop where
 irr:∀i,i < n→lt i i=false
 tr:∀i j k,i < n→j < n→k < n→lt i j=true→lt j k=true→lt i k=true
 tot:∀i j,i < n→j < n→i≠j→lt i j=true∨lt j i=true
def Asc (lt:Nat→Nat→Bool) (p:Array Nat) (m:Nat):Prop:=∀i j,i < j→j < m→lt (p.getD i 0) (p.getD j 0)=true
def Dsc (lt:Nat→Nat→Bool) (p:Array Nat) (m:Nat):Prop:=∀i j,i < j→j < m→lt (p.getD j 0) (p.getD i 0)=true
theorem a4f (p:Array Nat) (i:Nat):p.getD i 0=(p[i]?).getD 0:=by
 by_cases h:i < p.size<;>simp [Jq,h]
theorem a0C.size {n:Nat} {p:Array Nat} (h:a0C n p):p.size=n:=by
 have:=Gk.size_eq h;simpa using this
theorem a0C.inj {n:Nat} {p:Array Nat} (h:a0C n p) {i j:Nat} (hi:i < n) (hj:j < n) (e:i≠j):p.getD i 0≠p.getD j 0:=by
 have nd:p.toList.Nodup:=(h.list.nodup_iff).mpr List.nodup_range
 have hs:=h.size
 rw [List.nodup_iff_pairwise_ne,Vg] at nd
 have e1:p.getD i 0=p[i]'(by omega):=by simp [Jq,show i < p.size by omega]
 have e2:p.getD j 0=p[j]'(by omega):=by simp [Jq,show j < p.size by omega]
 rw [e1,e2]
 rcases Nat.lt_or_gt_of_ne e with q | q
 ·exact nd i j (by simpa using (by omega:i < p.size)) (by simpa using (by omega:j < p.size)) q
 ·exact Ne.symm (nd j i (by simpa using (by omega:j < p.size)) (by simpa using (by omega:i < p.size)) q)
section
variable {lt:Nat→Nat→Bool} {n:Nat} (L:c0M lt n) (hn:0 < n)
include L hn
theorem c0M.flip {p:Array Nat} (hp:a0C n p) {i j:Nat} (hi:i < n) (hj:j < n) (e:i≠j) (h:lt (p.getD i 0) (p.getD j 0)=false):lt (p.getD j 0) (p.getD i 0)=true:=by
 rcases L.tot _ _ (hp.lt hn i) (hp.lt hn j) (hp.inj hi hj e) with q | q
 ·rw [h] at q;cases q
 ·exact q
theorem Asc.more {p:Array Nat} (hp:a0C n p) {m:Nat} (hm:1≤m) (a:Asc lt p m) (h:lt (p.getD (m - 1) 0) (p.getD m 0)=true):Asc lt p (m+1):=fun i j hij hj=>by
 by_cases q:j < m
 ·exact a i j hij q
 ·obtain rfl:j=m:=by omega
  by_cases r:i=j - 1
  ·rw [r];exact h
  ·exact L.tr _ _ _ (hp.lt hn _) (hp.lt hn _) (hp.lt hn _) (a i (j - 1) (by omega) (by omega)) h
theorem Dsc.more {p:Array Nat} (hp:a0C n p) {m:Nat} (hm:1≤m) (a:Dsc lt p m) (h:lt (p.getD m 0) (p.getD (m - 1) 0)=true):Dsc lt p (m+1):=fun i j hij hj=>by
 by_cases q:j < m
 ·exact a i j hij q
 ·obtain rfl:j=m:=by omega
  by_cases r:i=j - 1
  ·rw [r];exact h
  ·exact L.tr _ _ _ (hp.lt hn _) (hp.lt hn _) (hp.lt hn _) h (a i (j - 1) (by omega) (by omega))
theorem a6r {p:Array Nat} (hp:a0C n p):∀f m,1≤m→m+f≤n→Asc lt p m→
  m≤a0Y lt (kas_asc p f m)∧a0Y lt (kas_asc p f m)≤m+f∧Asc lt p (a0Y lt (kas_asc p f m))∧(a0Y lt (kas_asc p f m) < m+f→lt (p.getD (a0Y lt (kas_asc p f m)) 0) (p.getD (a0Y lt (kas_asc p f m) - 1) 0)=true)
 | 0,m,h1,hf,a=>⟨Qi _,Qi _,a,fun z=>absurd z (Zc _)⟩
 | f+1,m,h1,hf,a=>by
  have e:a0Y lt (kas_asc p (f+1) m)=if lt (p.getD m 0) (p.getD (m - 1) 0)=true then m else a0Y lt (kas_asc p f (m+1)):=by
   show a0Y lt (if lt (p.getD m 0) (p.getD (m - 1) 0)=true then .ret m else kas_asc p f (m+1))=_
   rw [a6p];rfl
  rw [e]
  by_cases c:lt (p.getD m 0) (p.getD (m - 1) 0)=true
  ·rw [if_pos c];exact ⟨Qi _,by omega,a,fun _=>c⟩
  ·rw [if_neg c]
   have a':Asc lt p (m+1):=Asc.more L hn hp h1 a (L.flip hn hp (by omega) (by omega) (by omega) (by simpa using c))
   obtain ⟨x1,x2,x3,x4⟩:=a6r hp f (m+1) (by omega) (by omega) a'
   exact ⟨by omega,by omega,x3,fun z=>x4 (by omega)⟩
theorem a7u {p:Array Nat} (hp:a0C n p):∀f m,1≤m→m+f≤n→Dsc lt p m→∃r,a0Y lt (kas_desc f p m 0)=(p,r,0)∧m≤r∧r≤m+f∧Dsc lt p r
 | 0,m,h1,hf,a=>⟨m,rfl,Qi _,Qi _,a⟩
 | f+1,m,h1,hf,a=>by
  have e:a0Y lt (kas_desc (f+1) p m 0)=if lt (p.getD m 0) (p.getD (m - 1) 0)=true then a0Y lt (kas_desc f p (m+1) 0) else
    a0Y lt (if lt (p.getD (m - 1) 0) (p.getD m 0)=true then KasT.ret (p,m,0) else kas_desc f p (m+1) (0+1)):=by
   show a0Y lt (if lt (p.getD m 0) (p.getD (m - 1) 0)=true then (if 0 > 0 then _ else kas_desc f p (m+1) 0) else _)=_
   rw [a6p];rfl
  rw [e]
  by_cases c:lt (p.getD m 0) (p.getD (m - 1) 0)=true
  ·rw [if_pos c]
   obtain ⟨r,x1,x2,x3,x4⟩:=a7u hp f (m+1) (by omega) (by omega) (Dsc.more L hn hp h1 a c)
   exact ⟨r,x1,by omega,by omega,x4⟩
  ·rw [if_neg c,if_pos (L.flip hn hp (by omega) (by omega) (by omega) (by simpa using c))]
   exact ⟨m,rfl,Qi _,by omega,a⟩
omit L hn in
theorem b0W {p:Array Nat} {m:Nat} (hm:m≤p.size) {i:Nat} (hi:i < m):(kas_rev p 0 m).getD i 0=p.getD (m - 1 - i) 0:=by
 rw [a4f,a4f]
 unfold kas_rev
 rw [getElem?_mirror_all hm,if_pos ⟨Xa _,hi⟩]
 simp
theorem b1h {p:Array Nat} (hp:a0C n p) {m:Nat} (h1:1≤m) (hm:m≤n) (a:Dsc lt p m):
  a0C n (a0Y lt (kas_tail3 m n p)).2∧m≤(a0Y lt (kas_tail3 m n p)).1∧(a0Y lt (kas_tail3 m n p)).1≤n∧Asc lt (a0Y lt (kas_tail3 m n p)).2 (a0Y lt (kas_tail3 m n p)).1:=by
 have hs:=hp.size
 have e:a0Y lt (kas_tail3 m n p)=(a0Y lt (kas_asc (kas_rev p 0 m) (n - m) m),kas_rev p 0 m):=by
  unfold kas_tail3;rw [a1T];rfl
 rw [e]
 have a':Asc lt (kas_rev p 0 m) m:=fun i j hij hj=>by
  rw [b0W (by omega) (by omega),b0W (by omega) hj]
  exact a _ _ (by omega) (by omega)
 obtain ⟨x1,x2,x3,_⟩:=a6r L hn (hp.rev 0 m) (n - m) m h1 (by omega) a'
 exact ⟨hp.rev 0 m,x1,by omega,x3⟩
theorem a5S {p:Array Nat} (hp:a0C n p) {m:Nat} (h1:1≤m) (hm:m+1≤n) (a:Dsc lt p (m+1)):
  a0C n (a0Y lt (kas_descPart m n p)).2∧1≤(a0Y lt (kas_descPart m n p)).1∧(a0Y lt (kas_descPart m n p)).1≤n∧Asc lt (a0Y lt (kas_descPart m n p)).2 (a0Y lt (kas_descPart m n p)).1:=by
 obtain ⟨r,x1,x2,x3,x4⟩:=a7u L hn hp (n - (m+1)) (m+1) (by omega) (by omega) a
 have e:a0Y lt (kas_descPart m n p)=a0Y lt (kas_tail3 r n p):=by
  unfold kas_descPart;rw [a1T,x1];rfl
 rw [e]
 obtain ⟨y1,y2,y3,y4⟩:=b1h L hn hp (m:=r) (by omega) (by omega) x4
 exact ⟨y1,by omega,y3,y4⟩
theorem a8X {p:Array Nat} (hp:a0C n p):
  a0C n (a0Y lt (kas_count n p)).2∧1≤(a0Y lt (kas_count n p)).1∧(a0Y lt (kas_count n p)).1≤n∧Asc lt (a0Y lt (kas_count n p)).2 (a0Y lt (kas_count n p)).1:=by
 obtain ⟨x1,x2,x3,x4⟩:=a6r L hn hp (n - 1) 1 (Qi _) (by omega) (fun i j hij hj=>by omega)
 unfold kas_count
 rw [a1T]
 generalize a0Y lt (kas_asc p (n - 1) 1)=m at x1 x2 x3 x4 ⊢
 by_cases c:(m == n)=true
 ·rw [if_pos c];exact ⟨hp,x1,by have:=beq_iff_eq.mp c;show m≤n;omega,x3⟩
 ·have hmn:m≠n:=fun z=>c (beq_iff_eq.mpr z)
  rw [if_neg c]
  by_cases d:m > 1
  ·rw [if_pos d]
   show a0C n (a0Y lt (if lt (p.getD 0 0) (p.getD (m - 1) 0)=true then .ret (m,p) else kas_descPart m n (kas_rev p 0 m))).2∧1≤(a0Y lt (if lt (p.getD 0 0) (p.getD (m - 1) 0)=true then .ret (m,p) else kas_descPart m n (kas_rev p 0 m))).1∧(a0Y lt (if lt (p.getD 0 0) (p.getD (m - 1) 0)=true then .ret (m,p) else kas_descPart m n (kas_rev p 0 m))).1≤n∧Asc lt (a0Y lt (if lt (p.getD 0 0) (p.getD (m - 1) 0)=true then .ret (m,p) else kas_descPart m n (kas_rev p 0 m))).2 (a0Y lt (if lt (p.getD 0 0) (p.getD (m - 1) 0)=true then .ret (m,p) else kas_descPart m n (kas_rev p 0 m))).1
   rw [if_pos (x3 0 (m - 1) (by omega) (by omega))]
   exact ⟨hp,x1,by show m≤n;omega,x3⟩
  ·rw [if_neg d]
   obtain rfl:m=1:=by omega
   exact a5S L hn hp (Qi _) (by omega) (fun i j hij hj=>by
    obtain rfl:j=1:=by omega
    obtain rfl:i=0:=by omega
    exact x4 (by omega))
theorem a3x {p:Array Nat} (hp:a0C n p) {k:Nat} (hk:k < n) (a:Asc lt p k):∀f l r,r - l≤f→l≤r→r≤k→(∀i,i < l→lt (p.getD i 0) (p.getD k 0)=true)→(∀i,r≤i→i < k→lt (p.getD k 0) (p.getD i 0)=true)→
  a0Y lt (kas_place p k f l r)≤k∧(∀i,i < a0Y lt (kas_place p k f l r)→lt (p.getD i 0) (p.getD k 0)=true)∧∀i,a0Y lt (kas_place p k f l r)≤i→i < k→lt (p.getD k 0) (p.getD i 0)=true
 | 0,l,r,hf,hl,hr,h1,h2=>⟨by show l≤k;omega,h1,fun i x y=>h2 i (by have:l≤i:=x;omega) y⟩
 | f+1,l,r,hf,hl,hr,h1,h2=>by
  by_cases c:l≥r
  ·have e:a0Y lt (kas_place p k (f+1) l r)=l:=by unfold kas_place;rw [if_pos c];rfl
   rw [e]
   exact ⟨by omega,h1,fun i x y=>h2 i (by omega) y⟩
  ·have e:a0Y lt (kas_place p k (f+1) l r)=if lt (p.getD k 0) (p.getD ((l+r) / 2) 0)=true then a0Y lt (kas_place p k f l ((l+r) / 2)) else a0Y lt (kas_place p k f ((l+r) / 2+1) r):=by
    rw [kas_place,if_neg c]
    show a0Y lt (if lt (p.getD k 0) (p.getD ((l+r) / 2) 0)=true then _ else _)=_
    rw [a6p]
   rw [e]
   by_cases d:lt (p.getD k 0) (p.getD ((l+r) / 2) 0)=true
   ·rw [if_pos d]
    refine a3x hp hk a f l ((l+r) / 2) (by omega) (by omega) (by omega) h1 fun i x y=>?_
    by_cases q:i=(l+r) / 2
    ·rw [q];exact d
    ·exact L.tr _ _ _ (hp.lt hn _) (hp.lt hn _) (hp.lt hn _) d (a _ _ (by omega) y)
   ·rw [if_neg d]
    have d':=L.flip hn hp (by omega) (by omega) (by omega) (show lt (p.getD k 0) (p.getD ((l+r) / 2) 0)=false by simpa using d)
    refine a3x hp hk a f ((l+r) / 2+1) r (by omega) (by omega) hr (fun i x=>?_) h2
    by_cases q:i=(l+r) / 2
    ·rw [q];exact d'
    ·exact L.tr _ _ _ (hp.lt hn _) (hp.lt hn _) (hp.lt hn _) (a _ _ (by omega) (by omega)) d'
omit L hn in
theorem a8Y {p:Array Nat} {k l:Nat} (hk:k < p.size) (hl:l≤k) (i:Nat):(bubble p k (k - l)).getD i 0=if i=l then p.getD k 0 else if l < i∧i≤k then p.getD (i - 1) 0 else p.getD i 0:=by
 rw [a4f,getElem?_bubble hk _ (by omega),show k - (k - l)=l by omega,a4f p k,a4f p (i - 1),a4f p i]
 by_cases h1:i=l
 ·rw [if_pos h1,if_pos h1]
 ·rw [if_neg h1,if_neg h1]
  by_cases h2:l < i∧i≤k
  ·rw [if_pos h2,if_pos h2]
  ·rw [if_neg h2,if_neg h2]
theorem b1p:∀f (p:Array Nat) k,a0C n p→1≤k→k+f≤n→Asc lt p k→a0C n (a0Y lt (kas_bin f p k))∧Asc lt (a0Y lt (kas_bin f p k)) (k+f)
 | 0,p,k,hp,_,_,a=>⟨hp,a⟩
 | f+1,p,k,hp,h1,hf,a=>by
  have e:a0Y lt (kas_bin (f+1) p k)=a0Y lt (kas_bin f (bubble p k (k - a0Y lt (kas_place p k k 0 k))) (k+1)):=by
   rw [kas_bin,a1T]
  rw [e]
  obtain ⟨x1,x2,x3⟩:=a3x L hn hp (k:=k) (by omega) a k 0 k (by omega) (by omega) (Qi _) (fun i z=>by omega) (fun i z y=>by omega)
  generalize a0Y lt (kas_place p k k 0 k)=l at x1 x2 x3 ⊢
  have hs:=hp.size
  have a':Asc lt (bubble p k (k - l)) (k+1):=fun i j hij hj=>by
   rw [a8Y (by omega) x1,a8Y (by omega) x1]
   by_cases i1:i=l
   ·rw [if_pos i1,if_neg (by omega),if_pos (by omega)]
    exact x3 _ (by omega) (by omega)
   ·rw [if_neg i1]
    by_cases i2:l < i∧i≤k
    ·rw [if_pos i2,if_neg (by omega),if_pos (by omega)]
     exact a _ _ (by omega) (by omega)
    ·rw [if_neg i2]
     by_cases j1:j=l
     ·rw [if_pos j1];exact x2 _ (by omega)
     ·rw [if_neg j1]
      by_cases j2:l < j∧j≤k
      ·rw [if_pos j2]
       by_cases q:i=j - 1
       ·omega
       ·exact a _ _ (by omega) (by omega)
      ·rw [if_neg j2];exact a _ _ hij (by omega)
  obtain ⟨y1,y2⟩:=b1p f _ (k+1) (hp.bub k (k - l)) (by omega) (by omega) a'
  exact ⟨y1,fun i j hij hj=>y2 i j hij (by omega)⟩
theorem b2L:Asc lt (a0Y lt (kas_sort n)) n:=by
 unfold kas_sort
 rw [a1T]
 obtain ⟨x1,x2,x3,x4⟩:=a8X L hn (p:=Yp (Yg n)) (Gk.refl _)
 generalize a0Y lt (kas_count n (Yp (Yg n)))=r at x1 x2 x3 x4 ⊢
 by_cases c:r.1 < n
 ·rw [if_pos c]
  have hm:max r.1 1=r.1:=by omega
  rw [hm]
  have:=(b1p L hn (n - r.1) r.2 r.1 x1 x2 (by omega) x4).2
  exact fun i j hij hj=>this i j hij (by omega)
 ·rw [if_neg c]
  exact fun i j hij hj=>x4 i j hij (by omega)
end
theorem b6D (a b:List Nat) (h:a≠b):a < b∨b < a:=by
 by_cases q:a < b
 ·exact .inl q
 ·have:=List.not_lt.mp q
  rcases List.le_iff_lt_or_eq.mp this with r | r
  ·exact .inr r
  ·exact absurd r.symm h
theorem b3V (x:Int×Str):ltP x x=false:=by simp [ltP]
theorem a6q (x y:Int×Str):ltP x y=true↔x.1 < y.1∨(x.1=y.1∧x.2.cps.toList < y.2.cps.toList):=by
 unfold ltP
 by_cases h1:x.1=y.1
 ·rw [if_pos h1]
  by_cases h2:x.2=y.2
  ·rw [if_pos h2,h2]
   constructor
   ·intro z;cases z
   ·intro z
    rcases z with z | ⟨_,z⟩
    ·omega
    ·exact absurd z (List.lt_irrefl _)
  ·rw [if_neg h2,decide_eq_true_iff]
   constructor
   ·exact fun z=>.inr ⟨h1,z⟩
   ·intro z
    rcases z with z | ⟨_,z⟩
    ·omega
    ·exact z
 ·rw [if_neg h1,decide_eq_true_iff]
  constructor
  ·exact .inl
  ·intro z
   rcases z with z | ⟨z,_⟩
   ·exact z
   ·exact absurd z h1
theorem b7V {x y z:Int×Str} (a:ltP x y=true) (b:ltP y z=true):ltP x z=true:=by
 rw [a6q] at a b ⊢
 rcases a with a | ⟨a,a'⟩<;>rcases b with b | ⟨b,b'⟩
 ·exact .inl (by omega)
 ·exact .inl (by omega)
 ·exact .inl (by omega)
 ·exact .inr ⟨by omega,List.lt_trans a' b'⟩
theorem b5k {x y:Int×Str} (h:x≠y):ltP x y=true∨ltP y x=true:=by
 rw [a6q,a6q]
 rcases Int.lt_trichotomy x.1 y.1 with q | q | q
 ·exact .inl (.inl q)
 ·have hn:x.2.cps.toList≠y.2.cps.toList:=fun z=>h (by
   obtain ⟨x1,⟨x2⟩⟩:=x
   obtain ⟨y1,⟨y2⟩⟩:=y
   have z':x2=y2:=Array.toList_inj.mp z
   have q':x1=y1:=q
   rw [z',q'])
  rcases b6D _ _ hn with r | r
  ·exact .inl (.inr ⟨q,r⟩)
  ·exact .inr (.inr ⟨q.symm,r⟩)
 ·exact .inr (.inl q)
def a5K (K:Qd) (cv:Value):Option Addr:=
 match cv with
 | .ref c=>match K.lookup c with
  | some o=>match o.cls,o.data with
   | .type n,.fields vs=>match (vs[11]?:Option Value),vs.getD 18 .none,vs.getD 7 .none,vs.getD 9 .none,vs.getD 10 .none with
    | some (Value.ref P),Value.str _ _,Value.int _ _,Value.bool _,Value.int _ _=>if (n == "code" && c != P)=true then some P else none
    | _,_,_,_,_=>none
   | _,_=>none
  | none=>none
 | _=>none
theorem a8U {K:Qd} {h:Heap} {cv:Value} {T:Addr} (X:K.In h) (e:a5K K cv=some T):∃c,cv=.ref c∧CodeHd h c T:=by
 unfold a5K at e
 split at e
 ·rename_i c
  split at e
  ·rename_i o ho
   split at e
   ·rename_i n vs hcl hd
    split at e
    ·rename_i P file tf flags tg inF text tt e11 e18 e7 e9 e10
     split at e
     ·rename_i hc
      cases e
      rw [Xn] at hc
      have h1:n="code":=by simpa using hc.1
      have h2:c≠T:=by simpa using hc.2
      refine ⟨c,rfl,o,vs,_,_,_,_,_,_,_,X _ _ ho,by rw [hcl,h1],hd,e11,?_,e18,e7,e9,e10,h2⟩
      have e11':vs.getD 11 Value.none=(vs[11]?).getD Value.none:=by
       by_cases q:11 < vs.size<;>simp [Jq,q]
      rw [e11',e11];rfl
     ·cases e
    ·cases e
   ·cases e
  ·cases e
 ·cases e
def b6I (K:Qd) (bm:Addr):Bool:=bm != builtinsNs && (match K.lookup bm with
 | some o=>(match o.cls,o.dict,o.data with
  | .type t,some d,.plain=>t == "module" && d == builtinsNs
  | _,_,_=>false)
 | none=>false)
structure c0e (K:Qd) (mg:Str→Option Value):Prop where
 ex:∃bm o,mg "__builtins__"=some (.ref bm)∧bm≠builtinsNs∧K.lookup bm=some o∧o.cls=.type "module"∧o.dict=some builtinsNs∧o.data=.plain
theorem b5a {K:Qd} {mg:Str→Option Value} {bm:Addr} (e:mg "__builtins__"=some (.ref bm)) (h:b6I K bm=true):c0e K mg:=by
 unfold b6I at h
 rw [Xn] at h
 obtain ⟨h1,h2⟩:=h
 split at h2
 ·rename_i o ho
  split at h2
  ·rename_i t d e1 e2 e3
   rw [Xn] at h2
   exact ⟨bm,o,e,by simpa using h1,ho,by rw [e1];simpa using h2.1,by rw [e2];simpa using h2.2,e3⟩
  ·cases h2
 ·cases h2
def a2m (H:Hp) (q:Str) (cv:Value):Prop:=∃c' o vs t,cv=.ref c'∧H c'=some (.frz o (.own c'))∧o.data=.fields vs∧vs[1]?=some (.str q t)
def a6t (T:Addr) (q:Str) (H:Hp):Prop:=∃ps,H T=some (.tbl ps)∧TriplesOk ps.toList∧∀pos cv,codeAmong pos ps.toList=some cv→a2m H q cv
abbrev Ex (H H':Hp):Prop:=∀a o,H a=some o→H' a=some o
theorem a6t.start {T:Addr} {q:Str} {H:Hp} (h:H T=some (.tbl #[])):a6t T q H:=⟨#[],h,trivial,fun pos cv e=>by simp [codeAmong] at e⟩
theorem a2m.mono {q:Str} {cv:Value} {H H':Hp} (h:a2m H q cv) (k:Ex H H'):a2m H' q cv:=let ⟨c',o,vs,t,a,b,r⟩:=h;⟨c',o,vs,t,a,k _ _ b,r⟩
theorem a6t.mono {T:Addr} {q:Str} {H H':Hp} (h:a6t T q H) (k:Ex H H'):a6t T q H':=let ⟨ps,a,b,c⟩:=h;⟨ps,k _ _ a,b,fun pos cv e=>(c pos cv e).mono k⟩
theorem a5d {pos:Pos} {a b:Int} {c cv:Value}:∀(l:List Value),TriplesOk l→codeAmong pos (l++[rawInt a,rawInt b,c])=some cv→codeAmong pos l=some cv∨cv=c:=by
 intro l
 fun_induction TriplesOk l with
 | case1=>
  intro _ e
  right
  simp only [Ui,codeAmong,rawInt] at e
  split at e
  ·cases e;rfl
  ·cases e
 | case2 x t y u z a6e ih=>
  intro h e
  simp only [Jo,codeAmong] at e ⊢
  split at e
  ·rename_i hc;rw [if_pos hc];exact .inl e
  ·rename_i hc;rw [if_neg hc];exact ih h e
 | case3 l h1 h2=>intro h _;exact h.elim
section
variable {X:Cx} {pins:List (Addr×Obj)} {σ:St} {H:Hp} {s:Shared}
structure b6q (X:Cx) (pins:List (Addr×Obj)) (a:Addr):Prop where
 s0:X.s₀.heap.objs.size≤a
 loc:a≠X.env.locals
 cell:∀x c,X.env.cells.lookup x=some c→c≠a
 pin:∀p∈X.pn++pins,p.1≠a
 fs:a∉X.fs
theorem Inv.mine (I:Inv X pins σ H s) {a:Addr} (h:s.heap.objs.size≤a):b6q X pins a:=
 ⟨Qj I.sz h,Jh (Xd I.lt h),fun x c e z=>by
  obtain ⟨v,q⟩:=I.cell x c e
  exact absurd (Xd q.lt h) (by rw [z];exact Zc _),fun p hp z=>by
  obtain ⟨e,_⟩:=I.pin p hp
  exact absurd (Xd (Qu e) h) (by rw [z];exact Zc _),I.nofs h⟩
theorem Inv.adopt {t':Nat} {a:Addr} {o:HO} {h':Heap} (I:Inv X pins σ H s) (hn:H a=none) (hm:b6q X pins a) (k:∀b u,b≠a→s.heap.get? b=some u→h'.get? b=some u)
  (new:a0Q X.prog X.w (upd H a o) h' a o):Inv X pins σ (upd H a o) {s with heap:=h',toks:=t'}:=by
 have na:∀b u,H b=some u→b≠a:=fun b u e z=>by rw [z,hn] at e;cases e
 refine I.step (g':=s.gens) (d':=s.drawn) (ch:=[a]) (fun b hb=>?_) (fun b o _ _ hc e _=>k b o (fun z=>hc (by simp [z])) e) (fun b o _ _ hc e _=>⟨o.slots,k b o (fun z=>hc (by simp [z])) e⟩)
  (fun b _ hc _ n=>by rw [a0a (fun z=>hc (by simp [z]))];exact n) (fun b o hc e=>⟨o,k b o (fun z=>hc (by simp [z])) e⟩) (fun b _ e=>by rw [a0a (na b _ e)];exact e) (fun b _ _ e=>by rw [a0a (na b _ e)];exact e)
  (fun b ps e=>⟨#[],by rw [a0a (na b _ e),e];simp⟩) (fun m hm'=>?_) (fun b u e=>?_) I.bare
 ·have e:b=a:=by simpa using hb
  subst e
  exact ⟨.inr hm.s0,hm.loc,hm.cell,hm.pin⟩
 ·obtain ⟨ob,es,ep,ho,r⟩:=hm'
  exact ⟨ob,es,ep,k _ ob (Ne.symm hm.loc) ho,r⟩
 ·by_cases hb:b=a
  ·subst hb;rw [a0d] at e;cases e;exact new
  ·rw [a0a hb] at e
   refine (I.hok b u e).stay (fun c v hc q=>k c v ?_ q) (fun c q=>by rw [a0a (na c _ q)];exact q) fun c xs q=>by rw [a0a (na c _ q)];exact q
   rcases hc with z | z
   ·rw [z];exact hb
   ·exact na c _ z
theorem b2y {args:Arguments} {body:Expr} {scope:Scope} {pos:Pos} {Nc:List Str} {js:List (Option Nat)} {T:Addr} {q:Str} {Q:Value→Shared→Prop} (I:Inv X pins σ H s) (hcb:a5K X.K X.env.code=some T) (hbk:c0e X.K X.mg) (ok:a3h X Nc js scope)
  (hq:X.env.qual++"<lambda>"=q) (hdef:defaultsOf args X.env=([],[])) (lt:a6t T q H)
  (h:∀(f:Addr) (pm cv ctv:Value) (H':Hp) (s':Shared),Inv X pins σ H' s'→a6t T q H'→(∀a o,a≠T→H a=some o→H' a=some o)→a2m H' q cv→H' f=none→b6q X pins f→
   s'.heap.get? f=some {cls:=.type "function",data:=.func (kla_fn "<lambda>" q args body scope (a2b X.env scope.names []) pm cv ctv)}→Q (.ref f) s'):
  wpAny (model X.prog X.w) X.A (eval (.Lambda args body scope pos) X.env) Q X.xe s:=by
 obtain ⟨ps,hT,htr,hcs⟩:=lt
 obtain ⟨c,hcode,C⟩:=a8U I.kIn hcb
 have hP:s.heap.get? T=some (tabObj ps):=I.hok T _ hT
 have hTs:T < s.heap.objs.size:=Qu hP
 have hfr:∀y∈scope.names,y.2=NameKind.free→∃c,X.env.cells.lookup y.1=some c:=fun y hy e=>I.ok.has y.1 (ok.free y hy e)
 have hcl:=a1I hfr
 have hg:s.heap.Ns mainGlobals X.mg:=I.ok.mod.glob.keeps I.bk
 obtain ⟨bm,ob,b1,b2,b3,b4,b5,b6⟩:=hbk.ex
 have hbo:=I.kIn _ _ b3
 have hgP:mainGlobals≠T:=fun z=>by
  obtain ⟨o,es,ep,e,hd,_⟩:=hg
  rw [z,hP] at e;cases e;cases hd
 have hbG:bm≠mainGlobals:=fun z=>by
  obtain ⟨o,es,ep,e,hd,_⟩:=hg
  rw [z,e] at hbo;cases hbo;rw [hd] at b6;cases b6
 have hbT:bm≠T:=fun z=>by rw [z,hP] at hbo;cases hbo;cases b4
 rw [arm_eval_Lambda,hdef]
 refine wpAny_bind (PyProof.Rows.evalAll_nil ?_)
 refine wpAny_bind (wpAny_holding (wpAny_pure ?_))
 rw [hq]
 cases hnf:codeAmong pos ps.toList with
 | none=>
  refine kla_makeFunction (mg:=X.mg) hcl I.ok.glob hg hcode C hP htr hnf hgP ⟨bm,ob,b1,b2,hbG,hbT,hbo,b4,b5,b6⟩ fun c' ctv h' tk hx hge hlt hrec htb=>?_
  obtain ⟨c₂,oc,vs,t,e2,hoc,hd,hv⟩:=hrec
  cases e2
  have hcn:H c'=none:=I.hok.fresh hge
  have hcT:c'≠T:=Jh (Xd hTs hge)
  have nT:∀b u,H b=some u→(∀ps,u≠.tbl ps)→b≠T:=fun b u e n z=>by rw [z,hT] at e;cases e;exact n _ rfl
  have nc:∀b u,H b=some u→b≠c':=fun b u e z=>by rw [z,hcn] at e;cases e
  have hk:∀b o,b≠T→s.heap.get? b=some o→(h'.push (kla_obj "<lambda>" q args body scope (a2b X.env scope.names []) ((X.mg "__name__").getD .none) c' ctv)).get? b=some o:=fun b o hb e=>Qk _ (hx b o hb e)
  have hTn:=Qk (kla_obj "<lambda>" q args body scope (a2b X.env scope.names []) ((X.mg "__name__").getD .none) c' ctv) htb
  have hHT:upd (upd H T (.tbl (ps++#[rawInt pos.line,rawInt pos.col,.ref c']))) c' (.frz oc (.own c')) T=some (.tbl (ps++#[rawInt pos.line,rawInt pos.col,.ref c'])):=by rw [a0a hcT.symm,a0d]
  have hHo:∀b,b≠T→b≠c'→upd (upd H T (.tbl (ps++#[rawInt pos.line,rawInt pos.col,.ref c']))) c' (.frz oc (.own c')) b=H b:=fun b n1 n2=>by rw [a0a n2,a0a n1]
  have hu:Un X.fs [] H (upd (upd H T (.tbl (ps++#[rawInt pos.line,rawInt pos.col,.ref c']))) c' (.frz oc (.own c'))) s.heap (h'.push (kla_obj "<lambda>" q args body scope (a2b X.env scope.names []) ((X.mg "__name__").getD .none) c' ctv)):=by
   have nN:∀b,H b=none→b≠T:=fun b n z=>by rw [z,hT] at n;cases n
   refine ⟨fun b o e n _ _=>hk b o (nN b n) e,fun b o e n _ _=>⟨o.slots,hk b o (nN b n) e⟩,fun b o e n _=>?_,fun b o e _=>?_,fun b xs e=>?_,fun b o u e=>?_,fun b ps' e=>?_⟩
   ·rw [hHo b (nN b n) (Xg (Xd (Qu e) hge))];exact n
   ·by_cases z:b=T
    ·rw [z];exact ⟨_,hTn⟩
    ·exact ⟨o,hk b o z e⟩
   ·rw [hHo b (nT b _ e fun _ z=>by cases z) (nc b _ e)];exact e
   ·rw [hHo b (nT b _ e fun _ z=>by cases z) (nc b _ e)];exact e
   ·by_cases z:b=T
    ·subst z;rw [hT] at e;cases e;exact ⟨_,hHT⟩
    ·exact ⟨#[],by rw [hHo b z (nc b _ e),e];simp⟩
  have hok':HOk X.prog X.w (upd (upd H T (.tbl (ps++#[rawInt pos.line,rawInt pos.col,.ref c']))) c' (.frz oc (.own c'))) (h'.push (kla_obj "<lambda>" q args body scope (a2b X.env scope.names []) ((X.mg "__name__").getD .none) c' ctv)):=fun b u e=>by
   by_cases z1:b=c'
   ·subst z1
    rw [a0d] at e;cases e
    exact ⟨Qk _ hoc,_,Qk _ hoc⟩
   ·by_cases z2:b=T
    ·subst z2;rw [hHT] at e;cases e;exact hTn
    ·rw [hHo b z2 z1] at e
     refine (I.hok b u e).stay (fun d v hd' r=>hk d v ?_ r) (fun d r=>by rw [hHo d (nT d _ r fun _ z=>by cases z) (nc d _ r)];exact r) fun d xs r=>by rw [hHo d (nT d _ r fun _ z=>by cases z) (nc d _ r)];exact r
     rcases hd' with z | z
     ·rw [z];exact z2
     ·exact nT d _ z fun _ y=>by cases y
  have I':=I.un (t':=tk) hu hok'
  have hex:∀a o,a≠T→H a=some o→upd (upd H T (.tbl (ps++#[rawInt pos.line,rawInt pos.col,.ref c']))) c' (.frz oc (.own c')) a=some o:=fun a o n e=>by rw [hHo a n (nc a o e)];exact e
  have hcd:a2m (upd (upd H T (.tbl (ps++#[rawInt pos.line,rawInt pos.col,.ref c']))) c' (.frz oc (.own c'))) q (.ref c'):=⟨c',oc,vs,t,rfl,a0d,hd,hv⟩
  have hfs:s.heap.objs.size≤h'.objs.size:=Qj hge (Vi hlt)
  have hl:(ps++#[rawInt pos.line,rawInt pos.col,Value.ref c']).toList=ps.toList++[rawInt pos.line,rawInt pos.col,.ref c']:=by simp
  refine h h'.objs.size _ (.ref c') ctv _ _ I' ⟨_,hHT,by rw [hl];exact TriplesOk_snoc _ _ _ _ htr,fun p' cv e=>?_⟩ hex hcd ?_ (I.mine hfs) (Qw _ rfl)
  ·rw [hl] at e
   rcases a5d _ htr e with z | z
   ·obtain ⟨d,o,vs',t',z1,z2,z3⟩:=hcs p' cv z
    exact ⟨d,o,vs',t',z1,by rw [hHo d (nT d _ z2 fun _ y=>by cases y) (nc d _ z2)];exact z2,z3⟩
   ·rw [z];exact hcd
  ·rw [hHo _ (Jh (Xd hTs hfs)) (Jh hlt)];exact I.hok.fresh hfs
 | some cv=>
  refine kla_makeFunctionHit (mg:=X.mg) hcl I.ok.glob hg hcode C hP htr hnf ⟨bm,ob,b1,b2,hbG,hbT,hbo,b4,b5,b6⟩ fun ctv h' tk hk hsz=>?_
  exact h h'.objs.size _ cv ctv H _ (I.kept (t':=tk) fun b o e=>Qk _ (hk b o e)) ⟨ps,hT,htr,hcs⟩ (fun a o _ e=>e) (hcs pos cv hnf) (I.hok.fresh hsz) (I.mine hsz) (Qw _ rfl)
def a5Z (X:Cx) (Nc:List Str) (scope:Scope) (q:Str) (f:Addr) (cv:Value) (cl:List (Str×Addr)) (A:Around) (s:Shared) (H:Hp):Cx where
 prog:=X.prog
 w:=X.w
 K:=X.K
 mg:=X.mg
 base:=X.base
 A:=A.deeper (newEnv scope s.heap.objs.size mainGlobals cl (q++".<locals>.") (some f) cv none builtinsNs)
 N:=Nc
 s₀:=s
 H₀:=H
 env:=newEnv scope s.heap.objs.size mainGlobals cl (q++".<locals>.") (some f) cv none builtinsNs
 outer:=X.stack
 stack:=newEnv scope s.heap.objs.size mainGlobals cl (q++".<locals>.") (some f) cv none builtinsNs::X.stack
 ex:=[]
 fn:=fun _=>false
 calm:=true
 pn:=[]
 xe:=NoE
theorem b2I {A:Around} {f:Addr} {pm cv ctv:Value} {q:Str} {args:Arguments} {body:Expr} {scope:Scope} {x:Str} {Nr:List Str} {js:List (Option Nat)} {v:V} {u:Value} {tb:TE} {Q:VK} {E:Value→Shared→Prop} {k:Nat}
  (I:Inv X pins σ H s) (hr:a2h k A) (hA:A.frames=some X.stack) (ok:a3h X (x::Nr) (none::js) scope) (hx:scope.names.lookup x=some .local) (hco:scope.isCoroutine=false) (hgen:scope.isGenerator=false)
  (hb:∀(q:Str) (cl:List (Str×Addr)) (pm cv ctv u:Value),bindArgs (kla_fn "<lambda>" q args body scope cl pm cv ctv) ⟨[u],[]⟩=pure [(x,u)])
  (ho:s.heap.get? f=some {cls:=.type "function",data:=.func (kla_fn "<lambda>" q args body scope (a2b X.env scope.names []) pm cv ctv)}) (hc:a2m H q cv) (rv:a0H v u)
  (he:PE (a5Z X (x::Nr) scope q f cv (a2b X.env scope.names []) A s H) body tb) (h:tb (some v::a1w js σ) H Q):
  wpAny (model X.prog X.w) A (call (.ref f) [u]) (EP X pins σ Q) E s:=by
 have hfr:∀y∈scope.names,y.2=NameKind.free→∃c,X.env.cells.lookup y.1=some c:=fun y hy e=>I.ok.has y.1 (ok.free y hy e)
 have hlook:∀x c,(a2b X.env scope.names []).lookup x=some c→X.env.cells.lookup x=some c:=fun x c e=>a3R hfr (fun y d q=>by simp at q) e
 obtain ⟨c',oc,vs,t,rfl,hcc,hd,hv⟩:=hc
 have hrec:s.heap.CodeRec (.ref c') q:=⟨c',oc,vs,t,rfl,(I.hok c' _ hcc).1,hd,hv⟩
 refine wpAny_call (kla_callFunE hr.depth ho rfl hco hgen rfl hrec ?_)
 rw [hb]
 refine wpAny_pure ?_
 refine wpAny_newFunctionEnv ok.nocell (fun y hy=>by rw [Xm.mp hy];exact hx) (fun h₁ hns hsb=>?_) ok.kind
 have old:∀b o,s.heap.get? b=some o→h₁.get? b=some o:=fun b o e=>hsb.extBut b o (Xg (Qu e)) (Qk _ e)
 refine ⟨I.nolimit.keeps old,kla_codeExpr ?_⟩
 have okc:(a5Z X (x::Nr) scope q f (.ref c') (a2b X.env scope.names []) A s H).Ok:=by
  have noA:∀b:Addr,b∉(a5Z X (x::Nr) scope q f (.ref c') (a2b X.env scope.names []) A s H).ex:=fun b z=>absurd (show b∈([]:List Addr) from z) (by simp)
  refine ⟨I.ok.mod,ok.kind,rfl,rfl,Qi _,fun y z c e1 e2=>I.ok.inj y z c (hlook y c e1) (hlook z c e2),fun y hy=>?_,fun y c z _=>absurd z Qx,fun _=>hr.hd,Around.frames_deeper hA,.inr ⟨rfl,rfl⟩,fun b z=>absurd z (noA b),
   I.bs,Qj I.ok.bsz I.sz,fun b _ _=>noA b,fun b z=>absurd z (noA b),I.stack,I.stkFree⟩
  have hy':scope.names.lookup y=some .cell∨scope.names.lookup y=some .free:=hy
  rcases hy' with z | z
  ·exact absurd rfl (ok.nocell _ (PySem.mem_of_lookup z))
  ·exact a2I (.inl (PySem.mem_of_lookup z))
 have Ic:Inv (a5Z X (x::Nr) scope q f (.ref c') (a2b X.env scope.names []) A s H) [] (some v::a1w js σ) H {s with heap:=h₁,toks:=s.toks+[(x,u)].length}:=by
  refine ⟨okc,rfl,I.bare,Un.kept old,⟨_,hns,fun i y z e1 e2 e3=>?_⟩,fun y c e=>?_,I.hok.fresh (Qi _),fun y c e=>I.freeC y c (hlook y c e),fun p hp=>absurd (show p∈([]:List (Addr×Obj)) from hp) (by simp),I.hok.kept old,?_⟩
  ·cases i with
   | zero=>
    have e1':x=y:=by simpa [a5Z] using e1
    have e2':v=z:=by simpa using e2
    subst e1';subst e2'
    exact ⟨u,rv,.inl ⟨hx,by simp⟩⟩
   | succ i=>
    have e1':(x::Nr)[i+1]?=some y:=e1
    rw [Qb] at e2
    unfold a1w at e2
    rw [Qn] at e2
    cases ej:js[i]? with
    | none=>rw [ej] at e2;simp at e2
    | some oj=>
     rw [ej] at e2
     cases oj with
     | none=>simp at e2
     | some j=>
      have e2':(σ[j]?).getD none=some z:=by simpa using e2
      have e2'':σ[j]?=some (some z):=by
       cases q:σ[j]? with
       | none=>rw [q] at e2';simp at e2'
       | some z'=>rw [q] at e2';simp at e2';rw [e2']
      obtain ⟨hN,hF⟩:=ok.map (i+1) y j e1' (by rw [Qb];exact ej)
      have hmem:(y,NameKind.free)∈scope.names:=PySem.mem_of_lookup hF
      have hkX:=ok.free _ hmem rfl
      obtain ⟨m,hn,hl⟩:=I.loc
      have hvis:Vis X.env.scope y:=by
       rcases hkX with z | z
       ·exact .inr (.inl z)
       ·exact .inr (.inr z)
      obtain ⟨u',ru,lk⟩:=hl j y z hN e2'' hvis
      refine ⟨u',ru,.inr ?_⟩
      rcases lk with ⟨k1,_⟩ | ⟨_,c,ec,ic⟩
      ·have k1':X.env.kindOf y=some NameKind.local:=k1
       rcases hkX with z | z
       ·rw [z] at k1';cases k1'
       ·rw [z] at k1';cases k1'
      ·obtain ⟨c2,hc2⟩:=a2I (env:=X.env) (l:=scope.names) (cs:=[]) (x:=y) (.inl hmem)
       have e':=hlook y c2 hc2
       rw [ec] at e'
       cases e'
       exact ⟨.inr hF,c,hc2,ic.keeps old⟩
  ·obtain ⟨z,r⟩:=I.cell y c (hlook y c e)
   exact ⟨z,r.keeps old⟩
  ·show (some v::a1w js σ).length=(x::Nr).length
   have:=ok.len
   unfold a1w
   rw [Qo,Qe]
   simpa using this
 refine wpAny_mono (he [] _ _ H Q Ic h) (fun u' s' hs=>?_) fun e s' hs=>hs.elim
 obtain ⟨v',H',J,rv',hq⟩:=hs
 exact ⟨v',H',I.call' (ch:=[]) J.os J.base J.hok J.bare (fun b z=>absurd z (by simp)),rv',hq⟩
end
theorem a4o:∀{ps:List Addr} {its:List Value},a0I (ps.map V.ref) its→its=ps.map Value.ref
 | [],_,.nil=>rfl
 | p::ps,_,.cons h r=>by
  have e:_=Value.ref p:=h
  rw [e,a4o r];rfl
theorem a5T:∀(ps:List Addr),a0I (ps.map V.ref) (ps.map Value.ref)
 | []=>.nil
 | p::ps=>.cons rfl (a5T ps)
theorem a3q {ss:List Str} {i:Nat} {z:Str} (e:ss[i]?=some z):ss.getD i ""=z:=by rw [Yj,e];rfl
theorem a8b (ss:List Str):(Yg ss.length).map (fun i=>ss.getD i "")=ss:=by
 refine List.ext_getElem (by simp) fun i h1 h2=>?_
 simp [h2]
def ltG (g:Str→Int) (x y:Str):Bool:=ltP (g x,x) (g y,y)
theorem b8s {ss:List Str} (g:Str→Int) (nd:ss.Nodup):c0M (fun i j=>ltG g (ss.getD i "") (ss.getD j "")) ss.length where
 irr:=fun i _=>b3V _
 tr:=fun i j k _ _ _ a b=>b7V a b
 tot:=fun i j hi hj e=>by
  refine b5k fun z=>?_
  have z2:ss.getD i ""=ss.getD j "":=congrArg Prod.snd z
  rw [a3q (Qc hi),a3q (Qc hj)] at z2
  exact e ((Zn nd).mp z2)
theorem b1Q {lt:Nat→Nat→Bool} {p:Array Nat} {n:Nat} (hs:p.size=n) (a:Asc lt p n):p.toList.Pairwise (fun i j=>lt i j=true):=by
 rw [Vg]
 intro i j hi hj hij
 have hi':i < p.size:=by simpa using hi
 have hj':j < p.size:=by simpa using hj
 have:=a i j hij (by omega)
 have e1:p.getD i 0=p[i]:=by simp [Jq,hi']
 have e2:p.getD j 0=p[j]:=by simp [Jq,hj']
 rw [e1,e2] at this
 simpa using this
section
variable {X:Cx} {pins:List (Addr×Obj)} {σ:St} {H:Hp} {s:Shared} {A:Around} {E:Value→Shared→Prop} {a kS:Addr} {e1:Nat} {P:PySem.Fin→Shared→Prop}
theorem a4s {st:SortSt} {out:List Value} {ss':List Str} {xs:List V} (I:Inv X ((a,seqObj "list" #[] e1)::pins) σ H s) (hm:b6q X pins a) (hk:H kS=some (.lst xs)) (hxs:xs.length < 64)
  (hf:failedOf st=none) (ho:(arrOf st).map (·.2)=Yp out) (rv:a0I (ss'.map V.str) out) (h64:ss'.length < 64)
  (h:∀H' s',Inv X pins σ H' s'→H' a=some (.lst (ss'.map V.str))→(∀b o,b≠kS→H b=some o→H' b=some o)→P (.done (.ret .none)) s'):
  wpAny (model X.prog X.w) A (ksk_tail a false e1 (.ref kS) st) P E s:=by
 obtain ⟨_,its,n,rk,hko⟩:=I.hok kS _ hk
 have hpa:=I.pin (a,seqObj "list" #[] e1) (Qz _ Qs)
 have hka:kS≠a:=fun z=>by rw [z,hpa.2.1] at hk;cases hk
 have hil:=rk.length
 have hol:out.length=ss'.length:=by have:=rv.length;simpa using this.symm
 obtain ⟨e2,hk2⟩:∃e2,(s.heap.update kS (Obj.mapSeq fun _=>(#[]:Array Value))).get? kS=some (seqObj "list" #[] e2):=⟨_,get?_update_seq hko fun _=>#[]⟩
 have I1:=I.write (x:=kS) (e:=kS) (o:=.lst []) (t':=s.toks) (h':=s.heap.update kS (Obj.mapSeq fun _=>(#[]:Array Value))) (by rw [hk];trivial) (.inl rfl) (fun b u hb e=>by rw [Js _ _ _ _ hb];exact e) ⟨_,hk2⟩ ⟨Xa _,[],e2,.nil,hk2⟩
 have hpa1:=I1.pin (a,seqObj "list" #[] e1) (Qz _ Qs)
 obtain ⟨e3,ha3⟩:∃e3,((s.heap.update kS (Obj.mapSeq fun _=>(#[]:Array Value))).update a (Obj.mapSeq fun _=>Yp out)).get? a=some (seqObj "list" (Yp out) e3):=⟨_,get?_update_seq hpa1.1 fun _=>Yp out⟩
 have I2:=(I1.pins_of (pins':=pins) (fun p hp=>I1.pin p (Qz _ (Qp _ hp)))).adopt (a:=a) (o:=.lst (ss'.map V.str)) (t':=s.toks) (h':=(s.heap.update kS (Obj.mapSeq fun _=>(#[]:Array Value))).update a (Obj.mapSeq fun _=>Yp out)) hpa1.2.1 hm
  (fun b u hb e=>by rw [Js _ _ _ _ hb];exact e) ⟨by rw [Qe,sizeLine_eq];omega,out,e3,rv,ha3⟩
 unfold ksk_tail
 simp only [Zg,if_false,ho]
 refine wpAny_bind (listUpdate_at hko rfl ?_ (by rw [Qr,sizeLine_eq];omega) (Xa _))
 refine wpAny_bind (wpAny_letGo ?_)
 refine wpAny_bind (seqEpoch_at hpa1.1 rfl ?_)
 refine wpAny_bind (listUpdate_at hpa1.1 rfl ?_ (Xa _) (by rw [Qr,sizeLine_eq];omega))
 rw [hf]
 simp only [bne_self_eq_false,Zg,if_false]
 refine wpAny_pure (h _ _ I2 a0d fun b o hb e=>?_)
 rw [a0a (fun z=>by rw [z,hpa.2.1] at e;cases e),a0a hb]
 exact e
theorem b0a {ps:List Addr} {its:List Value} {ss:List Str} {g:Str→Int} (I:Inv X ((a,seqObj "list" #[] e1)::pins) σ H s) (hm:b6q X pins a) (hk:H kS=some (.lst (ps.map V.ref))) (hl:ps.length=ss.length) (h64:ss.length < 64) (nd:ss.Nodup)
  (rv:a0I (ss.map V.str) its) (hp:∀(j:Nat) z p,ss[j]?=some z→ps[j]?=some p→H p=some (.tup [.int (g z),.str z]))
  (h:∀(H':Hp) (s':Shared) (ss':List Str),Inv X pins σ H' s'→H' a=some (.lst (ss'.map V.str))→(∀b o,b≠kS→H b=some o→H' b=some o)→ss'.Perm ss→ss'.Pairwise (fun x y=>ltG g x y=true)→P (.done (.ret .none)) s'):
  wpAny (model X.prog X.w) A (ksk_end a false its.toArray e1 (.ref kS) (Yp (ps.map Value.ref))) P E s:=by
 have hn:its.length=ss.length:=by have:=rv.length;simpa using this.symm
 have hkl:(ps.map Value.ref).length=its.length:=by rw [Qe];omega
 unfold ksk_end
 simp only [Zg,if_false]
 by_cases h2:its.toArray.size < 2
 ·rw [if_pos h2,if_pos h2]
  refine wpAny_bind (wpAny_pure ?_)
  rw [StateT.run_pure]
  refine wpAny_bind (wpAny_pure ?_)
  dsimp only
  rw [Qr] at h2
  have hz:(arrOf (SortSt.mk' general' ((Yp (ps.map Value.ref)).zip its.toArray) #[] 7 none)).map (·.2)=Yp its:=by
   show ((Yp (ps.map Value.ref)).zip its.toArray).map (·.2)=Yp its
   apply Array.toList_inj.mp
   simp only [Array.toList_map,Array.toList_zip]
   exact List.map_snd_zip (by omega)
  refine a4s (out:=its) (ss':=ss) I hm hk (by rw [Qe];omega) rfl hz rv h64 fun H' s' i1 i2 i3=>h H' s' ss i1 i2 i3 (List.Perm.refl _) ?_
  match ss,(show ss.length < 2 by omega) with
  | [],_=>exact List.Pairwise.nil
  | [z],_=>simp
  | _::_::_,q=>exact absurd q (by simp)
 ·rw [if_neg h2,if_neg h2]
  rw [Qr] at h2
  have h2':2≤its.length:=by omega
  have hget:∀i,i < its.length→∃z p,ss[i]?=some z∧ps[i]?=some p∧H p=some (.tup [.int (g z),.str z]):=fun i hi=>by
   have e1:=Qc (show i < ss.length by omega)
   have e2:=Qc (show i < ps.length by omega)
   exact ⟨_,_,e1,e2,hp i _ _ e1 e2⟩
  have hat:∀i,i < its.length→∃b o n t t',(ps.map Value.ref).getD i Value.none=.ref b∧s.heap.get? b=some o∧o.data=.seq #[.int (g (ss.getD i "")) t,.str (ss.getD i "") t'] n:=fun i hi=>by
   obtain ⟨z,p,e1,e2,e3⟩:=hget i hi
   obtain ⟨o,n,t,t',f1,f2,f3⟩:=b3S (I.hok _ _ e3)
   rw [a3q e1]
   exact ⟨p,o,n,t,t',by rw [Yj,Qn,e2];rfl,f1,f3⟩
  obtain ⟨fs,g1,g2,g3⟩:=b0E (h':=s.heap) (fun b o e=>I.hok b o e) (fun _ _ e=>e) (a5T ps) (fun v hv=>by
   obtain ⟨p,hp1,rfl⟩:=Ql.mp hv
   obtain ⟨i,hi,rfl⟩:=Yv hp1
   obtain ⟨z,p,e1,e2,e3⟩:=hget i (by omega)
   rw [Qc hi] at e2
   cases e2
   exact ⟨_,_,_,rfl,e3⟩)
  refine wpAny_bind (kat_kind (T:=.type "int") g1 (by omega) (fun v hv=>by obtain ⟨i,t,rfl⟩:=g3 v hv;exact .now) (by decide) ?_)
  have hok:=b6a (n:=its.length) (by omega)
  have L:=b8s g nd
  rw [←hn] at L
  refine wpAny_bind (wpAny_mono (kat_run (ks:=ps.map Value.ref) (vs:=its) (κ:=tuples' true) (Q:=fun st' s'=>∃p:Array Nat,p.size=its.length∧arrOf st'=p.map (kas_item ((ps.map Value.ref).toArray.zip its.toArray))∧failedOf st'=none∧p=a0Y (fun i j=>ltG g (ss.getD i "") (ss.getD j "")) (kas_sort its.length)∧s'=s)
   (G:=fun p s'=>p=a0Y (fun i j=>ltG g (ss.getD i "") (ss.getD j "")) (kas_sort its.length)∧s'=s)
   hkl h2' (by omega) (fun p' st' s' a1 a2 a3 a4=>⟨p',a1,a2,a3,a4.1,a4.2⟩) (TOk.wp (lt:=fun i j=>ltG g (ss.getD i "") (ss.getD j "")) (fun i j C hi hj hC=>?ask) hok ⟨rfl,rfl⟩)) ?_ fun _ _ e=>e)
  case ask=>
   obtain ⟨b,oa,na,ta,ta',ea,ha,da⟩:=hat i hi
   obtain ⟨c,ob,nb,tb,tb',eb,hb,db⟩:=hat j hj
   unfold kas_ask
   rw [ea,eb]
   refine kat_lt ha da hb db ?_
   have hC':C (ltP (g (ss.getD i ""),ss.getD i "") (g (ss.getD j ""),ss.getD j "")) s:=hC
   generalize hx:(g (ss.getD i ""),ss.getD i "")=x at hC'
   generalize hy:(g (ss.getD j ""),ss.getD j "")=y at hC'
   have hx1:g (ss.getD i "")=x.1:=by rw [←hx]
   have hx2:ss.getD i ""=x.2:=by rw [←hx]
   have hy1:g (ss.getD j "")=y.1:=by rw [←hy]
   have hy2:ss.getD j ""=y.2:=by rw [←hy]
   unfold ltP at hC'
   show KatLex _ _ _ _ _ _ [(.int (g (ss.getD i "")) ta,.int (g (ss.getD j "")) tb),(.str (ss.getD i "") ta',.str (ss.getD j "") tb')] 0 _
   rw [hx1,hy1,hx2,hy2]
   refine kat_cons (wpAny_eqBool_int ?_)
   by_cases h1:x.1=y.1
   ·rw [show (x.1 == y.1)=true from by rw [h1];exact beq_self_eq_true _]
    rw [if_pos h1] at hC'
    refine kat_yes (kat_cons (wpAny_eqBool_str ?_))
    by_cases h2:x.2=y.2
    ·rw [decide_eq_true h2]
     rw [if_pos h2] at hC'
     exact kat_yes (kat_nil (by simpa using hC'))
    ·rw [decide_eq_false h2]
     rw [if_neg h2] at hC'
     refine kat_no ?_
     show wpAny _ _ (oneLt' (true && (0+1) == 0) _ _) _ _ _
     rw [show (true && (0+1) == 0)=false from rfl]
     exact kat_one _ _ (PySem.P.lt_str hC')
   ·rw [show (x.1 == y.1)=false from beq_eq_false_iff_ne.mpr h1]
    rw [if_neg h1] at hC'
    refine kat_no ?_
    exact oneLt_int hC'
  rintro ⟨⟨⟩,st'⟩ s' ⟨p,hpz,har,hf,hpe,rfl⟩
  dsimp only
  have hP:a0C its.length p:=by rw [hpe];exact hok.run
  have hA:=b2L L (by omega)
  rw [←hpe] at hA
  have hpl:∀i∈p.toList,i < ss.length:=fun i hi=>by
   have:=hP.list.mem_iff.mp hi
   rw [Us] at this;omega
  have hv:=a5O rv p.toList (fun i hi=>by rw [Qe];exact hpl i hi)
  have hem:(p.toList.map fun i=>(ss.map V.str).getD i .non)=(p.toList.map fun i=>ss.getD i "").map V.str:=by
   rw [Xh]
   refine Uo fun i hi=>?_
   have e:=Qc (hpl i hi)
   show (ss.map V.str).getD i .non=V.str (ss.getD i "")
   rw [a3q e,Yj,Qn,e];rfl
  rw [hem] at hv
  have hplen:p.toList.length=ss.length:=by rw [hP.list.length_eq,Jf];exact hn
  refine a4s (out:=p.toList.map fun i=>its.getD i Value.none) (ss':=p.toList.map fun i=>ss.getD i "") I hm hk (by rw [Qe];omega) hf (kat_snds hkl har) hv (by rw [Qe];omega) fun H' s' i1 i2 i3=>h H' s' _ i1 i2 i3 ?_ ?_
  ·have h1:=hP.list.map fun i=>ss.getD i ""
   rw [hn,a8b] at h1
   exact h1
  ·rw [List.pairwise_map]
   exact b1Q hpz hA
theorem a7R {f:Addr} {pm cv ctv:Value} {q:Str} {args:Arguments} {body:Expr} {scope:Scope} {x:Str} {Nr:List Str} {js:List (Option Nat)} {tb:TE} {k:Nat} {its:List Value} {n:Nat} {ss:List Str} {g:Str→Int}
  (I:Inv X pins σ H s) (hr:a2h k A) (hA:A.frames=some X.stack) (ok:a3h X (x::Nr) (none::js) scope) (hx:scope.names.lookup x=some .local) (hco:scope.isCoroutine=false) (hgen:scope.isGenerator=false)
  (hb:∀(q:Str) (cl:List (Str×Addr)) (pm cv ctv u:Value),bindArgs (kla_fn "<lambda>" q args body scope cl pm cv ctv) ⟨[u],[]⟩=pure [(x,u)])
  (hf:(f,({cls:=.type "function",data:=.func (kla_fn "<lambda>" q args body scope (a2b X.env scope.names []) pm cv ctv)}:Obj))∈pins) (hc:a2m H q cv)
  (he:∀s H,PE (a5Z X (x::Nr) scope q f cv (a2b X.env scope.names []) A s H) body tb)
  (ha:s.heap.get? a=some (seqObj "list" its.toArray n)) (hna:H a=none) (hm:b6q X pins a) (rv:a0I (ss.map V.str) its) (h64:ss.length < 64) (nd:ss.Nodup)
  (hask:∀z∈ss,∀H2,Ex H H2→tb (some (.str z)::a1w js σ) H2 fun v H3=>∃p,v=.ref p∧H3 p=some (.tup [.int (g z),.str z])∧Ex H2 H3)
  (h:∀(H':Hp) (s':Shared) (ss':List Str),Inv X pins σ H' s'→H' a=some (.lst (ss'.map V.str))→Ex H H'→ss'.Perm ss→ss'.Pairwise (fun x y=>ltG g x y=true)→P (.done (.ret .none)) s'):
  wpAny (model X.prog X.w) A (ksk_tree a (.ref f) false) P E s:=by
 have hn:its.length=ss.length:=by have:=rv.length;simpa using this.symm
 obtain ⟨e1,ho1⟩:∃e1,(s.heap.update a (Obj.mapSeq fun _=>(#[]:Array Value))).get? a=some (seqObj "list" #[] e1):=⟨_,get?_update_seq ha fun _=>#[]⟩
 have I1:Inv X pins σ H {s with heap:=s.heap.update a (Obj.mapSeq fun _=>(#[]:Array Value)),toks:=s.toks}:=
  I.turned (fun b o hb e=>by rw [Js _ _ _ _ hb];exact e) hna hm.loc (.inr hm.s0) hm.cell hm.pin
 have I2:=I1.kept (t':=s.toks) (h':=(s.heap.update a (Obj.mapSeq fun _=>(#[]:Array Value))).push {cls:=.type "tuple",data:=.seq its.toArray.toList.toArray}) fun b o e=>Qk _ e
 have hS:=I2.hok.fresh (Qi _)
 have I3:=I2.laid (t':=s.toks) (a:=((s.heap.update a (Obj.mapSeq fun _=>(#[]:Array Value))).push {cls:=.type "tuple",data:=.seq its.toArray.toList.toArray}).objs.size) (o:=.lst [])
  (h':=((s.heap.update a (Obj.mapSeq fun _=>(#[]:Array Value))).push {cls:=.type "tuple",data:=.seq its.toArray.toList.toArray}).push {cls:=.type "list",data:=.seq ([]:List Value).toArray}) (fun b o e=>Qk _ e) (Qi _)
  ⟨Xa _,[],0,.nil,Qw _ rfl⟩
 have ho3:=Qk ({cls:=.type "list",data:=.seq ([]:List Value).toArray}:Obj) (Qk ({cls:=.type "tuple",data:=.seq its.toArray.toList.toArray}:Obj) ho1)
 generalize hkS:((s.heap.update a (Obj.mapSeq fun _=>(#[]:Array Value))).push {cls:=.type "tuple",data:=.seq its.toArray.toList.toArray}).objs.size=kS at I3 hS
 have hka:a≠kS:=by rw [←hkS];exact Xg (Qu (Qk _ ho1))
 have hSn:H kS=none:=hS
 have I4:=I3.pins_of (pins':=(a,seqObj "list" #[] e1)::pins) (fun p hp=>by
  rcases Qy.mp hp with z | z
  ·subst z
   exact ⟨ho3,by rw [a0a hka];exact hna,hm.loc,hm.fs,fun v z=>by cases z⟩
  ·exact I3.pin p (Qz _ z))
 have ex4:Ex H (upd H kS (.lst [])):=fun b o e=>by rw [a0a (fun z=>by rw [z,hSn] at e;cases e)];exact e
 unfold ksk_tree
 refine wpAny_bind (listItems_at ha rfl ?_)
 refine wpAny_bind (listUpdate_at ha rfl ?_ (by rw [Qr,sizeLine_eq];omega) (Xa _))
 refine wpAny_bind (seqEpoch_at ho1 rfl ?_)
 refine wpAny_bind (wpAny_newTuple ?_ (by show its.length≤_;rw [sizeLine_eq];omega))
 refine wpAny_bind (wpAny_newList ?_ (Xa _))
 refine wpAny_holding ?_
 show wpAny (model X.prog X.w) A (ksk_rest a (.ref f) false its.toArray e1 (.ref ((s.heap.update a (Obj.mapSeq fun _=>(#[]:Array Value))).push {cls:=.type "tuple",data:=.seq its.toArray.toList.toArray}).objs.size)) P E _
 rw [hkS]
 unfold ksk_rest
 refine wpAny_bind (wpAny_rule ?_)
 rw [List.forIn_toArray]
 refine wpAny_bind (ksk_fold (fun i s'=>∃H' ps,Inv X ((a,seqObj "list" #[] e1)::pins) σ H' s'∧Ex H H'∧H' kS=some (.lst (ps.map V.ref))∧ps.length=i∧∀(j:Nat) z p,ss[j]?=some z→ps[j]?=some p→H' p=some (.tup [.int (g z),.str z])) its 0 _
  ⟨_,[],I4,ex4,a0d,rfl,fun j z p _ e=>by simp at e⟩ ?step ?done)
 case step=>
  rintro j u s' hu ⟨H',ps,I',ex',hk',hl',hp'⟩
  rw [Nat.zero_add] at hl' ⊢
  have hj:j < its.length:=(Qm.mp hu).1
  have ez:=Qc (show j < ss.length by omega)
  obtain ⟨u2,hu2,ru⟩:=rv.get (i:=j) (x:=V.str (ss[j]'(by omega))) (by rw [Qn,ez];rfl)
  rw [hu] at hu2
  cases hu2
  have hfo:=(I'.pin _ (Qz _ (Qp _ hf))).1
  refine wpAny_bind (wpAny_attempt (wpAny_mono (b2I (E:=fun _ _=>False) I' hr hA ok hx hco hgen hb hfo (hc.mono ex') ru (he s' H') (hask _ (Xi _) H' ex')) (fun v s'' hv=>?_) fun _ _ z=>z.elim))
  obtain ⟨v',H2,J,rw',p,rfl,hpt,ex2⟩:=hv
  cases rw'
  dsimp only
  have hk2:=ex2 _ _ hk'
  obtain ⟨_,its',n',rk,hko⟩:=J.hok kS _ hk2
  have hil:=rk.length
  rw [Qe] at hil
  obtain ⟨c2,hc2⟩:∃c2,(s''.heap.update kS (Obj.mapSeq (·.push (Value.ref p)))).get? kS=some (seqObj "list" (its'.toArray.push (Value.ref p)) c2):=⟨_,get?_update_seq hko (·.push (Value.ref p))⟩
  have epush:its'.toArray.push (Value.ref p)=(its'++[Value.ref p]).toArray:=by simp
  rw [epush] at hc2
  have emap:(ps++[p]).map V.ref=ps.map V.ref++[V.ref p]:=by simp
  have J2:=J.write (x:=kS) (e:=kS) (o:=.lst ((ps++[p]).map V.ref)) (t':=s''.toks) (h':=s''.heap.update kS (Obj.mapSeq (·.push (Value.ref p)))) (by rw [hk2];trivial) (.inl rfl) (fun b u hb e=>by rw [Js _ _ _ _ hb];exact e) ⟨_,hc2⟩
   ⟨by rw [Qe,Xq,sizeLine_eq];simp only [Qo,Xb];omega,its'++[Value.ref p],c2,by rw [emap];exact rk.append (.cons rfl .nil),hc2⟩
  have hkp:kS≠p:=fun z=>by rw [z,hpt] at hk2;cases hk2
  refine wpAny_bind (listUpdate_at hko rfl ?_ (by rw [Qr,sizeLine_eq];omega) (by rw [Array.size_push,Qr,sizeLine_eq];omega))
  refine wpAny_pure ⟨rfl,_,ps++[p],J2,fun b o e=>?_,a0d,by rw [Xq,hl'];rfl,fun i z p1 ez1 ep1=>?_⟩
  ·by_cases hb1:b=kS
   ·rw [hb1,hSn] at e;cases e
   ·rw [a0a hb1];exact ex2 _ _ (ex' _ _ e)
  ·by_cases hi:i < ps.length
   ·rw [Xx hi] at ep1
    have e9:=ex2 _ _ (hp' i z p1 ez1 ep1)
    rw [a0a (fun y=>by rw [y,hk2] at e9;cases e9)]
    exact e9
   ·have hi2:i=ps.length:=by
     have h8:i < (ps++[p]).length:=(Qm.mp ep1).1
     rw [Xq] at h8
     simp only [Qo,Xb] at h8
     omega
    subst hi2
    rw [Xv (Qi _)] at ep1
    simp only [Uh,Qa,Option.some.injEq] at ep1
    subst ep1
    rw [a0a (Ne.symm hkp)]
    rw [hl',ez] at ez1
    cases ez1
    exact hpt
 case done=>
  rintro s' ⟨H',ps,I',ex',hk',hl',hp'⟩
  rw [Nat.zero_add] at hl'
  obtain ⟨_,its',n',rk,hko⟩:=I'.hok kS _ hk'
  have er:=a4o rk
  refine wpAny_bind (listItems_at hko rfl ?_)
  rw [er]
  refine b0a I' hm hk' (by omega) h64 nd rv hp' fun H2 s2 ss' i1 i2 i3 i4 i5=>h H2 s2 ss' i1 i2 (fun b o e=>i3 b o (fun z=>by rw [z,hSn] at e;cases e) (ex' b o e)) i4 i5
end
def b7X (T:Addr) (q:Str) (js:List (Option Nat)) (tb:TE) (σ:St) (Q:VK) (y:V) (H1:Hp):Prop:=∃(p:Addr) (kvs:List (Key×V)) (ss:List Str) (g:Str→Int),y=.ref p∧H1 p=some (.dK kvs)∧kvs.map (·.1)=ss.map Sum.inr∧ss.length < 64∧ss.Nodup∧a6t T q H1∧
 (∀z∈ss,∀H2,(∀a o,a≠T→H1 a=some o→H2 a=some o)→tb (some (.str z)::a1w js σ) H2 fun v H3=>∃p,v=.ref p∧H3 p=some (.tup [.int (g z),.str z])∧Ex H2 H3)∧
 ∀(l:Addr) (H':Hp) (ss':List Str),a6t T q H'→(∀a o,a≠T→H1 a=some o→H' a=some o)→H1 l=none→H' l=some (.lst (ss'.map V.str))→ss'.Perm ss→ss'.Pairwise (fun x y=>ltG g x y=true)→Q (.ref l) H'
def b3u (T:Addr) (q:Str) (js:List (Option Nat)) (te tb:TE):TE:=fun σ H Q=>te σ H (b7X T q js tb σ Q)
theorem b1z {X:Cx} {e:Expr} {te tb:TE} {args:Arguments} {body:Expr} {scope:Scope} {x y:Str} {p pos lpos kp:Pos} {Nr:List Str} {js:List (Option Nat)} {T:Addr} {q:Str} {k:Nat} (hy:y="sorted") (hc:X.calm=true) (hr:a2h (k+3) X.A) (hg:Gl X y) (hm:X.mg y=none)
  (hcb:a5K X.K X.env.code=some T) (hbk:c0e X.K X.mg) (ha:PE X e te) (ok:a3h X (x::Nr) (none::js) scope) (hx:scope.names.lookup x=some .local) (hco:scope.isCoroutine=false) (hgen:scope.isGenerator=false)
  (hb:∀(q:Str) (cl:List (Str×Addr)) (pm cv ctv u:Value),bindArgs (kla_fn "<lambda>" q args body scope cl pm cv ctv) ⟨[u],[]⟩=pure [(x,u)]) (hq:X.env.qual++"<lambda>"=q) (hdef:defaultsOf args X.env=([],[]))
  (he:∀f cv cl A s H,a2h k (a5Z X (x::Nr) scope q f cv cl A s H).A→PE (a5Z X (x::Nr) scope q f cv cl A s H) body tb) (hst:starEach [e] X.env=(false,eval e X.env)::starEach [] X.env:=by rfl):
  PE X (.Call (.Name y p) [e] [⟨some "key",.Lambda args body scope lpos,kp⟩] pos) (b3u T q js te tb):=by
 subst hy
 intro pins s σ H Q I h
 refine wpAny_Call_Name_kw (a2U I hg hm a5I ?_ (by decide) (by decide))
 refine callWith_kw (thn (b0b ha b3q hst pos pins s σ H (fun vs H1=>match vs with | [y]=>b7X T q js tb σ Q y H1 | _=>False) I h) fun us s1 ⟨vs,H1,I1,r1,q1⟩=>?_) (by rw [hst];rfl) (by rw [hst];rfl)
 match vs,q1,r1 with
 | [],q1,_=>exact q1.elim
 | _::_::_,q1,_=>exact q1.elim
 | [y],q1,r1=>
 obtain ⟨p,kvs,ss,g,rfl,hp,hks,h64,nd,lt1,hask,qq⟩:=q1
 obtain ⟨u,rfl,ru⟩:=a4a r1
 cases ru
 have hpT:p≠T:=fun z=>by
  obtain ⟨ps,e1,_⟩:=lt1
  rw [z,e1] at hp;cases hp
 refine kws_cons (b2y I1 hcb hbk ok hq hdef lt1 fun f pm cv ctv H2 s2 I2 lt2 ex2 hcd hfn hfm hfo=>kws_nil ?_)
 show wpAny (model X.prog X.w) X.A (call (.builtin "sorted") [.ref p] [(Jw "key",.ref f)]) _ _ s2
 have I3:=I2.pins_of (pins':=(f,({cls:=.type "function",data:=.func (kla_fn "<lambda>" q args body scope (a2b X.env scope.names []) pm cv ctv)}:Obj))::pins) (fun pr hpr=>by
  rcases Qy.mp hpr with z | z
  ·subst z
   exact ⟨hfo,hfn,hfm.loc,hfm.fs,fun v z=>by cases z⟩
  ·exact I2.pin pr (Qz _ z))
 obtain ⟨z,hd,vs,rel,dd⟩:=a4c I3.hok (.of (ex2 _ _ hpT hp))
 obtain ⟨ep,hat⟩:=dd.dictAt
 have hn:vs.length=ss.length:=by rw [←rel.length];have:=congrArg Yl hks;simpa using this
 refine call_function_entry_kw kind_sorted plain_sorted entry_sorted (ksk_s1 _ _) ?_
 unfold Builtin.«sorted»
 refine wpAny_bind (m:=checkCount "sorted" 1 1 _) (wpAny_pure ?_)
 refine wpAny_bind (kdu_collect (A:=X.A.in1) (kdl_dict (knd:=a0k X.prog X.w) (kvs:=vs) (ep:=ep) hd) (I.ok.hd hc) hat (by rw [sizeLine_eq];omega) fun h' tk acc hk hacc=>?_)
 have hal:acc.toList.length=ss.length:=by rw [Ja];exact hacc.1.trans hn
 have hS:StrsAre acc.toList ss:=a4l hal fun j v e=>by
  obtain ⟨k,x,hx,hkv⟩:=hacc.2 j v (by rw [←Wn];exact e)
  obtain ⟨y,hy,_⟩:=b1s rel hx
  have h1:(kvs.map (·.1))[j]?=some k:=by rw [Qn,hy];rfl
  rw [hks,Qn] at h1
  cases e2:ss[j]? with
  | none=>rw [e2] at h1;cases h1
  | some z'=>
   rw [e2] at h1
   cases h1
   obtain ⟨t,ht⟩:=b4z hkv
   exact ⟨z',t,rfl,ht⟩
 refine wpAny_bind (wpAny_newList ?_ (by rw [hal,sizeLine_eq];omega))
 have hoL:(h'.push (seqObj "list" acc.toList.toArray 0)).get? h'.objs.size=some (seqObj "list" acc.toList.toArray 0):=Qw _ rfl
 have I3':=I3.kept (t':=tk) hk
 have I4:=I3'.kept (t':=tk) (h':=h'.push (seqObj "list" acc.toList.toArray 0)) fun b o e=>Qk _ e
 have hD:H2 h'.objs.size=none:=I3'.hok.fresh (Qi _)
 have hD1:H1 h'.objs.size=none:=by
  cases e:H1 h'.objs.size with
  | none=>rfl
  | some o=>
   by_cases y:h'.objs.size=T
   ·obtain ⟨ps,e1,_⟩:=lt2
    rw [y,e1] at hD;cases hD
   ·rw [ex2 _ _ y e] at hD;cases hD
 refine wpAny_bind (wpAny_holding (wpAny_call_entry_kw slot_list_sort ⟨_,hoL,rfl⟩ entry_list_sort ?body (ksk_l1 _ _)))
 case body=>
  show wpAny (model X.prog X.w) X.A.in1.in1 (Builtin.«list.sort» ⟨[.ref h'.objs.size],[(Jw "key",.ref f)]⟩) _ _ _
  rw [ksk_t1]
  refine a7R (k:=k+1) (ss:=ss) (g:=g) I4 (show a2h (k+1+1+1) X.A from hr).in1.in1 I.ok.frames ok hx hco hgen hb Qs hcd (fun s H=>he _ _ _ _ s H ((show a2h (k+1+1+1) X.A from hr).in1.in1.deeper _)) hoL hD (I3'.mine (Qi _)) (a9b hS) h64 nd
   (fun z hz H3 e3=>hask z hz H3 fun a o n e=>e3 _ _ (ex2 _ _ n e)) fun H' s' ss' i1 i2 i3 i4 i5=>⟨_,rfl,wpAny_pure ⟨_,rfl,?_⟩⟩
  exact ⟨.ref h'.objs.size,H',i1.pins_of (fun pr hpr=>i1.pin pr (Qz _ (Qp _ hpr))),rfl,qq _ _ _ (lt2.mono i3) (fun a o n e=>i3 _ _ (ex2 _ _ n e)) hD1 i2 i4 i5⟩
def b1Y (T:Addr) (H:Hp):Prop:=H T=some (.tbl #[])∧∀b,b≠T→H b=none∨∃o xs,H b=some (.frz o (.lst xs))
def b4D (K:Qd) (c T:Addr):Bool:=match K.lookup c with
 | some o=>(match o.cls,o.data with
  | .type n,.fields vs=>(match (vs[11]?:Option Value) with
   | some (Value.ref P)=>n == "code" && P == T
   | _=>false)
  | _,_=>false)
 | none=>false
theorem b2a {K:Qd} {h:Heap} {c T:Addr} (X:K.In h) (e:b4D K c T=true):isCodeTable h T:=by
 unfold b4D at e
 split at e
 ·rename_i o ho
  split at e
  ·rename_i n vs hcl hd
   split at e
   ·rename_i P e11
    rw [Xn] at e
    have h1:n="code":=by simpa using e.1
    have h2:P=T:=by simpa using e.2
    exact ⟨c,o,vs,X _ _ ho,by rw [hcl,h1],hd,by rw [e11,h2]⟩
   ·cases e
  ·cases e
 ·cases e
theorem a9k {P:Program} {w:World} {K:Qd} {mg mb:Str→Option Value} {CX:CXT} {k:Nat} {fa a T:Addr} {fd:FuncData} {x:Str} {sp:Sp} {s₁:Shared} {vs:List Value} {ns:List Int}
  (KX:K.In s₁.heap) (hT:s₁.heap.get? T=some {cls:=.none,data:=.fields #[]}) (hKT:K.lookup T=none) (hCT:isCodeTable s₁.heap T) (hns:s₁.heap.Ns mainGlobals mg) (hb:s₁.heap.Ns builtinsNs mb) (hbb:∀x:Str,x≠"__name__"→mb x=bootBuiltins x) (hlim:s₁.heap.NoLimit) (hg:s₁.gens=#[])
  (ha:s₁.heap.get? a=some {cls:=.type "list",data:=.seq vs.toArray}) (hi:IntsAre vs ns) (hl:ns.length≤sizeLine) (hr:a2h k callerA)
  (F:∀base:Heap,K.In base→base.Ns mainGlobals mg→a1a P w K mg base CX k fa fd [x] sp) (hbind:∀(s:Shared) (u:Value),BindsTo s fd ⟨[u],[]⟩ [(x,u)])
  (hsp:∀H:Hp,b1Y T H→SqL K H a (ns.map V.int)→sp [.ref a] H (fun v _=>v=.bl true) fun _ _ _=>False)
  (hCX:∀H e s',CX [] H s₁ (fun _ _ _=>False) e s'→False):
  codeAny (model P w) callerA (.call (.ref fa) ⟨[.ref a],[]⟩) (fun r s'=>r=.ok (.ret (.bool true))∧OldK s₁.heap s'.heap∧s'.os=s₁.os∧AllBare s'.gens) s₁:=by
 have rv:=a5i hi
 have lenV:=hi.length
 have haT:a≠T:=fun z=>by rw [z,hT] at ha;cases ha
 have core:∀H:Hp,b1Y T H→SqL K H a (ns.map V.int)→HOk P w H s₁.heap→(∀b,H b≠none→b=a∨b=T)→(H a≠none→K.lookup a=none)→
   codeAny (model P w) callerA (.call (.ref fa) ⟨[.ref a],[]⟩) (fun r s'=>r=.ok (.ret (.bool true))∧OldK s₁.heap s'.heap∧s'.os=s₁.os∧AllBare s'.gens) s₁:=by
  intro H hO hS hok hA hK
  have base_of:∀{b:Addr} {o:Obj},s₁.heap.get? b=some o→H b=none→(b2N s₁.heap H).get? b=some o:=fun e n=>b1y e n
  have noA:∀{b:Addr} {o:Obj} {es:Array DictEntry} {ep:Nat},s₁.heap.get? b=some o→o.data=.dict es ep→H b=none:=fun {b o es ep} e d=>by
   cases q:H b with
   | none=>rfl
   | some u=>
    rcases hA b (by rw [q];simp) with e' | e'
    ·subst e'
     rw [ha] at e;cases e
     have d':Data.seq vs.toArray _=Data.dict es ep:=d
     cases d'
    ·subst e'
     rw [hT] at e;cases e
     have d':Data.fields #[]=Data.dict es ep:=d
     cases d'
  have nsK:∀{b:Addr} {m:Str→Option Value},s₁.heap.Ns b m→(b2N s₁.heap H).Ns b m:=fun {b m} ⟨o,es,ep,e,d,r⟩=>⟨o,es,ep,base_of e (noA e d),d,r⟩
  have hKb:K.In (b2N s₁.heap H):=fun b o e=>base_of (KX b o e) (by
   cases q:H b with
   | none=>rfl
   | some u=>
    rcases hA b (by rw [q];simp) with e' | e'
    ·subst e'
     rw [hK (by rw [q];simp)] at e;cases e
    ·subst e'
     rw [hKT] at e;cases e)
  have hM:Mod K mg (b2N s₁.heap H):=⟨hKb,nsK hns,⟨mb,nsK hb,hbb⟩,let ⟨mc,h1,h2⟩:=hlim;⟨mc,nsK h1,h2⟩⟩
  have e0:b4i P w K mg (b2N s₁.heap H) callerA [] s₁ H:=⟨rfl,hM,fun b o e=>b5w e,Vk (a9L _ _),trivial,fun b hb=>absurd (show b∈([]:List Addr) from hb) (by simp),hok,.of_eq hg⟩
  refine codeAny_mono ((F _ hKb (nsK hns)).run callerA [] s₁ H ⟨[.ref a],[]⟩ [.ref a] [.ref a] _ _ hr e0 (hbind s₁ (.ref a)) (.cons rfl .nil) (hsp H hO hS)) fun r s' h=>?_
  cases r with
  | error e=>exact (hCX H e s' h).elim
  | ok fl=>
   cases fl with
   | next=>exact False.elim h
   | brk=>exact False.elim h
   | cont=>exact False.elim h
   | ret u=>
    obtain ⟨v,H',os,bare,un,hok',r',q⟩:=h
    have q':v=.bl true:=q
    subst q'
    obtain rfl:u=Value.bool true:=r'
    obtain ⟨more,hT'⟩:=un.tbls T _ hO.1
    have hTo:s'.heap.get? T=some {cls:=.none,data:=.fields (#[]++more)}:=hok' T _ hT'
    have old:∀b o,b≠T→s₁.heap.get? b=some o→s'.heap.get? b=some o:=fun b o hbT e=>by
     cases q:H b with
     | none=>exact un.keep b o e q (by intro z;exact absurd (show b∈([]:List Addr) from z) (by simp)) (by simp)
     | some u=>
      rcases hO.2 b hbT with z | ⟨ob,xs,z⟩
      ·rw [q] at z;cases z
      ·have z2:=un.frzs b ob _ z
       obtain ⟨e1,_⟩:=hok b _ z
       obtain ⟨e2,_⟩:=hok' b _ z2
       rw [e] at e1;cases e1
       exact e2
    refine ⟨rfl,⟨fun b o e=>?_,fun b o e=>?_⟩,os,bare⟩
    ·by_cases hbT:b=T
     ·subst hbT
      rw [hT] at e;cases e
      exact .inr (.inl ⟨hCT,rfl,#[],more,rfl,hTo⟩)
     ·exact .inl (old b o hbT e)
    ·by_cases hbT:b=T
     ·subst hbT;exact ⟨_,hTo⟩
     ·exact ⟨o,old b o hbT e⟩
 cases hk:K.lookup a with
 | some o=>
  have e:=KX a o hk
  rw [ha] at e
  cases e
  refine core (fun b=>if b=T then some (.tbl #[]) else none) ⟨if_pos rfl,fun b hb=>.inl (if_neg hb)⟩ (.inr ⟨_,vs.toArray,_,hk,rfl,rfl,rfl,by rw [Qr,lenV];exact hl,by simpa using rv⟩) (fun b u z=>?_) (fun b z=>?_) fun z=>absurd (if_neg haT) z
  ·by_cases hb:b=T
   ·have z':=(if_pos hb).symm.trans z
    cases z'
    subst hb
    exact hT
   ·have z':=(if_neg hb).symm.trans z
    cases z'
  ·by_cases hb:b=T
   ·exact .inr hb
   ·exact absurd (if_neg hb) z
 | none=>
  refine core (fun b=>if b=T then some (.tbl #[]) else if b=a then some (.frz {cls:=.type "list",data:=.seq vs.toArray} (.lst (ns.map V.int))) else none) ⟨if_pos rfl,fun b hb=>?_⟩ (.inl (.inr ⟨{cls:=.type "list",data:=.seq vs.toArray},(if_neg haT).trans (if_pos rfl)⟩)) (fun b u z=>?_) (fun b z=>?_) fun _=>hk
  ·by_cases hba:b=a
   ·exact .inr ⟨_,_,(if_neg hb).trans (if_pos hba)⟩
   ·exact .inl ((if_neg hb).trans (if_neg hba))
  ·by_cases hb:b=T
   ·have z':=(if_pos hb).symm.trans z
    cases z'
    subst hb
    exact hT
   ·by_cases hba:b=a
    ·have z':=((if_neg hb).trans (if_pos hba)).symm.trans z
     cases z'
     subst hba
     exact ⟨ha,by rw [Qe];exact hl,vs,_,rv,ha⟩
    ·have z':=((if_neg hb).trans (if_neg hba)).symm.trans z
     cases z'
  ·by_cases hb:b=T
   ·exact .inr hb
   ·by_cases hba:b=a
    ·exact .inl hba
    ·exact absurd ((if_neg hb).trans (if_neg hba)) z
theorem a9G {l:PySem.W.OpenLaw} {n k:Nat} {q:Program} {loose:List Str} {XP:(Str→Option Value)→Heap→Prop} {YP:World→Heap→Prop} {d:DefRec} {K:Params→Qd} {CX:CXT} {sp:Qd→Sp} {x:Str} (T c:Addr)
  (hn:l.most=some n) (hn2:n≤sizeLine) (hdf:d.params.defaults=[]) (hr:a2h k callerA)
  (hY:∀(w:World) (h:Heap),YP w h→(K w.params).In h∧h.get? T=some {cls:=.none,data:=.fields #[]}) (hKT:∀w:World,(K w.params).lookup T=none) (hCT:∀w:World,b4D (K w.params) c T=true)
  (F:∀(w:World) (mg:Str→Option Value) (fa:Addr) (h:Heap),(K w.params).In h→h.Ns mainGlobals mg→mg d.name=some (.ref fa)→
   ∃fd:FuncData,(∀(s:Shared) (u:Value),BindsTo s fd ⟨[u],[]⟩ [(x,u)])∧
    ∀base:Heap,(K w.params).In base→base.Ns mainGlobals mg→a1a l.prog w (K w.params) mg base CX k fa fd [x] (sp (K w.params)))
  (hsp:∀(K:Qd) (H:Hp) (a:Addr) (ns:List Int),ns.length≤n→b1Y T H→SqL K H a (ns.map V.int)→sp K [.ref a] H (fun v _=>v=.bl true) fun _ _ _=>False)
  (hCX:∀(H:Hp) (s:Shared) (e:Value) (s':Shared),CX [] H s (fun _ _ _=>False) e s'→False):
  PySem.W.WalkO q loose XP YP l.row.toRowW d [] (fun f vs=>PySem.call f vs):=by
 refine Att.attach_call hn hdf fun w s₀ s₁ mg mb fa o pm cd doc a vs ns G Y ho hd hcd hmg hobj hints hlen hg=>?_
 obtain ⟨KX,hT⟩:=hY w _ Y
 obtain ⟨fd,hb,hF⟩:=F w mg fa _ KX G.T.g hmg
 exact a9k KX hT (hKT w) (b2a KX (hCT w)) G.T.g G.T.b G.T.builtins G.T.nolimit hg hobj hints (Qj hlen hn2) hr hF hb (fun H hO hS=>hsp (K w.params) H a ns hlen hO hS) fun H e s'=>hCX H s₁ e s'
theorem b5g {K:Qd} {T:Addr} {o:Obj} {h:Heap} (X:Qd.In ((T,o)::K) h) (n:K.lookup T=none):K.In h∧h.get? T=some o:=by
 refine ⟨fun a u e=>X a u ?_,X T o (by rw [Yh,beq_self_eq_true])⟩
 rw [Yh]
 have:(a == T)=false:=by
  rw [beq_eq_false_iff_ne]
  intro z;rw [z,n] at e;cases e
 rw [this];exact e
section
variable {P:Program} {w:World} {K:Qd} {mg:Str→Option Value} {base:Heap}
theorem Fun.okC {x qual:Str} {st:Stmt} {f:Addr} {fd:FuncData} {N ps:List Str} {k:Nat} {sp:Sp} (F:Fun K x qual st f fd) (S:a0g N ps (a0b st)) (len:∀vs H Q E,sp vs H Q E→vs.length=ps.length)
  (hbody:∀(A:Around) (outer:List Env) (s:Shared) (H:Hp) (vs:List V) (Q:VK) (E:XK),a2h k (A.deeper (envOfC qual (a0b st) s.heap.objs.size f fd.code))→sp vs H Q E→
   ∃t,PSs (b3G CX0 P w K mg base N qual (a0b st) f fd.code A outer s H E).nox (a1f st) t∧t {nx:=fun _ H'=>Q .non H',rt:=Q} (start N vs) H):a1a P w K mg base CX0 (k+1) f fd ps sp:=by
 obtain ⟨oc,od,kV,doc,pm,an,cdv,ct,osl,rfl,lk,hcd⟩:=F.ex
 refine b4X lk hcd S len fun A outer s H vs Q E hr hsp=>?_
 obtain ⟨t,h,q⟩:=hbody A outer s H vs Q E hr hsp
 exact ⟨t,h.nox,q⟩
end
end L2
namespace L2
open PySem PySem.Spec PySem.W PyProof.Rows
end L2
namespace L2
open PySem PySem.Spec PySem.W PyProof.Rows PySem.Builtin PySem.Builtin.ObjectAttr
def b3c:List Value→Bool
 | .ref _::r=>b3c r
 | [.type a,.type b,.type c,.type d]=>a == "ValueError" && b == "Exception" && c == "BaseException" && d == "object"
 | _=>false
def b6E (K:Qd) (C:Addr):Bool:=(clsIn K C).any fun cd=>b3c cd.mro
end L2
namespace L2
open PySem PySem.Spec PySem.W PyProof.Rows PySem.Builtin PySem.Builtin.ObjectAttr
end L2
namespace L2
open PySem PySem.Spec PySem.W PySem.Calls PyProof.Rows PySem.Builtin PySem.Builtin.ObjectAttr
abbrev bmV:List Value:=[.type "ValueError",.type "Exception",.type "BaseException",.type "object"]
def c6l (K:Qd) (C:Addr):Bool:=match K.lookup C with
 | some ⟨.type "type",_,.cls cd,sl⟩=>(match cd.mro,sl.toList with
  | .ref C'::bm,[_,_,_,_,some (.builtin n),_]=>C' == C && n == "ValueError.__new__" && !cd.hasDel && !cd.abstract && tailIn K bmV bm && specialIn K (.ref C) "__call__" == some (some (.builtin "type.__call__")) && instIn K (.ref C) (.type "type") == some true
  | _,_=>false)
 | _=>false
end L2
namespace L2
open PySem PySem.Spec PySem.W PySem.Calls PyProof.Rows PySem.Builtin PySem.Builtin.ObjectAttr
structure c6f (K:Qd) (C:Addr):Prop where
 ga:findIn K (.ref C) "__getattribute__"=some (some (.builtin "BaseException.__getattribute__"))
 gt:findIn K (.ref C) "__getattr__"=some none
 bx:mroIn K C (.type "BaseException")=some true
 hd:hasDictIn K C=true
 cc:findIn K (.ref C) "__class__"=some (some (.builtin "object.__class__"))
 cg:specialIn K (.builtin "object.__class__") "__get__"=some (some (.builtin "getset_descriptor.__get__"))
 ct:takesIn K (.builtin "object.__class__")=some true
 mo:mroIn K C (.type "object")=some true
 sa:findIn K (.ref C) "__setattr__"=some (some (.builtin "object.__setattr__"))
 ov:b6E K C=true
 xc:c6l K C=true
end L2
namespace L2
open PySem PySem.Spec PySem.W PyProof.Rows
def c3F (x C:Addr) (od:Option Addr):HO:=.ext fun h=>∃vs sl,h.get? x=some ⟨.ref C,od,.fields vs,sl⟩∧vs[1]?=some Value.none
def c3S (x C:Addr) (od:Option Addr) (T:Addr):HO:=.ext fun h=>∃vs sl,h.get? x=some ⟨.ref C,od,.fields vs,sl⟩∧vs[1]?=some (Value.ref T)
def IsX (H:Hp) (x C:Addr) (od:Option Addr):Prop:=H x=some (c3F x C od)∨∃T,H x=some (c3S x C od T)
end L2
namespace L2
open PySem PySem.Spec PySem.W PySem.Calls PyProof.Rows
end L2
namespace L2
open PySem PySem.Spec PySem.W PySem.Calls PyProof.Rows
def c4X (H:Hp) (x C:Addr) (m:Str) (v:V):Prop:=∃d,IsX H x C (some d)∧H d=some (.xd [(m,v)])
end L2
namespace L2
open PySem PySem.Spec PySem.W PySem.Calls PyProof.Rows
theorem b1S {K:Qd} {a:Addr} {xs:List V} {g:TG} {tb:TS} {D:a6d} {σ:St} {H:Hp} (Pv:Nat→St→Hp→Prop) (h0:Pv 0 σ H) (hl:∀i σ H,i≤xs.length→Pv i σ H→SqL K H a xs)
  (hs:∀i x σ H p,xs[i]?=some x→Pv i σ H→H p=none→g (.ref p) σ (upd H p (.tup [.int i,x])) fun σ2 H2=>tb {D with nx:=Pv (i+1),ct:=Pv (i+1),bk:=D.nx} σ2 H2) (hd:∀σ H,Pv xs.length σ H→D.nx σ H):
  ∃W:Nat→Nat→St→Hp→Prop,(∃m,W 0 m σ H)∧∀i m σ H,W i m σ H→
   ((Ite K a).stop i H∧D.nx σ H)∨((Ite K a).go i H∧∃N:St→Hp→Prop,(∀σ' H',N σ' H'→∃m',m' < m∧W (i+1) m' σ' H')∧∀x H',(Ite K a).yld i H x H'→g x σ H' fun σ2 H2=>tb {D with nx:=N,ct:=N,bk:=D.nx} σ2 H2):=by
 refine ⟨fun i m σ H=>m=xs.length - i∧i≤xs.length∧Pv i σ H,⟨xs.length,by simp,Xa _,h0⟩,?_⟩
 rintro i m σ H ⟨rfl,hi,p⟩
 have q:=hl i σ H hi p
 by_cases hlt:i < xs.length
 ·refine .inr ⟨⟨xs,xs[i],q,by simp [hlt]⟩,Pv (i+1),fun σ' H' p'=>⟨xs.length - (i+1),by omega,rfl,hlt,p'⟩,?_⟩
  rintro x H' ⟨pp,w,hpn,hw,rfl,rfl⟩
  exact hs i w σ H pp (hw xs q) p hpn
 ·have e:i=xs.length:=by omega
  subst e
  exact .inl ⟨⟨xs,q,Qi _⟩,hd σ H p⟩
def c3k (H:Hp) (x C:Addr):Option (Str×V)→Prop
 | some (m,v)=>c4X H x C m v
 | none=>IsX H x C none
def b6r (H:Hp):List Addr→List (Addr×Option (Str×V))→Prop
 | [],[]=>True
 | x::xs,e::es=>c3k H x e.1 e.2∧b6r H xs es
 | _,_=>False
theorem b6r.len {H:Hp}:∀{xs:List Addr} {es:List (Addr×Option (Str×V))},b6r H xs es→xs.length=es.length
 | [],[],_=>rfl
 | _::_,_::_,⟨_,b⟩=>congrArg (·+1) b.len
 | [],_::_,h=>h.elim
 | _::_,[],h=>h.elim
theorem b6r.get {H:Hp}:∀{xs:List Addr} {es:List (Addr×Option (Str×V))} {i:Nat} {e:Addr×Option (Str×V)},b6r H xs es→es[i]?=some e→∃x,xs[i]?=some x∧c3k H x e.1 e.2
 | _::_,_::_,0,_,⟨a,_⟩,h=>by cases h;exact ⟨_,rfl,a⟩
 | _::_,_::_,i+1,_,⟨_,b⟩,h=>b6r.get (i:=i) b (by simpa using h)
 | [],_::_,_,_,h,_=>h.elim
 | _::_,[],_,_,h,_=>h.elim
end L2
namespace L2
open PySem PySem.Spec PySem.W PySem.Calls PyProof.Rows
def TbO (T:Addr) (fl:Value):HO:=.ext fun h=>∃ob ts,h.get? T=some ob∧ob.data=.fields ts∧ts[3]?=some fl
def Fl (H:Hp) (x C:Addr) (od:Option Addr) (fl:Value) (T:Addr):Prop:=T≠x∧H x=some (c3S x C od T)∧H T=some (TbO T fl)
def Arr (H:Hp) (x C:Addr) (od oT:Option Addr):Prop:=(oT=none∧H x=some (c3F x C od))∨∃T,oT=some T∧Fl H x C od .none T
end L2
namespace L2
open PySem PySem.Spec PySem.W PySem.Calls PyProof.Rows
end L2
namespace L2
open PySem PySem.Spec PySem.W PySem.Calls PyProof.Rows
section
variable {X:Cx} {pins:List (Addr×Obj)} {σ:St} {H:Hp} {s:Shared}
abbrev XW:=St→Addr→Addr→Hp→Prop
def XP (X:Cx) (pins:List (Addr×Obj)) (W:XW) (e:Value) (s':Shared):Prop:=∃σ H x C od oT,e=.ref x∧Inv X pins σ H s'∧Arr H x C od oT∧c6f X.K C∧W σ x C H
end
end L2
namespace L2
open PySem PySem.Spec PySem.W PySem.Calls PyProof.Rows
end L2
namespace L2
open PySem PySem.Spec PySem.W PySem.Calls PyProof.Rows
end L2
namespace L2
open PySem PySem.Spec PySem.W PySem.Calls PyProof.Rows
end L2
namespace L2
open PySem PySem.Spec PySem.W PySem.Calls PyProof.Rows
end L2
namespace L2
open PySem PySem.Spec PySem.W PySem.Calls PyProof.Rows
end L2
namespace L2
open PySem PySem.Spec PySem.W PySem.Calls PyProof.Rows
end L2
namespace Tx
open PySem PySem.Builtin PySem.Builtin.Str PySem.StrLaws PyProof.Rows
theorem a1R (l:List Nat) (i j:Nat):(strSub (mk l) i j).length≤l.length:=by
 rw [b6X,a0y]
 exact Qj (Wq _ _) (by rw [Jn];omega)
end Tx
namespace L2
open PySem PySem.Spec PySem.W PySem.Calls PyProof.Rows
def Itk (o:Obj) (a:Addr) (kvs:List (Key×V)):It:=⟨fun i H=>H a=some (.frz o (.dK kvs))∧i < kvs.length,fun i H x H'=>H'=H∧∃k v,kvs[i]?=some (k,v)∧x=kV k,fun i H=>H a=some (.frz o (.dK kvs))∧kvs.length≤i⟩
def a9V (td:TE):TI:=fun σ H R=>td σ H fun x H1=>∃(a:Addr) (kvs:List (Key×V)),x=.ref a∧H1 a=some (.dK kvs)∧∀o,R (Itk o a kvs) (upd H1 a (.frz o (.dK kvs)))
theorem a7q {o:Obj} {a:Addr} {kvs:List (Key×V)}:Src (Itk o a kvs) kvs.length (fun i=>(kvs[i]?.map fun p=>kV p.1).getD .non) (fun H=>H a=some (.frz o (.dK kvs))):=
 ⟨fun i H hi h=>⟨h,hi⟩,fun i H x H' hi h y=>⟨y.1,by obtain ⟨_,k,v,e,rfl⟩:=y;rw [e];rfl⟩,fun H h=>⟨h,Qi _⟩⟩
theorem b2B {P:Program} {w:World} {k:Key} {u:Value} (h:(a0k P w).is k u=true):a0H (kV k) u:=by
 rcases a0F (k:=k) (v:=u) h with ⟨i,t,rfl,rfl⟩ | ⟨x,t,rfl,rfl⟩
 ·exact ⟨t,rfl⟩
 ·exact ⟨t,rfl⟩
theorem b4a:∀{r:List (Key×V)} {rs:List (Key×Value)},KV r rs→∀{i:Nat} {p:Key×V},r[i]?=some p→∃q,rs[i]?=some q∧p.1=q.1:=by
 intro r rs h
 unfold KV at h
 induction h with
 | nil=>intro i p e;simp at e
 | @cons p q ps qs h t ih=>
  intro i p' e
  cases i with
  | zero=>cases e;exact ⟨q,rfl,h.1⟩
  | succ i=>exact ih e
theorem b0u {P:Program} {w:World} {K:Qd} {tg:Expr} (o:Obj) (a it:Addr) (kvs:List (Key×V)):b1G P w K tg (Itk o a kvs) [it] it (fun i h=>∃es ep,o.data=.dict es ep∧h.IsKeyIter it a i kvs.length ep) where
 mem:=by simp
 obj:=fun i h st b hb=>by
  have e:b=it:=by simpa using hb
  subst e
  obtain ⟨_,_,_,ob,e,c,d⟩:=st
  exact ⟨ob,e,fun v z=>by rw [d] at z;cases z⟩
 keep:=fun i h h' st k=>by
  obtain ⟨es,ep,hd,hit⟩:=st
  exact ⟨es,ep,hd,hit.at fun o e=>k it (by simp) o e⟩
 item:=by
  intro X hP hw hK hc i pins s σ H E I hf st hg
  subst hP hw hK
  obtain ⟨es,ep,hd,hit⟩:=st
  obtain ⟨hfr,hi⟩:=hg
  obtain ⟨ho,z,hds,vs,rel,dd⟩:=(show a0Q X.prog X.w H s.heap a (.frz o (.dK kvs)) from I.hok a _ hfr)
  obtain ⟨o',es',ep',ho',hx,hdat,r⟩:=dd
  rw [ho] at ho';cases ho'
  rw [hd] at hdat;cases hdat
  have hm:s.heap.DictAt (a0k X.prog X.w) a vs ep:=⟨o,es,ho,hx,hd,r⟩
  have hl:=rel.length
  rw [hl] at hit
  obtain ⟨⟨k,u⟩,hq,ek⟩:=b4a rel (Qc hi)
  obtain ⟨f0,f1,f2,f3,f4,f5⟩:=hf it (by simp)
  refine wpAny_pyNext_dict_item (knd:=a0k X.prog X.w) hit hm hq fun key h' hkey st' sb=>?_
  have I1:Inv X pins σ H {s with heap:=h'}:=I.turned (t':=s.toks) (fun b o hb e=>(sb.2 b hb).trans e) f0 f1 f3 f4 f5
  obtain ⟨ob,e,c,d⟩:=id st'
  have ek':kvs[i].1=k:=ek
  exact ⟨key,rfl,b1u (s:={s with heap:=h'}) e c d (by decide) ⟨kV kvs[i].1,H,I1,by rw [ek'];exact b2B hkey,⟨rfl,kvs[i].1,kvs[i].2,Qc hi,rfl⟩,⟨es,ep,hd,by rw [hl];exact st'⟩,fun b hb=>(hf b hb).1⟩⟩
 done:=by
  intro X hP hw hK hc i pins s σ H E I hf st hg
  subst hP hw hK
  obtain ⟨es,ep,hd,hit⟩:=st
  obtain ⟨hfr,hi⟩:=hg
  obtain ⟨ho,z,hds,vs,rel,dd⟩:=(show a0Q X.prog X.w H s.heap a (.frz o (.dK kvs)) from I.hok a _ hfr)
  obtain ⟨o',es',ep',ho',hx,hdat,r⟩:=dd
  rw [ho] at ho';cases ho'
  rw [hd] at hdat;cases hdat
  have hm:s.heap.DictAt (a0k X.prog X.w) a vs ep:=⟨o,es,ho,hx,hd,r⟩
  have hl:=rel.length
  rw [hl] at hit
  obtain ⟨f0,f1,f2,f3,f4,f5⟩:=hf it (by simp)
  exact wpAny_pyNext_dict_end (knd:=a0k X.prog X.w) (I.ok.hd hc) hit hm (Yb (by omega)) fun h' eb=>⟨rfl,I.turned (t':=s.toks) (fun b o hb e=>eb b o hb e) f0 f1 f3 f4 f5⟩
 self:=fun _ _ _ _ _ st h=>by
  obtain ⟨es,ep,hd,hit⟩:=st
  exact wpAny_pyIter_keyiter hit h
section
variable {X:Cx} {tg:Expr}
theorem b5C {o:Expr} {td:TE} (ho:PE X o td):PI X tg o (a9V td):=by
 intro pins s σ H R I h
 refine thn (ho pins s σ H _ I h) fun v s1 ⟨x,H1,I1,r1,q1⟩=>?_
 obtain ⟨a,kvs,rfl,hH,q⟩:=q1
 cases r1
 obtain ⟨z,hds,vs,rel,dd⟩:=a2u I1.hok hH
 obtain ⟨ob,es,ep,hob,hx,hdat,r⟩:=id dd
 have hm:s1.heap.DictAt (a0k X.prog X.w) a vs ep:=⟨ob,es,hob,hx,hdat,r⟩
 refine wpAny_pyIter_dict (knd:=a0k X.prog X.w) hds hm ?_
 have keep:∀b u,s1.heap.get? b=some u→(s1.heap.push {cls:=.type "dict_keyiterator",data:=.fields #[.ref a,.int 0 0,.int vs.length 0,.int ep 0]}).get? b=some u:=fun b u e=>Qk _ e
 have I2:=I1.kept (t':=s1.toks) keep
 obtain ⟨o2,ho2,I3⟩:=I2.freeze hH
 have e2:o2=ob:=by
  have:=keep a ob hob
  rw [show _=some o2 from ho2] at this
  exact Option.some.inj this
 subst e2
 have hl:=rel.length
 refine ⟨s1.heap.objs.size,[s1.heap.objs.size],_,_,_,rfl,I3,b0u o2 a _ kvs,⟨es,ep,hdat,_,Qw _ rfl,rfl,by rw [hl];rfl⟩,fun b hb=>?_,q o2⟩
 have e:b=s1.heap.objs.size:=by simpa using hb
 subst e
 have hn:=I1.hok.fresh (a:=s1.heap.objs.size) (Qi _)
 exact I1.fpOk (Qi _) (by rw [a0a (a0c hH hn).symm];exact hn)
end
end L2
namespace L2
open PySem PySem.Spec PySem.W PySem.Calls PyProof.Rows
def c0t:V→List V→Hp→VK→Prop:=fun x xs H Q=>∃(a b:Addr) (kvs more:List (Key×V)),x=.ref a∧xs=[.ref b]∧a≠b∧H a=some (.dK kvs)∧H b=some (.dK more)∧kvs.length+more.length≤sizeLine∧Q .non (upd H a (.dK (a1F kvs more)))
def b7Y:V→List V→Hp→VK→Prop:=fun x xs H Q=>∃(a:Addr) (kvs:List (Key×V)),x=.ref a∧xs=[]∧H a=some (.dK kvs)∧∀p,H p=none→Q (.ref p) (upd H p (.dK kvs))
section
variable {X:Cx}
theorem a4w:MtM X "dict.update" c0t:=by
 intro pins s σ H x xs v us Q I rx rv h
 obtain ⟨a,b,kvs,more,rfl,rfl,hab,ha,hb,hz,q⟩:=h
 cases rx
 obtain ⟨u,rfl,ru⟩:=a4a rv
 cases ru
 obtain ⟨z,hd,vs,rel,dd⟩:=a2u I.hok ha
 obtain ⟨z',hd',vs',rel',dd'⟩:=a2u I.hok hb
 refine call_meetsIn Jx dd.typeIs PySem.F.entry_dict_update (PySem.F.args_dict_update_2 _ _) (meets_dict_update (a0k X.prog X.w) a b hab hd') ⟨vs,vs',dd,dd',by rw [←rel.length,←rel'.length];exact hz,fun h' dn db hs=>?_⟩
 have he:∃q,h'.get? a=some q:=let ⟨q,_,_,hq,_⟩:=dn;⟨q,hq⟩
 exact ⟨.non,_,a3I (t':=s.toks) I (by rw [ha];exact True.intro) hs he (a5u (Qj (a1z more kvs) hz) hd (KV.merge rel' rel) dn),rfl,q⟩
theorem b2o:MtM X "dict.copy" b7Y:=by
 intro pins s σ H x xs v us Q I rx rv h
 obtain ⟨a,kvs,rfl,rfl,ha,q⟩:=h
 cases rx
 have hus:=rv.zero
 subst hus
 obtain ⟨z,hd,vs,rel,dd⟩:=a2u I.hok ha
 refine call_meetsIn Wh dd.typeIs PySem.F.entry_dict_copy (PySem.F.args_dict_copy_1 _) (meets_dict_copy (a0k X.prog X.w) a hd) ⟨vs,dd,by rw [←rel.length];exact z,fun h' dn _ hk=>?_⟩
 have hm:(s.heap.objs.size == sysModules)=false:=by
  have:=I.big
  rw [beq_eq_false_iff_ne]
  exact fun z=>absurd (z ▸ this) (Zc _)
 exact ⟨.ref s.heap.objs.size,_,I.laid (t':=s.toks) hk (Qi _) (a5u z hm rel dn),rfl,q _ (I.hok.fresh (Qi _))⟩
end
end L2
namespace L2
open PySem PySem.Spec PySem.W PySem.Calls PyProof.Rows
def b6C (K:Qd) (H:Hp) (kvs kvs':List (Key×V)):Prop:=kvs.length=kvs'.length∧∀p∈kvs,∃v d,a0P kvs' p.1=some v∧Den K H p.2 d∧Den K H v d∧Yi d=true∧d.depth≤60
def c0i (K:Qd):R2:=fun x y H Q=>∃(a b:Addr) (kvs kvs':List (Key×V)),x=.ref a∧y=.ref b∧H a=some (.dK kvs)∧H b=some (.dK kvs')∧b6C K H kvs kvs'∧Q (.bl true) H
def c0K (K:Qd):R2:=fun x y H Q=>∃(a b:Addr) (kvs kvs':List (Key×V)),x=.ref a∧y=.ref b∧H a=some (.dK kvs)∧H b=some (.dK kvs')∧b6C K H kvs kvs'∧Q (.bl false) H
section
variable {X:Cx} {pins:List (Addr×Obj)} {σ:St} {H:Hp} {s:Shared}
theorem a4O {A:Around} (hu:A.units+61 < cLine) (I:Inv X pins σ H s) {kvs:List (Key×V)} {vs':List (Key×Value)} (rel':KV kvs vs'):∀{r:List (Key×V)} {rs:List (Key×Value)},KV r rs→(∀p∈r,∃v d,a0P kvs p.1=some v∧Den X.K H p.2 d∧Den X.K H v d∧Yi d=true∧d.depth≤60)→KeqHits A s vs' rs true:=by
 intro r rs h
 unfold KV at h
 induction h with
 | nil=>intro _;exact .nil
 | @cons p q ps qs h t ih=>
  intro hp
  obtain ⟨v,d,e,d1,d2,sh,dp⟩:=hp p Qs
  have hv:=rel'.val p.1
  rw [e] at hv
  obtain ⟨q1,q2⟩:=q
  obtain ⟨hk,hr⟩:=h
  dsimp only at hk hr
  rw [hk] at hv
  cases ev:valueAt vs' q1 with
  | none=>rw [ev] at hv;exact hv.elim
  | some y=>
   rw [ev] at hv
   have hv':a0H v y:=hv
   obtain ⟨as,ra⟩:=d1.reads I hr
   obtain ⟨bs,rb⟩:=d2.reads I hv'
   have hq:Ye A s q2 y (Xp d d):=Vq d d A s q2 y as bs ra rb (Je sh) (Je sh) (by rw [Nat.min_self];omega)
   rw [a7d d sh] at hq
   have:=KeqHits.hit (k:=q1) ev hq (ih fun p hp'=>hp p (Qp _ hp'))
   rw [Zd] at this
   exact this
end
section
variable {X:Cx}
theorem b4I (hu:X.A.units+64 < cLine):OpR X (compareOp .Eq) (c0i X.K):=by
 intro pins s σ H x y v u Q I rx ry h
 obtain ⟨a,b,kvs,kvs',rfl,rfl,ha,hb,⟨hl,hs⟩,q⟩:=h
 cases rx;cases ry
 obtain ⟨z,hd,vs,rel,dd⟩:=a2u I.hok ha
 obtain ⟨z',hd',vs',rel',dd'⟩:=a2u I.hok hb
 refine keq_eq (knd:=a0k X.prog X.w) (r:=true) hd hd' dd dd' (by omega) (fun _=>a4O (by show X.A.units+1+61 < cLine;omega) I rel' rel hs) ?_
 rw [←rel.length,←rel'.length,hl,beq_self_eq_true,Zd]
 exact ⟨.bl true,H,I,rfl,q⟩
theorem b5F (hu:X.A.units+64 < cLine):OpR X (compareOp .NotEq) (c0K X.K):=by
 intro pins s σ H x y v u Q I rx ry h
 obtain ⟨a,b,kvs,kvs',rfl,rfl,ha,hb,⟨hl,hs⟩,q⟩:=h
 cases rx;cases ry
 obtain ⟨z,hd,vs,rel,dd⟩:=a2u I.hok ha
 obtain ⟨z',hd',vs',rel',dd'⟩:=a2u I.hok hb
 refine keq_ne (knd:=a0k X.prog X.w) (r:=true) hd hd' dd dd' (by omega) (fun _=>a4O (by show X.A.units+1+61 < cLine;omega) I rel' rel hs) ?_
 rw [←rel.length,←rel'.length,hl,beq_self_eq_true,Zd]
 exact ⟨.bl false,H,I,rfl,q⟩
end
end L2
namespace L2
open PySem PySem.Spec PySem.W PySem.Calls PyProof.Rows
def a9g (ts:TS):TS:=fun E σ H=>∃(a:Addr) (kvs:List (Key×V)),H a=some (.dK kvs)∧
 ts {nx:=fun σ' H1=>∃o,H1 a=some (.frz o (.dK kvs))∧E.nx σ' (upd H1 a (.dK kvs)),rt:=fun v H1=>∃o,H1 a=some (.frz o (.dK kvs))∧E.rt v (upd H1 a (.dK kvs)),bk:=fun σ' H1=>∃o,H1 a=some (.frz o (.dK kvs))∧E.bk σ' (upd H1 a (.dK kvs)),ct:=fun σ' H1=>∃o,H1 a=some (.frz o (.dK kvs))∧E.ct σ' (upd H1 a (.dK kvs))} σ H
def c6e (K:Qd):R2:=fun x y H Q=>∃(a b:Addr) (xs:List V),x=.ref a∧y=.ref b∧SqL K H a xs∧SqL K H b []∧Q (.bl (decide (xs≠[]))) H
section
variable {X:Cx}
theorem b5Z {st:Stmt} {ts:TS} (hs:PS X st ts):PS X st (a9g ts):=by
 intro pins s σ H D I h
 obtain ⟨a,kvs,hH,h⟩:=h
 have hn:∀ob u,X.H₀ a≠some (.frz ob u):=fun ob u z=>by
  have:=I.base.frzs a ob u z
  rw [hH] at this;cases this
 refine thn (hs pins s σ H _ I h) fun f s1 q=>?_
 cases f with
 | next=>obtain ⟨σ',H1,I1,o,e1,q⟩:=q;exact ⟨σ',_,I1.thaw e1 hn,q⟩
 | brk=>obtain ⟨σ',H1,I1,o,e1,q⟩:=q;exact ⟨σ',_,I1.thaw e1 hn,q⟩
 | cont=>obtain ⟨σ',H1,I1,o,e1,q⟩:=q;exact ⟨σ',_,I1.thaw e1 hn,q⟩
 | ret u=>obtain ⟨v,σ',H1,I1,r,o,e1,q⟩:=q;exact ⟨v,σ',_,I1.thaw e1 hn,r,q⟩
theorem b8z (hu:X.A.units+64 < cLine):OpR X (compareOp .NotEq) (c6e X.K):=by
 intro pins s σ H x y v u Q I rx ry h
 obtain ⟨a,b,xs,rfl,rfl,ha,hb,q⟩:=h
 cases rx
 cases ry
 obtain ⟨its,rv,p1,_⟩:=I.list ha
 obtain ⟨its2,rv2,p2,_⟩:=I.list hb
 have hl:=rv.length
 cases rv2
 by_cases hx:xs=[]
 ·subst hx
  cases rv
  rw [decide_eq_false (fun z=>z rfl)] at q
  exact SeqAt.RcNeAt.lists (e:=fun _=>true) p1.isList p2.isList rfl (by omega) (fun j h1 _=>absurd h1 (by simp)) X.prog X.w _ _ ⟨.bl _,H,I,rfl,q⟩
 ·rw [decide_eq_true hx] at q
  refine SeqAt.RcNeAt.lists_lengths p1.isList p2.isList ?_ (by omega) X.prog X.w _ _ ⟨.bl _,H,I,rfl,q⟩
  have:its.length≠0:=fun z=>hx (Zm.mp (by omega))
  simp [this]
end
end L2
namespace L2
open PySem PySem.Spec PySem.W PySem.Calls PyProof.Rows
def c3b (ts ts':TS):TS:=fun E σ H=>ts E σ H∨ts' E σ H
section
variable {X:Cx}
theorem b9O {st:Stmt} {ts ts':TS} (h1:PS X st ts) (h2:PS X st ts'):PS X st (c3b ts ts'):=by
 intro pins s σ H D I h
 rcases h with h | h
 ·exact h1 pins s σ H D I h
 ·exact h2 pins s σ H D I h
end
def b0n (K:Qd) (H:Hp) (x y:V):Prop:=(∃d,Den K H x d∧Den K H y d∧Yi d=true∧d.depth≤60)∨∃(a b:Addr) (kvs kvs':List (Key×V)),x=.ref a∧y=.ref b∧a≠b∧H a=some (.dK kvs)∧H b=some (.dK kvs')∧b6C K H kvs kvs'
def c0r (K:Qd):R2:=fun x y H Q=>∃(a b:Addr) (xs ys:List V),x=.ref a∧y=.ref b∧SqL K H a xs∧SqL K H b ys∧xs.length=ys.length∧(∀(i:Nat) (v u:V),xs[i]?=some v→ys[i]?=some u→b0n K H v u)∧Q (.bl false) H
def b5K (P:Program) (w:World) (A:Around) (s:Shared) (y x:Value):Prop:=∀(E:Value→Shared→Prop) (Q:Bool→Shared→Prop),Q true s→wpAny (model P w) A (eqBool y x) Q E s
section
variable {X:Cx} {pins:List (Addr×Obj)} {σ:St} {H:Hp} {s:Shared}
theorem b2g {A:Around} (hu:A.units+63 < cLine) (I:Inv X pins σ H s) {x y:V} {v u:Value} (rx:a0H x v) (ry:a0H y u) (h:b0n X.K H x y):b5K X.prog X.w A s v u:=by
 rcases h with ⟨d,d1,d2,sh,dp⟩ | ⟨a,b,kvs,kvs',rfl,rfl,hab,ha,hb,hl,hs⟩
 ·obtain ⟨as,ra⟩:=d1.reads I rx
  obtain ⟨bs,rb⟩:=d2.reads I ry
  have hq:Ye A s v u (Xp d d):=Vq d d A s v u as bs ra rb (Je sh) (Je sh) (by rw [Nat.min_self];omega)
  rw [a7d d sh] at hq
  exact fun E Q q=>hq _ _ E Q q
 ·cases rx;cases ry
  intro E Q hq
  obtain ⟨z,hd,vs,rel,dd⟩:=a2u I.hok ha
  obtain ⟨z',hd',vs',rel',dd'⟩:=a2u I.hok hb
  have h1:∀(R:Value→Shared→Prop),R (.bool true) s→wpAny (model X.prog X.w) A (compareOp .Eq (.ref a) (.ref b)) R E s:=fun R r=>
   keq_eq (knd:=a0k X.prog X.w) (r:=true) hd hd' dd dd' (by omega) (fun _=>a4O (by show A.units+1+61 < cLine;omega) I rel' rel hs) (by rw [←rel.length,←rel'.length,hl,beq_self_eq_true,Zd];exact r)
  unfold eqBool
  refine wpAny_holding (wpAny_ite_split (fun z=>absurd (by have:=eq_of_beq z;injection this) hab) fun _=>?_)
  exact wpAny_bind (h1 _ (wpAny_truthy_bool hq))
end
theorem b5H (P:Program) (w:World) (l b:Addr) (xs ys:Array Value) (n n2:Nat) (dd dd2:Option Addr) (sl sl2:Array (Option Value)) (hz:xs.size=ys.size) (A:Around) (R:Result→Shared→Prop) (s:Shared)
  (hl:s.heap.get? l=some {cls:=.type "list",dict:=dd,data:=.seq xs n,slots:=sl}) (hb:s.heap.get? b=some {cls:=.type "list",dict:=dd2,data:=.seq ys n2,slots:=sl2})
  (he:∀j (h1:j < xs.size) (h2:j < ys.size),b5K P w A.in1 s xs[j] ys[j]) (q:R (.ok (.ret (.bool false))) s):∀k i:Nat,xs.size - i=k→
  wpAny (model P w) A.in1 (Builtin.«list.__eq__.loop» ⟨[.ref l,.ref b,rawInt i,rawInt 3],[]⟩) (fun fin s'=>match fin with | .done f=>R (.ok f) s' | .again c'=>c'.quiet=true∧codeAny (model P w) A c' R s') (fun e s'=>R (.error e) s') s:=by
 intro k
 induction k with
 | zero=>
  intro i hk
  obtain ⟨hp,g,d,tk,os⟩:=s
  wp_walk using AutoSeq1.wpAny_loadPart' hl,AutoSeq1.wpAny_loadPart' hb
  have e1:xs[((i:Nat):Int).toNat]?=none:=by simp;omega
  have e2:ys[((i:Nat):Int).toNat]?=none:=by simp;omega
  rw [e1,e2]
  wp_walk using AutoSeq1.wpAny_loadPart' hl,AutoSeq1.wpAny_loadPart' hb
  show R (.ok (.ret (.bool (xs.size != ys.size)))) _
  rw [hz]
  simpa using q
 | succ k ih=>
  intro i hk
  have ih':=ih (i+1) (by omega)
  obtain ⟨hp,g,d,tk,os⟩:=s
  wp_walk using AutoSeq1.wpAny_loadPart' hl,AutoSeq1.wpAny_loadPart' hb
  have h1:i < xs.size:=by omega
  have h2:i < ys.size:=by omega
  have e1:xs[((i:Nat):Int).toNat]?=some xs[i]:=by simp [h1]
  have e2:ys[((i:Nat):Int).toNat]?=some ys[i]:=by simp [h2]
  have hc:((i:Int)+1)=((i+1:Nat):Int):=by push_cast;rfl
  rw [e1,e2]
  refine wpAny_bind (he i h1 h2 _ _ ?_)
  wp_walk
  rw [hc]
  exact ⟨plainId_quiet MeetsSeq3.plain_eq_loop _,codeAny_builtin MeetsSeq3.entry_eq_loop (by rw [Around.under_plainId MeetsSeq3.plain_eq_loop _];exact ih')⟩
theorem b4R (P:Program) (w:World) (l b:Addr) (xs ys:Array Value) (n n2:Nat) (dd dd2:Option Addr) (sl sl2:Array (Option Value)) (hz:xs.size=ys.size):
  MeetsIn P w (Builtin.«list.__ne__» ⟨[.ref l,.ref b],[]⟩)
   (fun A R s=>s.heap.get? l=some {cls:=.type "list",dict:=dd,data:=.seq xs n,slots:=sl}∧s.heap.get? b=some {cls:=.type "list",dict:=dd2,data:=.seq ys n2,slots:=sl2}∧
    (∀j (h1:j < xs.size) (h2:j < ys.size),b5K P w A.in1 s xs[j] ys[j])∧R (.ok (.ret (.bool false))) s):=by
 intro A R s h
 obtain ⟨hl,hb,he,q⟩:=h
 have hw:=b5H P w l b xs ys n n2 dd dd2 sl sl2 hz A R s hl hb he q _ 0 rfl
 obtain ⟨hp,g,d,tk,os⟩:=s
 have f3:=AutoSeq1.sub_list_list
 have hne:¬(xs.size != ys.size)=true:=by simp [hz]
 wp_walk using AutoSeq1.wpAny_loadPart' hl,AutoSeq1.wpAny_loadPart' hb
 exact ⟨plainId_quiet MeetsSeq3.plain_eq_loop _,codeAny_builtin MeetsSeq3.entry_eq_loop (by rw [Around.under_plainId MeetsSeq3.plain_eq_loop _];exact hw)⟩
section
variable {X:Cx}
theorem b4j (hu:X.A.units+64 < cLine):OpR X (compareOp .NotEq) (c0r X.K):=by
 intro pins s σ H x y v u Q I rx ry h
 obtain ⟨a,b,xs,ys,rfl,rfl,ha,hb,hl,hal,q⟩:=h
 cases rx
 cases ry
 obtain ⟨its,rv,p1,_⟩:=I.list ha
 obtain ⟨its2,rv2,p2,_⟩:=I.list hb
 have hl1:=rv.length
 have hl2:=rv2.length
 obtain ⟨⟨cls,dd,data,sl⟩,ho,hc,n,hd⟩:=p1.isList
 obtain ⟨⟨cls2,dd2,data2,sl2⟩,ho2,hc2,n2,hd2⟩:=p2.isList
 simp only at hc hd hc2 hd2
 subst hc hd hc2 hd2
 refine wpAny_richCompare_same_room (op:=.NotEq) ⟨_,ho,rfl⟩ ⟨_,ho2,rfl⟩ F.slot_list_ne (call_meetsIn F.slot_list_ne ⟨_,ho,rfl⟩ F.entry_list_ne (F.args_list_ne_2 _ _) (b4R X.prog X.w a b its.toArray its2.toArray n n2 dd dd2 sl sl2 (by simp;omega)) ⟨ho,ho2,fun j h1 h2=>?_,?_⟩) (by omega)
 ·have h1':j < xs.length:=by simp at h1;omega
  have h2':j < ys.length:=by simp at h2;omega
  refine b2g (A:=X.A.in1) (by show X.A.units+1+63 < cLine;omega) I ?_ ?_ (hal j _ _ (Qc h1') (Qc h2'))
  ·obtain ⟨u,e,r⟩:=rv.get (Qc h1')
   have:its.toArray[j]=u:=by
    rw [Wr];exact (Qm.mp e).2
   rw [this];exact r
  ·obtain ⟨u,e,r⟩:=rv2.get (Qc h2')
   have:its2.toArray[j]=u:=by
    rw [Wr];exact (Qm.mp e).2
   rw [this];exact r
 ·refine And.intro (fun x=>nomatch x) ?_
  exact ⟨V.bl false,H,I,rfl,q⟩
end
end L2
namespace L2
open PySem PySem.Spec PySem.W PySem.Calls PyProof.Rows
def a5H (H:Hp) (q:Hp→Prop) (H1:Hp):Prop:=∃(a:Addr) (o:Obj) (kvs:List (Key×V)),(∀ob u,H a≠some (.frz ob u))∧H1 a=some (.frz o (.dK kvs))∧q (upd H1 a (.dK kvs))
def b3h (ts:TS):TS:=fun E σ H=>ts {nx:=fun σ'=>a5H H (E.nx σ'),rt:=fun v=>a5H H (E.rt v),bk:=fun σ'=>a5H H (E.bk σ'),ct:=fun σ'=>a5H H (E.ct σ')} σ H
section
variable {X:Cx}
theorem b1T {st:Stmt} {ts:TS} (hs:PS X st ts):PS X st (b3h ts):=by
 intro pins s σ H D I h
 have hn:∀a,(∀ob u,H a≠some (.frz ob u))→∀ob u,X.H₀ a≠some (.frz ob u):=fun a n ob u z=>n ob u (I.base.frzs a ob u z)
 refine thn (hs pins s σ H _ I h) fun f s1 q=>?_
 cases f with
 | next=>obtain ⟨σ',H1,I1,a,o,kvs,n,e1,q⟩:=q;exact ⟨σ',_,I1.thaw e1 (hn a n),q⟩
 | brk=>obtain ⟨σ',H1,I1,a,o,kvs,n,e1,q⟩:=q;exact ⟨σ',_,I1.thaw e1 (hn a n),q⟩
 | cont=>obtain ⟨σ',H1,I1,a,o,kvs,n,e1,q⟩:=q;exact ⟨σ',_,I1.thaw e1 (hn a n),q⟩
 | ret u=>obtain ⟨v,σ',H1,I1,r,a,o,kvs,n,e1,q⟩:=q;exact ⟨v,σ',_,I1.thaw e1 (hn a n),r,q⟩
end
end L2
namespace L2
open PySem
theorem c6j {a b c:Prop} (h:a):a∨b∨c:=Or.inl h
theorem c5l {a b c:Prop} (h:b):a∨b∨c:=Or.inr (Or.inl h)
theorem c4M {a b c:Prop} (h:c):a∨b∨c:=Or.inr (Or.inr h)
end L2
namespace K42
open PySem L2 Tx
abbrev a2N:Str:="sure_steps.<locals>.<lambda>"
theorem a2r:("sure_steps":Str)++".<locals>."++"<lambda>"=a2N:=by decide+kernel
def top (i:Nat):Stmt:=PySem.Challenge.pw_mostwise_k42_round_by_round.main.body.getD i (.Pass ⟨0,0,0,0⟩)
abbrev a9e:Stmt:=top 2
abbrev b7o:List Str:=["some","told","statement"]
theorem a6T:a0g b7o ["some"] (a0b a9e):=⟨rfl,rfl,rfl,by decide+kernel,rfl,by decide+kernel,by decide+kernel⟩
abbrev a7N:Stmt:=top 3
abbrev b5i:List Str:=["statements","some"]
theorem b8B:a0g b5i ["statements","some"] (a0b a7N):=⟨rfl,rfl,rfl,by decide+kernel,rfl,by decide+kernel,by decide+kernel⟩
abbrev a8j:Stmt:=top 4
abbrev b6i:List Str:=["statements","some"]
theorem b7x:a0g b6i ["statements","some"] (a0b a8j):=⟨rfl,rfl,rfl,by decide+kernel,rfl,by decide+kernel,by decide+kernel⟩
abbrev a8H:Stmt:=top 6
abbrev b8W:List Str:=["statement"]
theorem b8Y:a0g b8W ["statement"] (a0b a8H):=⟨rfl,rfl,rfl,by decide+kernel,rfl,by decide+kernel,by decide+kernel⟩
abbrev b0l:Stmt:=top 8
abbrev b9E:List Str:=["ground","heads","rule","premise"]
theorem a7y:a0g b9E ["ground"] (a0b b0l):=⟨rfl,rfl,rfl,by decide+kernel,rfl,by decide+kernel,by decide+kernel⟩
abbrev a2t:Stmt:=top 10
abbrev a8u:List Str:=["rules","known","sure","waiting","ranks","rank","fresh","head"]
theorem a2x:a0g a8u ["rules","known"] (a0b a2t):=⟨rfl,rfl,rfl,by decide+kernel,rfl,by decide+kernel,by decide+kernel⟩
abbrev a7O:Stmt:=top 11
abbrev b5T:List Str:=["ground","ranks"]
theorem b3p:a0g b5T ["ground"] (a0b a7O):=⟨rfl,rfl,rfl,by decide+kernel,rfl,by decide+kernel,by decide+kernel⟩
abbrev a8a:Stmt:=top 15
abbrev b4e:List Str:=["ground","rule","beaters"]
theorem b8O:a0g b4e ["ground","rule","beaters"] (a0b a8a):=⟨rfl,rfl,rfl,by decide+kernel,rfl,by decide+kernel,by decide+kernel⟩
abbrev a6l:Stmt:=top 16
abbrev b1U:List Str:=["ground","sures","held","refused","q","standing"]
theorem b3x:a0g b1U ["ground","sures","held","refused","q"] (a0b a6l):=⟨rfl,rfl,rfl,by decide+kernel,rfl,by decide+kernel,by decide+kernel⟩
abbrev a6u:Stmt:=top 17
abbrev b1O:List Str:=["ground","sures","held","refused","q","unfallen"]
theorem b3r:a0g b1O ["ground","sures","held","refused","q"] (a0b a6u):=⟨rfl,rfl,rfl,by decide+kernel,rfl,by decide+kernel,by decide+kernel⟩
abbrev b0s:Stmt:=top 18
abbrev b8p:List Str:=["ground","sures","held","refused","asked","words","q"]
theorem a7m:a0g b8p ["ground","sures","held","refused","asked"] (a0b b0s):=⟨rfl,rfl,rfl,by decide+kernel,rfl,by decide+kernel,by decide+kernel⟩
abbrev b1e:Stmt:=top 19
abbrev b7p:List Str:=["heads","came","told","premise","head"]
theorem a7p:a0g b7p ["heads","came"] (a0b b1e):=⟨rfl,rfl,rfl,by decide+kernel,rfl,by decide+kernel,by decide+kernel⟩
abbrev a3Z:Stmt:=top 20
abbrev a6g:List Str:=["ground","some","sures","known","sure","held","refused","heads","wanted","told","rank","came","q","asked"]
theorem a1Z:a0g a6g ["ground","some","sures","known"] (a0b a3Z):=⟨rfl,rfl,rfl,by decide+kernel,rfl,by decide+kernel,by decide+kernel⟩
abbrev b0X:Stmt:=a0j (top 22) 0
abbrev b7E:List Str:=["self","label","head","body"]
theorem b8i:a0g b7E ["self","label","head","body"] (a0b b0X):=⟨rfl,rfl,rfl,by decide+kernel,rfl,by decide+kernel,by decide+kernel⟩
abbrev a9J:Stmt:=a0j (top 22) 2
abbrev b7a:List Str:=["self"]
theorem b7h:a0g b7a ["self"] (a0b a9J):=⟨rfl,rfl,rfl,by decide+kernel,rfl,by decide+kernel,by decide+kernel⟩
abbrev a8L:Stmt:=a0j (top 22) 3
abbrev b7L:List Str:=["self"]
theorem b9N:a0g b7L ["self"] (a0b a8L):=⟨rfl,rfl,rfl,by decide+kernel,rfl,by decide+kernel,by decide+kernel⟩
abbrev b1t:Stmt:=a0j (top 23) 0
abbrev b6P:List Str:=["self","head"]
theorem b6J:a0g b6P ["self","head"] (a0b b1t):=⟨rfl,rfl,rfl,by decide+kernel,rfl,by decide+kernel,by decide+kernel⟩
abbrev b0S:Stmt:=a0j (top 23) 2
abbrev b8N:List Str:=["self"]
theorem b9p:a0g b8N ["self"] (a0b b0S):=⟨rfl,rfl,rfl,by decide+kernel,rfl,by decide+kernel,by decide+kernel⟩
abbrev b0O:Stmt:=a0j (top 24) 1
abbrev b7Q:List Str:=["self"]
theorem b7g:a0g b7Q ["self"] (a0b b0O):=⟨rfl,rfl,rfl,by decide+kernel,rfl,by decide+kernel,by decide+kernel⟩
abbrev b0K:Stmt:=a0j (top 26) 1
abbrev b9q:List Str:=["self"]
theorem b9Q:a0g b9q ["self"] (a0b b0K):=⟨rfl,rfl,rfl,by decide+kernel,rfl,by decide+kernel,by decide+kernel⟩
abbrev b1k:Stmt:=a0j (top 28) 0
abbrev b6B:List Str:=["self","rules","pairs","rule","pair"]
theorem a8E:a0g b6B ["self","rules","pairs"] (a0b b1k):=⟨rfl,rfl,rfl,by decide+kernel,rfl,by decide+kernel,by decide+kernel⟩
abbrev b0c:Stmt:=a0j (top 28) 1
abbrev b7M:List Str:=["self"]
theorem b9b:a0g b7M ["self"] (a0b b0c):=⟨rfl,rfl,rfl,by decide+kernel,rfl,by decide+kernel,by decide+kernel⟩
abbrev a9i:Stmt:=a0j (top 28) 2
abbrev b9F:List Str:=["self","statement"]
theorem b7D:a0g b9F ["self","statement"] (a0b a9i):=⟨rfl,rfl,rfl,by decide+kernel,rfl,by decide+kernel,by decide+kernel⟩
abbrev a7M:Stmt:=a0j (top 28) 3
abbrev b6n:List Str:=["self","statement"]
theorem b9D:a0g b6n ["self","statement"] (a0b a7M):=⟨rfl,rfl,rfl,by decide+kernel,rfl,by decide+kernel,by decide+kernel⟩
abbrev b0f:Stmt:=a0j (top 28) 4
abbrev b6F:List Str:=["self","statement"]
theorem b6V:a0g b6F ["self","statement"] (a0b b0f):=⟨rfl,rfl,rfl,by decide+kernel,rfl,by decide+kernel,by decide+kernel⟩
abbrev b0k:Stmt:=a0j (top 28) 5
abbrev b8T:List Str:=["self","one","other"]
theorem b7i:a0g b8T ["self","one","other"] (a0b b0k):=⟨rfl,rfl,rfl,by decide+kernel,rfl,by decide+kernel,by decide+kernel⟩
abbrev a8I:Stmt:=top 30
abbrev b7U:List Str:=["_law_script","_law_k"]
theorem b9n:a0g b7U ["_law_script","_law_k"] (a0b a8I):=⟨rfl,rfl,rfl,by decide+kernel,rfl,by decide+kernel,by decide+kernel⟩
abbrev a8C:Stmt:=top 31
abbrev b9m:List Str:=["_law_found"]
theorem b9s:a0g b9m ["_law_found"] (a0b a8C):=⟨rfl,rfl,rfl,by decide+kernel,rfl,by decide+kernel,by decide+kernel⟩
abbrev a9D:Stmt:=top 32
abbrev b9y:List Str:=["_law_cell","_law_k","_law_number"]
theorem b0A:a0g b9y ["_law_cell","_law_k"] (a0b a9D):=⟨rfl,rfl,rfl,by decide+kernel,rfl,by decide+kernel,by decide+kernel⟩
abbrev b1d:Stmt:=top 33
abbrev b7C:List Str:=["_law_cell","_law_k","_law_signs","_law_size","_law_at","_law_word_here","_law_j","_law_step"]
theorem a3k:a0g b7C ["_law_cell","_law_k","_law_signs"] (a0b b1d):=⟨rfl,rfl,rfl,by decide+kernel,rfl,by decide+kernel,by decide+kernel⟩
abbrev a8v:Stmt:=top 34
abbrev b5c:List Str:=["_law_cell","_law_words","_law_pool_here","_law_k","_law_places"]
theorem a5L:a0g b5c ["_law_cell"] (a0b a8v):=⟨rfl,rfl,rfl,by decide+kernel,rfl,by decide+kernel,by decide+kernel⟩
abbrev a6j:Stmt:=top 35
abbrev b2M:List Str:=["_law_m","_law_k","_law_pool_here","_law_labels_here","_law_style","_law_size","_law_head","_law_body","_law_many","_law_sort"]
theorem a3g:a0g b2M ["_law_m","_law_k","_law_pool_here","_law_labels_here","_law_style"] (a0b a6j):=⟨rfl,rfl,rfl,by decide+kernel,rfl,by decide+kernel,by decide+kernel⟩
abbrev a9A:Stmt:=top 36
abbrev b6W:List Str:=["_law_row_here","_law_sort","_law_label","_law_head","_law_body"]
theorem a5Y:a0g b6W ["_law_row_here"] (a0b a9A):=⟨rfl,rfl,rfl,by decide+kernel,rfl,by decide+kernel,by decide+kernel⟩
abbrev a8f:Stmt:=top 37
abbrev b6k:List Str:=["_law_cell"]
theorem b6A:a0g b6k ["_law_cell"] (a0b a8f):=⟨rfl,rfl,rfl,by decide+kernel,rfl,by decide+kernel,by decide+kernel⟩
abbrev b0x:Stmt:=top 38
abbrev b9j:List Str:=["_law_cell","_law_pool_here","_law_labels_here","_law_size","_law_sort","_law_label","_law_head","_law_many","_law_rest","_law_body","_law_j"]
theorem a2w:a0g b9j ["_law_cell","_law_pool_here","_law_labels_here"] (a0b b0x):=⟨rfl,rfl,rfl,by decide+kernel,rfl,by decide+kernel,by decide+kernel⟩
abbrev a6h:Stmt:=top 39
abbrev b2k:List Str:=["_law_script","_law_start","_law_pool_here","_law_labels_here","_law_style","_law_cells"]
theorem a5s:a0g b2k ["_law_script","_law_start"] (a0b a6h):=⟨rfl,rfl,rfl,by decide+kernel,rfl,by decide+kernel,by decide+kernel⟩
abbrev a9x:Stmt:=top 40
abbrev b6L:List Str:=["_law_cell","_law_many","_law_labels_here","_law_pairs_here","_law_k","_law_number","_law_one","_law_other_here"]
theorem a3w:a0g b6L ["_law_cell","_law_many"] (a0b a9x):=⟨rfl,rfl,rfl,by decide+kernel,rfl,by decide+kernel,by decide+kernel⟩
abbrev a8P:Stmt:=top 41
abbrev b8y:List Str:=["_law_script","_law_labels_here","_law_cell","_law_pairs_here","_law_one","_law_other_here"]
theorem a3v:a0g b8y ["_law_script"] (a0b a8P):=⟨rfl,rfl,rfl,by decide+kernel,rfl,by decide+kernel,by decide+kernel⟩
abbrev a9F:Stmt:=top 42
abbrev b7m:List Str:=["_law_q"]
theorem b7v:a0g b7m ["_law_q"] (a0b a9F):=⟨rfl,rfl,rfl,by decide+kernel,rfl,by decide+kernel,by decide+kernel⟩
abbrev a9j:Stmt:=top 43
abbrev b9t:List Str:=["_law_rows_here","_law_by_here","_law_row_here"]
theorem a9B:a0g b9t ["_law_rows_here"] (a0b a9j):=⟨rfl,rfl,rfl,by decide+kernel,rfl,by decide+kernel,by decide+kernel⟩
abbrev a7T:Stmt:=top 44
abbrev b5X:List Str:=["_law_row_here","_law_up"]
theorem b9J:a0g b5X ["_law_row_here","_law_up"] (a0b a7T):=⟨rfl,rfl,rfl,by decide+kernel,rfl,by decide+kernel,by decide+kernel⟩
abbrev a7I:Stmt:=top 45
abbrev b5R:List Str:=["_law_row_here","_law_down"]
theorem b8k:a0g b5R ["_law_row_here","_law_down"] (a0b a7I):=⟨rfl,rfl,rfl,by decide+kernel,rfl,by decide+kernel,by decide+kernel⟩
abbrev a7Q:Stmt:=top 46
abbrev b4Q:List Str:=["_law_pairs_here","_law_row_here","_law_some"]
theorem b7P:a0g b4Q ["_law_pairs_here","_law_row_here","_law_some"] (a0b a7Q):=⟨rfl,rfl,rfl,by decide+kernel,rfl,by decide+kernel,by decide+kernel⟩
abbrev a5j:Stmt:=top 47
abbrev b1q:List Str:=["_law_by_here","_law_pairs_here","_law_firm","_law_up","_law_down","_law_q","_law_good","_law_bad"]
theorem b0U:a0g b1q ["_law_by_here","_law_pairs_here","_law_firm","_law_up","_law_down","_law_q"] (a0b a5j):=⟨rfl,rfl,rfl,by decide+kernel,rfl,by decide+kernel,by decide+kernel⟩
abbrev a5m:Stmt:=top 48
abbrev b1i:List Str:=["_law_by_here","_law_pairs_here","_law_firm","_law_up","_law_down","_law_q","_law_left","_law_bad"]
theorem b0m:a0g b1i ["_law_by_here","_law_pairs_here","_law_firm","_law_up","_law_down","_law_q"] (a0b a5m):=⟨rfl,rfl,rfl,by decide+kernel,rfl,by decide+kernel,by decide+kernel⟩
abbrev a9d:Stmt:=top 49
abbrev b8C:List Str:=["_law_rows_here","_law_pairs_here","_law_firm","_law_some","_law_known_here","_law_by_here","_law_up","_law_down","_law_q","_law_word_here","_law_ranks","_law_rank","_law_fresh"]
theorem a1M:a0g b8C ["_law_rows_here","_law_pairs_here","_law_firm","_law_some","_law_known_here"] (a0b a9d):=⟨rfl,rfl,rfl,by decide+kernel,rfl,by decide+kernel,by decide+kernel⟩
abbrev a9y:Stmt:=top 50
abbrev b6Z:List Str:=["_law_cell","_law_some","_law_known_here","_law_k","_law_q","_law_way"]
theorem a5f:a0g b6Z ["_law_cell","_law_some"] (a0b a9y):=⟨rfl,rfl,rfl,by decide+kernel,rfl,by decide+kernel,by decide+kernel⟩
abbrev a2e:Stmt:=top 51
abbrev a3a:List Str:=["_law_script","_law_rows_here","_law_pool_here","_law_pairs_here","_law_ground","_law_cell","_law_some","_law_known_here","_law_firm","_law_handed","_law_q","_law_found","_law_due","_law_entry"]
theorem a0O:a0g a3a ["_law_script"] (a0b a2e):=⟨rfl,rfl,rfl,by decide+kernel,rfl,by decide+kernel,by decide+kernel⟩
structure Adr where
 f_z1o:Addr
 fd_z1o:FuncData
 f_z0s:Addr
 fd_z0s:FuncData
 f_z0t:Addr
 fd_z0t:FuncData
 f_z14:Addr
 fd_z14:FuncData
 f_z02:Addr
 fd_z02:FuncData
 f_z0e:Addr
 fd_z0e:FuncData
 T_z0e:Addr
 f_z0l:Addr
 fd_z0l:FuncData
 f_z0u:Addr
 fd_z0u:FuncData
 f_z15:Addr
 fd_z15:FuncData
 f_z0m:Addr
 fd_z0m:FuncData
 f_z0v:Addr
 fd_z0v:FuncData
 f_z1b:Addr
 fd_z1b:FuncData
 f_z0f:Addr
 fd_z0f:FuncData
 f_z0w:Addr
 fd_z0w:FuncData
 f_z0g:Addr
 fd_z0g:FuncData
 f_z07:Addr
 fd_z07:FuncData
 f_z0y:Addr
 fd_z0y:FuncData
 f_z09:Addr
 fd_z09:FuncData
 f_z0a:Addr
 fd_z0a:FuncData
 f_z0b:Addr
 fd_z0b:FuncData
 f_z0j:Addr
 fd_z0j:FuncData
 f_z0c:Addr
 fd_z0c:FuncData
 f_z06:Addr
 fd_z06:FuncData
 f_z03:Addr
 fd_z03:FuncData
 f_z05:Addr
 fd_z05:FuncData
 f_z0d:Addr
 fd_z0d:FuncData
 f_z12:Addr
 fd_z12:FuncData
 f_z1c:Addr
 fd_z1c:FuncData
 f_z1p:Addr
 fd_z1p:FuncData
 f_z1i:Addr
 fd_z1i:FuncData
 f_z1j:Addr
 fd_z1j:FuncData
 f_z1q:Addr
 fd_z1q:FuncData
 f_z1k:Addr
 fd_z1k:FuncData
 f_z18:Addr
 fd_z18:FuncData
 f_z04:Addr
 fd_z04:FuncData
 f_z1l:Addr
 fd_z1l:FuncData
 f_z1d:Addr
 fd_z1d:FuncData
 f_z01:Addr
 fd_z01:FuncData
 f_z1e:Addr
 fd_z1e:FuncData
 f_z1r:Addr
 fd_z1r:FuncData
 f_z19:Addr
 fd_z19:FuncData
 f_z1f:Addr
 fd_z1f:FuncData
 f_z1a:Addr
 fd_z1a:FuncData
 f_z1m:Addr
 fd_z1m:FuncData
 f_z13:Addr
 fd_z13:FuncData
 f_z1g:Addr
 fd_z1g:FuncData
 f_z1h:Addr
 fd_z1h:FuncData
 f_d_law:Addr
 fd_d_law:FuncData
 C_Rule:Addr
 C_Fact:Addr
 C_Sure:Addr
 C_Most:Addr
 C_Block:Addr
 C_Ground:Addr
 TB_z0l:Addr
structure Txt (K:Qd) (mg:Str→Option Value) (t:Adr):Prop where
 F_z1o:Fun K "keyed" "keyed" a9e t.f_z1o t.fd_z1o
 b_z1o:a0q K t.fd_z1o ["some"] []
 g_z1o:mg "keyed"=some (.ref t.f_z1o)
 F_z0s:Fun K "all_among" "all_among" a7N t.f_z0s t.fd_z0s
 b_z0s:a0q K t.fd_z0s ["statements","some"] []
 g_z0s:mg "all_among"=some (.ref t.f_z0s)
 F_z0t:Fun K "any_among" "any_among" a8j t.f_z0t t.fd_z0t
 b_z0t:a0q K t.fd_z0t ["statements","some"] []
 g_z0t:mg "any_among"=some (.ref t.f_z0t)
 F_z14:Fun K "opposite" "opposite" a8H t.f_z14 t.fd_z14
 b_z14:a0q K t.fd_z14 ["statement"] []
 g_z14:mg "opposite"=some (.ref t.f_z14)
 F_z02:Fun K "heads_by_premise" "heads_by_premise" b0l t.f_z02 t.fd_z02
 b_z02:a0q K t.fd_z02 ["ground"] []
 g_z02:mg "heads_by_premise"=some (.ref t.f_z02)
 F_z0e:b3f K "sure_rounds" "sure_rounds" a2t t.f_z0e t.fd_z0e t.T_z0e [Value.none]
 b_z0e:a0q K t.fd_z0e ["rules","known"] []
 bd_z0e:a0q K t.fd_z0e ["rules","known"] [Value.none]
 g_z0e:mg "sure_rounds"=some (.ref t.f_z0e)
 F_z0l:Fun K "sure_steps" "sure_steps" a7O t.f_z0l t.fd_z0l
 b_z0l:a0q K t.fd_z0l ["ground"] []
 g_z0l:mg "sure_steps"=some (.ref t.f_z0l)
 F_z0u:Fun K "is_beaten" "is_beaten" a8a t.f_z0u t.fd_z0u
 b_z0u:a0q K t.fd_z0u ["ground","rule","beaters"] []
 g_z0u:mg "is_beaten"=some (.ref t.f_z0u)
 F_z15:Fun K "holds_by" "holds_by" a6l t.f_z15 t.fd_z15
 b_z15:a0q K t.fd_z15 ["ground","sures","held","refused","q"] []
 g_z15:mg "holds_by"=some (.ref t.f_z15)
 F_z0m:Fun K "refused_by" "refused_by" a6u t.f_z0m t.fd_z0m
 b_z0m:a0q K t.fd_z0m ["ground","sures","held","refused","q"] []
 g_z0m:mg "refused_by"=some (.ref t.f_z0m)
 F_z0v:Fun K "words_now" "words_now" b0s t.f_z0v t.fd_z0v
 b_z0v:a0q K t.fd_z0v ["ground","sures","held","refused","asked"] []
 g_z0v:mg "words_now"=some (.ref t.f_z0v)
 F_z1b:Fun K "touched" "touched" b1e t.f_z1b t.fd_z1b
 b_z1b:a0q K t.fd_z1b ["heads","came"] []
 g_z1b:mg "touched"=some (.ref t.f_z1b)
 F_z0f:Fun K "most_rounds" "most_rounds" a3Z t.f_z0f t.fd_z0f
 b_z0f:a0q K t.fd_z0f ["ground","some","sures","known"] []
 g_z0f:mg "most_rounds"=some (.ref t.f_z0f)
 F_z0w:Fun K "__init__" "Rule.__init__" b0X t.f_z0w t.fd_z0w
 b_z0w:a0q K t.fd_z0w ["self","label","head","body"] []
 F_z0g:Fun K "speaks" "Rule.speaks" a9J t.f_z0g t.fd_z0g
 b_z0g:a0q K t.fd_z0g ["self"] []
 F_z07:Fun K "is_sure" "Rule.is_sure" a8L t.f_z07 t.fd_z07
 b_z07:a0q K t.fd_z07 ["self"] []
 F_z0y:Fun K "__init__" "Fact.__init__" b1t t.f_z0y t.fd_z0y
 b_z0y:a0q K t.fd_z0y ["self","head"] []
 F_z09:Fun K "is_sure" "Fact.is_sure" b0S t.f_z09 t.fd_z09
 b_z09:a0q K t.fd_z09 ["self"] []
 F_z0a:Fun K "is_sure" "Sure.is_sure" b0O t.f_z0a t.fd_z0a
 b_z0a:a0q K t.fd_z0a ["self"] []
 F_z0b:Fun K "speaks" "Block.speaks" b0K t.f_z0b t.fd_z0b
 b_z0b:a0q K t.fd_z0b ["self"] []
 F_z0j:Fun K "__init__" "Ground.__init__" b1k t.f_z0j t.fd_z0j
 b_z0j:a0q K t.fd_z0j ["self","rules","pairs"] []
 F_z0c:Fun K "rules" "Ground.rules" b0c t.f_z0c t.fd_z0c
 b_z0c:a0q K t.fd_z0c ["self"] []
 F_z06:Fun K "ruling" "Ground.ruling" a9i t.f_z06 t.fd_z06
 b_z06:a0q K t.fd_z06 ["self","statement"] []
 F_z03:Fun K "speaking" "Ground.speaking" a7M t.f_z03 t.fd_z03
 b_z03:a0q K t.fd_z03 ["self","statement"] []
 F_z05:Fun K "against" "Ground.against" b0f t.f_z05 t.fd_z05
 b_z05:a0q K t.fd_z05 ["self","statement"] []
 F_z0d:Fun K "beats" "Ground.beats" b0k t.f_z0d t.fd_z0d
 b_z0d:a0q K t.fd_z0d ["self","one","other"] []
 F_z12:Fun K "_law_cell_at" "_law_cell_at" a8I t.f_z12 t.fd_z12
 b_z12:a0q K t.fd_z12 ["_law_script","_law_k"] []
 g_z12:mg "_law_cell_at"=some (.ref t.f_z12)
 F_z1c:Fun K "_law_whole" "_law_whole" a8C t.f_z1c t.fd_z1c
 b_z1c:a0q K t.fd_z1c ["_law_found"] []
 g_z1c:mg "_law_whole"=some (.ref t.f_z1c)
 F_z1p:Fun K "_law_mix" "_law_mix" a9D t.f_z1p t.fd_z1p
 b_z1p:a0q K t.fd_z1p ["_law_cell","_law_k"] []
 g_z1p:mg "_law_mix"=some (.ref t.f_z1p)
 F_z1i:Fun K "_law_word" "_law_word" b1d t.f_z1i t.fd_z1i
 b_z1i:a0q K t.fd_z1i ["_law_cell","_law_k","_law_signs"] []
 g_z1i:mg "_law_word"=some (.ref t.f_z1i)
 F_z1j:Fun K "_law_pool" "_law_pool" a8v t.f_z1j t.fd_z1j
 b_z1j:a0q K t.fd_z1j ["_law_cell"] []
 g_z1j:mg "_law_pool"=some (.ref t.f_z1j)
 F_z1q:Fun K "_law_row" "_law_row" a6j t.f_z1q t.fd_z1q
 b_z1q:a0q K t.fd_z1q ["_law_m","_law_k","_law_pool_here","_law_labels_here","_law_style"] []
 g_z1q:mg "_law_row"=some (.ref t.f_z1q)
 F_z1k:Fun K "_law_made" "_law_made" a9A t.f_z1k t.fd_z1k
 b_z1k:a0q K t.fd_z1k ["_law_row_here"] []
 g_z1k:mg "_law_made"=some (.ref t.f_z1k)
 F_z18:Fun K "_law_labels" "_law_labels" a8f t.f_z18 t.fd_z18
 b_z18:a0q K t.fd_z18 ["_law_cell"] []
 g_z18:mg "_law_labels"=some (.ref t.f_z18)
 F_z04:Fun K "_law_row_by_digits" "_law_row_by_digits" b0x t.f_z04 t.fd_z04
 b_z04:a0q K t.fd_z04 ["_law_cell","_law_pool_here","_law_labels_here"] []
 g_z04:mg "_law_row_by_digits"=some (.ref t.f_z04)
 F_z1l:Fun K "_law_rows" "_law_rows" a6h t.f_z1l t.fd_z1l
 b_z1l:a0q K t.fd_z1l ["_law_script","_law_start"] []
 g_z1l:mg "_law_rows"=some (.ref t.f_z1l)
 F_z1d:Fun K "_law_pairs" "_law_pairs" a9x t.f_z1d t.fd_z1d
 b_z1d:a0q K t.fd_z1d ["_law_cell","_law_many"] []
 g_z1d:mg "_law_pairs"=some (.ref t.f_z1d)
 F_z01:Fun K "_law_pairs_by_digits" "_law_pairs_by_digits" a8P t.f_z01 t.fd_z01
 b_z01:a0q K t.fd_z01 ["_law_script"] []
 g_z01:mg "_law_pairs_by_digits"=some (.ref t.f_z01)
 F_z1e:Fun K "_law_other" "_law_other" a9F t.f_z1e t.fd_z1e
 b_z1e:a0q K t.fd_z1e ["_law_q"] []
 g_z1e:mg "_law_other"=some (.ref t.f_z1e)
 F_z1r:Fun K "_law_by" "_law_by" a9j t.f_z1r t.fd_z1r
 b_z1r:a0q K t.fd_z1r ["_law_rows_here"] []
 g_z1r:mg "_law_by"=some (.ref t.f_z1r)
 F_z19:Fun K "_law_stands" "_law_stands" a7T t.f_z19 t.fd_z19
 b_z19:a0q K t.fd_z19 ["_law_row_here","_law_up"] []
 g_z19:mg "_law_stands"=some (.ref t.f_z19)
 F_z1f:Fun K "_law_falls" "_law_falls" a7I t.f_z1f t.fd_z1f
 b_z1f:a0q K t.fd_z1f ["_law_row_here","_law_down"] []
 g_z1f:mg "_law_falls"=some (.ref t.f_z1f)
 F_z1a:Fun K "_law_beaten" "_law_beaten" a7Q t.f_z1a t.fd_z1a
 b_z1a:a0q K t.fd_z1a ["_law_pairs_here","_law_row_here","_law_some"] []
 g_z1a:mg "_law_beaten"=some (.ref t.f_z1a)
 F_z1m:Fun K "_law_held" "_law_held" a5j t.f_z1m t.fd_z1m
 b_z1m:a0q K t.fd_z1m ["_law_by_here","_law_pairs_here","_law_firm","_law_up","_law_down","_law_q"] []
 g_z1m:mg "_law_held"=some (.ref t.f_z1m)
 F_z13:Fun K "_law_refused" "_law_refused" a5m t.f_z13 t.fd_z13
 b_z13:a0q K t.fd_z13 ["_law_by_here","_law_pairs_here","_law_firm","_law_up","_law_down","_law_q"] []
 g_z13:mg "_law_refused"=some (.ref t.f_z13)
 F_z1g:Fun K "_law_fixed" "_law_fixed" a9d t.f_z1g t.fd_z1g
 b_z1g:a0q K t.fd_z1g ["_law_rows_here","_law_pairs_here","_law_firm","_law_some","_law_known_here"] []
 g_z1g:mg "_law_fixed"=some (.ref t.f_z1g)
 F_z1h:Fun K "_law_known" "_law_known" a9y t.f_z1h t.fd_z1h
 b_z1h:a0q K t.fd_z1h ["_law_cell","_law_some"] []
 g_z1h:mg "_law_known"=some (.ref t.f_z1h)
 F_d_law:Fun K "law" "law" a2e t.f_d_law t.fd_d_law
 b_d_law:a0q K t.fd_d_law ["_law_script"] []
 g_d_law:mg "law"=some (.ref t.f_d_law)
 k_HELD:∃u,mg "HELD"=some (.str "held" u)
 k_REFUSED:∃u,mg "REFUSED"=some (.str "refused" u)
 g_Rule:mg "Rule"=some (.ref t.C_Rule)
 g_Fact:mg "Fact"=some (.ref t.C_Fact)
 g_Sure:mg "Sure"=some (.ref t.C_Sure)
 g_Most:mg "Most"=some (.ref t.C_Most)
 g_Block:mg "Block"=some (.ref t.C_Block)
 g_Ground:mg "Ground"=some (.ref t.C_Ground)
 z_all:mg "all"=none
 z_any:mg "any"=none
 z_bool:mg "bool"=none
 z_dict:mg "dict"=none
 z_enumerate:mg "enumerate"=none
 z_int:mg "int"=none
 z_isinstance:mg "isinstance"=none
 z_len:mg "len"=none
 z_list:mg "list"=none
 z_max:mg "max"=none
 z_min:mg "min"=none
 z_range:mg "range"=none
 z_reversed:mg "reversed"=none
 z_sorted:mg "sorted"=none
 z_tuple:mg "tuple"=none
 cm_Rule:b8g K t.C_Rule "__init__" t.f_z0w
 cl_Fact:Cls K t.C_Fact
 ty_Fact:TyI K t.C_Fact
 nf_Fact_label:a0M K t.C_Fact "label"
 nf_Fact_head:a0M K t.C_Fact "head"
 nf_Fact_body:a0M K t.C_Fact "body"
 mk_Fact:Mk K t.C_Fact t.f_z0y
 me_Fact_speaks:a6f K t.C_Fact "speaks" t.f_z0g
 me_Fact_is_sure:a6f K t.C_Fact "is_sure" t.f_z09
 ki_Fact_Rule:Xw K (.ref t.C_Fact) (.ref t.C_Rule)=some true
 ki_Fact_Fact:Xw K (.ref t.C_Fact) (.ref t.C_Fact)=some true
 cl_Sure:Cls K t.C_Sure
 ty_Sure:TyI K t.C_Sure
 nf_Sure_label:a0M K t.C_Sure "label"
 nf_Sure_head:a0M K t.C_Sure "head"
 nf_Sure_body:a0M K t.C_Sure "body"
 mk_Sure:Mk K t.C_Sure t.f_z0w
 me_Sure_speaks:a6f K t.C_Sure "speaks" t.f_z0g
 me_Sure_is_sure:a6f K t.C_Sure "is_sure" t.f_z0a
 ki_Sure_Rule:Xw K (.ref t.C_Sure) (.ref t.C_Rule)=some true
 ki_Sure_Sure:Xw K (.ref t.C_Sure) (.ref t.C_Sure)=some true
 cl_Most:Cls K t.C_Most
 ty_Most:TyI K t.C_Most
 nf_Most_label:a0M K t.C_Most "label"
 nf_Most_head:a0M K t.C_Most "head"
 nf_Most_body:a0M K t.C_Most "body"
 mk_Most:Mk K t.C_Most t.f_z0w
 me_Most_speaks:a6f K t.C_Most "speaks" t.f_z0g
 me_Most_is_sure:a6f K t.C_Most "is_sure" t.f_z07
 ki_Most_Rule:Xw K (.ref t.C_Most) (.ref t.C_Rule)=some true
 ki_Most_Most:Xw K (.ref t.C_Most) (.ref t.C_Most)=some true
 cl_Block:Cls K t.C_Block
 ty_Block:TyI K t.C_Block
 nf_Block_label:a0M K t.C_Block "label"
 nf_Block_head:a0M K t.C_Block "head"
 nf_Block_body:a0M K t.C_Block "body"
 mk_Block:Mk K t.C_Block t.f_z0w
 me_Block_speaks:a6f K t.C_Block "speaks" t.f_z0b
 me_Block_is_sure:a6f K t.C_Block "is_sure" t.f_z07
 ki_Block_Rule:Xw K (.ref t.C_Block) (.ref t.C_Rule)=some true
 ki_Block_Block:Xw K (.ref t.C_Block) (.ref t.C_Block)=some true
 cl_Ground:Cls K t.C_Ground
 ty_Ground:TyI K t.C_Ground
 nf_Ground_in_order:a0M K t.C_Ground "in_order"
 nf_Ground_by_head:a0M K t.C_Ground "by_head"
 nf_Ground_pairs:a0M K t.C_Ground "pairs"
 mk_Ground:Mk K t.C_Ground t.f_z0j
 me_Ground_rules:a6f K t.C_Ground "rules" t.f_z0c
 me_Ground_ruling:a6f K t.C_Ground "ruling" t.f_z06
 me_Ground_speaking:a6f K t.C_Ground "speaking" t.f_z03
 me_Ground_against:a6f K t.C_Ground "against" t.f_z05
 me_Ground_beats:a6f K t.C_Ground "beats" t.f_z0d
 ki_Ground_Ground:Xw K (.ref t.C_Ground) (.ref t.C_Ground)=some true
 L_z0l:a5K K t.fd_z0l.code=some t.TB_z0l
 LB:c0e K mg
section
variable {α:Type} [DecidableEq α]
def lk (d:List (α×Nat)) (x:α):Option Nat:=(d.find? fun p=>decide (p.1=x)).map (·.2)
theorem b6H {d:List (α×Nat)} {x:α} {m:Nat} (h:lk d x=some m):(x,m)∈d:=by
 unfold lk at h
 cases e:d.find? fun p=>decide (p.1=x) with
 | none=>rw [e] at h;cases h
 | some p=>
  rw [e] at h
  have h1:=List.mem_of_find?_eq_some e
  have h2:=List.find?_some e
  obtain ⟨a,b⟩:=p
  cases h
  have h3:a=x:=of_decide_eq_true h2
  rw [←h3];exact h1
theorem a9R {d:List (α×Nat)} {x:α} (h:lk d x=none) {p:α×Nat} (hp:p∈d):p.1≠x:=by
 unfold lk at h
 rw [Wi,List.find?_eq_none] at h
 intro e
 exact h p hp (decide_eq_true e)
theorem b4L {d:List (α×Nat)} {y:α} {m:Nat} (h:lk d y=none) (x:α):lk (d++[(y,m)]) x=if x=y then some m else lk d x:=by
 unfold lk at *
 rw [List.find?_append]
 by_cases e:x=y
 ·subst e
  rw [Wi] at h
  rw [h,if_pos rfl];simp
 ·rw [if_neg e]
  have:List.find? (fun p:α×Nat=>decide (p.1=x)) [(y,m)]=none:=by simp;exact fun z=>e z.symm
  rw [this,Option.or_none]
theorem a9q {d:List (α×Nat)} (nd:(d.map (·.1)).Nodup) {p:α×Nat} (hp:p∈d):lk d p.1=some p.2:=by
 induction d with
 | nil=>cases hp
 | cons q r ih=>
  rw [Xl,Zj] at nd
  unfold lk
  rw [Yz]
  by_cases e:q.1=p.1
  ·rw [decide_eq_true e]
   rcases Qy.mp hp with z | z
   ·rw [z];rfl
   ·exact absurd (Ql.mpr ⟨p,z,e.symm⟩) nd.1
  ·rw [decide_eq_false e]
   rcases Qy.mp hp with z | z
   ·exact absurd (by rw [z]) e
   ·exact ih nd.2 z
structure Ok (ps:List (α×α)) (ls:List α) (o:α) (d:List (α×Nat)):Prop where
 nd:(d.map (·.1)).Nodup
 sub:∀p∈d,p.1∈o::ls
 low:∀p∈d,p.2 < d.length
 zer:∀p∈d,p.2=0→p.1=o
 prv:∀p∈d,∀m,p.2=m+1→∃b,(p.1,b)∈ps∧lk d b=some m
 one:lk d o=some 0
theorem a1R:∀{l m:List α},l.Nodup→(∀x∈l,x∈m)→l.length≤m.length
 | [],m,_,_=>Xa _
 | x::l,m,h,s=>by
  rw [Zj] at h
  have h1:=a1R (l:=l) (m:=m.erase x) h.2 (fun y hy=>(List.mem_erase_of_ne (fun z=>h.1 (by rw [←z];exact hy))).mpr (s y (Qp _ hy)))
  have h2:x∈m:=s x Qs
  have h3:=List.length_erase_of_mem h2
  have h4:=Wj h2
  simp only [Qo];omega
theorem Ok.len {ps:List (α×α)} {ls:List α} {o:α} {d:List (α×Nat)} (h:Ok ps ls o d):d.length≤ls.length+1:=by
 have:=a1R (m:=o::ls) h.nd (fun x hx=>by
  obtain ⟨p,hp,rfl⟩:=Ql.mp hx
  exact h.sub p hp)
 simpa using this
end
section
variable {α:Type} [DecidableEq α]
abbrev SR (α:Type):=Bool×α×List α
def a1p (l:List α) (x:α):List α:=if x∈l then l else l++[x]
theorem a4K {l:List α} {x y:α}:y∈a1p l x↔y∈l∨y=x:=by
 unfold a1p
 by_cases h:x∈l
 ·rw [if_pos h];exact ⟨.inl,fun z=>z.elim id fun e=>e ▸ h⟩
 ·rw [if_neg h];simp
theorem a1W {xs:List α}:∀{l:List α} {y:α},y∈xs.foldl a1p l↔y∈l∨y∈xs:=by
 induction xs with
 | nil=>intro l y;simp
 | cons x xs ih=>intro l y;rw [Uj,ih,a4K];simp [or_assoc]
def a3X (n:Nat) (R:List (α×Nat)) (h:α):List (α×Nat):=if (lk R h).isSome then R else R++[(h,n)]
def frs (rs:List (SR α)) (S:List α):List α:=(rs.filter fun r=>r.1 && decide (r.2.1∉S) && r.2.2.all fun q=>decide (q∈S)).map fun r=>r.2.1
theorem a2Z {rs:List (SR α)} {S:List α} {h:α}:h∈frs rs S↔h∉S∧∃b,(true,h,b)∈rs∧∀q∈b,q∈S:=by
 unfold frs
 rw [Ql]
 constructor
 ·rintro ⟨⟨a,x,b⟩,hr,rfl⟩
  have:=Qv.mp hr
  simp at this
  obtain ⟨h1,⟨rfl,h2⟩,h3⟩:=this
  exact ⟨h2,b,h1,h3⟩
 ·rintro ⟨h1,b,h2,h3⟩
  exact ⟨(true,h,b),Qv.mpr ⟨h2,by simp [h1];exact h3⟩,rfl⟩
def sS (rs:List (SR α)) (kn:List α):Nat→List α
 | 0=>kn
 | n+1=>(frs rs (sS rs kn n)).foldl a1p (sS rs kn n)
def sR (rs:List (SR α)) (kn:List α):Nat→List (α×Nat)
 | 0=>[]
 | n+1=>(frs rs (sS rs kn n)).foldl (a3X (n+1)) (sR rs kn n)
theorem a3P {rs:List (SR α)} {kn:List α} {n:Nat} {x:α}:x∈sS rs kn (n+1)↔x∈sS rs kn n∨x∈frs rs (sS rs kn n):=a1W
theorem b0J {n:Nat} {R:List (α×Nat)} {h x:α}:lk (a3X n R h) x=if x=h then some ((lk R h).getD n) else lk R x:=by
 unfold a3X
 cases e:lk R h with
 | none=>
  rw [if_neg (by simp),b4L e];rfl
 | some m=>
  rw [if_pos (by simp)]
  by_cases z:x=h
  ·rw [if_pos z,z,e];rfl
  ·rw [if_neg z]
theorem a4T {n:Nat} {xs:List α}:∀{R:List (α×Nat)} {x:α},(∀h∈xs,lk R h=none∨lk R h=some n)→lk (xs.foldl (a3X n) R) x=if x∈xs then some n else lk R x:=by
 induction xs with
 | nil=>intro R x _;simp
 | cons h xs ih=>
  intro R x hx
  have hh:(lk R h).getD n=n:=by rcases hx h Qs with e | e<;>rw [e]<;>rfl
  rw [Uj,ih]
  ·rw [b0J,hh]
   by_cases z:x=h
   ·subst z;simp
   ·by_cases z2:x∈xs
    ·rw [if_pos z2,if_pos (Qp _ z2)]
    ·rw [if_neg z2,if_neg z,if_neg (by simp [z,z2])]
  ·intro k hk
   rw [b0J,hh]
   by_cases z:k=h
   ·rw [if_pos z];exact .inr rfl
   ·rw [if_neg z];exact hx k (Qp _ hk)
theorem a5g {rs:List (SR α)} {kn:List α}:∀(n:Nat) {x:α} {m:Nat},lk (sR rs kn n) x=some m→x∈sS rs kn n
 | 0,x,m,h=>by cases h
 | n+1,x,m,h=>by
  have hn:∀h∈frs rs (sS rs kn n),lk (sR rs kn n) h=none∨lk (sR rs kn n) h=some (n+1):=fun h hh=>by
   cases e:lk (sR rs kn n) h with
   | none=>exact .inl rfl
   | some m=>exact absurd (a5g n e) (a2Z.mp hh).1
  rw [sR,a4T hn] at h
  rw [a3P]
  by_cases z:x∈frs rs (sS rs kn n)
  ·exact .inr z
  ·rw [if_neg z] at h;exact .inl (a5g n h)
theorem a6k {rs:List (SR α)} {kn:List α} {n:Nat} {h:α} (hh:h∈frs rs (sS rs kn n)):lk (sR rs kn n) h=none:=by
 cases e:lk (sR rs kn n) h with
 | none=>rfl
 | some m=>exact absurd (a5g n e) (a2Z.mp hh).1
theorem c0y {rs:List (SR α)} {kn:List α} {n:Nat} {x:α}:lk (sR rs kn (n+1)) x=if x∈frs rs (sS rs kn n) then some (n+1) else lk (sR rs kn n) x:=
 a4T fun h hh=>.inl (a6k hh)
theorem a4P {rs:List (SR α)} {kn:List α} {n:Nat} (h:frs rs (sS rs kn n)=[]):∀k,sS rs kn (n+k)=sS rs kn n∧sR rs kn (n+k)=sR rs kn n
 | 0=>⟨rfl,rfl⟩
 | k+1=>by
  obtain ⟨h1,h2⟩:=a4P h k
  show (frs rs (sS rs kn (n+k))).foldl a1p (sS rs kn (n+k))=_∧(frs rs (sS rs kn (n+k))).foldl (a3X (n+k+1)) (sR rs kn (n+k))=_
  rw [h1,h2,h];exact ⟨rfl,rfl⟩
def b3l (rs:List (SR α)) (S:List α):Nat:=(rs.filter fun r=>decide (r.2.1∉S)).length
theorem a5B {β:Type} {p q:β→Bool}:∀{l:List β},(∀r∈l,p r=true→q r=true)→(l.filter p).length≤(l.filter q).length
 | [],_=>Qi _
 | r::l,h=>by
  have ih:=a5B (l:=l) fun x hx=>h x (Qp _ hx)
  rw [Ym,Ym]
  cases hp:p r with
  | true=>rw [h r Qs hp];simp;exact ih
  | false=>cases hq:q r<;>simp<;>omega
theorem a5v {β:Type} {p q:β→Bool}:∀{l:List β},(∀r∈l,p r=true→q r=true)→(∃r∈l,q r=true∧p r=false)→(l.filter p).length < (l.filter q).length
 | [],_,h=>by obtain ⟨r,hr,_⟩:=h;cases hr
 | r::l,h,⟨x,hx,hq,hp⟩=>by
  have hl:∀y∈l,p y=true→q y=true:=fun y hy=>h y (Qp _ hy)
  rw [Ym,Ym]
  rcases Qy.mp hx with e | e
  ·subst e
   rw [hp,hq]
   have:=a5B hl
   simp;omega
  ·have ih:=a5v hl ⟨x,e,hq,hp⟩
   cases hp':p r with
   | true=>rw [h r Qs hp'];simp;exact ih
   | false=>cases hq':q r<;>simp<;>omega
theorem a5h {rs:List (SR α)} {kn:List α} {n:Nat} (h:frs rs (sS rs kn n)≠[]):b3l rs (sS rs kn (n+1)) < b3l rs (sS rs kn n):=by
 obtain ⟨x,hx⟩:=Vh _ h
 obtain ⟨h1,b,h2,_⟩:=a2Z.mp hx
 have hs:x∈sS rs kn (n+1):=a3P.mpr (.inr hx)
 refine a5v (fun r _ hr=>?_) ⟨_,h2,by simpa using h1,by simpa using hs⟩
 simp at hr ⊢
 exact fun z=>hr (a3P.mpr (.inl z))
end
section
variable {α:Type} [DecidableEq α]
theorem b4b (rs:List (SR α)) (S:List α):b3l rs S≤rs.length:=Qq _ _
theorem b2e {rs:List (SR α)} {S:List α} (h:frs rs S≠[]):0 < b3l rs S:=by
 obtain ⟨x,hx⟩:=Vh _ h
 obtain ⟨h1,b,h2,_⟩:=a2Z.mp hx
 exact Wj (Qv.mpr ⟨h2,by simpa using h1⟩)
theorem a7B {rs:List (SR α)} {kn:List α}:∀n,frs rs (sS rs kn n)≠[]→b3l rs (sS rs kn n)+n≤rs.length
 | 0,_=>b4b _ _
 | n+1,h=>by
  have h0:frs rs (sS rs kn n)≠[]:=fun z=>h (by
   have:=(a4P z 1).1
   rw [this];exact z)
  have:=a7B n h0
  have:=a5h h0
  omega
theorem b2D (rs:List (SR α)) (kn:List α):frs rs (sS rs kn rs.length)=[]:=by
 by_cases h:frs rs (sS rs kn rs.length)=[]
 ·exact h
 ·have:=a7B _ h
  have:=b2e h
  omega
def FIN (rs:List (SR α)) (kn:List α):List (α×Nat):=sR rs kn rs.length
theorem b9e {rs:List (SR α)} {kn:List α} {n:Nat} (h:frs rs (sS rs kn n)=[]):sR rs kn n=FIN rs kn:=by
 unfold FIN
 by_cases c:n≤rs.length
 ·obtain ⟨k,e⟩:=Nat.le.dest c
  rw [←e];exact ((a4P h k).2).symm
 ·obtain ⟨k,e⟩:=Nat.le.dest (Nat.le_of_not_le c)
  rw [←e];exact (a4P (b2D rs kn) k).2
theorem b2h {rs:List (SR α)} {kn:List α} (h:kn.Nodup):∀n,(sS rs kn n).Nodup:=by
 have put:∀(l:List α) (x:α),l.Nodup→(a1p l x).Nodup:=fun l x hl=>by
  unfold a1p
  by_cases z:x∈l
  ·rw [if_pos z];exact hl
  ·rw [if_neg z]
   exact Zs.mpr ⟨hl,by simp,fun a ha b hb e=>z (by rw [Xm] at hb;rw [←hb,←e];exact ha)⟩
 have puts:∀(xs l:List α),l.Nodup→(xs.foldl a1p l).Nodup:=by
  intro xs
  induction xs with
  | nil=>intro l hl;exact hl
  | cons x xs ih=>intro l hl;exact ih _ (put l x hl)
 intro n
 induction n with
 | zero=>exact h
 | succ n ih=>exact puts _ _ ih
theorem a1h (xs:List α):∀l:List α,(xs.foldl a1p l).length≤l.length+xs.length:=by
 induction xs with
 | nil=>intro l;simp
 | cons x xs ih=>
  intro l
  have:=ih (a1p l x)
  have h2:(a1p l x).length≤l.length+1:=by unfold a1p;split<;>simp
  rw [Uj,Qo];omega
theorem a1c {rs:List (SR α)} {kn:List α}:∀n,((sR rs kn n).map (·.1)).Nodup:=by
 have put:∀(n:Nat) (R:List (α×Nat)) (x:α),(R.map (·.1)).Nodup→((a3X n R x).map (·.1)).Nodup:=fun n R x hl=>by
  unfold a3X
  cases e:lk R x with
  | some m=>simpa using hl
  | none=>
   rw [if_neg (by simp),Xc]
   refine Zs.mpr ⟨hl,by simp,fun a ha b hb z=>?_⟩
   obtain ⟨p,hp,rfl⟩:=Ql.mp ha
   simp at hb
   exact a9R e hp (by rw [←hb,←z])
 have puts:∀(n:Nat) (xs:List α) (R:List (α×Nat)),(R.map (·.1)).Nodup→((xs.foldl (a3X n) R).map (·.1)).Nodup:=by
  intro n xs
  induction xs with
  | nil=>intro R hl;exact hl
  | cons x xs ih=>intro R hl;exact ih _ (put n R x hl)
 intro n
 induction n with
 | zero=>simp [sR]
 | succ n ih=>exact puts _ _ _ ih
end
section
variable {α:Type} [DecidableEq α]
theorem a2n:∀(xs:List α) {l:List α},l.Nodup→(xs.foldl a1p l).Nodup
 | [],_,hl=>hl
 | x::xs,l,hl=>by
  refine a2n xs ?_
  unfold a1p
  by_cases z:x∈l
  ·rw [if_pos z];exact hl
  ·rw [if_neg z]
   exact Zs.mpr ⟨hl,by simp,fun a ha b hb e=>z (by rw [Xm] at hb;rw [←hb,←e];exact ha)⟩
theorem a3K (n:Nat):∀(xs:List α) {R:List (α×Nat)},(R.map (·.1)).Nodup→((xs.foldl (a3X n) R).map (·.1)).Nodup
 | [],_,hl=>hl
 | x::xs,R,hl=>by
  refine a3K n xs ?_
  unfold a3X
  cases e:lk R x with
  | some m=>simpa using hl
  | none=>
   rw [if_neg (by simp),Xc]
   refine Zs.mpr ⟨hl,by simp,fun a ha b hb z=>?_⟩
   obtain ⟨p,hp,rfl⟩:=Ql.mp ha
   simp at hb
   exact a9R e hp (by rw [←hb,←z])
theorem a5k (n:Nat):∀(xs:List α) (R:List (α×Nat)),(xs.foldl (a3X n) R).length≤R.length+xs.length
 | [],R=>by simp
 | x::xs,R=>by
  have:=a5k n xs (a3X n R x)
  have h2:(a3X n R x).length≤R.length+1:=by unfold a3X;split<;>simp
  rw [Uj,Qo];omega
theorem b3s {rs:List (SR α)} {kn:List α} (h:kn.Nodup) (n:Nat):(sS rs kn n).length≤kn.length+rs.length:=by
 have sub:∀n x,x∈sS rs kn n→x∈kn++rs.map fun r=>r.2.1:=by
  intro n
  induction n with
  | zero=>intro x hx;exact Yy _ hx
  | succ n ih=>
   intro x hx
   rcases a3P.mp hx with z | z
   ·exact ih x z
   ·obtain ⟨_,b,h2,_⟩:=a2Z.mp z
    exact Qz _ (Ql.mpr ⟨_,h2,rfl⟩)
 have:=a1R (b2h h n) (sub n)
 simpa using this
theorem b3w {rs:List (SR α)} {kn:List α} (h:kn.Nodup) (n:Nat):(sR rs kn n).length≤kn.length+rs.length:=by
 have:=a1R (l:=(sR rs kn n).map (·.1)) (m:=sS rs kn n) (a1c n) (fun x hx=>by
  obtain ⟨p,hp,rfl⟩:=Ql.mp hx
  exact a5g n (a9q (a1c n) hp))
 have h2:=b3s (rs:=rs) h n
 simp at this;omega
theorem b4Z (rs:List (SR α)) (S:List α):(frs rs S).length≤rs.length:=by
 unfold frs;rw [Qe];exact Qq _ _
theorem a7L (bd S:List α):decide (bd.filter (fun q=>decide (q∉S))=[])=bd.all fun q=>decide (q∈S):=by
 rw [Xu,decide_eq_true_eq,Zq,Zx]
 constructor
 ·intro h x hx;have:=h x hx;simpa using this
 ·intro h x hx;have:=h x hx;simpa using this
end
section
variable {α:Type} [DecidableEq α]
def a3f (b S:List α):Bool:=b.all fun q=>decide (q∈S)
theorem b5N {rs:List (SR α)} (x:α):x∈(FIN rs []).map (·.1)↔x∈sS rs [] rs.length:=by
 have key:∀n,x∈(sR rs ([]:List α) n).map (·.1)↔x∈sS rs [] n:=by
  intro n
  constructor
  ·intro h
   obtain ⟨p,hp,rfl⟩:=Ql.mp h
   exact a5g n (a9q (a1c n) hp)
  ·induction n with
   | zero=>intro h;cases h
   | succ n ih=>
    intro h
    have hs:(lk (sR rs ([]:List α) (n+1)) x).isSome=true:=by
     rw [c0y]
     by_cases z:x∈frs rs (sS rs [] n)
     ·rw [if_pos z];rfl
     ·rw [if_neg z]
      rcases a3P.mp h with w | w
      ·obtain ⟨p,hp,e⟩:=Ql.mp (ih w)
       have:=a9q (a1c n) hp
       rw [e] at this;rw [this];rfl
      ·exact absurd w z
    cases e:lk (sR rs ([]:List α) (n+1)) x with
    | none=>rw [e] at hs;cases hs
    | some m=>exact Ql.mpr ⟨_,b6H e,rfl⟩
 exact key _
end
def a3V:List Nat:=[97,98,99,100,101,102,103,104,105,106,107,108,109,110,111,112,113,114,115,116,117,118,119,120,121,122]
def c0A:List Nat:=[48,49,50,51,52,53,54,55,56,57]++a3V
abbrev sv (l:List Nat):V:=.str (mk l)
theorem b8F:("abcdefghijklmnopqrstuvwxyz":Str)=mk a3V:=by decide+kernel
theorem b5D:("0123456789abcdefghijklmnopqrstuvwxyz":Str)=mk c0A:=by decide+kernel
theorem a5z {c:Nat} (h:c∈a3V):c < 128:=by revert c;decide
theorem b4O {c:Nat} (h:c∈c0A):c < 128:=by revert c;decide
theorem a3r {n:Nat} (h:n≤100000):n≤sizeLine:=Qj h (by decide)
theorem b1B {l:List Nat} (h:∀c∈l,c < 1114112):Yd (mk l)=true:=by
 unfold Yd;simpa using h
def OkS (z:Str):Prop:=Yd z=true∧z.length≤40
theorem OkS.of {l:List Nat} (h:∀c∈l,c < 128) (hl:l.length≤40):OkS (mk l):=⟨b1B fun c hc=>by have:=h c hc;omega,by rw [a0y];exact hl⟩
def a2g:Nat→Str
 | 0=>"fact"
 | 1=>"sure"
 | 2=>"most"
 | _=>"block"
abbrev Rw:=Nat×Str×Str×List Str
def a1A (r:Rw):Prop:=r.1 < 4∧(r.1=0→r.2.2.2=[]∧r.2.1="")∧OkS r.2.1∧OkS r.2.2.1∧(∀q∈r.2.2.2,OkS q)∧r.2.2.2.length≤4
def a4S (H:Hp) (v:V) (r:Rw):Prop:=∃p t,v=.ref p∧H p=some (.tup [.str (a2g r.1),.str r.2.1,.str r.2.2.1,.ref t])∧H t=some (.tup (r.2.2.2.map V.str))
theorem a4S.same {H H':Hp} {v:V} {r:Rw} (s:a0f H H') (h:a4S H v r):a4S H' v r:=let ⟨p,t,a,b,c⟩:=h;⟨p,t,a,s _ _ b,s _ _ c⟩
def RwD (D:Addr) (v:V) (H:Hp):Prop:=∃(p t:Addr) (r:Rw),v=.ref p∧p≠D∧t≠D∧a1A r∧H p=some (.tup [.str (a2g r.1),.str r.2.1,.str r.2.2.1,.ref t])∧H t=some (.tup (r.2.2.2.map V.str))
structure a2s (H:Hp) (xs:List V) (rs:List Rw):Prop where
 len:xs.length=rs.length
 get:∀(i:Nat) (r:Rw),rs[i]?=some r→∃x,xs[i]?=some x∧a4S H x r
theorem a2s.same {H H':Hp} {xs:List V} {rs:List Rw} (s:a0f H H') (h:a2s H xs rs):a2s H' xs rs:=⟨h.len,fun i r e=>let ⟨x,a,b⟩:=h.get i r e;⟨x,a,b.same s⟩⟩
theorem a7z {D:Addr} {H:Hp}:∀{ys:List V},(∀(i:Nat) v,ys[i]?=some v→RwD D v H)→∃rs:List Rw,a2s H ys rs∧∀r∈rs,a1A r
 | [],_=>⟨[],⟨rfl,fun i r e=>by simp at e⟩,by simp⟩
 | y::ys,h=>by
  obtain ⟨rs,hA,hO⟩:=a7z (D:=D) (ys:=ys) fun i v e=>h (i+1) v e
  obtain ⟨p,t,r,e,_,_,ho,h1,h2⟩:=h 0 y rfl
  refine ⟨r::rs,⟨by simp [hA.len],fun i q eq=>?_⟩,fun q hq=>?_⟩
  ·cases i with
   | zero=>cases eq;exact ⟨y,rfl,p,t,e,h1,h2⟩
   | succ i=>exact hA.get i q eq
  ·rcases Qy.mp hq with z | z
   ·rw [z];exact ho
   ·exact hO q z
def b9U (K:Qd):Sp:=fun vs H Q _=>∃(a:Addr) (ns:List Int) (k:Int),vs=[.ref a,.int k]∧SqL K H a (ns.map V.int)∧ns.length≤63∧0≤k∧k≤1000∧∀i,Q (.int i) H
def b9H:Sp:=fun vs H Q _=>∃(c k:Int),vs=[.int c,.int k]∧∀r:Int,0≤r→Q (.int r) H
theorem a2d {c k:Int} {H:Hp} {Q:VK} {E:XK}:b9H [.int c,.int k] H Q E↔∀r:Int,0≤r→Q (.int r) H:=⟨by rintro ⟨_,_,e,q⟩;cases e;exact q,fun q=>⟨_,_,rfl,q⟩⟩
def a3O (c k:Int) (sg:List Nat):List Nat:=(Yg (1+c % 8).toNat).map fun (j:Nat)=>sg.getD (((c / 64+5 * (j:Int)+(if (j:Int)=c / 8 % (1+c % 8) then k else 0)) % (sg.length:Int)).toNat) 0
theorem a3A (c k:Int) (sg:List Nat):1≤(a3O c k sg).length∧(a3O c k sg).length≤8:=by
 unfold a3O
 rw [Qe,Jf]
 have:=Za c (b:=8) (by decide)
 have:=Yx c (b:=8) (by decide)
 omega
theorem a5E {c k:Int} {sg:List Nat} (h:0 < sg.length):∀x∈a3O c k sg,x∈sg:=by
 intro x hx
 obtain ⟨j,_,rfl⟩:=Ql.mp hx
 have h1:=Za (c / 64+5 * (j:Int)+(if (j:Int)=c / 8 % (1+c % 8) then k else 0)) (b:=(sg.length:Int)) (by omega)
 have h2:=Yx (c / 64+5 * (j:Int)+(if (j:Int)=c / 8 % (1+c % 8) then k else 0)) (b:=(sg.length:Int)) (by omega)
 generalize (c / 64+5 * (j:Int)+(if (j:Int)=c / 8 % (1+c % 8) then k else 0)) % (sg.length:Int)=n at h1 h2
 rw [Yj,Qc (by omega)]
 exact Xi _
theorem b3A:∀n:Nat,n < 26→a3V.getD n 0=97+n:=by decide
theorem b0t {c k k':Int} (hk:0≤k∧k < 26) (hk':0≤k'∧k' < 26) (h:a3O c k a3V=a3O c k' a3V):k=k':=by
 have m8:=Za c (b:=8) (by decide)
 have m9:=Yx c (b:=8) (by decide)
 have a1:=Za (c / 8) (b:=1+c % 8) (by omega)
 have a2:=Yx (c / 8) (b:=1+c % 8) (by omega)
 obtain ⟨a,ea⟩:∃a:Nat,c / 8 % (1+c % 8)=(a:Int):=⟨(c / 8 % (1+c % 8)).toNat,by omega⟩
 have hl:a < (1+c % 8).toNat:=by omega
 have h1:=congrArg (fun l:List Nat=>l[a]?) h
 unfold a3O at h1
 simp only [Qn] at h1
 rw [Wu hl] at h1
 simp only [Jc,Option.some.injEq] at h1
 rw [if_pos ea.symm,if_pos ea.symm] at h1
 have e26:(a3V.length:Int)=26:=by decide
 rw [e26] at h1
 have b1:=Za (c / 64+5 * (a:Int)+k) (b:=26) (by decide)
 have b2:=Yx (c / 64+5 * (a:Int)+k) (b:=26) (by decide)
 have b3:=Za (c / 64+5 * (a:Int)+k') (b:=26) (by decide)
 have b4:=Yx (c / 64+5 * (a:Int)+k') (b:=26) (by decide)
 rw [b3A _ (by omega),b3A _ (by omega)] at h1
 omega
def pcl (wd:Nat→List Nat):Nat→List Nat
 | 0=>[]
 | 1=>40::(wd 3++[41])
 | _=>40::(wd 4++[44])++wd 3++[41]
def nmL (wd:Nat→List Nat) (k:Nat):List Nat:=wd (k % 3)++pcl wd (k / 3)
def plG (wd:Nat→List Nat) (j:Nat):Str:=if j % 2=0 then mk (nmL wd (j / 2)) else mk (45::nmL wd (j / 2))
theorem a5F {a b:List Nat} (h:mk a=mk b):a=b:=by
 have:=congrArg (fun z:Str=>z.cps.toList) h
 exact this
theorem a9t {wd:Nat→List Nat} (hw:∀k,k < 5→∀x∈wd k,x∈a3V) (k:Nat):(nmL wd k).takeWhile (fun x=>x != 40)=wd (k % 3):=by
 have h1:∀x∈wd (k % 3),(x != 40)=true:=fun x hx=>by
  have:=hw _ (by omega) x hx
  have h2:∀y∈a3V,(y != 40)=true:=by decide
  exact h2 x this
 have hp:(pcl wd (k / 3)).takeWhile (fun x=>x != 40)=[]:=by
  match k / 3 with
  | 0=>rfl
  | 1=>rfl
  | n+2=>rfl
 unfold nmL
 rw [List.takeWhile_append_of_pos h1,hp,Qh]
theorem b5P {wd:Nat→List Nat} (hw:∀k,k < 5→∀x∈wd k,x∈a3V) {p q:Nat} (hp:p < 3) (hq:q < 3) (h:pcl wd p=pcl wd q):p=q:=by
 have n44:∀k,k < 5→44∉wd k:=fun k hk z=>by have:=hw k hk 44 z;revert this;decide
 have i1:44∉pcl wd 1:=by
  show 44∉40::(wd 3++[41])
  simp [n44 3 (by decide)]
 have i2:44∈pcl wd 2:=by
  show 44∈40::(wd 4++[44])++wd 3++[41]
  simp
 match p,q,hp,hq with
 | 0,0,_,_=>rfl
 | 1,1,_,_=>rfl
 | 2,2,_,_=>rfl
 | 0,1,_,_=>cases h
 | 0,2,_,_=>cases h
 | 1,0,_,_=>cases h
 | 2,0,_,_=>cases h
 | 1,2,_,_=>rw [h] at i1;exact absurd i2 i1
 | 2,1,_,_=>rw [←h] at i1;exact absurd i2 i1
theorem b3e {wd:Nat→List Nat} (hw:∀k,k < 5→∀x∈wd k,x∈a3V) (hi:∀j k,j < 5→k < 5→wd j=wd k→j=k) {p q:Nat} (hp:p < 9) (hq:q < 9) (h:nmL wd p=nmL wd q):p=q:=by
 have e1:wd (p % 3)=wd (q % 3):=by rw [←a9t hw p,←a9t hw q,h]
 have e2:=hi _ _ (by omega) (by omega) e1
 have e3:pcl wd (p / 3)=pcl wd (q / 3):=by
  unfold nmL at h
  rw [e1] at h
  exact List.append_cancel_left h
 have e4:=b5P hw (by omega) (by omega) e3
 omega
theorem b8A {wd:Nat→List Nat} (hw:∀k,k < 5→∀x∈wd k,x∈a3V) (hn:∀k,k < 5→wd k≠[]) (p q:Nat):nmL wd p≠45::nmL wd q:=fun h=>by
 unfold nmL at h
 cases e:wd (p % 3) with
 | nil=>exact hn _ (by omega) e
 | cons x r=>
  have hx:=hw (p % 3) (by omega) x (by rw [e];exact Qs)
  rw [e] at h
  have:x=45:=(List.cons.inj h).1
  rw [this] at hx;revert hx;decide
theorem b2z {wd:Nat→List Nat} (hw:∀k,k < 5→∀x∈wd k,x∈a3V) (hn:∀k,k < 5→wd k≠[]) (hi:∀j k,j < 5→k < 5→wd j=wd k→j=k) {m:Nat} (hm:m≤18):((Yg m).map (plG wd)).Nodup:=by
 unfold Xf
 rw [List.pairwise_map]
 refine List.nodup_range.imp_of_mem fun {i j} hi' hj' hne e=>hne ?_
 rw [Us] at hi' hj'
 unfold plG at e
 by_cases a:i % 2=0
 ·by_cases b:j % 2=0
  ·rw [if_pos a,if_pos b] at e
   have:=b3e hw hi (by omega) (by omega) (a5F e);omega
  ·rw [if_pos a,if_neg b] at e
   exact absurd (a5F e) (b8A hw hn _ _)
 ·by_cases b:j % 2=0
  ·rw [if_neg a,if_pos b] at e
   exact absurd (a5F e).symm (b8A hw hn _ _)
  ·rw [if_neg a,if_neg b] at e
   have:=b3e hw hi (by omega) (by omega) (List.cons.inj (a5F e)).2;omega
def a1i (z:Str):Str:=if Jl z "-"=true then Uw z (some 1) none else "-"++z
theorem b0G (l:List Nat):a1i (mk l)=if l[0]?=some 45 then mk (l.drop 1) else mk (45::l):=by
 unfold a1i
 rw [show ("-":Str)=mk [45] by decide+kernel,a7J]
 by_cases h:l[0]?=some 45
 ·rw [if_pos (decide_eq_true h),if_pos h,a8p _ (by decide) (by have:=(Qm.mp h).1;omega)];rfl
 ·rw [if_neg (by simpa using h),if_neg h,a2j];rfl
theorem b1l {l:List Nat} (h:l[0]?=some 45→l[1]?≠some 45):a1i (a1i (mk l))=mk l:=by
 rw [b0G l]
 by_cases c:l[0]?=some 45
 ·rw [if_pos c,b0G]
  cases l with
  | nil=>cases c
  | cons x l=>
   rw [if_neg (by have:=h c;simpa using this)]
   have:x=45:=by simpa using c
   rw [this];rfl
 ·rw [if_neg c,b0G,if_pos (show (45::l)[0]?=some 45 from rfl)];rfl
theorem b9W {wd:Nat→List Nat} (hw:∀k,k < 5→∀x∈wd k,x∈a3V) (hn:∀k,k < 5→wd k≠[]) (j:Nat):a1i (a1i (plG wd j))=plG wd j:=by
 have h0:∀k,(nmL wd k)[0]?≠some 45:=fun k z=>by
  unfold nmL at z
  cases e:wd (k % 3) with
  | nil=>exact hn _ (by omega) e
  | cons x r=>
   have hx:=hw (k % 3) (by omega) x (by rw [e];exact Qs)
   rw [e] at z
   have:x=45:=by simpa using z
   rw [this] at hx;revert hx;decide
 unfold plG
 split
 ·exact b1l fun z=>absurd z (h0 _)
 ·exact b1l fun _=>h0 _
def b9o:Sp:=fun vs H Q _=>∃(c k:Int) (sg:List Nat),vs=[.int c,.int k,sv sg]∧(0 < sg.length∧sg.length≤100)∧Q (sv (a3O c k sg)) H
def b8e:Sp:=fun vs H Q _=>∃(c:Int),vs=[.int c]∧∀(D:Addr) (pl:List Str) (H':Hp),a0f H H'→H D=none→H' D=some (.lst (pl.map V.str))→2≤pl.length→pl.length≤18→(∀z∈pl,OkS z)→pl.Nodup→(∀z∈pl,a1i (a1i z)=z)→Q (.ref D) H'
def b1D:Sp:=fun vs H Q _=>∃(c:Int),vs=[.int c]∧∀(D:Addr) (ls:List Str) (H':Hp),a0f H H'→H D=none→H' D=some (.lst (ls.map V.str))→ls.length=12→(∀z∈ls,OkS z)→Q (.ref D) H'
def c2d (H:Hp) (Q:VK):Prop:=∀(p t:Addr) (r:Rw) (H':Hp),a0f H H'→H p=none→H t=none→a1A r→H' p=some (.tup [.str (a2g r.1),.str r.2.1,.str r.2.2.1,.ref t])→H' t=some (.tup (r.2.2.2.map V.str))→Q (.ref p) H'
def c0s:Sp:=fun vs H Q _=>∃(m k st:Int) (P L:Addr) (pl ls:List Str),vs=[.int m,.int k,.ref P,.ref L,.int st]∧H P=some (.lst (pl.map V.str))∧2≤pl.length∧pl.length≤18∧(∀z∈pl,OkS z)∧H L=some (.lst (ls.map V.str))∧ls.length=12∧(∀z∈ls,OkS z)∧c2d H Q
def c0u:Sp:=fun vs H Q _=>∃(m:Int) (P L:Addr) (pl ls:List Str),vs=[.int m,.ref P,.ref L]∧H P=some (.lst (pl.map V.str))∧2≤pl.length∧pl.length≤18∧(∀z∈pl,OkS z)∧H L=some (.lst (ls.map V.str))∧ls.length=12∧(∀z∈ls,OkS z)∧c2d H Q
def b7H (K:Qd):Sp:=fun vs H Q _=>∃(a:Addr) (ns:List Int) (st:Int),vs=[.ref a,.int st]∧SqL K H a (ns.map V.int)∧ns.length≤63∧(0≤st∧st≤10)∧∀(D:Addr) (xs:List V) (rs:List Rw) (H':Hp),a0f H H'→H D=none→H' D=some (.lst xs)→a2s H' xs rs→rs.length+st.toNat≤63→(∀r∈rs,a1A r)→Q (.ref D) H'
theorem a2E {pl:List Str} (hl:2≤pl.length) (hok:∀z∈pl,OkS z) (n:Int):∃z,atI (pl.map V.str) (n % (pl.length:Int))=some (.str z)∧OkS z:=by
 have m1:=Za n (b:=(pl.length:Int)) (by omega)
 have m2:=Yx n (b:=(pl.length:Int)) (by omega)
 obtain ⟨v,e,hv,_⟩:=a3i (xs:=pl.map V.str) (i:=n % (pl.length:Int)) m1 (by simpa using m2)
 obtain ⟨z,hz,rfl⟩:=Ql.mp hv
 exact ⟨z,e,hok z hz⟩
theorem b0H {ls:List Str} (hl:ls.length=12) (hok:∀z∈ls,OkS z) (n:Int):∃z,atI (ls.map V.str) (n % 12)=some (.str z)∧OkS z:=by
 obtain ⟨z,e,h⟩:=a2E (pl:=ls) (by omega) hok n
 rw [hl] at e
 exact ⟨z,e,h⟩
theorem a6m {ys:List V} (h:∀(i:Nat) (v:V),ys[i]?=some v→∃z,v=V.str z∧OkS z):∃zs:List Str,ys=zs.map V.str∧∀z∈zs,OkS z:=by
 induction ys with
 | nil=>exact ⟨[],rfl,by simp⟩
 | cons y ys ih=>
  obtain ⟨zs,e,ho⟩:=ih fun i v e=>h (i+1) v e
  obtain ⟨z,ez,hz⟩:=h 0 y rfl
  refine ⟨z::zs,by rw [e,ez];rfl,fun x hx=>?_⟩
  rcases Qy.mp hx with w | w
  ·rw [w];exact hz
  ·exact ho x w
def dv (d:List (Str×Nat)):List (Key×V):=d.map fun p=>(Sum.inr p.1,V.int p.2)
theorem b9S (d:List (Str×Nat)):(dv d).length=d.length:=Qe _
theorem b4E (d:List (Str×Nat)) (x:Str) (m:Nat):dv (d++[(x,m)])=dv d++[(Sum.inr x,V.int m)]:=by unfold dv;rw [Xc];rfl
theorem a5c (x:Str):∀d:List (Str×Nat),a0P (dv d) (Sum.inr x:Key)=(lk d x).map fun m:Nat=>V.int m
 | []=>rfl
 | p::r=>by
  by_cases e:p.1=x
  ·rw [show dv (p::r)=(Sum.inr p.1,V.int p.2)::dv r from rfl,a0A (by rw [e])]
   unfold lk;rw [Yz,decide_eq_true e];rfl
  ·rw [show dv (p::r)=(Sum.inr p.1,V.int p.2)::dv r from rfl,a0w (fun z=>e (Sum.inr.inj z)),a5c x r]
   unfold lk;rw [Yz,decide_eq_false e]
theorem a2v {H:Hp} {S:Addr} {d:List (Key×V)} (h:H S=some (.dK d)):IsD H S:=.inl ⟨_,.inl h⟩
def bv (S:List Str):List (Key×V):=S.map fun x=>(Sum.inr x,V.bl true)
theorem a2D (x:Str):∀S:List Str,a0P (bv S) (Sum.inr x:Key)=if x∈S then some (V.bl true) else none
 | []=>rfl
 | y::r=>by
  have ih:=a2D x r
  by_cases e:y=x
  ·rw [show bv (y::r)=(Sum.inr y,V.bl true)::bv r from rfl,a0A (by rw [e]),if_pos (by rw [e];exact Qs)]
  ·rw [show bv (y::r)=(Sum.inr y,V.bl true)::bv r from rfl,a0w (fun z=>e (Sum.inr.inj z)),ih]
   by_cases h:x∈r
   ·rw [if_pos h,if_pos (Qp _ h)]
   ·rw [if_neg h,if_neg (by simp [h];exact fun z=>e z.symm)]
theorem b7e (S:List Str) (x:Str):a2k (bv S) (Sum.inr x:Key) (V.bl true)=bv (a1p S x):=by
 unfold a2k a1p
 rw [a1L,a2D]
 by_cases h:x∈S
 ·rw [if_pos h,if_pos (by rfl),if_pos h]
  unfold bv
  rw [Xh]
  refine Uo fun y _=>?_
  simp only [Function.comp]
  split<;>rfl
 ·rw [if_neg h,if_neg (by simp),if_neg h]
  unfold bv;rw [Xc];rfl
theorem c1o {H:Hp} {D:Addr} {S:List Str} (h:H D=some (.dK (bv S))) (x:Str):a2S H D (.str x) (if x∈S then some (V.bl true) else none):=by
 have:=a2S.k (k:=(Sum.inr x:Key)) h
 rw [a2D] at this;exact this
theorem c0b {H:Hp} {D:Addr} {S:List Str} (h:H D=some (.dK (bv S))) (hl:S.length≤100000) (x:Str):a4k H D (.str x) (V.bl true) (upd H D (.dK (bv (a1p S x)))):=by
 have:=a4k.k (k:=(Sum.inr x:Key)) (v:=V.bl true) h (by unfold bv;rw [Qe];exact Xk hl (by decide))
 rw [b7e] at this;exact this
theorem b8j {R:List (Str×Nat)} (hn:(R.map (·.1)).Nodup) {x:Str} {n:Nat} (h:lk R x=none∨lk R x=some n):a2k (dv R) (Sum.inr x:Key) (V.int n)=dv (a3X n R x):=by
 unfold a3X
 rcases h with h | h
 ·rw [h,if_neg (by simp),a3s _ (by rw [a5c,h];rfl),b4E]
 ·rw [h,if_pos (by simp)]
  unfold a2k
  rw [a1L,a5c,h,if_pos (by rfl)]
  unfold dv
  rw [Xh]
  refine Uo fun p hp=>?_
  simp only [Function.comp]
  by_cases e:p.1=x
  ·have:=a9q hn hp
   rw [e,h] at this
   rw [if_pos (by rw [e]),Option.some.inj this]
  ·rw [if_neg (fun z=>e (Sum.inr.inj z))]
theorem c6I {H:Hp} {D:Addr} {R:List (Str×Nat)} (h:H D=some (.dK (dv R))) (hl:R.length≤100000) (hn:(R.map (·.1)).Nodup) {x:Str} {n:Nat} (hx:lk R x=none∨lk R x=some n):a4k H D (.str x) (V.int n) (upd H D (.dK (dv (a3X n R x)))):=by
 have:=a4k.k (k:=(Sum.inr x:Key)) (v:=V.int n) h (by rw [b9S];exact Xk hl (by decide))
 rw [b8j hn hx] at this;exact this
def srW (r:Rw):SR Str:=(decide (r.1 < 2),r.2.2.1,r.2.2.2)
theorem c0d:∀zs:List Str,(∀z∈zs,Yd z=true)→Zl (zs.map Zp)=true∧Zb (zs.map Zp)=0
 | [],_=>⟨rfl,rfl⟩
 | z::zs,h=>by
  obtain ⟨a,b⟩:=c0d zs fun p hp=>h p (Qp _ hp)
  refine ⟨?_,?_⟩
  ·show (Xj (.str z) && _)=true
   rw [a,Bool.and_true];exact h z Qs
  ·show max (Yq (.str z)) _=0
   rw [b];rfl
theorem a6N {zs:List Str} (h:∀z∈zs,Yd z=true):Yi (.list (zs.map Zp))=true:=by
 obtain ⟨a,b⟩:=c0d zs h
 unfold Yi
 simp only [Xj,Yq,a,b]
 decide
theorem a8W (zs:List Str):Xp (.list (zs.map Zp)) (.list [])=decide (zs=[]):=by
 cases zs with
 | nil=>rfl
 | cons z zs=>rfl
theorem b6h {K:Qd} {H:Hp} {Q:VK} {a b:Addr} {zs:List Str} (ha:SqL K H a (zs.map V.str)) (hb:SqL K H b []) (ho:∀z∈zs,Yd z=true) (q:Q (.bl (decide (zs=[]))) H):b5L K (.ref a) (.ref b) H Q:=
 .inr ⟨_,_,.lst ha (a3e zs),.lst hb .nil,a6N ho,by decide,by rw [a8W];exact q⟩
theorem b5r {K:Qd} {H:Hp} {Q:VK} {a b:Addr} {zs:List Str} (ha:SqL K H a (zs.map V.str)) (hb:SqL K H b []) (ho:∀z∈zs,Yd z=true) (q:Q (.bl (!decide (zs=[]))) H):b6t K (.ref a) (.ref b) H Q:=
 .inr ⟨_,_,.lst ha (a3e zs),.lst hb .nil,a6N ho,by decide,by rw [a8W];exact q⟩
def a2X (K:Qd) (H:Hp) (v:V) (kn:List Str):Prop:=(∃a,v=.ref a∧H a=some (.lst (kn.map V.str)))∨∃a kvs,v=.ref a∧H a=some (.dK kvs)∧kvs.map (·.1)=kn.map (Sum.inr:Str→Key)
theorem a2X.at {K:Qd} {H:Hp} {v:V} {kn:List Str} (h:a2X K H v kn):∃a o,v=.ref a∧H a=some o:=by
 rcases h with ⟨a,e,b⟩ | ⟨a,_,e,b,_⟩
 ·exact ⟨a,_,e,b⟩
 ·exact ⟨a,_,e,b⟩
theorem a2X.same {K:Qd} {H H':Hp} {v:V} {kn:List Str} (s:a0f H H') (h:a2X K H v kn):a2X K H' v kn:=h.imp (fun ⟨a,e,b⟩=>⟨a,e,s _ _ b⟩) fun ⟨a,k,e,b,c⟩=>⟨a,k,e,s _ _ b,c⟩
def b5o (K:Qd):Sp:=fun vs H Q _=>∃(v:V) (kn:List Str),vs=[v]∧a2X K H v kn∧kn.length≤1000∧∀D H',a0f H H'→H D=none→H' D=some (.dK (bv (kn.foldl a1p [])))→Q (.ref D) H'
def b5B:Sp:=fun vs H Q _=>∃i:Int,vs=[.int i]∧Q (.bl true) H
theorem a6G {K:Qd}:Xw K (.type "int") (.type "int")=some true:=rfl
theorem a5r {K:Qd}:Xw K (.type "int") (.type "bool")=some false:=rfl
def a8z (lb hd:V) (t:Addr):List (Str×V):=a1D "body" (.ref t) (a1D "head" hd (a1D "label" lb []))
theorem a4z (lb hd:V) (t:Addr):(a8z lb hd t).lookup ("label":Str)=some lb:=by
 unfold a8z;rw [a0i,if_neg (by decide+kernel),a0i,if_neg (by decide+kernel),a0i,if_pos rfl]
theorem a1v (lb hd:V) (t:Addr):(a8z lb hd t).lookup ("head":Str)=some hd:=by
 unfold a8z;rw [a0i,if_neg (by decide+kernel),a0i,if_pos rfl]
theorem a1X (lb hd:V) (t:Addr):(a8z lb hd t).lookup ("body":Str)=some (.ref t):=by
 unfold a8z;rw [a0i,if_pos rfl]
theorem b5y (lb hd:V) (t:Addr) {m:Str} (h1:¬m="body") (h2:¬m="head") (h3:¬m="label"):(a8z lb hd t).lookup m=none:=by
 unfold a8z;rw [a0i,if_neg h1,a0i,if_neg h2,a0i,if_neg h3];rfl
def a1N (H:Hp) (r C:Addr) (lb hd:V) (bs:List V):Prop:=∃dx t,H r=some (.ins C dx (a8z lb hd t))∧H t=some (.tup bs)
theorem a1N.same {H H':Hp} {r C:Addr} {lb hd:V} {bs:List V} (s:a0f H H') (h:a1N H r C lb hd bs):a1N H' r C lb hd bs:=let ⟨d,t,a,b⟩:=h;⟨d,t,s _ _ a,s _ _ b⟩
def b7J (K:Qd):Sp:=fun vs H Q _=>∃x C dx lb hd b bs,vs=[.ref x,lb,hd,.ref b]∧H x=some (.ins C dx [])∧(Cls K C∧a0M K C "label"∧a0M K C "head"∧a0M K C "body")∧(SqL K H b bs∨SqT K H b bs∧H b=some (.tup bs))∧
 ∀H',(∀c o,H c=some o→c≠x→H' c=some o)→a1N H' x C lb hd bs→Q .non H'
def b4p (K:Qd) (C:Addr):Sp:=fun vs H Q _=>∃x dx hd,vs=[.ref x,hd]∧H x=some (.ins C dx [])∧
 ∀H',(∀c o,H c=some o→c≠x→H' c=some o)→a1N H' x C (.str "") hd []→Q .non H'
def a4e (t:Adr):Nat→Addr
 | 0=>t.C_Fact
 | 1=>t.C_Sure
 | 2=>t.C_Most
 | _=>t.C_Block
def a0W (b:Bool):Sp:=fun vs H Q _=>∃x,vs=[x]∧Q (.bl b) H
theorem a4y {b:Bool} {x:V} {H:Hp} {Q:VK} {E:XK}:a0W b [x] H Q E↔Q (.bl b) H:=⟨by rintro ⟨_,e,q⟩;cases e;exact q,fun q=>⟨_,rfl,q⟩⟩
structure c5I (K:Qd) (t:Adr) (C:Addr):Prop where
 cl:Cls K C
 ty:TyI K C
 nl:a0M K C "label"
 nh:a0M K C "head"
 nb:a0M K C "body"
 kr:Xw K (.ref C) (.ref t.C_Rule)=some true
theorem a8y {K:Qd} {mg:Str→Option Value} {t:Adr} (T:Txt K mg t) {kind:Nat} (h:kind < 4):c5I K t (a4e t kind):=by
 match kind,h with
 | 0,_=>exact ⟨T.cl_Fact,T.ty_Fact,T.nf_Fact_label,T.nf_Fact_head,T.nf_Fact_body,T.ki_Fact_Rule⟩
 | 1,_=>exact ⟨T.cl_Sure,T.ty_Sure,T.nf_Sure_label,T.nf_Sure_head,T.nf_Sure_body,T.ki_Sure_Rule⟩
 | 2,_=>exact ⟨T.cl_Most,T.ty_Most,T.nf_Most_label,T.nf_Most_head,T.nf_Most_body,T.ki_Most_Rule⟩
 | 3,_=>exact ⟨T.cl_Block,T.ty_Block,T.nf_Block_label,T.nf_Block_head,T.nf_Block_body,T.ki_Block_Rule⟩
def b4w (kind:Nat) (a b c d:Sp):Sp:=match kind with
 | 0=>a
 | 1=>b
 | 2=>c
 | _=>d
theorem a9N {kind:Nat} (h:kind < 4):b4w kind (a0W true) (a0W true) (a0W false) (a0W false)=a0W (decide ((kind:Int) < 2)):=by
 match kind,h with
 | 0,_=>rfl
 | 1,_=>rfl
 | 2,_=>rfl
 | 3,_=>rfl
theorem c3A {t:Adr} {m:Str} {s0 s1 s2 s3:Sp} {ta:TE} {σ:St} {H:Hp} {Q:VK} {r:Addr} {kind:Nat} {lb hd:V} {bs:List V} (hk:kind < 4) (hta:∀R:VK,R (.ref r) H→ta σ H R) (hR:a1N H r (a4e t kind) lb hd bs)
  (hm:¬m="body"∧¬m="head"∧¬m="label") (q:b4w kind s0 s1 s2 s3 [.ref r] H Q E0):
  b8v (a2B t.C_Fact m s0 [] E0 ta a0t) (b8v (a2B t.C_Sure m s1 [] E0 ta a0t) (b8v (a2B t.C_Most m s2 [] E0 ta a0t) (a2B t.C_Block m s3 [] E0 ta a0t))) σ H Q:=by
 obtain ⟨dx,t0,h1,_⟩:=hR
 have hn:=b5y lb hd t0 hm.1 hm.2.1 hm.2.2
 match kind,hk with
 | 0,_=>exact .inl (hta _ ⟨r,dx,_,rfl,h1,hn,q⟩)
 | 1,_=>exact .inr (.inl (hta _ ⟨r,dx,_,rfl,h1,hn,q⟩))
 | 2,_=>exact .inr (.inr (.inl (hta _ ⟨r,dx,_,rfl,h1,hn,q⟩)))
 | 3,_=>exact .inr (.inr (.inr (hta _ ⟨r,dx,_,rfl,h1,hn,q⟩)))
theorem a0z {i:Nat} {σ:St} {H:Hp} {v:V} (h:σ[i]?=some (some v)):∀R:VK,R v H→a0l i σ H R:=fun R q=>⟨v,h,q⟩
def b0M (t:Adr) (H:Hp) (v:V) (r:Rw):Prop:=∃p,v=.ref p∧a1N H p (a4e t r.1) (.str r.2.1) (.str r.2.2.1) (r.2.2.2.map V.str)
theorem b0M.same {t:Adr} {H H':Hp} {v:V} {r:Rw} (s:a0f H H') (h:b0M t H v r):b0M t H' v r:=let ⟨p,a,b⟩:=h;⟨p,a,b.same s⟩
structure a1E (t:Adr) (H:Hp) (xs:List V) (rs:List Rw):Prop where
 len:xs.length=rs.length
 get:∀(i:Nat) (r:Rw),rs[i]?=some r→∃x,xs[i]?=some x∧b0M t H x r
theorem a1E.same {t:Adr} {H H':Hp} {xs:List V} {rs:List Rw} (s:a0f H H') (h:a1E t H xs rs):a1E t H' xs rs:=⟨h.len,fun i r e=>let ⟨x,a,b⟩:=h.get i r e;⟨x,a,b.same s⟩⟩
theorem a1E.at {t:Adr} {H:Hp} {xs:List V} {rs:List Rw} (h:a1E t H xs rs) {i:Nat} (hi:i < xs.length):∃(hi':i < rs.length) (p:Addr),xs[i]=.ref p∧a1N H p (a4e t rs[i].1) (.str rs[i].2.1) (.str rs[i].2.2.1) (rs[i].2.2.2.map V.str):=by
 have hi':i < rs.length:=by rw [←h.len];exact hi
 obtain ⟨x,e,p,rfl,hp⟩:=h.get i rs[i] (Qc hi')
 rw [Qc hi] at e
 exact ⟨hi',p,Option.some.inj e,hp⟩
def b4d (K:Qd) (t:Adr):Sp:=fun vs H Q _=>∃(p b:Addr) (r:Rw),vs=[.ref p]∧a1A r∧H p=some (.tup [.str (a2g r.1),.str r.2.1,.str r.2.2.1,.ref b])∧H b=some (.tup (r.2.2.2.map V.str))∧
 ∀x H',a0f H H'→a1N H' x (a4e t r.1) (.str r.2.1) (.str r.2.2.1) (r.2.2.2.map V.str)→Q (.ref x) H'
def c0h (RS:List (SR Str)) (k0:List Str) (H:Hp) (Q:VK):Prop:=∀D H',a0f H H'→H D=none→H' D=some (.dK (dv (FIN RS k0)))→Q (.ref D) H'
def b9w (K:Qd) (t:Adr):Sp:=fun vs H Q _=>∃(a:Addr) (kv:V) (xs:List V) (rs:List Rw) (kn:List Str),vs=[.ref a,kv]∧H a=some (.lst xs)∧a1E t H xs rs∧(∀r∈rs,a1A r)∧rs.length≤100∧((kv=.non∧kn=[])∨∃b,kv=.ref b∧H b=some (.lst (kn.map V.str)))∧kn.length≤100∧c0h (rs.map srW) (kn.foldl a1p []) H Q
abbrev VR:=V×Rw
def a8B (t:Adr) (H:Hp) (ws:List VR):Prop:=∀p∈ws,b0M t H p.1 p.2∧a1A p.2
theorem a8B.same {t:Adr} {H H':Hp} {ws:List VR} (s:a0f H H') (h:a8B t H ws):a8B t H' ws:=fun p hp=>⟨(h p hp).1.same s,(h p hp).2⟩
theorem a1E.zip {t:Adr} {H:Hp}:∀{xs:List V} {rs:List Rw},a1E t H xs rs→(∀r∈rs,a1A r)→∃zr:List VR,zr.map (·.1)=xs∧zr.map (·.2)=rs∧a8B t H zr
 | [],[],_,_=>⟨[],rfl,rfl,fun _ h=>by cases h⟩
 | [],_::_,h,_=>by have:=h.len;simp at this
 | _::_,[],h,_=>by have:=h.len;simp at this
 | x::xs,r::rs,h,ho=>by
  have h':a1E t H xs rs:=⟨by have:=h.len;simpa using this,fun i r e=>h.get (i+1) r e⟩
  obtain ⟨zr,e1,e2,hz⟩:=a1E.zip h' fun r hr=>ho r (Qp _ hr)
  obtain ⟨x',ex,hx⟩:=h.get 0 r rfl
  cases ex
  refine ⟨(x,r)::zr,by rw [Xl,e1],by rw [Xl,e2],fun p hp=>?_⟩
  rcases Qy.mp hp with z | z
  ·rw [z];exact ⟨hx,ho r Qs⟩
  ·exact hz p z
theorem a1Q {K:Qd} {t:Adr} {a:Addr} {js:List (Option Nat)} {tt:TT} {te:TE} {σ:St} {H:Hp} {Q:VK} (ws:List VR) (hW:H a=some (.lst (ws.map (·.1)))) (hl:ws.length≤1000) (hz:a8B t H ws) (σr:St) (hσ:a1w js σ=none::σr) (P:Rw→Bool) (g:VR→V)
  (hs:∀(x:Addr) (r:Rw) H' (R:Bool→Hp→Prop),a1A r→a1N H' x (a4e t r.1) (.str r.2.1) (.str r.2.2.1) (r.2.2.2.map V.str)→a0f H H'→(∀H'',a0f H' H''→R (P r) H'')→tt (some (.ref x)::σr) H' R)
  (he:∀(x:Addr) (r:Rw) H' (R:V→Hp→Prop),a1A r→a1N H' x (a4e t r.1) (.str r.2.1) (.str r.2.2.1) (r.2.2.2.map V.str)→a0f H H'→(∀H'',a0f H' H''→R (g (.ref x,r)) H'')→te (some (.ref x)::σr) H' R)
  (hd:∀D H',H D=none→a0f H H'→H' D=some (.lst ((ws.filter fun p=>P p.2).map g))→Q (.ref D) H'):a3W (Itl K a) js (a0m 0) tt te σ H Q:=by
 let d0:VR:=(.non,0,"","",[])
 refine a3T (a2M (xs:=ws.map (·.1))) (Qj (show (ws.map (·.1)).length≤1000 by simpa using hl) (by decide)) σr hσ (fun i=>P ((ws[i]?).getD d0).2) (fun i=>g ((ws[i]?).getD d0)) (fun H' s=>SqL.of (s _ _ hW)) (fun i H' R hi s hR=>?_) (fun i H' R hi s hR=>?_) (fun D H' hD s h=>?_)
 ·have hi':i < ws.length:=by simpa using hi
  obtain ⟨⟨x,ex,hx⟩,ho⟩:=hz _ (Xi hi')
  have e2:((ws.map (·.1))[i]?).getD .non=.ref x:=by rw [Qn,Qc hi'];exact ex
  rw [e2]
  rw [Qc hi',Xr] at hR
  exact hs x _ H' R ho (hx.same s) s hR
 ·have hi':i < ws.length:=by simpa using hi
  obtain ⟨⟨x,ex,hx⟩,ho⟩:=hz _ (Xi hi')
  have e2:((ws.map (·.1))[i]?).getD .non=.ref x:=by rw [Qn,Qc hi'];exact ex
  rw [e2]
  rw [Qc hi',Xr] at hR
  refine he x _ H' R ho (hx.same s) s ?_
  rw [show ((V.ref x,ws[i].2):VR)=ws[i] from by rw [←ex]]
  exact hR
 ·rw [show (ws.map (·.1)).length=ws.length by simp,a0T d0 (fun p:VR=>P p.2) g ws] at h
  exact hd D H' hD s h
def wat (zr:List VR) (S:List Str):List VR:=zr.filter fun p=>(srW p.2).1 && decide ((srW p.2).2.1∉S)
theorem a9z {t:Adr} {H:Hp} {zr:List VR} {S:List Str} (h:a8B t H zr):a8B t H (wat zr S):=fun p hp=>h p (Qv.mp hp).1
theorem a6F (zr:List VR) (S:List Str):(wat zr S).length≤zr.length:=Qq _ _
theorem b8x (zr:List VR) {S S':List Str} (h:∀x,x∈S→x∈S'):(wat zr S).filter (fun p=>decide ((srW p.2).2.1∉S'))=wat zr S':=by
 unfold wat
 rw [Zr]
 refine Zt fun p _=>?_
 by_cases c:(srW p.2).2.1∈S'
 ·rw [decide_eq_false (by simpa using c),Bool.and_false,Zw]
 ·rw [decide_eq_true c,decide_eq_true (show ¬(srW p.2).2.1∈S from fun z=>c (h _ z)),Bool.and_true,Zd]
theorem a7D (zr:List VR) (S:List Str):((wat zr S).filter fun p=>(srW p.2).2.2.all fun q=>decide (q∈S)).map (fun p=>V.str (srW p.2).2.1)=(frs ((zr.map (·.2)).map srW) S).map V.str:=by
 unfold wat frs
 rw [Zr,Xh,Zk,Xh,Zk,Xh]
 refine congrArg (Gh _) (Zt fun p _=>?_)
 simp only [Function.comp]
 rw [Ua]
theorem a4Z {K:Qd}:Xw K (.type "dict") (.type "dict")=some true:=rfl
def RuD (t:Adr) (D:Addr) (v:V) (r:Rw) (H:Hp):Prop:=∃p dx t0,v=.ref p∧p≠D∧t0≠D∧H p=some (.ins (a4e t r.1) dx (a8z (.str r.2.1) (.str r.2.2.1) t0))∧H t0=some (.tup (r.2.2.2.map V.str))
theorem b8u {t:Adr} {D:Addr} {H:Hp} {ys:List V} {rs:List Rw} (hl:ys.length=rs.length) (h:∀(i:Nat) v,ys[i]?=some v→∃hi:i < rs.length,RuD t D v rs[i] H):a1E t H ys rs:=by
 refine ⟨hl,fun i r e=>?_⟩
 obtain ⟨hi,e'⟩:=Qm.mp e
 have hy:i < ys.length:=by rw [hl];exact hi
 obtain ⟨_,p,dx,t0,ev,_,_,h1,h2⟩:=h i ys[i] (Qc hy)
 rw [e'] at h1 h2
 exact ⟨ys[i],Qc hy,p,ev,dx,t0,h1,h2⟩
theorem a9r (RS:List (SR Str)) (k0:List Str):((FIN RS k0).map (·.1)).Nodup:=a1c _
def a5Q (r:Rw):PyData:=.tuple [.str (a2g r.1),.str r.2.1,.str r.2.2.1,.tuple (r.2.2.2.map Zp)]
theorem b9c {n:Nat} (h:n < 4):Yd (a2g n)=true:=by
 match n,h with
 | 0,_=>decide+kernel
 | 1,_=>decide+kernel
 | 2,_=>decide+kernel
 | 3,_=>decide+kernel
theorem b5Y {r:Rw} (h:a1A r):Xj (a5Q r)=true∧Yq (a5Q r)≤2:=by
 obtain ⟨h1,_,h2,h3,h4,_⟩:=h
 obtain ⟨a,b⟩:=c0d r.2.2.2 fun q hq=>(h4 q hq).1
 unfold a5Q
 refine ⟨?_,?_⟩
 ·show Zl [.str (a2g r.1),.str r.2.1,.str r.2.2.1,.tuple (r.2.2.2.map Zp)]=true
  show (Xj (.str (a2g r.1)) && (Xj (.str r.2.1) && (Xj (.str r.2.2.1) && (Xj (.tuple (r.2.2.2.map Zp)) && true))))=true
  rw [show Xj (.tuple (r.2.2.2.map Zp))=true from a,show Xj (.str (a2g r.1))=true from b9c h1,show Xj (.str r.2.1)=true from h2.1,show Xj (.str r.2.2.1)=true from h3.1];rfl
 ·simp [Yq,Zb,b]
theorem a4X:∀{rs:List Rw},(∀r∈rs,a1A r)→Zl (rs.map a5Q)=true∧Zb (rs.map a5Q)≤2
 | [],_=>⟨rfl,Xa _⟩
 | r::rs,h=>by
  obtain ⟨a,b⟩:=a4X (rs:=rs) fun x hx=>h x (Qp _ hx)
  obtain ⟨c,d⟩:=b5Y (h r Qs)
  refine ⟨?_,?_⟩
  ·show (Xj (a5Q r) && Zl (rs.map a5Q))=true
   rw [c,a];rfl
  ·show max (Yq (a5Q r)) (Zb (rs.map a5Q))≤2
   exact Nat.max_le.mpr ⟨d,b⟩
theorem a6o {K:Qd} {H:Hp}:∀{ws:List (V×Rw)},(∀p∈ws,a4S H p.1 p.2)→DenAll K H (ws.map (·.1)) ((ws.map (·.2)).map a5Q)
 | [],_=>.nil
 | p::ws,h=>by
  obtain ⟨a,t,e,h1,h2⟩:=h p Qs
  refine .cons ?_ (a6o fun x hx=>h x (Qp _ hx))
  show Den K H p.1 (a5Q p.2)
  rw [e]
  exact .tup (SqT.of h1) (.cons (.str _) (.cons (.str _) (.cons (.str _) (.cons (.tup (SqT.of h2) (a3e _)) .nil))))
theorem a4W {K:Qd} {H:Hp} {Q:VK} {a b:Addr} {ws:List (V×Rw)} (ha:H a=some (.lst (ws.map (·.1)))) (hb:SqL K H b []) (hz:∀p∈ws,a4S H p.1 p.2∧a1A p.2) (q:Q (.bl (decide (ws=[]))) H):b5L K (.ref a) (.ref b) H Q:=by
 obtain ⟨c,d⟩:=a4X (rs:=ws.map (·.2)) fun r hr=>by obtain ⟨p,hp,rfl⟩:=Ql.mp hr;exact (hz p hp).2
 refine .inr ⟨_,_,.lst (SqL.of ha) (a6o fun p hp=>(hz p hp).1),.lst hb .nil,?_,by decide,?_⟩
 ·unfold Yi
  rw [Xn]
  refine ⟨c,?_⟩
  have:Yq (.list ((ws.map (·.2)).map a5Q))=Zb ((ws.map (·.2)).map a5Q)+1:=by first | rfl | simp [Yq,Wz]
  rw [this]
  exact decide_eq_true (by omega)
 ·have:Xp (.list ((ws.map (·.2)).map a5Q)) (.list [])=decide (ws=[]):=by
   cases ws with
   | nil=>rfl
   | cons p ws=>rfl
  rw [this];exact q
theorem a7x {K:Qd} {H:Hp} {Q:VK} {a b:Addr} {ws:List (V×Rw)} (ha:H a=some (.lst (ws.map (·.1)))) (hb:SqL K H b []) (hz:∀p∈ws,a4S H p.1 p.2∧a1A p.2) (q:Q (.bl (!decide (ws=[]))) H):b6t K (.ref a) (.ref b) H Q:=by
 obtain ⟨c,d⟩:=a4X (rs:=ws.map (·.2)) fun r hr=>by obtain ⟨p,hp,rfl⟩:=Ql.mp hr;exact (hz p hp).2
 refine .inr ⟨_,_,.lst (SqL.of ha) (a6o fun p hp=>(hz p hp).1),.lst hb .nil,?_,by decide,?_⟩
 ·unfold Yi
  rw [Xn]
  refine ⟨c,?_⟩
  have:Yq (.list ((ws.map (·.2)).map a5Q))=Zb ((ws.map (·.2)).map a5Q)+1:=by first | rfl | simp [Yq,Wz]
  rw [this]
  exact decide_eq_true (by omega)
 ·have:Xp (.list ((ws.map (·.2)).map a5Q)) (.list [])=decide (ws=[]):=by
   cases ws with
   | nil=>rfl
   | cons p ws=>rfl
  rw [this];exact q
theorem a2s.zip {H:Hp}:∀{xs:List V} {rs:List Rw},a2s H xs rs→(∀r∈rs,a1A r)→∃zr:List (V×Rw),zr.map (·.1)=xs∧zr.map (·.2)=rs∧∀p∈zr,a4S H p.1 p.2∧a1A p.2
 | [],[],_,_=>⟨[],rfl,rfl,fun _ h=>by cases h⟩
 | [],_::_,h,_=>by have:=h.len;simp at this
 | _::_,[],h,_=>by have:=h.len;simp at this
 | x::xs,r::rs,h,ho=>by
  have h':a2s H xs rs:=⟨by have:=h.len;simpa using this,fun i r e=>h.get (i+1) r e⟩
  obtain ⟨zr,e1,e2,hz⟩:=a2s.zip h' fun r hr=>ho r (Qp _ hr)
  obtain ⟨x',ex,hx⟩:=h.get 0 r rfl
  cases ex
  refine ⟨(x,r)::zr,by rw [Xl,e1],by rw [Xl,e2],fun p hp=>?_⟩
  rcases Qy.mp hp with z | z
  ·rw [z];exact ⟨hx,ho r Qs⟩
  ·exact hz p z
theorem a2C {K:Qd} {β:Type} (At:Hp→V→β→Prop) (d0:β) {a:Addr} {js:List (Option Nat)} {tt:TT} {te:TE} {σ:St} {H:Hp} {Q:VK} (ws:List (V×β)) (hW:H a=some (.lst (ws.map (·.1)))) (hl:ws.length≤1000) (hz:∀H',a0f H H'→∀p∈ws,At H' p.1 p.2) (σr:St) (hσ:a1w js σ=none::σr) (P:β→Bool) (g:V×β→V)
  (hs:∀(x:V) (b:β) H' (R:Bool→Hp→Prop),At H' x b→a0f H H'→(∀H'',a0f H' H''→R (P b) H'')→tt (some x::σr) H' R)
  (he:∀(x:V) (b:β) H' (R:V→Hp→Prop),At H' x b→a0f H H'→(∀H'',a0f H' H''→R (g (x,b)) H'')→te (some x::σr) H' R)
  (hd:∀D H',H D=none→a0f H H'→H' D=some (.lst ((ws.filter fun p=>P p.2).map g))→Q (.ref D) H'):a3W (Itl K a) js (a0m 0) tt te σ H Q:=by
 let d1:V×β:=(.non,d0)
 refine a3T (a2M (xs:=ws.map (·.1))) (Qj (show (ws.map (·.1)).length≤1000 by simpa using hl) (by decide)) σr hσ (fun i=>P ((ws[i]?).getD d1).2) (fun i=>g ((ws[i]?).getD d1)) (fun H' s=>SqL.of (s _ _ hW)) (fun i H' R hi s hR=>?_) (fun i H' R hi s hR=>?_) (fun D H' hD s h=>?_)
 ·have hi':i < ws.length:=by simpa using hi
  have e2:((ws.map (·.1))[i]?).getD .non=ws[i].1:=by rw [Qn,Qc hi'];rfl
  rw [e2]
  rw [Qc hi',Xr] at hR
  exact hs _ _ H' R (hz _ s _ (Xi hi')) s hR
 ·have hi':i < ws.length:=by simpa using hi
  have e2:((ws.map (·.1))[i]?).getD .non=ws[i].1:=by rw [Qn,Qc hi'];rfl
  rw [e2]
  rw [Qc hi',Xr] at hR
  exact he _ _ H' R (hz _ s _ (Xi hi')) s hR
 ·rw [show (ws.map (·.1)).length=ws.length by simp,a0T d1 (fun p:V×β=>P p.2) g ws] at h
  exact hd D H' hD s h
def gfl (io bh pr:Addr):List (Str×V):=a1D "pairs" (.ref pr) (a1D "by_head" (.ref bh) (a1D "in_order" (.ref io) []))
theorem b7R (io bh pr:Addr):(gfl io bh pr).lookup ("in_order":Str)=some (.ref io):=by
 unfold gfl;rw [a0i,if_neg (by decide+kernel),a0i,if_neg (by decide+kernel),a0i,if_pos rfl]
theorem b8l (io bh pr:Addr):(gfl io bh pr).lookup ("by_head":Str)=some (.ref bh):=by
 unfold gfl;rw [a0i,if_neg (by decide+kernel),a0i,if_pos rfl]
theorem a2R (io bh pr:Addr) {m:Str} (h1:¬m="pairs") (h2:¬m="by_head") (h3:¬m="in_order"):(gfl io bh pr).lookup m=none:=by
 unfold gfl;rw [a0i,if_neg h1,a0i,if_neg h2,a0i,if_neg h3];rfl
def hdF (rs:List Rw) (h:Str):List Rw:=rs.filter fun r=>decide (r.2.2.1=h)
def c0f (t:Adr) (H:Hp) (kvs:List (Key×V)) (rs:List Rw):Prop:=∀h:Str,(a0P kvs (Sum.inr h:Key)=none∧hdF rs h=[])∨∃L ys,a0P kvs (Sum.inr h:Key)=some (.ref L)∧H L=some (.lst ys)∧a1E t H ys (hdF rs h)
theorem c0f.same {t:Adr} {H H':Hp} {kvs:List (Key×V)} {rs:List Rw} (s:a0f H H') (h:c0f t H kvs rs):c0f t H' kvs rs:=fun x=>(h x).imp id fun ⟨L,ys,a,b,c⟩=>⟨L,ys,a,s _ _ b,c.same s⟩
def c0O (kvs:List (List Key×V)) (pl:List (Str×Str)):Prop:=∀a b:Str,a0P kvs [Sum.inr a,Sum.inr b]=if (a,b)∈pl then some (V.bl true) else none
def a4t (t:Adr) (H:Hp) (g:Addr) (rs:List Rw) (pl:List (Str×Str)):Prop:=∃dx io bh pr xs kvs kps,H g=some (.ins t.C_Ground dx (gfl io bh pr))∧H io=some (.tup xs)∧a1E t H xs rs∧H bh=some (.dK kvs)∧c0f t H kvs rs∧H pr=some (.dT kps)∧c0O kps pl
theorem a4t.same {t:Adr} {H H':Hp} {g:Addr} {rs:List Rw} {pl:List (Str×Str)} (s:a0f H H') (h:a4t t H g rs pl):a4t t H' g rs pl:=let ⟨dx,io,bh,pr,xs,kvs,kps,a,b,c,d,e,f,k⟩:=h;⟨dx,io,bh,pr,xs,kvs,kps,s _ _ a,s _ _ b,c.same s,s _ _ d,e.same s,s _ _ f,k⟩
theorem a1E.refs {t:Adr} {H H':Hp} {xs:List V} {rs:List Rw} (h:a1E t H xs rs) {x dx:Addr} {C:Addr} (hx:H x=some (.ins C dx [])) (k:∀c o,H c=some o→c≠x→H' c=some o):a1E t H' xs rs:=⟨h.len,fun i r e=>by
 obtain ⟨v,a,p,rfl,dx',t0,h1,h2⟩:=h.get i r e
 have hp:p≠x:=fun z=>by
  rw [z,hx] at h1
  injection h1 with h1
  injection h1 with _ _ h3
  have:=a1v (.str r.2.1) (.str r.2.2.1) t0
  rw [←h3] at this;cases this
 have ht:t0≠x:=a0B h2 hx (by intro z;cases z)
 exact ⟨_,a,p,rfl,dx',t0,k _ _ h1 hp,k _ _ h2 ht⟩⟩
theorem b3a (io bh pr:Addr):(gfl io bh pr).lookup ("pairs":Str)=some (.ref pr):=by
 unfold gfl;rw [a0i,if_pos rfl]
theorem a0K.same {H H':Hp} {xs:List V} {pl:List (Str×Str)} (s:a0f H H') (h:a0K H xs pl):a0K H' xs pl:=let ⟨as,a,b,c⟩:=h;⟨as,a,b,fun i x p e1 e2=>s _ _ (c i x p e1 e2)⟩
def b7O (t:Adr):Sp:=fun vs H Q _=>∃(x dx b pb:Addr) (xs:List V) (rs:List Rw) (ps:List V) (pl:List (Str×Str)),vs=[.ref x,.ref b,.ref pb]∧H x=some (.ins t.C_Ground dx [])∧H b=some (.lst xs)∧a1E t H xs rs∧(∀r∈rs,a1A r)∧rs.length≤63∧H pb=some (.lst ps)∧a0K H ps pl∧pl.length≤200∧
 ∀H',(∀c o,H c=some o→c≠x→H' c=some o)→a4t t H' x rs pl→Q .non H'
def a7H (t:Adr):Sp:=fun vs H Q _=>∃(g:Addr) (h:Str) (rs:List Rw) (pl:List (Str×Str)),vs=[.ref g,.str h]∧a4t t H g rs pl∧∀D ys H',a0f H H'→H D=none→H' D=some (.lst ys)→a1E t H' ys (hdF rs h)→Q (.ref D) H'
def b9M:Sp:=fun vs H Q _=>∃z:Str,vs=[.str z]∧z.length≤100∧Q (.str (a1i z)) H
def a2V (b S:List Str):Bool:=b.any fun q=>decide (q∈S)
def spk (r:Rw):Bool:=decide (r.1 < 3)
def btn (pl:List (Str×Str)) (bs:List Rw) (r:Rw):Bool:=bs.any fun b=>decide ((b.2.1,r.2.1)∈pl)
def a2A (rs:List Rw) (U:List Str) (q:Str):List Rw:=((hdF rs q).filter spk).filter fun r=>a3f r.2.2.2 U
def unf (rs:List Rw) (D:List Str) (q:Str):List Rw:=((hdF rs q).filter spk).filter fun r=>!a2V r.2.2.2 D
def a2f (rs:List Rw) (pl:List (Str×Str)) (S U D:List Str) (q:Str):Bool:=if q∈S then true else if a2A rs U q=[]∨a1i q∈S then false else (hdF rs (a1i q)).all fun r=>a2V r.2.2.2 D || btn pl (a2A rs U q) r
def a8A (rs:List Rw) (pl:List (Str×Str)) (S U D:List Str) (q:Str):Bool:=if q∈S then false else if unf rs D q=[]∨a1i q∈S then true else (hdF rs (a1i q)).any fun r=>a3f r.2.2.2 U && !btn pl (unf rs D q) r
def a1l (H:Hp) (v:V) (S:List Str):Prop:=(∃a,v=.ref a∧H a=some (.lst (S.map V.str)))∨∃a kvs,v=.ref a∧H a=some (.dK kvs)∧∀x:Str,(a0P kvs (Sum.inr x:Key)).isSome=decide (x∈S)
theorem a1l.same {H H':Hp} {v:V} {S:List Str} (s:a0f H H') (h:a1l H v S):a1l H' v S:=h.imp (fun ⟨a,e,b⟩=>⟨a,e,s _ _ b⟩) fun ⟨a,k,e,b,c⟩=>⟨a,k,e,s _ _ b,c⟩
theorem b0P {K:Qd} {tl tr:TE} {σ:St} {H:Hp} {Q:VK} {v:V} {S:List Str} {x:Str} (h:a1l H v S) (hl:∀R:VK,R (.str x) H→tl σ H R) (hr:∀R:VK,R v H→tr σ H R) (q:Q (.bl (decide (x∈S))) H):b8v (b6p tl tr) (tOp (b9l K) tl tr) σ H Q:=by
 rcases h with ⟨a,rfl,ha⟩ | ⟨a,kvs,rfl,ha,hk⟩
 ·exact .inr (hl _ (hr _ (a3c (SqL.of ha) q)))
 ·refine .inl (hl _ (hr _ ⟨a,_,rfl,a2S.k (k:=(Sum.inr x:Key)) ha,?_⟩))
  rw [hk];exact q
theorem a3p {K:Qd} {tl tr:TE} {σ:St} {H:Hp} {Q:Bool→Hp→Prop} {v:V} {S:List Str} {x:Str} (h:a1l H v S) (hl:∀R:VK,R (.str x) H→tl σ H R) (hr:∀R:VK,R v H→tr σ H R) (q:Q (decide (x∈S)) H):b8V (tB (b6p tl tr)) (a0R (tOp (b9l K) tl tr)) σ H Q:=by
 rcases h with ⟨a,rfl,ha⟩ | ⟨a,kvs,rfl,ha,hk⟩
 ·exact .inr (hl _ (hr _ (a3c (SqL.of ha) ⟨_,rfl,q⟩)))
 ·refine .inl (hl _ (hr _ ⟨a,_,rfl,a2S.k (k:=(Sum.inr x:Key)) ha,_,rfl,?_⟩))
  rw [hk];exact q
def a7b:Sp:=fun vs H Q _=>∃(t:Addr) (v:V) (bd S:List Str),vs=[.ref t,v]∧H t=some (.tup (bd.map V.str))∧bd.length≤1000∧a1l H v S∧∀H',a0f H H'→Q (.bl (a3f bd S)) H'
def b7s:Sp:=fun vs H Q _=>∃(t:Addr) (v:V) (bd S:List Str),vs=[.ref t,v]∧H t=some (.tup (bd.map V.str))∧bd.length≤1000∧a1l H v S∧∀H',a0f H H'→Q (.bl (a2V bd S)) H'
def b4P (t:Adr):Sp:=fun vs H Q _=>∃(g x y:Addr) (rs:List Rw) (pl:List (Str×Str)) (r1 r2:Rw),vs=[.ref g,.ref x,.ref y]∧a4t t H g rs pl∧b0M t H (.ref x) r1∧b0M t H (.ref y) r2∧a1A r1∧a1A r2∧∀H',a0f H H'→Q (.bl (decide ((r1.2.1,r2.2.1)∈pl))) H'
def b2R (t:Adr):Sp:=fun vs H Q _=>∃(g x L:Addr) (rs:List Rw) (pl:List (Str×Str)) (r:Rw) (zr:List VR),vs=[.ref g,.ref x,.ref L]∧a4t t H g rs pl∧b0M t H (.ref x) r∧a1A r∧H L=some (.lst (zr.map (·.1)))∧a8B t H zr∧zr.length≤63∧∀H',a0f H H'→Q (.bl (btn pl (zr.map (·.2)) r)) H'
def a8e (t:Adr):Sp:=fun vs H Q _=>∃(g:Addr) (h:Str) (rs:List Rw) (pl:List (Str×Str)),vs=[.ref g,.str h]∧a4t t H g rs pl∧(∀r∈rs,a1A r)∧rs.length≤63∧∀D (zr:List VR) H',a0f H H'→H D=none→H' D=some (.lst (zr.map (·.1)))→a8B t H' zr→zr.map (·.2)=(hdF rs h).filter spk→Q (.ref D) H'
def a9l (t:Adr):Sp:=fun vs H Q _=>∃(g:Addr) (h:Str) (rs:List Rw) (pl:List (Str×Str)),vs=[.ref g,.str h]∧a4t t H g rs pl∧(∀r∈rs,a1A r)∧h.length≤100∧∀D (zr:List VR) H',a0f H H'→H D=none→H' D=some (.lst (zr.map (·.1)))→a8B t H' zr→zr.map (·.2)=hdF rs (a1i h)→Q (.ref D) H'
def b0h (t:Adr) (f:List Rw→List (Str×Str)→List Str→List Str→List Str→Str→Bool):Sp:=fun vs H Q _=>∃(g:Addr) (v1 v2 v3:V) (q:Str) (rs:List Rw) (pl:List (Str×Str)) (S U D:List Str),vs=[.ref g,v1,v2,v3,.str q]∧a4t t H g rs pl∧(∀r∈rs,a1A r)∧rs.length≤63∧a1l H v1 S∧a1l H v2 U∧a1l H v3 D∧q.length≤100∧∀H',a0f H H'→Q (.bl (f rs pl S U D q)) H'
theorem a6w {kind:Nat} (h:kind < 4):b4w kind (a0W true) (a0W true) (a0W true) (a0W false)=a0W (decide (kind < 3)):=by
 match kind,h with
 | 0,_=>rfl
 | 1,_=>rfl
 | 2,_=>rfl
 | 3,_=>rfl
theorem a8F:bootBuiltins "max"=some (.builtin "max"):=by decide+kernel
def b6u (H:Hp) (d:Addr) (rs:List Rw):Prop:=∃kvs,H d=some (.dK kvs)∧∀h:Str,(a0P kvs (Sum.inr h:Key)=none∧hdF rs h=[])∨∃L ys,a0P kvs (Sum.inr h:Key)=some (.ref L)∧H L=some (.lst ys)∧a2s H ys (hdF rs h)
theorem b6u.same {H H':Hp} {d:Addr} {rs:List Rw} (s:a0f H H') (h:b6u H d rs):b6u H' d rs:=let ⟨k,a,b⟩:=h;⟨k,s _ _ a,fun x=>(b x).imp id fun ⟨L,ys,c,d,e⟩=>⟨L,ys,c,s _ _ d,e.same s⟩⟩
def c4V:Sp:=fun vs H Q _=>∃(a:Addr) (xs:List V) (rs:List Rw),vs=[.ref a]∧H a=some (.lst xs)∧a2s H xs rs∧rs.length≤63∧∀D H',a0f H H'→H D=none→b6u H' D rs→Q (.ref D) H'
abbrev RR:=V×Rw
def a9Y (H:Hp) (ws:List RR):Prop:=∀p∈ws,a4S H p.1 p.2∧a1A p.2
theorem a9Y.same {H H':Hp} {ws:List RR} (s:a0f H H') (h:a9Y H ws):a9Y H' ws:=fun p hp=>⟨(h p hp).1.same s,(h p hp).2⟩
def DAt (H:Hp) (a:Addr) (S:List Str):Prop:=∃kvs,H a=some (.dK kvs)∧∀x:Str,(a0P kvs (Sum.inr x:Key)).isSome=decide (x∈S)
theorem DAt.same {H H':Hp} {a:Addr} {S:List Str} (s:a0f H H') (h:DAt H a S):DAt H' a S:=let ⟨k,b,c⟩:=h;⟨k,s _ _ b,c⟩
theorem DAt.some {H:Hp} {a:Addr} {S:List Str} (h:DAt H a S):a1l H (.ref a) S:=let ⟨k,b,c⟩:=h;.inr ⟨a,k,rfl,b,c⟩
theorem DAt.get {H:Hp} {a:Addr} {S:List Str} (h:DAt H a S) (x:Str):∃o,a2S H a (.str x) o∧o.isSome=decide (x∈S):=let ⟨k,b,c⟩:=h;⟨_,a2S.k (k:=(Sum.inr x:Key)) b,c x⟩
def b2m:Sp:=fun vs H Q _=>∃(v:V) (a:Addr) (r:Rw) (U:List Str),vs=[v,.ref a]∧a4S H v r∧a1A r∧DAt H a U∧∀H',a0f H H'→Q (.bl (a3f r.2.2.2 U)) H'
def b4J:Sp:=fun vs H Q _=>∃(v:V) (a:Addr) (r:Rw) (U:List Str),vs=[v,.ref a]∧a4S H v r∧a1A r∧DAt H a U∧∀H',a0f H H'→Q (.bl (a2V r.2.2.2 U)) H'
def b3B (pl:List (Str×Str)):Prop:=∀p∈pl,Yd p.1=true∧Yd p.2=true
def a8Q:Sp:=fun vs H Q _=>∃(P G:Addr) (v:V) (ps:List V) (pl:List (Str×Str)) (r:Rw) (zs:List RR),vs=[.ref P,v,.ref G]∧H P=some (.lst ps)∧a0K H ps pl∧b3B pl∧a4S H v r∧a1A r∧H G=some (.lst (zs.map (·.1)))∧a9Y H zs∧zs.length≤63∧∀H',a0f H H'→Q (.bl (btn pl (zs.map (·.2)) r)) H'
def a6D (f:List Rw→List (Str×Str)→List Str→List Str→List Str→Str→Bool):Sp:=fun vs H Q _=>∃(B P a1 a2 a3:Addr) (q:Str) (rs:List Rw) (ps:List V) (pl:List (Str×Str)) (S U D:List Str),vs=[.ref B,.ref P,.ref a1,.ref a2,.ref a3,.str q]∧b6u H B rs∧(∀r∈rs,a1A r)∧rs.length≤63∧H P=some (.lst ps)∧a0K H ps pl∧b3B pl∧H a1=some (.lst (S.map V.str))∧DAt H a2 U∧DAt H a3 D∧q.length≤100∧∀H',a0f H H'→Q (.bl (f rs pl S U D q)) H'
def iv (S:List Str):List (Key×V):=S.map fun x=>(Sum.inr x,V.int 0)
def b3y (H:Hp) (Q:VK):Prop:=∀(D:Addr) (ps:List V) (pl:List (Str×Str)) H',a0f H H'→H D=none→H' D=some (.lst ps)→a0K H' ps pl→pl.length≤200→b3B pl→Q (.ref D) H'
def b5d:Sp:=fun vs H Q _=>∃(c m:Int),vs=[.int c,.int m]∧(0≤m∧m≤30)∧b3y H Q
def b2p (K:Qd):Sp:=fun vs H Q _=>∃(a:Addr) (ns:List Int),vs=[.ref a]∧SqL K H a (ns.map V.int)∧ns.length≤63∧b3y H Q
theorem a5a {H:Hp} {xs:List V} {pl:List (Str×Str)} {a:Addr} {p:Str×Str} (h:a0K H xs pl) (ha:H a=some (.tup [.str p.1,.str p.2])):a0K H (xs++[.ref a]) (pl++[p]):=by
 obtain ⟨as,rfl,hl,hat⟩:=h
 refine ⟨as++[a],by rw [Xc];rfl,by simp [hl],fun i b q e1 e2=>?_⟩
 by_cases hi:i < as.length
 ·rw [Xx hi] at e1
  rw [Xx (by omega)] at e2
  exact hat i b q e1 e2
 ·have hi2:=(Qm.mp e1).1
  have ei:i=as.length:=by simp at hi2;omega
  subst ei
  rw [Xv (Qi _),Uh] at e1
  rw [Xv (by omega),hl,Uh] at e2
  cases e1;cases e2;exact ha
theorem a4L {H H':Hp} {xs:List V} {pl:List (Str×Str)} {D:Addr} (h:a0K H xs pl) (hD:∃ys,H D=some (.lst ys)) (up:∀b o,b≠D→H b=some o→H' b=some o):a0K H' xs pl:=by
 obtain ⟨as,e,hl,hat⟩:=h
 obtain ⟨ys,hD⟩:=hD
 refine ⟨as,e,hl,fun i b q e1 e2=>?_⟩
 have:=hat i b q e1 e2
 exact up _ _ (a0B this hD (by intro z;cases z)) this
theorem a6Y {H:Hp} {B N:Addr} {rs:List Rw} (h:b6u H B rs) (hN:H N=some (.lst [])) (hO:∀r∈rs,a1A r) (q:Str):IsD H B∧∃o,a2S H B (.str q) o∧∃(L:Addr) (zr:List RR),o.getD (.ref N)=.ref L∧H L=some (.lst (zr.map (·.1)))∧a9Y H zr∧zr.map (·.2)=hdF rs q:=by
 obtain ⟨kvs,hk,hh⟩:=h
 refine ⟨a2v hk,_,a2S.k (k:=(Sum.inr q:Key)) hk,?_⟩
 rcases hh q with ⟨e,g⟩ | ⟨L,ys,e,g2,g3⟩
 ·rw [e];exact ⟨N,[],rfl,hN,(fun _ h=>by cases h),g.symm⟩
 ·rw [e]
  obtain ⟨zr,ez1,ez2,hz⟩:=g3.zip (fun r hr=>hO r (Qv.mp hr).1)
  subst ez1
  exact ⟨L,zr,rfl,g2,hz,ez2⟩
theorem a7t {r:Rw} (h:r.1 < 4) (c:¬a2g r.1="block"):spk r=true:=by
 unfold spk
 obtain ⟨n,x⟩:=r
 match n,h with
 | 0,_=>rfl
 | 1,_=>rfl
 | 2,_=>rfl
 | 3,_=>exact absurd rfl c
theorem a6W {r:Rw} (h:r.1 < 4) (c:¬¬a2g r.1="block"):spk r=false:=by
 unfold spk
 obtain ⟨n,x⟩:=r
 match n,h with
 | 0,_=>exact absurd (show ¬a2g 0="block" by decide+kernel) c
 | 1,_=>exact absurd (show ¬a2g 1="block" by decide+kernel) c
 | 2,_=>exact absurd (show ¬a2g 2="block" by decide+kernel) c
 | 3,_=>rfl
theorem b2G {β:Type} {P R:β→Bool} {l:List β}:decide ((l.filter fun p=>!P p).filter (fun p=>!R p)=[])=l.all fun p=>P p || R p:=by
 rw [Xu,decide_eq_true_eq,Zr,Zq,Zx]
 refine forall_congr' fun p=>forall_congr' fun _=>?_
 cases P p<;>cases R p<;>simp
theorem b2n {β:Type} {P R:β→Bool} {l:List β}:(!decide ((l.filter fun p=>P p).filter (fun p=>!R p)=[]))=l.any fun p=>P p && !R p:=by
 rw [Xu,Yu,decide_eq_false_iff_not,Zr,Zq,Ze]
 constructor
 ·intro h
  cases Classical.em (∃x∈l,(P x && !R x)=true) with
  | inl z=>exact z
  | inr z=>exact absurd (fun p hp hh=>z ⟨p,hp,by rw [Ua];exact hh⟩) h
 ·rintro ⟨x,hx,e⟩ h
  exact h x hx (by rw [Ua];exact e)
theorem a6E:∀(pl:List Str) (bs:List Bool),∃S:List Str,(((pl.map V.str).zip bs).filterMap fun p=>if p.2=true then some p.1 else none)=S.map V.str∧S.Sublist pl
 | [],bs=>⟨[],by simp,Vr _⟩
 | x::pl,[]=>⟨[],by simp,Vr _⟩
 | x::pl,b::bs=>by
  obtain ⟨S,e,h⟩:=a6E pl bs
  cases b with
  | true=>exact ⟨x::S,by rw [Xl,Ga,Yn];simp only [if_true];rw [e];rfl,h.cons₂ x⟩
  | false=>exact ⟨S,by rw [Xl,Ga,Yn];simp only [Zg,if_false];rw [e],h.cons x⟩
def b7z (H:Hp) (v:V) (S:List Str):Prop:=(∃a,v=.ref a∧H a=some (.lst (S.map V.str)))∨∃a,v=.ref a∧H a=some (.dK (iv S))
theorem b3X (S:List Str) (x:Str):(a0P (iv S) (Sum.inr x:Key)).isSome=decide (x∈S):=by
 induction S with
 | nil=>rfl
 | cons y S ih=>
  rw [show iv (y::S)=(Sum.inr y,V.int 0)::iv S from rfl]
  by_cases e:y=x
  ·rw [a0A (by rw [e]),decide_eq_true (by rw [e];exact Qs)];rfl
  ·rw [a0w (fun z=>e (Sum.inr.inj z)),ih,Xu,decide_eq_true_eq,decide_eq_true_eq,Qy]
   exact ⟨.inr,fun z=>z.elim (fun w=>absurd w.symm e) id⟩
theorem b7z.some {H:Hp} {v:V} {S:List Str} (h:b7z H v S):a1l H v S:=h.imp id fun ⟨a,e,b⟩=>⟨a,_,e,b,b3X S⟩
def a9w (t:Adr):Sp:=fun vs H Q _=>∃(g:Addr) (rs:List Rw) (pl:List (Str×Str)),vs=[.ref g]∧a4t t H g rs pl∧∀D xs H',a0f H H'→H D=none→H' D=some (.lst xs)→a1E t H' xs rs→Q (.ref D) H'
theorem a7e {rs:List (SR Str)}:∀n x,x∈sS rs [] n→∃b,(true,x,b)∈rs
 | 0,x,h=>by cases h
 | n+1,x,h=>by
  rcases a3P.mp h with z | z
  ·exact a7e n x z
  ·obtain ⟨_,b,hr,_⟩:=a2Z.mp z
   exact ⟨b,hr⟩
theorem b7q {rs:List Rw} (hO:∀r∈rs,a1A r):∀p∈FIN (rs.map srW) [],OkS p.1:=fun p hp=>by
 obtain ⟨b,hb⟩:=a7e _ p.1 ((b5N p.1).mp (Ql.mpr ⟨p,hp,rfl⟩))
 obtain ⟨r,hr,e⟩:=Ql.mp hb
 have e2:r.2.2.1=p.1:=congrArg (fun z:SR Str=>z.2.1) e
 rw [←e2];exact (hO r hr).2.2.2.1
theorem a9o (rs:List Rw):(FIN (rs.map srW) []).length≤rs.length:=by
 have:=b3w (rs:=rs.map srW) (kn:=[]) (by simp) (rs.map srW).length
 show (sR (rs.map srW) [] (rs.map srW).length).length≤rs.length
 simpa using this
theorem b5h (F:List (Str×Nat)):(dv F).map (·.1)=(F.map (·.1)).map Sum.inr:=by unfold dv;rw [Xh,Xh];rfl
def gF (RS:List (SR Str)) (x:Str):Int:=(((lk (FIN RS []) x).getD 0:Nat):Int)
def b4U (RS:List (SR Str)) (l:List Str):Prop:=l.Perm ((FIN RS []).map (·.1))∧l.Pairwise (fun x y=>ltG (gF RS) x y=true)
theorem b3Z {rs:List Rw} {l:List Str} (h:b4U (rs.map srW) l):l.length≤rs.length:=by
 have:=h.1.length_eq
 rw [Qe] at this
 rw [this];exact a9o rs
theorem b7S {rs:List Rw} {l:List Str} (hO:∀r∈rs,a1A r) (h:b4U (rs.map srW) l):∀z∈l,OkS z:=fun z hz=>by
 obtain ⟨p,hp,rfl⟩:=Ql.mp (h.1.mem_iff.mp hz)
 exact b7q hO p hp
def b2b (T:Addr) (H:Hp):Hp:=fun a=>if a=T then none else H a
theorem a0Z {T x:Addr} {H:Hp} {o:HO} {ps:Array Value} (hT:H T=some (.tbl ps)) (h:H x=some o) (n:∀ps,o≠.tbl ps):b2b T H x=some o:=by
 unfold b2b
 rw [if_neg (fun z=>by rw [z,hT] at h;cases h;exact n _ rfl)]
 exact h
theorem a6P {T:Addr} {H H':Hp} (k:∀a o,a≠T→H a=some o→H' a=some o):a0f (b2b T H) H':=fun a o e=>by
 unfold b2b at e
 by_cases z:a=T
 ·rw [if_pos z] at e;cases e
 ·rw [if_neg z] at e;exact k a o z e
section
variable {T:Addr} {H:Hp} {pt:Array Value} (hT:H T=some (.tbl pt))
include hT
theorem b5A {K:Qd} {a:Addr} {xs:List V} (h:SqL K H a xs):SqL K (b2b T H) a xs:=by
 rcases h with (h | ⟨o,h⟩) | h
 ·exact .inl (.inl (a0Z hT h (fun _ z=>nomatch z)))
 ·exact .inl (.inr ⟨o,a0Z hT h (fun _ z=>nomatch z)⟩)
 ·exact .inr h
theorem b8m {xs:List V} {rs:List Rw} (h:a2s H xs rs):a2s (b2b T H) xs rs:=⟨h.len,fun i r e=>let ⟨x,a,p,t,b,c,d⟩:=h.get i r e;⟨x,a,p,t,b,a0Z hT c (fun _ z=>nomatch z),a0Z hT d (fun _ z=>nomatch z)⟩⟩
theorem b3d {t:Adr} {xs:List V} {rs:List Rw} (h:a1E t H xs rs):a1E t (b2b T H) xs rs:=⟨h.len,fun i r e=>let ⟨x,a,p,b,d,t0,c,f⟩:=h.get i r e;⟨x,a,p,b,d,t0,a0Z hT c (fun _ z=>nomatch z),a0Z hT f (fun _ z=>nomatch z)⟩⟩
theorem b4T {xs:List V} {pl:List (Str×Str)} (h:a0K H xs pl):a0K (b2b T H) xs pl:=let ⟨as,a,b,c⟩:=h;⟨as,a,b,fun i x p e1 e2=>a0Z hT (c i x p e1 e2) (fun _ z=>nomatch z)⟩
theorem b8r {t:Adr} {g:Addr} {rs:List Rw} {pl:List (Str×Str)} (h:a4t t H g rs pl):a4t t (b2b T H) g rs pl:=by
 obtain ⟨dx,io,bh,pr,xs,kvs,kps,a,b,c,d,e,f,k⟩:=h
 refine ⟨dx,io,bh,pr,xs,kvs,kps,a0Z hT a (fun _ z=>nomatch z),a0Z hT b (fun _ z=>nomatch z),b3d hT c,a0Z hT d (fun _ z=>nomatch z),fun h=>?_,a0Z hT f (fun _ z=>nomatch z),k⟩
 rcases e h with z | ⟨L,ys,z1,z2,z3⟩
 ·exact .inl z
 ·exact .inr ⟨L,ys,z1,a0Z hT z2 (fun _ z=>nomatch z),b3d hT z3⟩
end
theorem a9n {T:Addr} {q:Str} {H H':Hp} {x:Addr} {o:HO} (lt:a6t T q H) (k:∀a o,a≠T→H a=some o→H' a=some o) (h:H x=some o) (n:∀ps,o≠.tbl ps):H' x=some o:=by
 obtain ⟨pt,hT,_⟩:=lt
 exact a6P k _ _ (a0Z hT h n)
def b5I (t:Adr):Sp:=fun vs H Q _=>∃(g:Addr) (rs:List Rw) (pl:List (Str×Str)),vs=[.ref g]∧a4t t H g rs pl∧(∀r∈rs,a1A r)∧rs.length≤63∧a6t t.TB_z0l a2N H∧
 ∀l ss H',a6t t.TB_z0l a2N H'→(∀a o,a≠t.TB_z0l→H a=some o→H' a=some o)→H l=none→H' l=some (.lst (ss.map V.str))→b4U (rs.map srW) ss→Q (.ref l) H'
theorem b5W {t:Adr} {H:Hp} {R:Addr→Hp→Prop} {E:XK} {L Pr:Addr} {zs ps:List V} {rs:List Rw} {pl:List (Str×Str)} (hL:H L=some (.lst zs)) (hU:a1E t H zs rs) (hO:∀r∈rs,a1A r) (hl:rs.length≤63) (hP:H Pr=some (.lst ps)) (hQ:a0K H ps pl) (hp:pl.length≤200)
  (q:∀g H',a0f H H'→H g=none→a4t t H' g rs pl→R g H'):∀x dx,H x=none→H dx=none→dx≠x→b7O t [.ref x,.ref L,.ref Pr] (upd (upd H dx (.own x)) x (.ins t.C_Ground dx [])) (fun v H2=>v=.non∧R x H2) E:=by
 intro g dx ng ndx ne
 obtain ⟨H4,e4,s4,h4⟩:∃H4,upd (upd H dx (.own g)) g (.ins t.C_Ground dx [])=H4∧a0f H H4∧H4 g=some (.ins t.C_Ground dx []):=⟨_,rfl,fun c o e=>by rw [a0a (a0c e ng),a0a (a0c e ndx)];exact e,a0d⟩
 rw [e4]
 exact ⟨g,dx,L,Pr,zs,rs,ps,pl,rfl,h4,s4 _ _ hL,hU.same s4,hO,hl,s4 _ _ hP,a0K.same s4 hQ,hp,fun H5 k5 hG5=>⟨rfl,q g H5 (fun c o e=>k5 c o (s4 _ _ e) (a0c e ng)) ng hG5⟩⟩
/-! ### rounds -/
def stt (rs:List Rw) (pl:List (Str×Str)) (S U D:List Str) (q:Str):Option Bool:=if a2f rs pl S U D q=true then some true else if a8A rs pl S U D q=true then some false else none
def tch (rs:List Rw) (came:List Str) (q:Str):Prop:=∃r∈rs,(∃p∈r.2.2.2,p∈came)∧(q=r.2.2.1∨q=a1i r.2.2.1)
def Ext (U came U':List Str):Prop:=∀x,x∉came→(x∈U'↔x∈U)
theorem a7h {b U U' came:List Str} (h:Ext U came U') (hb:∀p∈b,p∉came):a3f b U'=a3f b U:=by
 unfold a3f
 rw [Xu,Zx,Zx]
 exact ⟨fun z p hp=>decide_eq_true ((h p (hb p hp)).mp (of_decide_eq_true (z p hp))),fun z p hp=>decide_eq_true ((h p (hb p hp)).mpr (of_decide_eq_true (z p hp)))⟩
theorem a7f {b U U' came:List Str} (h:Ext U came U') (hb:∀p∈b,p∉came):a2V b U'=a2V b U:=by
 unfold a2V
 rw [Xu,Ze,Ze]
 exact ⟨fun ⟨p,hp,z⟩=>⟨p,hp,decide_eq_true ((h p (hb p hp)).mp (of_decide_eq_true z))⟩,fun ⟨p,hp,z⟩=>⟨p,hp,decide_eq_true ((h p (hb p hp)).mpr (of_decide_eq_true z))⟩⟩
theorem b1o {rs:List Rw} {pl:List (Str×Str)} {S U U' D D' came:List Str} {q:Str} (hU:Ext U came U') (hD:Ext D came D') (ho:a1i (a1i q)=q) (hn:¬tch rs came q):stt rs pl S U' D' q=stt rs pl S U D q:=by
 have h1:∀r∈hdF rs q,∀p∈r.2.2.2,p∉came:=fun r hr p hp hc=>by
  have:=Qv.mp hr
  exact hn ⟨r,this.1,⟨p,hp,hc⟩,.inl (of_decide_eq_true this.2).symm⟩
 have h2:∀r∈hdF rs (a1i q),∀p∈r.2.2.2,p∉came:=fun r hr p hp hc=>by
  have:=Qv.mp hr
  exact hn ⟨r,this.1,⟨p,hp,hc⟩,.inr (by rw [of_decide_eq_true this.2,ho])⟩
 have e1:a2A rs U' q=a2A rs U q:=by
  unfold a2A
  exact Zt fun r hr=>a7h hU (h1 r (Qv.mp hr).1)
 have e2:unf rs D' q=unf rs D q:=by
  unfold unf
  exact Zt fun r hr=>by rw [a7f hD (h1 r (Qv.mp hr).1)]
 have all_congr:∀(l:List Rw) (f g:Rw→Bool),(∀r∈l,f r=g r)→l.all f=l.all g:=fun l f g h=>by
  induction l with
  | nil=>rfl
  | cons a l ih=>rw [Uz,Uz,h a Qs,ih fun r hr=>h r (Qp _ hr)]
 have any_congr:∀(l:List Rw) (f g:Rw→Bool),(∀r∈l,f r=g r)→l.any f=l.any g:=fun l f g h=>by
  induction l with
  | nil=>rfl
  | cons a l ih=>rw [Jb,Jb,h a Qs,ih fun r hr=>h r (Qp _ hr)]
 have e3:a2f rs pl S U' D' q=a2f rs pl S U D q:=by
  unfold a2f
  rw [e1,all_congr _ _ (fun r=>a2V r.2.2.2 D || btn pl (a2A rs U q) r) fun r hr=>by rw [a7f hD (h2 r hr)]]
 have e4:a8A rs pl S U' D' q=a8A rs pl S U D q:=by
  unfold a8A
  rw [e2,any_congr _ _ (fun r=>a3f r.2.2.2 U && !btn pl (unf rs D q) r) fun r hr=>by rw [a7h hU (h2 r hr)]]
 unfold stt
 rw [e3,e4]
structure RdS where
 T:List (Str×Bool×Nat)
 U:List Str
 D:List Str
def fresh (rs:List Rw) (pl:List (Str×Str)) (S some:List Str) (s:RdS):List (Str×Bool):=some.filterMap fun q=>if q∈s.T.map (·.1) then none else (stt rs pl S s.U s.D q).map fun w=>(q,w)
def ups (F:List (Str×Bool)):List Str:=(F.filter (·.2)).map (·.1)
def a0X (F:List (Str×Bool)):List Str:=(F.filter fun p=>!p.2).map (·.1)
def next (n:Nat) (s:RdS) (F:List (Str×Bool)):RdS:=⟨s.T++F.map fun p=>(p.1,p.2,n),s.U++ups F,s.D++a0X F⟩
def rds (rs:List Rw) (pl:List (Str×Str)) (S some U D:List Str):Nat→RdS
 | 0=>⟨[],U,D⟩
 | n+1=>next (n+1) (rds rs pl S some U D n) (fresh rs pl S some (rds rs pl S some U D n))
theorem a0U {rs:List Rw} {pl:List (Str×Str)} {S some:List Str} {s:RdS} {q:Str} {w:Bool}:(q,w)∈fresh rs pl S some s↔q∈some∧q∉s.T.map (·.1)∧stt rs pl S s.U s.D q=Option.some w:=by
 unfold fresh
 rw [Ju]
 constructor
 ·rintro ⟨x,hx,e⟩
  split at e
  ·cases e
  ·rename_i hn
   obtain ⟨y,hy,e⟩:=Jd.mp e
   cases e
   exact ⟨hx,hn,hy⟩
 ·rintro ⟨h1,h2,h3⟩
  exact ⟨q,h1,by rw [if_neg h2,h3];rfl⟩
theorem a3J {F:List (Str×Bool)} {q:Str}:q∈ups F↔(q,true)∈F:=by
 unfold ups
 rw [Ql]
 constructor
 ·rintro ⟨⟨x,b⟩,h,rfl⟩
  have:=Qv.mp h
  have hb:b=true:=this.2
  subst hb;exact this.1
 ·exact fun h=>⟨_,Qv.mpr ⟨h,rfl⟩,rfl⟩
theorem a2l {F:List (Str×Bool)} {q:Str}:q∈a0X F↔(q,false)∈F:=by
 unfold a0X
 rw [Ql]
 constructor
 ·rintro ⟨⟨x,b⟩,h,rfl⟩
  have:=Qv.mp h
  have hb:b=false:=by simpa using this.2
  subst hb;exact this.1
 ·exact fun h=>⟨_,Qv.mpr ⟨h,rfl⟩,rfl⟩
theorem b0p {rs:List Rw} {pl:List (Str×Str)} {S some U D:List Str} (n:Nat) {q:Str} {w:Bool} (ho:∀q∈some,a1i (a1i q)=q) (h:(q,w)∈fresh rs pl S some (rds rs pl S some U D (n+1))):tch rs ((fresh rs pl S some (rds rs pl S some U D n)).map (·.1)) q:=by
 obtain ⟨h1,h2,h3⟩:=a0U.mp h
 refine Classical.byContradiction fun hn=>?_
 have hT:q∉(rds rs pl S some U D n).T.map (·.1)∧∀w,(q,w)∉fresh rs pl S some (rds rs pl S some U D n):=by
  constructor
  ·intro z
   exact h2 (by show q∈((rds rs pl S some U D n).T++_).map _;rw [Xc];exact Yy _ z)
  ·intro w' z
   refine h2 ?_
   show q∈((rds rs pl S some U D n).T++_).map _
   rw [Xc]
   exact Qz _ (Ql.mpr ⟨_,Ql.mpr ⟨_,z,rfl⟩,rfl⟩)
 have hE:∀(F:List (Str×Bool)) (A B:List Str),(∀x∈B,x∈F.map (·.1))→Ext A (F.map (·.1)) (A++B):=fun F A B hB x hx=>by
  rw [Xe]
  exact ⟨fun z=>z.resolve_right fun y=>hx (hB x y),.inl⟩
 have e:=b1o (pl:=pl) (S:=S) (U:=(rds rs pl S some U D n).U) (D:=(rds rs pl S some U D n).D) (U':=(rds rs pl S some U D (n+1)).U) (D':=(rds rs pl S some U D (n+1)).D) (q:=q)
  (hE _ _ _ fun x hx=>Ql.mpr ⟨_,a3J.mp hx,rfl⟩) (hE _ _ _ fun x hx=>Ql.mpr ⟨_,a2l.mp hx,rfl⟩) (ho q h1) hn
 rw [h3] at e
 exact hT.2 w (a0U.mpr ⟨h1,hT.1,e.symm⟩)
theorem a3G {rs:List Rw} {pl:List (Str×Str)} {S some U D:List Str} {n:Nat} (h:fresh rs pl S some (rds rs pl S some U D n)=[]):∀k,rds rs pl S some U D (n+k)=rds rs pl S some U D n
 | 0=>rfl
 | k+1=>by
  have ih:=a3G h k
  show next _ (rds rs pl S some U D (n+k)) (fresh rs pl S some (rds rs pl S some U D (n+k)))=_
  rw [ih,h]
  unfold next ups a0X
  simp
def b5Q (TB:Addr) (K:Qd):Sp:=fun vs H Q _=>∃(a:Addr) (ns:List Int),vs=[.ref a]∧SqL K H a (ns.map V.int)∧ns.length≤63∧a6t TB a2N H∧∀H',Q (.bl true) H'
theorem b2O {TB:Addr} {K:Qd} {H:Hp} {a:Addr} {ns:List Int} (hl:ns.length≤63) (hO:b1Y TB H) (hS:SqL K H a (ns.map V.int)):b5Q TB K [.ref a] H (fun v _=>v=.bl true) fun _ _ _=>False:=⟨a,ns,rfl,hS,hl,a6t.start hO.1,fun _=>rfl⟩
/-! ### walks of lists and dicts -/
structure a2c (H:Hp) (v:V) (H0:Hp):Prop where
 keep:∀b o,H b=some o→v≠.ref b→H0 b=some o
 non:∀b,H0 b=none→H b=none
 new:∀b,H b=none→H0 b=none
theorem a2c.refl (H:Hp) (v:V):a2c H v H:=⟨fun _ _ e _=>e,fun _ e=>e,fun _ e=>e⟩
theorem a2c.frz {H:Hp} {a:Addr} {o:HO} {x:HO} (h:H a=some o):a2c H (.ref a) (upd H a x):=⟨fun b o e n=>by rw [a0a (fun z=>n (by rw [z]))];exact e,fun b e=>by
 by_cases z:b=a
 ·rw [z,a0d] at e;cases e
 ·rw [a0a z] at e;exact e,fun b e=>by rw [a0a (fun z=>by rw [z,h] at e;cases e)];exact e⟩
def a5e (H:Hp) (D:Addr) (H':Hp):Prop:=∀b o,H b=some o→b≠D→H' b=some o
theorem a5e.refl (H:Hp) (D:Addr):a5e H D H:=fun _ _ e _=>e
theorem a8K {te:TE} {g:TG} {tb:TS} {E:a6d} {σ:St} {H:Hp} {a:Addr} {kvs:List (Key×V)} {kn:List Str} (Pv:Hp→Nat→St→Hp→Prop) (hH:H a=some (.dK kvs)) (hk:kvs.map (·.1)=kn.map (Sum.inr:Str→Key)) (hte:∀R:VK,R (.ref a) H→te σ H R)
  (h0:∀o,Pv (upd H a (.frz o (.dK kvs))) 0 σ (upd H a (.frz o (.dK kvs))))
  (hp:∀o i σ' H',Pv (upd H a (.frz o (.dK kvs))) i σ' H'→H' a=some (.frz o (.dK kvs)))
  (hs:∀o i (hi:i < kn.length) σ' H' rt bk,Pv (upd H a (.frz o (.dK kvs))) i σ' H'→g (.str kn[i]) σ' H' fun σ2 H2=>tb ⟨Pv (upd H a (.frz o (.dK kvs))) (i+1),rt,bk,Pv (upd H a (.frz o (.dK kvs))) (i+1)⟩ σ2 H2)
  (hd:∀o σ' H',Pv (upd H a (.frz o (.dK kvs))) kn.length σ' H'→E.nx σ' (upd H' a (.dK kvs))):a9g (b6d (a9V te) g tb) E σ H:=by
 have hlen:kvs.length=kn.length:=by have:=congrArg Yl hk;simpa using this
 refine ⟨a,kvs,hH,?_⟩
 rw [a0E]
 refine hte _ ⟨a,kvs,rfl,hH,fun o=>?_⟩
 refine ⟨fun i m σ' H'=>m=kn.length - i∧i≤kn.length∧Pv (upd H a (.frz o (.dK kvs))) i σ' H',⟨_,rfl,Xa _,h0 o⟩,?_⟩
 rintro i m σ' H' ⟨rfl,hi,p⟩
 have hf:=hp o i σ' H' p
 by_cases hlt:i < kn.length
 ·refine .inr ⟨⟨hf,by omega⟩,Pv (upd H a (.frz o (.dK kvs))) (i+1),fun σ2 H2 p2=>⟨kn.length - (i+1),by omega,rfl,hlt,p2⟩,?_⟩
  rintro x H2 ⟨rfl,k,v,e,rfl⟩
  have ek:k=Sum.inr kn[i]:=by
   have e1:(kvs.map (·.1))[i]?=some k:=by rw [Qn,e];rfl
   rw [hk,Qn,Qc hlt] at e1
   exact (Option.some.inj e1).symm
  rw [ek]
  exact hs o i hlt σ' _ _ _ p
 ·have ei:i=kn.length:=by omega
  subst ei
  exact .inl ⟨⟨hf,by omega⟩,o,hf,hd o σ' H' p⟩
theorem a4g {K:Qd} {te:TE} {g:TG} {tb:TS} {E:a6d} {σ:St} {H:Hp} {v:V} {kn:List Str} (Pv:Hp→Nat→St→Hp→Prop) (h:a2X K H v kn) (hte:∀R:VK,R v H→te σ H R)
  (h0:∀H0,a2c H v H0→Pv H0 0 σ H0) (hk:∀H0 i σ' H' b o,Pv H0 i σ' H'→v=.ref b→H0 b=some o→H' b=some o)
  (hs:∀H0 i (hi:i < kn.length) σ' H' rt bk,a2c H v H0→Pv H0 i σ' H'→g (.str kn[i]) σ' H' fun σ2 H2=>tb ⟨Pv H0 (i+1),rt,bk,Pv H0 (i+1)⟩ σ2 H2)
  (hd:∀H0 σ' H' H'',a2c H v H0→Pv H0 kn.length σ' H'→(∀b o,H' b=some o→v≠.ref b→H'' b=some o)→(∀b o,v=.ref b→H b=some o→H'' b=some o)→E.nx σ' H''):c3b (a9g (b6d (a9V te) g tb)) (b6d (a1y K te) g tb) E σ H:=by
 rcases h with ⟨a,rfl,ha⟩ | ⟨a,kvs,rfl,ha,hkn⟩
 ·refine .inr ?_
  rw [a0E]
  refine hte _ ⟨a,rfl,⟨_,SqL.of ha⟩,?_⟩
  have hP:∀i σ' H',i≤(kn.map V.str).length→Pv H i σ' H'→SqL K H' a (kn.map V.str):=fun i σ' H' _ p=>by
   exact SqL.of (hk H i σ' H' a _ p rfl ha)
  refine a1x (K:=K) (a:=a) (xs:=kn.map V.str) (Pv H) (h0 H (a2c.refl _ _)) hP (fun i x σ' H' hi p=>?_) (fun σ' H' p=>?_)
  ·have hil:i < kn.length:=by simpa using (Qm.mp hi).1
   have ex:x=V.str kn[i]:=by
    rw [Qn,Qc hil] at hi
    exact (Option.some.inj hi).symm
   subst ex
   exact hs H i hil σ' H' _ _ (a2c.refl _ _) p
  ·rw [Qe] at p
   exact hd H σ' H' H' (a2c.refl _ _) p (fun _ _ e _=>e) fun b o z e=>hk H _ σ' H' b o p z e
 ·refine .inl (a8K Pv ha hkn hte (fun o=>h0 _ (a2c.frz ha)) (fun o i σ' H' p=>hk _ i σ' H' a _ p rfl a0d) (fun o i hi σ' H' rt bk p=>hs _ i hi σ' H' rt bk (a2c.frz ha) p) (fun o σ' H' p=>hd _ σ' H' _ (a2c.frz ha) p (fun b o e n=>?_) fun b o z e=>?_))
  ·rw [a0a (fun z=>n (by rw [z]))];exact e
  ·cases z;rw [a0d,←ha];exact e
theorem a2O {te:TE} {js:List (Option Nat)} {tt:TT} {σ:St} {H:Hp} {Q:VK} {a:Addr} {kvs:List (Key×V)} {kn:List Str} (hH:H a=some (.dK kvs)) (hk:kvs.map (·.1)=kn.map (Sum.inr:Str→Key)) (hl:kn.length≤1000) (hte:∀R:VK,R (.ref a) H→te σ H R) (σr:St) (hσ:a1w js σ=none::σr) (P:Str→Bool)
  (hs:∀q H0 H' (R:Bool→Hp→Prop),q∈kn→a2c H (.ref a) H0→Rd H' a (.dK kvs)→a0f H0 H'→(∀H'',a0f H' H''→R (P q) H'')→tt (some (.str q)::σr) H' R)
  (hd:∀D H',H D=none→a0f H H'→H' D=some (.lst ((kn.filter P).map V.str))→Q (.ref D) H'):b8o (b1M js (a9V te) (a0m 0) tt (a0l 0)) σ H Q:=by
 have hlen:kvs.length=kn.length:=by have:=congrArg Yl hk;simpa using this
 refine ⟨a,kvs,hH,?_⟩
 rw [a0p]
 refine hte _ ⟨a,kvs,rfl,hH,fun o=>?_⟩
 have hO:a2c H (.ref a) (upd H a (.frz o (.dK kvs))):=a2c.frz hH
 have hf:upd H a (.frz o (.dK kvs)) a=some (.frz o (.dK kvs)):=a0d
 generalize upd H a (.frz o (.dK kvs))=H0 at hO hf
 have ef:∀i,i < kvs.length→∃hi:i < kn.length,((kvs[i]?.map fun p=>kV p.1).getD .non)=.str kn[i]:=fun i hi=>by
  have hi':i < kn.length:=by omega
  refine ⟨hi',?_⟩
  have e1:(kvs.map (·.1))[i]?=some (Sum.inr kn[i]):=by rw [hk,Qn,Qc hi'];rfl
  rw [Qn] at e1
  rw [Qc hi] at e1 ⊢
  have e2:=Option.some.inj e1
  show kV kvs[i].1=_
  rw [show kvs[i].1=Sum.inr kn[i] from e2];rfl
 refine a3T (a7q (o:=o) (a:=a) (kvs:=kvs)) (Qj (show kvs.length≤1000 by omega) (by decide)) σr hσ (fun i=>P ((kn[i]?).getD "")) (fun i=>V.str ((kn[i]?).getD "")) (fun H' s=>s _ _ hf) (fun i H' R hi s hR=>?_) (fun i H' R hi s hR=>?_) (fun D H' hD s h=>?_)
 ·obtain ⟨hi',e⟩:=ef i hi
  rw [e]
  rw [Qc hi',Xr] at hR
  exact hs _ H0 H' R (Xi hi') hO (.inr ⟨o,s _ _ hf⟩) s hR
 ·obtain ⟨hi',e⟩:=ef i hi
  rw [e]
  rw [Qc hi',Xr] at hR
  exact ⟨_,rfl,hR _ (a0f.refl _)⟩
 ·rw [hlen,a0T ("":Str) P V.str kn] at h
  refine ⟨o,s _ _ hf,hd D _ (hO.non _ hD) (fun b u e=>?_) ?_⟩
  ·by_cases z:b=a
   ·rw [z,a0d,←hH,←z];exact e
   ·rw [a0a z];exact s _ _ (hO.keep _ _ e fun w=>z (by cases w;rfl))
  ·rw [a0a (fun z=>by rw [z,hf] at hD;cases hD)];exact h
theorem c4t {H:Hp} {a:Addr} {S:List Str} (h:H a=some (.dK (bv S))):a1l H (.ref a) S:=.inr ⟨a,_,rfl,h,fun x=>by
 rw [a2D]
 by_cases z:x∈S
 ·rw [if_pos z,decide_eq_true z];rfl
 ·rw [if_neg z,decide_eq_false z];rfl⟩
theorem a8Z (S:List Str):(bv S).map (·.1)=S.map (Sum.inr:Str→Key):=by
 unfold bv;rw [Xh];rfl
theorem a9p {js:List (Option Nat)} {tt:TT} {Q':VK} {σ:St} {H H1:Hp} {a:Addr} {kvs:List (Key×V)} {kn:List Str} (hH:H1 a=some (.dK kvs)) (hk:kvs.map (·.1)=kn.map (Sum.inr:Str→Key)) (hl:kn.length≤1000) (hs1:a0f H H1) (σr:St) (hσ:a1w js σ=none::σr) (P:Str→Bool)
  (hs:∀q H0 H' (R:Bool→Hp→Prop),q∈kn→a2c H1 (.ref a) H0→a0f H0 H'→(∀H'',a0f H' H''→R (P q) H'')→tt (some (.str q)::σr) H' R)
  (hd:∀D H',H1 D=none→a0f H1 H'→H' D=some (.lst ((kn.filter P).map V.str))→Q' (.ref D) H'):∃(a':Addr) (kvs':List (Key×V)),V.ref a=.ref a'∧H1 a'=some (.dK kvs')∧∀o,a3W (Itk o a' kvs') js (a0m 0) tt (a0l 0) σ (upd H1 a' (.frz o (.dK kvs'))) fun v H'=>a5H H (Q' v) H':=by
 have hlen:kvs.length=kn.length:=by have:=congrArg Yl hk;simpa using this
 refine ⟨a,kvs,rfl,hH,fun o=>?_⟩
 have hO:a2c H1 (.ref a) (upd H1 a (.frz o (.dK kvs))):=a2c.frz hH
 have hf:upd H1 a (.frz o (.dK kvs)) a=some (.frz o (.dK kvs)):=a0d
 generalize upd H1 a (.frz o (.dK kvs))=H0 at hO hf
 have ef:∀i,i < kvs.length→∃hi:i < kn.length,((kvs[i]?.map fun p=>kV p.1).getD .non)=.str kn[i]:=fun i hi=>by
  have hi':i < kn.length:=by omega
  refine ⟨hi',?_⟩
  have e1:(kvs.map (·.1))[i]?=some (Sum.inr kn[i]):=by rw [hk,Qn,Qc hi'];rfl
  rw [Qn] at e1
  rw [Qc hi] at e1 ⊢
  have e2:=Option.some.inj e1
  show kV kvs[i].1=_
  rw [show kvs[i].1=Sum.inr kn[i] from e2];rfl
 refine a3T (a7q (o:=o) (a:=a) (kvs:=kvs)) (Qj (show kvs.length≤1000 by omega) (by decide)) σr hσ (fun i=>P ((kn[i]?).getD "")) (fun i=>V.str ((kn[i]?).getD "")) (fun H' s=>s _ _ hf) (fun i H' R hi s hR=>?_) (fun i H' R hi s hR=>?_) (fun D H' hD s h=>?_)
 ·obtain ⟨hi',e⟩:=ef i hi
  rw [e]
  rw [Qc hi',Xr] at hR
  exact hs _ H0 H' R (Xi hi') hO s hR
 ·obtain ⟨hi',e⟩:=ef i hi
  rw [e]
  rw [Qc hi',Xr] at hR
  exact ⟨_,rfl,hR _ (a0f.refl _)⟩
 ·rw [hlen,a0T ("":Str) P V.str kn] at h
  refine ⟨a,o,kvs,fun ob u z=>?_,s _ _ hf,hd D _ (hO.non _ hD) (fun b u e=>?_) ?_⟩
  ·have:=hs1 _ _ z;rw [hH] at this;cases this
  ·by_cases z:b=a
   ·rw [z,a0d,←hH,←z];exact e
   ·rw [a0a z];exact s _ _ (hO.keep _ _ e fun w=>z (by cases w;rfl))
  ·rw [a0a (fun z=>by rw [z,hf] at hD;cases hD)];exact h
/-! ### the words of a round -/
def wd:Bool→Str
 | true=>"held"
 | false=>"refused"
def wv (F:List (Str×Bool)):List (Key×V):=F.map fun p=>(Sum.inr p.1,V.str (wd p.2))
theorem a2Y (F:List (Str×Bool)):(wv F).map (·.1)=(F.map (·.1)).map (Sum.inr:Str→Key):=by
 unfold wv;rw [Xh,Xh];rfl
theorem a6O {F:List (Str×Bool)} (hn:(F.map (·.1)).Nodup) {q:Str} {b:Bool} (h:(q,b)∈F):a0P (wv F) (Sum.inr q:Key)=some (.str (wd b)):=by
 induction F with
 | nil=>cases h
 | cons p F ih=>
  rw [Xl,Zj] at hn
  rcases Qy.mp h with z | z
  ·subst z;exact a0A rfl
  ·rw [show wv (p::F)=(Sum.inr p.1,V.str (wd p.2))::wv F from rfl,a0w (fun w=>hn.1 (by rw [Sum.inr.inj w];exact Ql.mpr ⟨_,z,rfl⟩)),ih hn.2 z]
theorem b5s {F:List (Str×Bool)} {q:Str} (h:q∉F.map (·.1)):a0P (wv F) (Sum.inr q:Key)=none:=by
 induction F with
 | nil=>rfl
 | cons p F ih=>
  rw [Xl,Qy] at h
  rw [show wv (p::F)=(Sum.inr p.1,V.str (wd p.2))::wv F from rfl,a0w (fun w=>h (.inl (Sum.inr.inj w).symm)),ih fun z=>h (.inr z)]
theorem c3q {H:Hp} {D:Addr} {F:List (Str×Bool)} (h:H D=some (.dK (wv F))) (hl:F.length≤100000) {x:Str} (hx:x∉F.map (·.1)) (b:Bool):a4k H D (.str x) (V.str (wd b)) (upd H D (.dK (wv (F++[(x,b)])))):=by
 have:=a4k.k (k:=(Sum.inr x:Key)) (v:=V.str (wd b)) h (by unfold wv;rw [Qe];exact Xk hl (by decide))
 rw [a3s _ (b5s hx)] at this
 rw [show wv (F++[(x,b)])=wv F++[(Sum.inr x,V.str (wd b))] from by unfold wv;rw [Xc];rfl]
 exact this
def wds (rs:List Rw) (pl:List (Str×Str)) (S U D ask:List Str):List (Str×Bool):=ask.filterMap fun q=>(stt rs pl S U D q).map fun w=>(q,w)
theorem a6L {rs:List Rw} {pl:List (Str×Str)} {S U D ask:List Str} {q:Str} {w:Bool}:(q,w)∈wds rs pl S U D ask↔q∈ask∧stt rs pl S U D q=some w:=by
 unfold wds
 rw [Ju]
 constructor
 ·rintro ⟨x,hx,e⟩
  obtain ⟨y,hy,e⟩:=Jd.mp e
  cases e
  exact ⟨hx,hy⟩
 ·rintro ⟨h1,h2⟩
  exact ⟨q,h1,by rw [h2];rfl⟩
theorem b2A {rs:List Rw} {pl:List (Str×Str)} {S U D ask:List Str} {q:Str} (h:q∈(wds rs pl S U D ask).map (·.1)):q∈ask:=by
 obtain ⟨⟨x,w⟩,hx,rfl⟩:=Ql.mp h
 exact (a6L.mp hx).1
theorem a4R (rs:List Rw) (pl:List (Str×Str)) (S U D:List Str):∀ask:List Str,((wds rs pl S U D ask).map (·.1)).Sublist ask
 | []=>Gb.refl _
 | q::ask=>by
  have ih:=a4R rs pl S U D ask
  unfold wds at ih ⊢
  rw [Yn]
  cases stt rs pl S U D q with
  | none=>exact ih.cons q
  | some w=>exact ih.cons₂ q
theorem b1H (rs:List Rw) (pl:List (Str×Str)) (S U D ask:List Str) (q:Str):wds rs pl S U D (ask++[q])=wds rs pl S U D ask++((stt rs pl S U D q).map fun w=>(q,w)).toList:=by
 unfold wds
 rw [Uf,Yn]
 cases stt rs pl S U D q<;>rfl
def Off (H:Hp) (v:V) (H':Hp):Prop:=∀b o,H b=some o→v≠.ref b→H' b=some o
theorem Off.same {H H1 H':Hp} {a:Addr} (h:Off H1 (.ref a) H') (s:a0f H H1) (n:H a=none):a0f H H':=fun b o e=>h b o (s _ _ e) fun z=>by cases z;rw [n] at e;cases e
def b6g (K:Qd) (t:Adr):Sp:=fun vs H Q _=>∃(g:Addr) (v1 v2 v3 va:V) (rs:List Rw) (pl:List (Str×Str)) (S U D ask:List Str),vs=[.ref g,v1,v2,v3,va]∧(∀H',Off H va H'→a4t t H' g rs pl∧a1l H' v1 S∧a1l H' v2 U∧a1l H' v3 D)∧(∀r∈rs,a1A r)∧rs.length≤63∧a2X K H va ask∧ask.Nodup∧ask.length≤1000∧(∀q∈ask,q.length≤100)∧∀W H',a0f H H'→H W=none→H' W=some (.dK (wv (wds rs pl S U D ask)))→Q (.ref W) H'
/-! ### premises and heads -/
def a3U (H:Hp) (d:Addr) (rs:List Rw):Prop:=∃kvs,H d=some (.dK kvs)∧∀p:Str,(a0P kvs (Sum.inr p:Key)=none∧∀r∈rs,p∉r.2.2.2)∨∃(L:Addr) (hs:List Str),a0P kvs (Sum.inr p:Key)=some (.ref L)∧H L=some (.lst (hs.map V.str))∧hs.length≤300∧∀h:Str,h∈hs↔∃r∈rs,p∈r.2.2.2∧r.2.2.1=h
theorem a3U.same {H H':Hp} {d:Addr} {rs:List Rw} (s:a0f H H') (h:a3U H d rs):a3U H' d rs:=let ⟨k,a,b⟩:=h;⟨k,s _ _ a,fun p=>(b p).imp id fun ⟨L,hs,c,d,e⟩=>⟨L,hs,c,s _ _ d,e⟩⟩
def b4Y (t:Adr):Sp:=fun vs H Q _=>∃(g:Addr) (rs:List Rw) (pl:List (Str×Str)),vs=[.ref g]∧a4t t H g rs pl∧(∀r∈rs,a1A r)∧rs.length≤63∧∀D H',a0f H H'→H D=none→a3U H' D rs→Q (.ref D) H'
def a9s:Sp:=fun vs H Q _=>∃(hd cm:Addr) (rs:List Rw) (F:List (Str×Bool)),vs=[.ref hd,.ref cm]∧(∀H',Off H (.ref cm) H'→a3U H' hd rs)∧H cm=some (.dK (wv F))∧F.length≤100∧(∀r∈rs,a1A r)∧rs.length≤63∧
 ∀D kn H',a0f H H'→H D=none→H' D=some (.dK (bv kn))→kn.Nodup→kn.length≤1000→(∀x,x∈kn↔tch rs (F.map (·.1)) x)→Q (.ref D) H'
def a8q (L:List (Str×Str)) (p:Str):List Str:=(L.filter fun x=>decide (x.1=p)).map (·.2)
theorem b2t (L:List (Str×Str)) (p:Str):(a8q L p).length≤L.length:=by
 unfold a8q;rw [Qe];exact Qq _ _
theorem a5x (L:List (Str×Str)) (p h x:Str):a8q (L++[(p,h)]) x=a8q L x++if p=x then [h] else []:=by
 unfold a8q
 rw [Zh,Xc,Ym]
 by_cases e:p=x
 ·rw [if_pos e,if_pos (decide_eq_true e)];rfl
 ·rw [if_neg e,if_neg (by simpa using e)];rfl
structure a8t (H H':Hp) (D:Addr) (kvs:List (Key×V)) (L:List (Str×Str)):Prop where
 d:H' D=some (.dK kvs)
 len:kvs.length≤L.length
 at_:∀p:Str,(a0P kvs (Sum.inr p:Key)=none∧a8q L p=[])∨∃N,a0P kvs (Sum.inr p:Key)=some (.ref N)∧H N=none∧H' N=some (.lst ((a8q L p).map V.str))
 inj:∀(p p':Str) (N:Addr),a0P kvs (Sum.inr p:Key)=some (.ref N)→a0P kvs (Sum.inr p':Key)=some (.ref N)→p=p'
theorem a8t.same {H H' H'':Hp} {D:Addr} {kvs:List (Key×V)} {L:List (Str×Str)} (s:a0f H' H'') (h:a8t H H' D kvs L):a8t H H'' D kvs L:=⟨s _ _ h.d,h.len,fun p=>(h.at_ p).imp id fun ⟨N,a,b,c⟩=>⟨N,a,b,s _ _ c⟩,h.inj⟩
theorem a8t.old {H H':Hp} {D N:Addr} {kvs:List (Key×V)} {L:List (Str×Str)} {p h:Str} (I:a8t H H' D kvs L) (e:a0P kvs (Sum.inr p:Key)=some (.ref N)):H' N=some (.lst ((a8q L p).map V.str))∧H N=none∧a8t H (upd H' N (.lst ((a8q L p).map V.str++[V.str h]))) D kvs (L++[(p,h)]):=by
 rcases I.at_ p with ⟨z,_⟩ | ⟨N',e',n',hN⟩
 ·rw [z] at e;cases e
 rw [e] at e';cases e'
 refine ⟨hN,n',⟨by rw [a0a (a0B hN I.d (by intro z;cases z)).symm];exact I.d,by have:=I.len;simp;omega,fun x=>?_,I.inj⟩⟩
 rw [a5x]
 by_cases z:p=x
 ·subst z
  rw [if_pos rfl]
  exact .inr ⟨N,e,n',by rw [a0d,Xc];rfl⟩
 ·rw [if_neg z,Qh]
  rcases I.at_ x with w | ⟨M,a,b,c⟩
  ·exact .inl w
  ·exact .inr ⟨M,a,b,by rw [a0a (fun w=>z (I.inj p x N e (by rw [←w];exact a)))];exact c⟩
theorem a8t.new {H H':Hp} {D N:Addr} {kvs:List (Key×V)} {L:List (Str×Str)} {p h:Str} (I:a8t H H' D kvs L) (e:a0P kvs (Sum.inr p:Key)=none) (hN:H' N=none) (n:H N=none) (o:HO):a8t H (upd (upd (upd H' N o) D (.dK (a2k kvs (Sum.inr p) (.ref N)))) N (.lst ([]++[V.str h]))) D (a2k kvs (Sum.inr p) (.ref N)) (L++[(p,h)]):=by
 have hDN:D≠N:=fun z=>by rw [←z,I.d] at hN;cases hN
 have hk:=a0N kvs (Sum.inr p:Key) (V.ref N)
 refine ⟨by rw [a0a hDN,a0d],by have:=I.len;simp;omega,fun x=>?_,fun x y M a b=>?_⟩
 ·rw [a5x,a1B]
  by_cases z:p=x
  ·subst z
   rw [if_pos rfl,if_pos rfl]
   rcases I.at_ p with ⟨_,w⟩ | ⟨M,a,_⟩
   ·rw [w];exact .inr ⟨N,rfl,n,a0d⟩
   ·rw [e] at a;cases a
  ·rw [if_neg (fun w=>z (Sum.inr.inj w).symm),if_neg z,Qh]
   rcases I.at_ x with w | ⟨M,a,b,c⟩
   ·exact .inl w
   ·have hMN:M≠N:=fun w=>by rw [w,hN] at c;cases c
    exact .inr ⟨M,a,b,by rw [a0a hMN,a0a (a0B c I.d (by intro z;cases z)),a0a hMN];exact c⟩
 ·have nope:∀y:Str,a0P kvs (Sum.inr y:Key)≠some (.ref N):=fun y w=>by
   rcases I.at_ y with ⟨c,_⟩ | ⟨M',c,_,d⟩
   ·rw [c] at w;cases w
   ·rw [c] at w;cases w;rw [hN] at d;cases d
  rw [a1B] at a b
  by_cases z1:(Sum.inr x:Key)=Sum.inr p
  ·by_cases z2:(Sum.inr y:Key)=Sum.inr p
   ·rw [Sum.inr.inj z1,Sum.inr.inj z2]
   ·rw [if_pos z1] at a;cases a
    rw [if_neg z2] at b;exact absurd b (nope y)
  ·rw [if_neg z1] at a
   by_cases z2:(Sum.inr y:Key)=Sum.inr p
   ·rw [if_pos z2] at b;cases b;exact absurd a (nope x)
   ·rw [if_neg z2] at b;exact I.inj x y M a b
def phs (rs:List Rw):List (Str×Str):=rs.flatMap fun r=>r.2.2.2.map fun p=>(p,r.2.2.1)
theorem a6M:∀{rs:List Rw},(∀r∈rs,a1A r)→(phs rs).length≤4 * rs.length
 | [],_=>Qi _
 | r::rs,h=>by
  have h1:=a6M (rs:=rs) fun x hx=>h x (Qp _ hx)
  have h2:=(h r Qs).2.2.2.2.2
  unfold phs at h1 ⊢
  rw [List.flatMap_cons,Xq,Qe,Qo]
  omega
theorem a8t.hds {H H':Hp} {D:Addr} {kvs:List (Key×V)} {rs:List Rw} (I:a8t H H' D kvs (phs rs)) (hO:∀r∈rs,a1A r) (hl:rs.length≤63):a3U H' D rs:=by
 have hm:∀p h,h∈a8q (phs rs) p↔∃r∈rs,p∈r.2.2.2∧r.2.2.1=h:=fun p h=>by
  unfold a8q phs
  rw [Ql]
  constructor
  ·rintro ⟨⟨x,y⟩,hx,rfl⟩
   obtain ⟨h1,h2⟩:=Qv.mp hx
   obtain ⟨r,hr,h3⟩:=Vs.mp h1
   obtain ⟨p',hp,e⟩:=Ql.mp h3
   cases e
   have:x=p:=of_decide_eq_true h2
   exact ⟨r,hr,this ▸ hp,rfl⟩
  ·rintro ⟨r,hr,hp,rfl⟩
   exact ⟨(p,r.2.2.1),Qv.mpr ⟨Vs.mpr ⟨r,hr,Ql.mpr ⟨p,hp,rfl⟩⟩,decide_eq_true rfl⟩,rfl⟩
 refine ⟨kvs,I.d,fun p=>?_⟩
 rcases I.at_ p with ⟨a,b⟩ | ⟨N,a,_,c⟩
 ·refine .inl ⟨a,fun r hr hp=>?_⟩
  have:=(hm p r.2.2.1).mpr ⟨r,hr,hp,rfl⟩
  rw [b] at this;cases this
 ·refine .inr ⟨N,_,a,c,?_,hm p⟩
  have h1:(a8q (phs rs) p).length≤(phs rs).length:=by
   unfold a8q;rw [Qe];exact Qq _ _
  have:=a6M hO
  omega
theorem b0i:∀rs:List Rw,(rs.flatMap fun r=>[r.2.2.1,a1i r.2.2.1]).length=2 * rs.length
 | []=>rfl
 | r::rs=>by rw [List.flatMap_cons,Xq,b0i rs];simp;omega
/-! ### the rounds told -/
abbrev Tr:=Str×Bool×Nat
def TAt (H:Hp) (D:Addr) (T:List Tr):Prop:=∃A:List (Addr×Tr),A.map (·.2)=T∧H D=some (.dK (A.map fun e=>(Sum.inr e.2.1,.ref e.1)))∧∀e∈A,H e.1=some (.tup [.str (wd e.2.2.1),.int e.2.2.2])
theorem TAt.same {H H':Hp} {D:Addr} {T:List Tr} (s:a0f H H') (h:TAt H D T):TAt H' D T:=let ⟨A,a,b,c⟩:=h;⟨A,a,s _ _ b,fun e he=>s _ _ (c e he)⟩
theorem b4N {A:List (Addr×Tr)} {q:Str} (h:q∉A.map fun e=>e.2.1):a0P (A.map fun e=>((Sum.inr e.2.1:Key),V.ref e.1)) (Sum.inr q:Key)=none:=by
 induction A with
 | nil=>rfl
 | cons p A ih=>
  rw [Xl,Qy] at h
  rw [Xl,a0w (fun w=>h (.inl (Sum.inr.inj w).symm)),ih fun z=>h (.inr z)]
theorem b3W {A:List (Addr×Tr)} (hn:(A.map fun e=>e.2.1).Nodup) {e:Addr×Tr} (h:e∈A):a0P (A.map fun e=>((Sum.inr e.2.1:Key),V.ref e.1)) (Sum.inr e.2.1:Key)=some (.ref e.1):=by
 induction A with
 | nil=>cases h
 | cons p A ih=>
  rw [Xl,Zj] at hn
  rcases Qy.mp h with z | z
  ·subst z;exact a0A rfl
  ·rw [Xl,a0w (fun w=>hn.1 (by rw [Sum.inr.inj w];exact Ql.mpr ⟨_,z,rfl⟩)),ih hn.2 z]
theorem TAt.keys {H:Hp} {D:Addr} {T:List Tr} (h:TAt H D T):∃kvs,H D=some (.dK kvs)∧kvs.map (·.1)=(T.map (·.1)).map (Sum.inr:Str→Key)∧∀x:Str,(a0P kvs (Sum.inr x:Key)).isSome=decide (x∈T.map (·.1)):=by
 obtain ⟨A,rfl,hD,_⟩:=h
 refine ⟨_,hD,by rw [Xh,Xh,Xh];rfl,fun x=>?_⟩
 rw [←a1L,Xu,Ze,decide_eq_true_eq,Xh]
 constructor
 ·rintro ⟨p,hp,e⟩
  obtain ⟨y,hy,rfl⟩:=Ql.mp hp
  exact Ql.mpr ⟨y,hy,Sum.inr.inj (of_decide_eq_true e)⟩
 ·intro h
  obtain ⟨y,hy,e⟩:=Ql.mp h
  exact ⟨_,Ql.mpr ⟨y,hy,rfl⟩,decide_eq_true (by rw [←e];rfl)⟩
theorem TAt.put {H H1:Hp} {D p:Addr} {T:List Tr} {q:Str} {b:Bool} {n:Nat} (h:TAt H D T) (s:a0f H H1) (hp:H1 p=some (.tup [.str (wd b),.int n])) (hq:q∉T.map (·.1)) (hl:T.length≤100000):∃kvs',a4k H1 D (.str q) (.ref p) (upd H1 D (.dK kvs'))∧TAt (upd H1 D (.dK kvs')) D (T++[(q,b,n)]):=by
 obtain ⟨A,rfl,hD,hA⟩:=h
 have hq':q∉A.map fun e=>e.2.1:=by rw [Xh] at hq;exact hq
 have hD1:=s _ _ hD
 refine ⟨(A.map fun e=>((Sum.inr e.2.1:Key),V.ref e.1))++[(Sum.inr q,V.ref p)],?_,A++[(p,q,b,n)],by rw [Xc];rfl,by rw [a0d,Xc];rfl,fun e he=>?_⟩
 ·have:=a4k.k (k:=(Sum.inr q:Key)) (v:=V.ref p) hD1 (by rw [Qe];rw [Qe] at hl;exact Xk hl (by decide))
  rw [a3s _ (b4N hq')] at this
  exact this
 ·rcases Xe.mp he with z | z
  ·rw [a0a (a0B (s _ _ (hA e z)) hD1 (by intro z;cases z))];exact s _ _ (hA e z)
  ·rw [Xm.mp z,a0a (a0B hp hD1 (by intro z;cases z))];exact hp
theorem a8n {H:Hp} {a:Addr} {S S':List Str} (h:H a=some (.dK (bv S'))) (hs:∀x,x∈S'↔x∈S):DAt H a S:=⟨_,h,fun x=>by
 rw [a2D]
 by_cases z:x∈S
 ·rw [if_pos ((hs x).mpr z),decide_eq_true z];rfl
 ·rw [if_neg (fun w=>z ((hs x).mp w)),decide_eq_false z];rfl⟩
theorem a4r (k:Key):∀(more kvs:List (Key×V)),(a0P (a1F kvs more) k).isSome=((a0P kvs k).isSome || (a0P more k).isSome)
 | [],kvs=>by rw [show a1F kvs []=kvs from rfl,show a0P ([]:List (Key×V)) k=none from rfl];simp
 | p::r,kvs=>by
  rw [show a1F kvs (p::r)=a1F (a2k kvs p.1 p.2) r from rfl,a4r k r,a1B]
  by_cases e:k=p.1
  ·rw [if_pos e,show p::r=(p.1,p.2)::r from rfl,a0A e.symm];simp
  ·rw [if_neg e,show p::r=(p.1,p.2)::r from rfl,a0w (fun z=>e z.symm)]
/-! ### the rounds by what is in them -/
section
variable {rs:List Rw} {pl:List (Str×Str)} {S W U D:List Str}
def IsF (rs:List Rw) (pl:List (Str×Str)) (S W U D:List Str) (n:Nat) (F:List (Str×Bool)):Prop:=∀e,e∈F↔e∈fresh rs pl S W (rds rs pl S W U D n)
def IsT (rs:List Rw) (pl:List (Str×Str)) (S W U D:List Str) (n:Nat) (T:List Tr):Prop:=∀e,e∈T↔e∈(rds rs pl S W U D n).T
theorem a2i {α β:Type} {l m:List (α×β)} (h:∀e,e∈l↔e∈m) (x:α):x∈l.map (·.1)↔x∈m.map (·.1):=by
 constructor
 ·intro z;obtain ⟨e,he,rfl⟩:=Ql.mp z;exact Ql.mpr ⟨e,(h e).mp he,rfl⟩
 ·intro z;obtain ⟨e,he,rfl⟩:=Ql.mp z;exact Ql.mpr ⟨e,(h e).mpr he,rfl⟩
theorem a7k {n:Nat} {T:List Tr} {F:List (Str×Bool)} (hT:IsT rs pl S W U D n T) (hF:IsF rs pl S W U D n F):IsT rs pl S W U D (n+1) (T++F.map fun p=>(p.1,p.2,n+1)):=fun e=>by
 show e∈_↔e∈(rds rs pl S W U D n).T++(fresh rs pl S W (rds rs pl S W U D n)).map fun p=>(p.1,p.2,n+1)
 rw [Xe,Xe,hT e]
 refine or_congr Iff.rfl ?_
 constructor
 ·intro z;obtain ⟨p,hp,rfl⟩:=Ql.mp z;exact Ql.mpr ⟨p,(hF p).mp hp,rfl⟩
 ·intro z;obtain ⟨p,hp,rfl⟩:=Ql.mp z;exact Ql.mpr ⟨p,(hF p).mpr hp,rfl⟩
theorem b2J {n:Nat} {F:List (Str×Bool)} (hF:IsF rs pl S W U D n F) (x:Str):x∈(rds rs pl S W U D (n+1)).U↔x∈(rds rs pl S W U D n).U∨(x,true)∈F:=by
 show x∈(rds rs pl S W U D n).U++ups _↔_
 rw [Xe,a3J,hF]
theorem b2Q {n:Nat} {F:List (Str×Bool)} (hF:IsF rs pl S W U D n F) (x:Str):x∈(rds rs pl S W U D (n+1)).D↔x∈(rds rs pl S W U D n).D∨(x,false)∈F:=by
 show x∈(rds rs pl S W U D n).D++a0X _↔_
 rw [Xe,a2l,hF]
theorem b2V:IsF rs pl S W U D 0 (wds rs pl S U D W):=fun ⟨q,w⟩=>by
 rw [a6L,a0U]
 exact ⟨fun ⟨a,b⟩=>⟨a,(fun z=>by cases z),b⟩,fun ⟨a,_,b⟩=>⟨a,b⟩⟩
theorem b1K {n:Nat} {T:List Tr} {F:List (Str×Bool)} {ask:List Str} (ho:∀q∈W,a1i (a1i q)=q) (hT:IsT rs pl S W U D (n+1) T) (hF:IsF rs pl S W U D n F) (ha:∀q,q∈ask↔tch rs (F.map (·.1)) q∧q∈W∧q∉T.map (·.1)):
  IsF rs pl S W U D (n+1) (wds rs pl S (rds rs pl S W U D (n+1)).U (rds rs pl S W U D (n+1)).D ask):=fun ⟨q,w⟩=>by
 rw [a6L,a0U,ha,←a2i hT]
 refine ⟨fun ⟨⟨_,b,c⟩,d⟩=>⟨b,c,d⟩,fun ⟨b,c,d⟩=>⟨⟨?_,b,c⟩,d⟩⟩
 obtain ⟨r,hr,⟨p,hp,hm⟩,hz⟩:=b0p n ho (a0U.mpr ⟨b,(by rw [←a2i hT];exact c),d⟩)
 exact ⟨r,hr,⟨p,hp,(a2i hF p).mpr hm⟩,hz⟩
theorem b4q {n:Nat} (hF:IsF rs pl S W U D n []):fresh rs pl S W (rds rs pl S W U D n)=[]:=by
 cases e:fresh rs pl S W (rds rs pl S W U D n) with
 | nil=>rfl
 | cons x l=>exact absurd ((hF x).mpr (by rw [e];exact Qs)) (by simp)
theorem a4F:∀(n:Nat) (q:Str),q∈(rds rs pl S W U D n).T.map (·.1)→q∈W
 | 0,q,h=>by cases h
 | n+1,q,h=>by
  have h':q∈((rds rs pl S W U D n).T++(fresh rs pl S W (rds rs pl S W U D n)).map fun p=>(p.1,p.2,n+1)).map (·.1):=h
  rw [Xc,Xe] at h'
  rcases h' with z | z
  ·exact a4F n q z
  ·rw [Xh] at z
   obtain ⟨⟨x,w⟩,hp,rfl⟩:=Ql.mp z
   exact (a0U.mp hp).1
end
def b2i (K:Qd) (t:Adr):Sp:=fun vs H Q _=>∃(g:Addr) (v1 v2:V) (kd:Addr) (rs:List Rw) (pl:List (Str×Str)) (sm S:List Str) (kn:List (Str×Bool)),vs=[.ref g,v1,v2,.ref kd]∧a4t t H g rs pl∧(∀r∈rs,a1A r)∧rs.length≤63∧a2X K H v1 sm∧a2X K H v2 S∧H kd=some (.dK (wv kn))∧(kn.map (·.1)).Nodup∧sm.length≤100∧S.length≤100∧kn.length≤100∧(∀q∈sm,q.length≤100∧a1i (a1i q)=q)∧
 ∀D T n H',a0f H H'→H D=none→TAt H' D T→(T.map (·.1)).Nodup→fresh rs pl S (sm.foldl a1p []) (rds rs pl S (sm.foldl a1p []) (ups kn) (a0X kn) n)=[]→IsT rs pl S (sm.foldl a1p []) (ups kn) (a0X kn) n T→Q (.ref D) H'
theorem a8T {b c:Bool} (h:wd b=wd c):b=c:=by
 cases b<;>cases c
 ·rfl
 ·exact absurd h (by decide+kernel)
 ·exact absurd h (by decide+kernel)
 ·rfl
theorem a2P {K:Qd} {b:Bool} {F:List (Str×Bool)} (hn:(F.map (·.1)).Nodup) {q0:Str} {cm:Addr} {H':Hp} {R:Bool→Hp→Prop} (hq:q0∈F.map (·.1)) (hR:Rd H' cm (.dK (wv F))) (hR':∀H'',a0f H' H''→R (decide ((q0,b)∈F)) H''):a0R (tOp (b5L K) (b2u (a0l 1) (a0l 0)) (tC (V.str (wd b)))) [some (V.str q0),some (V.ref cm)] H' R:=by
 obtain ⟨⟨x,c⟩,hm,rfl⟩:=Ql.mp hq
 have hv:=a6O hn hm
 refine ⟨_,rfl,_,rfl,cm,_,rfl,.inl ⟨_,Sum.inr x,hR,rfl,hv.symm⟩,a2H.mpr ⟨_,rfl,?_⟩⟩
 have:=hR' _ (a0f.refl _)
 rw [show decide (wd c=wd b)=decide ((x,b)∈F) from by
  rw [Xu,decide_eq_true_eq,decide_eq_true_eq]
  refine ⟨fun z=>a8T z ▸ hm,fun z=>?_⟩
  have e:=a6O hn z
  rw [hv] at e
  exact V.str.inj (Option.some.inj e)]
 exact this
theorem a4Y {F:List (Str×Bool)} {b:Bool} {x:Str}:x∈((F.map (·.1)).filter fun q=>decide ((q,b)∈F)).foldl a1p []↔(x,b)∈F:=by
 rw [a1W,Qv,decide_eq_true_eq]
 exact ⟨fun h=>h.elim (fun z=>(by cases z)) (·.2),fun h=>.inr ⟨Ql.mpr ⟨_,h,rfl⟩,h⟩⟩
theorem a4M (F:List (Str×Bool)) (b:Bool):((F.map (·.1)).filter fun q=>decide ((q,b)∈F)).length≤F.length:=by
 have:=Qq (fun q=>decide ((q,b)∈F)) (F.map (·.1))
 rw [Qe] at this;exact this
theorem a3U.keep {H H':Hp} {d:Addr} {rs:List Rw} (h:a3U H d rs) (k:∀b o,H b=some o→(b=d∨∃xs,o=.lst xs)→H' b=some o):a3U H' d rs:=let ⟨kv,a,b⟩:=h;⟨kv,k _ _ a (.inl rfl),fun p=>(b p).imp id fun ⟨L,hs,c,d,e⟩=>⟨L,hs,c,k _ _ d (.inr ⟨_,rfl⟩),e⟩⟩
theorem TAt.keep {H H':Hp} {D:Addr} {T:List Tr} (h:TAt H D T) (k:∀b o,H b=some o→(b=D∨∃xs,o=.tup xs)→H' b=some o):TAt H' D T:=let ⟨A,a,b,c⟩:=h;⟨A,a,k _ _ b (.inl rfl),fun e he=>k _ _ (c e he) (.inr ⟨_,rfl⟩)⟩
theorem DAt.merge {kvs:List (Key×V)} {S S':List Str} {F:List (Str×Bool)} {b:Bool} (h:∀x:Str,(a0P kvs (Sum.inr x:Key)).isSome=decide (x∈S)) (hs:∀x,x∈S'↔x∈S∨(x,b)∈F) (x:Str):(a0P (a1F kvs (bv (((F.map (·.1)).filter fun q=>decide ((q,b)∈F)).foldl a1p []))) (Sum.inr x:Key)).isSome=decide (x∈S'):=by
 rw [a4r,h,a2D,Xu,Bool.or_eq_true,decide_eq_true_eq,decide_eq_true_eq,hs]
 refine or_congr Iff.rfl ?_
 by_cases z:(x,b)∈F
 ·rw [if_pos (a4Y.mpr z)];exact ⟨fun _=>z,fun _=>rfl⟩
 ·rw [if_neg (fun w=>z (a4Y.mp w))];exact ⟨fun w=>(by cases w),fun w=>absurd w z⟩
/-! ### the pairs of a dict walked,its values walked -/
theorem b5z {te:TE} {g:TG} {tb:TS} {E:a6d} {σ:St} {H:Hp} {a:Addr} {kn:List (Str×Bool)} (Pv:Hp→Nat→St→Hp→Prop) (hH:H a=some (.dK (wv kn))) (hte:∀R:VK,R (.ref a) H→te σ H R)
  (h0:∀o,Pv (upd H a (.frz o (.dK (wv kn)))) 0 σ (upd H a (.frz o (.dK (wv kn)))))
  (hp:∀o i σ' H',Pv (upd H a (.frz o (.dK (wv kn)))) i σ' H'→H' a=some (.frz o (.dK (wv kn))))
  (hs:∀o i (hi:i < kn.length) σ' H' p rt bk,Pv (upd H a (.frz o (.dK (wv kn)))) i σ' H'→H' p=none→g (.ref p) σ' (upd H' p (.tup [.str kn[i].1,.str (wd kn[i].2)])) fun σ2 H2=>tb ⟨Pv (upd H a (.frz o (.dK (wv kn)))) (i+1),rt,bk,Pv (upd H a (.frz o (.dK (wv kn)))) (i+1)⟩ σ2 H2)
  (hd:∀o σ' H',Pv (upd H a (.frz o (.dK (wv kn)))) kn.length σ' H'→E.nx σ' (upd H' a (.dK (wv kn)))):a9g (b6d (b3C te) g tb) E σ H:=by
 have hlen:(wv kn).length=kn.length:=by unfold wv;rw [Qe]
 refine ⟨a,wv kn,hH,?_⟩
 rw [a0E]
 refine hte _ ⟨a,wv kn,rfl,hH,fun o=>?_⟩
 refine ⟨fun i m σ' H'=>m=kn.length - i∧i≤kn.length∧Pv (upd H a (.frz o (.dK (wv kn)))) i σ' H',⟨_,rfl,Xa _,h0 o⟩,?_⟩
 rintro i m σ' H' ⟨rfl,hi,p⟩
 have hf:=hp o i σ' H' p
 by_cases hlt:i < kn.length
 ·refine .inr ⟨⟨hf,by omega⟩,Pv (upd H a (.frz o (.dK (wv kn)))) (i+1),fun σ2 H2 p2=>⟨kn.length - (i+1),by omega,rfl,hlt,p2⟩,?_⟩
  rintro x H2 ⟨q,k,v,hq,e,rfl,rfl⟩
  have e1:(wv kn)[i]?=some (Sum.inr kn[i].1,V.str (wd kn[i].2)):=by unfold wv;rw [Qn,Qc hlt];rfl
  rw [e1] at e;cases e
  exact hs o i hlt σ' H' q _ _ p hq
 ·have ei:i=kn.length:=by omega
  subst ei
  exact .inl ⟨⟨hf,by omega⟩,o,hf,hd o σ' H' p⟩
theorem b3U {te:TE} {g:TG} {tb:TS} {E:a6d} {σ:St} {H:Hp} {a:Addr} {kvs:List (Key×V)} (Pv:Hp→St→Hp→Prop) (hH:H a=some (.dK kvs)) (hte:∀R:VK,R (.ref a) H→te σ H R)
  (h0:∀o,Pv (upd H a (.frz o (.dK kvs))) σ (upd H a (.frz o (.dK kvs))))
  (hp:∀o σ' H',Pv (upd H a (.frz o (.dK kvs))) σ' H'→H' a=some (.frz o (.dK kvs)))
  (hs:∀o p σ' H' rt bk,p∈kvs→Pv (upd H a (.frz o (.dK kvs))) σ' H'→g p.2 σ' H' fun σ2 H2=>tb ⟨Pv (upd H a (.frz o (.dK kvs))),rt,bk,Pv (upd H a (.frz o (.dK kvs)))⟩ σ2 H2)
  (hd:∀o σ' H',Pv (upd H a (.frz o (.dK kvs))) σ' H'→E.nx σ' (upd H' a (.dK kvs))):a9g (b6d (b9f te) g tb) E σ H:=by
 refine ⟨a,kvs,hH,?_⟩
 rw [a0E]
 refine hte _ ⟨a,kvs,rfl,hH,fun o=>?_⟩
 refine ⟨fun i m σ' H'=>m=kvs.length - i∧i≤kvs.length∧Pv (upd H a (.frz o (.dK kvs))) σ' H',⟨_,rfl,Xa _,h0 o⟩,?_⟩
 rintro i m σ' H' ⟨rfl,hi,p⟩
 have hf:=hp o σ' H' p
 by_cases hlt:i < kvs.length
 ·refine .inr ⟨⟨hf,hlt⟩,Pv (upd H a (.frz o (.dK kvs))),fun σ2 H2 p2=>⟨kvs.length - (i+1),by omega,rfl,hlt,p2⟩,?_⟩
  rintro x H2 ⟨rfl,k,e⟩
  exact hs o (k,x) σ' _ _ _ (Ug e) p
 ·exact .inl ⟨⟨hf,by omega⟩,o,hf,hd o σ' H' p⟩
def a6b (H:Hp) (a:Addr) (S:List Str) (n:Nat):Prop:=∃kvs,H a=some (.dK kvs)∧(∀x:Str,(a0P kvs (Sum.inr x:Key)).isSome=decide (x∈S))∧kvs.length≤n
theorem a6b.dat {H:Hp} {a:Addr} {S:List Str} {n:Nat} (h:a6b H a S n):DAt H a S:=let ⟨k,b,c,_⟩:=h;⟨k,b,c⟩
theorem a6b.keep {H H':Hp} {a:Addr} {S:List Str} {n m:Nat} (k:∀o,H a=some o→H' a=some o) (hm:n≤m) (h:a6b H a S n):a6b H' a S m:=let ⟨v,b,c,d⟩:=h;⟨v,k _ b,c,Qj d hm⟩
theorem a6b.put {H:Hp} {a:Addr} {S:List Str} {n:Nat} (h:a6b H a S n) (hn:n≤100000) (q:Str) (v:V):∃kvs',a4k H a (.str q) v (upd H a (.dK kvs'))∧a6b (upd H a (.dK kvs')) a (S++[q]) (n+1):=by
 obtain ⟨kvs,b,c,d⟩:=h
 refine ⟨_,a4k.k (k:=(Sum.inr q:Key)) b (Xk (Qj d hn) (by decide)),_,a0d,fun x=>?_,?_⟩
 ·rw [a1B]
  by_cases e:x=q
  ·rw [if_pos (by rw [e])];simp [e]
  ·rw [if_neg (fun z=>e (Sum.inr.inj z)),c];simp [e]
 ·have:=a0N kvs (Sum.inr q:Key) v
  omega
theorem a3o (F:List (Str×Bool)) (q:Str) (b:Bool):ups (F++[(q,b)])=ups F++if b=true then [q] else []:=by
 unfold ups;rw [Zh,Xc];cases b<;>rfl
theorem a2q (F:List (Str×Bool)) (q:Str) (b:Bool):a0X (F++[(q,b)])=a0X F++if b=true then [] else [q]:=by
 unfold a0X;rw [Zh,Xc];cases b<;>rfl
theorem a7W {rs:List Rw} {pl:List (Str×Str)} {S:List Str} (l:List Str) (q:Str) (s:RdS):fresh rs pl S (l++[q]) s=fresh rs pl S l s++(if q∈s.T.map (·.1) then none else (stt rs pl S s.U s.D q).map fun w=>(q,w)).toList:=by
 unfold fresh
 rw [Uf,Yn]
 cases (if q∈s.T.map (·.1) then none else (stt rs pl S s.U s.D q).map fun w=>(q,w))<;>rfl
theorem a2J {rs:List Rw} {pl:List (Str×Str)} {S:List Str} (s:RdS):∀l:List Str,((fresh rs pl S l s).map (·.1)).Sublist l
 | []=>Gb.refl _
 | q::l=>by
  have ih:=a2J (rs:=rs) (pl:=pl) (S:=S) s l
  unfold fresh at ih ⊢
  rw [Yn]
  by_cases h:q∈s.T.map (·.1)
  ·rw [if_pos h];exact ih.cons q
  ·rw [if_neg h]
   cases stt rs pl S s.U s.D q with
   | none=>exact ih.cons q
   | some w=>exact ih.cons₂ q
section
variable {rs:List Rw} {pl:List (Str×Str)} {S U D:List Str}
theorem b2j {U' D':List Str} {q:Str} (hU:∀x,x∈U'↔x∈U) (hD:∀x,x∈D'↔x∈D) (ho:a1i (a1i q)=q):stt rs pl S U' D' q=stt rs pl S U D q:=b1o (came:=[]) (fun x _=>hU x) (fun x _=>hD x) ho (fun ⟨r,_,⟨p,_,z⟩,_⟩=>by cases z)
theorem a7o {W W':List Str} (hW:∀x,x∈W↔x∈W') (ho:∀q∈W,a1i (a1i q)=q):∀n,(∀e,e∈(rds rs pl S W U D n).T↔e∈(rds rs pl S W' U D n).T)∧(∀x,x∈(rds rs pl S W U D n).U↔x∈(rds rs pl S W' U D n).U)∧(∀x,x∈(rds rs pl S W U D n).D↔x∈(rds rs pl S W' U D n).D)
 | 0=>⟨fun _=>Iff.rfl,fun _=>Iff.rfl,fun _=>Iff.rfl⟩
 | n+1=>by
  obtain ⟨hT,hU,hD⟩:=a7o hW ho n
  have hF:∀e,e∈fresh rs pl S W (rds rs pl S W U D n)↔e∈fresh rs pl S W' (rds rs pl S W' U D n):=fun ⟨q,w⟩=>by
   rw [a0U,a0U,a2i hT q,hW q]
   refine and_congr_right fun hq=>and_congr_right fun _=>?_
   rw [b2j hU hD (ho q ((hW q).mpr hq))]
  refine ⟨fun e=>?_,fun x=>?_,fun x=>?_⟩
  ·show e∈(rds rs pl S W U D n).T++_↔e∈(rds rs pl S W' U D n).T++_
   rw [Xe,Xe,hT e]
   refine or_congr Iff.rfl ?_
   constructor
   ·intro z;obtain ⟨p,hp,rfl⟩:=Ql.mp z;exact Ql.mpr ⟨p,(hF p).mp hp,rfl⟩
   ·intro z;obtain ⟨p,hp,rfl⟩:=Ql.mp z;exact Ql.mpr ⟨p,(hF p).mpr hp,rfl⟩
  ·show x∈(rds rs pl S W U D n).U++ups _↔x∈(rds rs pl S W' U D n).U++ups _
   rw [Xe,Xe,hU x,a3J,a3J,hF]
  ·show x∈(rds rs pl S W U D n).D++a0X _↔x∈(rds rs pl S W' U D n).D++a0X _
   rw [Xe,Xe,hD x,a2l,a2l,hF]
theorem b0C {W W':List Str} (hW:∀x,x∈W↔x∈W') (ho:∀q∈W,a1i (a1i q)=q) {n n':Nat} (h:fresh rs pl S W (rds rs pl S W U D n)=[]) (h':fresh rs pl S W' (rds rs pl S W' U D n')=[]) {T T':List Tr} (hT:IsT rs pl S W U D n T) (hT':IsT rs pl S W' U D n' T'):∀e,e∈T↔e∈T':=fun e=>by
 have a1:=a3G h n'
 have a2:=a3G h' n
 rw [hT e,hT' e,←a1,←a2,Wz n' n]
 exact (a7o hW ho (n+n')).1 e
end
theorem b6y (b:Bool):Yd (wd b)=true:=by cases b<;>decide+kernel
theorem b0Q {K:Qd} {H:Hp} {D D':Addr} {T T':List Tr} (h:TAt H D T) (h':TAt H D' T') (n:(T.map (·.1)).Nodup) (n':(T'.map (·.1)).Nodup) (e:∀e,e∈T↔e∈T'):∃kvs kvs',H D=some (.dK kvs)∧H D'=some (.dK kvs')∧b6C K H kvs kvs':=by
 obtain ⟨A,rfl,hD,hA⟩:=h
 obtain ⟨B,rfl,hD',hB⟩:=h'
 refine ⟨_,_,hD,hD',?_,fun p hp=>?_⟩
 ·have h1:=a1R n fun x hx=>(a2i e x).mp hx
  have h2:=a1R n' fun x hx=>(a2i e x).mpr hx
  simp only [Qe] at h1 h2 ⊢
  omega
 ·obtain ⟨a,ha,rfl⟩:=Ql.mp hp
  obtain ⟨b,hb,eb⟩:=Ql.mp ((e a.2).mp (Ql.mpr ⟨a,ha,rfl⟩))
  refine ⟨.ref b.1,.tuple [.str (wd a.2.2.1),.int a.2.2.2],?_,.tup (SqT.of (hA a ha)) (.cons (.str _) (.cons (.int _) .nil)),.tup (SqT.of (by rw [←eb];exact hB b hb)) (.cons (.str _) (.cons (.int _) .nil)),?_,?_⟩
  ·show a0P _ (Sum.inr a.2.1:Key)=_
   rw [←eb]
   exact b3W (by rw [Xh] at n';exact n') hb
  ·have:=b6y a.2.2.1
   unfold Yi;simp only [Xj,Zl,Yq,Zb,this];rfl
  ·exact show (1:Nat)≤60 by decide
theorem b8H {K:Qd} {H:Hp} {kn:List (Str×Bool)} (n:(kn.map (·.1)).Nodup):b6C K H (wv kn) (wv kn):=by
 refine ⟨rfl,fun p hp=>?_⟩
 obtain ⟨a,ha,rfl⟩:=Ql.mp hp
 exact ⟨_,.str (wd a.2),a6O n (show (a.1,a.2)∈kn from ha),.str _,.str _,by have:=b6y a.2;unfold Yi;simp only [Xj,Yq,this];rfl,show (0:Nat)≤60 by decide⟩
def b5O:Sp:=fun vs H Q _=>∃(c:Int) (a:Addr) (sm:List Str),vs=[.int c,.ref a]∧H a=some (.lst (sm.map V.str))∧sm.Nodup∧sm.length≤18∧∀D kn H',a0f H H'→H D=none→H' D=some (.dK (wv kn))→(kn.map (·.1)).Sublist sm→Q (.ref D) H'
def b5b:Sp:=fun vs H Q _=>∃(R P F So kd:Addr) (xs ps:List V) (rs:List Rw) (pl:List (Str×Str)) (S sm:List Str) (kn:List (Str×Bool)),vs=[.ref R,.ref P,.ref F,.ref So,.ref kd]∧H R=some (.lst xs)∧a2s H xs rs∧(∀r∈rs,a1A r)∧rs.length≤63∧H P=some (.lst ps)∧a0K H ps pl∧b3B pl∧H F=some (.lst (S.map V.str))∧H So=some (.lst (sm.map V.str))∧sm.Nodup∧sm.length≤18∧(∀q∈sm,q.length≤100)∧H kd=some (.dK (wv kn))∧kn.length≤100∧
 ∀D T n H',a0f H H'→H D=none→TAt H' D T→(T.map (·.1)).Nodup→fresh rs pl S sm (rds rs pl S sm (ups kn) (a0X kn) n)=[]→IsT rs pl S sm (ups kn) (a0X kn) n T→Q (.ref D) H'
theorem a3u {rs:List Rw} {pl:List (Str×Str)} {S W U D:List Str} (hn:W.Nodup):∀n,((rds rs pl S W U D n).T.map (·.1)).Nodup
 | 0=>Uu
 | n+1=>by
  show (((rds rs pl S W U D n).T++(fresh rs pl S W (rds rs pl S W U D n)).map fun p=>(p.1,p.2,n+1)).map (·.1)).Nodup
  rw [Xc,Zs]
  refine ⟨a3u hn n,by rw [Xh];exact hn.sublist (a2J _ _),fun x hx y hy z=>?_⟩
  rw [Xh] at hy
  obtain ⟨⟨y',w⟩,hy',rfl⟩:=Ql.mp hy
  exact (a0U.mp hy').2.1 (by rw [show x=y' from z] at hx;exact hx)
theorem b5M {rs:List Rw} {pl:List (Str×Str)} {S W U D:List Str} (hn:W.Nodup) (n:Nat):(rds rs pl S W U D n).T.length≤W.length:=by
 have:=a1R (a3u (rs:=rs) (pl:=pl) (S:=S) (U:=U) (D:=D) hn n) fun x hx=>a4F n x hx
 rw [Qe] at this;exact this
theorem a7g {H H':Hp} {xs:List V} {pl:List (Str×Str)} (h:a0K H xs pl) (up:∀b ys,H b=some (.tup ys)→H' b=some (.tup ys)):a0K H' xs pl:=let ⟨as,a,b,c⟩:=h;⟨as,a,b,fun i x p e1 e2=>up _ _ (c i x p e1 e2)⟩
/-! ### what lies about -/
structure Sx (K:Qd) (t:Adr) (H:Hp) (a:Addr) (ns:List Int) (R:Addr) (xs:List V) (rs:List Rw) (Pa:Addr) (po:List Str) (Pr:Addr) (ps:List V) (pl:List (Str×Str)) (g:Addr):Prop where
 S:SqL K H a (ns.map V.int)
 B:H R=some (.lst xs)
 A:a2s H xs rs
 P:H Pa=some (.lst (po.map V.str))
 R:H Pr=some (.lst ps)
 Q:a0K H ps pl
 G:a4t t H g rs pl
section
variable {K:Qd} {t:Adr} {H H':Hp} {a:Addr} {ns:List Int} {R:Addr} {xs:List V} {rs:List Rw} {Pa:Addr} {po:List Str} {Pr:Addr} {ps:List V} {pl:List (Str×Str)} {g:Addr}
theorem Sx.same (s:a0f H H') (h:Sx K t H a ns R xs rs Pa po Pr ps pl g):Sx K t H' a ns R xs rs Pa po Pr ps pl g:=⟨s.seq h.S,s _ _ h.B,h.A.same s,s _ _ h.P,s _ _ h.R,a0K.same s h.Q,h.G.same s⟩
theorem Sx.on {T:Addr} {q:Str} (lt:a6t T q H) (k:∀a o,a≠T→H a=some o→H' a=some o) (h:Sx K t H a ns R xs rs Pa po Pr ps pl g):Sx K t H' a ns R xs rs Pa po Pr ps pl g:=by
 obtain ⟨p,hT,_⟩:=id lt
 have s:=a6P k
 exact ⟨s.seq (b5A hT h.S),s _ _ (a0Z hT h.B (fun _ z=>nomatch z)),(b8m hT h.A).same s,s _ _ (a0Z hT h.P (fun _ z=>nomatch z)),s _ _ (a0Z hT h.R (fun _ z=>nomatch z)),a0K.same s (b4T hT h.Q),(b8r hT h.G).same s⟩
end
def nv (S:List Str):List (Key×V):=S.map fun x=>(Sum.inr x,V.non)
theorem b4v {S:List Str} {x:Str} (h:x∉S):a0P (nv S) (Sum.inr x:Key)=none:=by
 induction S with
 | nil=>rfl
 | cons p S ih=>
  rw [Qy] at h
  rw [show nv (p::S)=(Sum.inr p,V.non)::nv S from rfl,a0w (fun w=>h (.inl (Sum.inr.inj w).symm)),ih fun z=>h (.inr z)]
theorem c5g {H:Hp} {D:Addr} {S:List Str} (h:H D=some (.dK (nv S))) (hl:S.length≤100000) {x:Str} (hx:x∉S):a4k H D (.str x) V.non (upd H D (.dK (nv (S++[x])))):=by
 have:=a4k.k (k:=(Sum.inr x:Key)) (v:=V.non) h (by unfold nv;rw [Qe];exact Xk hl (by decide))
 rw [a3s _ (b4v hx)] at this
 rw [show nv (S++[x])=nv S++[(Sum.inr x,V.non)] from by unfold nv;rw [Xc];rfl]
 exact this
theorem a2X.list {K:Qd} {H:Hp} {v:V} {S:List Str} {Q:VK} (h:a2X K H v S) (q:∀l,H l=none→Q (.ref l) (upd H l (.lst (S.map V.str)))):b3z K [v] H Q:=by
 rcases h with ⟨a,rfl,ha⟩ | ⟨a,kvs,rfl,ha,hk⟩
 ·exact .inl ⟨a,_,rfl,.inl (SqL.of ha),q⟩
 ·refine .inr ⟨a,_,rfl,.inl ha,fun l hl=>?_⟩
  have:kvs.map (fun kv=>kV kv.1)=S.map V.str:=by
   have:=congrArg (Gh kV) hk
   rw [Xh,Xh] at this;exact this
  rw [this];exact q l hl
theorem a4p {K:Qd} {H:Hp} {a b:Addr} {S:List Str} (ho:∀z∈S,Yd z=true) (ha:H a=some (.lst (S.map V.str))) (hb:H b=some (.lst (S.map V.str))):b0n K H (.ref a) (.ref b):=.inl ⟨.list (S.map Zp),.lst (SqL.of ha) (a3e S),.lst (SqL.of hb) (a3e S),a6N ho,by
 show Zb (S.map Zp)+1≤60
 rw [(c0d S ho).2];decide⟩
end K42
namespace K42
open PySem L2 Tx
local macro_rules | `(‹$n:num›)=>`(@pv _ $n _ _ (by rfl) (by first | exact c6j rfl | exact c5l rfl | exact c4M rfl) (by decide) (by decide))
local macro_rules | `(tactic| trivial)=>`(tactic| first | exact Or.inl rfl | exact Or.inr rfl | assumption)
set_option hygiene false
local macro_rules | `(‹($x)›)=>`(‹$x›)
local macro_rules | `(‹A0 $a $b›)=>`(@b0b _ _ _ _ _ ‹$a› ‹$b› (by rfl))
local macro_rules | `(‹A1›)=>`(@b3q _)
local macro_rules | `(‹A2 $a $b›)=>`(@b2q _ _ _ _ _ ‹$a› ‹$b›)
local macro_rules | `(‹A3›)=>`(@b8U _ _ _ _)
local macro_rules | `(‹A4 $a›)=>`(@b5E _ _ _ ‹$a›)
local macro_rules | `(‹A5 $a $b $c›)=>`(@c0E _ _ _ _ _ _ _ _ $a ‹$b› ‹$c›)
local macro_rules | `(‹A6 $a $b $c›)=>`(@b8G _ _ $a _ _ _ _ $b rfl (by trivial) ‹$c› (by rfl) (by trivial))
local macro_rules | `(‹A7 $a $b $c $d $e $f›)=>`(@b4A _ _ _ _ _ _ _ _ _ _ _ _ _ _ _ _ $a (hr.mono (by decide)) rfl $b $c $d $e b0Z ‹$f› (by decide) (by rfl) (by rfl))
local macro_rules | `(‹A8 $a $b›)=>`(@b6b _ _ $a _ $b rfl (by trivial) (by trivial))
local macro_rules | `(‹A9 $a›)=>`(@b6Q _ _ _ _ ‹$a›)
local macro_rules | `(‹B0›)=>`(@b8a _ _ _ _)
local macro_rules | `(‹B1 $a $b $c $d›)=>`(@b4M _ _ _ _ _ _ _ _ $a ‹$b› ‹$c› $d)
local macro_rules | `(‹B2 $a $b $c›)=>`(@c0p _ _ _ _ _ _ _ $a ‹$b› ‹$c› (fun _ _=>rfl))
local macro_rules | `(‹B3 $a $b $c $d›)=>`(@b1g _ $a $b $c $d _ rfl rfl (by decide+kernel))
local macro_rules | `(‹B4 $a $b $c›)=>`(@c0H _ _ _ _ _ _ _ _ ‹$a› ‹$b› ‹$c›)
local macro_rules | `(‹B5 $a›)=>`(@b8Z _ _ _ _ ‹$a›)
local macro_rules | `(‹B6 $a›)=>`(@b4o _ _ _ _ ‹$a›)
local macro_rules | `(‹B7›)=>`(@b5U _)
local macro_rules | `(‹B8 $a $b $c›)=>`(@b9z _ _ _ _ _ _ _ _ PassesOwn.never rfl ‹$a› ‹$b› ‹$c› (by intro _;rfl))
local macro_rules | `(‹B9›)=>`(@c0j _ _ _ _)
local macro_rules | `(‹C0 $a $b $c $d $e›)=>`(@b4f _ _ _ _ _ _ _ _ _ _ _ _ _ ‹$a› rfl ‹$b› (fun _ _ _ _ _=>‹$c›) (fun _ _ _ _ _=>‹$d›) (fun _ _ _ _ _=>‹$e›) (by intro _;rfl))
local macro_rules | `(‹C1 $a›)=>`(@b4s _ _ _ ‹$a›)
local macro_rules | `(‹C2 $a›)=>`(@b6U _ _ _ ‹$a› (by intro _;rfl))
local macro_rules | `(‹C3 $a $b $c›)=>`(@b5m _ _ _ _ _ _ _ _ _ (a3b hr) ‹$a› ‹$b› ‹$c› rfl)
local macro_rules | `(‹C4 $a $b $c $d›)=>`(@b1N _ _ _ _ _ _ _ _ _ $a rfl $b $c ‹$d› (by decide) (by decide) (by rfl) (by rfl))
local macro_rules | `(‹C5 $a›)=>`(@b9x _ _ _ _ _ ‹$a›)
local macro_rules | `(‹C6 $a $b›)=>`(@b1X _ _ _ _ _ ‹$a› ‹$b› (by rfl))
local macro_rules | `(‹C7 $a›)=>`(@b6o _ _ _ _ ‹$a› (by rfl))
local macro_rules | `(‹C8 $a $b $c $d $e $f›)=>`(@c0N _ _ _ _ _ _ _ _ _ _ _ _ $a $b $c $d ‹$e› ‹$f› (by rfl) (by rfl) (by rfl) (by rfl) (by rfl))
local macro_rules | `(‹C9›)=>`(@b2l _ _)
local macro_rules | `(‹D0 $a›)=>`(@PW.pt _ _ _ ‹$a›)
local macro_rules | `(‹D1 $a›)=>`(@b7b _ _ _ _ _ _ $a (by with_unfolding_all rfl))
local macro_rules | `(‹D2›)=>`(@b5f _)
local macro_rules | `(‹D3 $a›)=>`(@b3P _ _ _ _ _ ‹$a› rfl)
local macro_rules | `(‹D4 $a $b›)=>`(@b6m _ _ _ _ _ ‹$a› ‹$b›)
local macro_rules | `(‹D5 $a $b $c $d $e $f $g›)=>`(@a7V _ _ _ _ _ _ _ _ _ _ _ _ _ $a _ _ _ ‹$b› rfl ‹$c› (fun _ _ _ _ _=>‹$d›) (fun _ _ _ _ _=>‹$e›) (fun _ _ _ _ _=>‹$f›) $g rfl (by trivial) rfl (by intro _;rfl) (by trivial))
local macro_rules | `(‹D6 $a $b $c $d›)=>`(@b0L _ _ _ _ _ _ _ _ _ $a rfl $b $c ‹$d› (by decide) (by decide) (by rfl) (by rfl))
local macro_rules | `(‹D7 $a $b $c $d $e›)=>`(@b1V _ _ _ _ _ _ _ _ _ _ _ _ _ _ _ _ _ ‹$a› $b $c $d (hr.mono (by decide)) $e .nil b0Z (by rfl))
local macro_rules | `(‹D8 $a›)=>`(@b5p _ (K) _ _ _ _ rfl ‹$a› rfl)
local macro_rules | `(‹D9 $a $b $c›)=>`(@b4V _ _ $a _ _ rfl $b $c (by decide))
local macro_rules | `(‹E0 $a›)=>`(@b0e _ _ _ _ _ _ rfl T.z_range ‹$a› (by rfl))
local macro_rules | `(‹E1 $a›)=>`(@b5C _ _ _ _ ‹$a›)
local macro_rules | `(‹E2 $a $b $c $d›)=>`(@b4y _ _ _ _ _ _ _ _ $a ‹$b› ‹$c› $d)
local macro_rules | `(‹E3 $a $b›)=>`(@c0x _ _ _ _ _ _ _ ‹$a› ‹$b›)
local macro_rules | `(‹E4 $a›)=>`(@b7u _ _ _ _ ‹$a›)
local macro_rules | `(‹E5 $a $b›)=>`(@b9u _ _ _ _ ‹$a› ‹$b›)
local macro_rules | `(‹E6 $a›)=>`(@b8t _ _ _ _ ‹$a›)
local macro_rules | `(‹E7›)=>`(@b4t _)
local macro_rules | `(‹E8 $a $b $c $d $e›)=>`(@b5G _ _ _ _ _ _ _ _ _ _ _ _ _ _ _ _ _ _ _ _ ‹$a› T.cl_Ground $b $c (hr.mono (by decide)) $d .nil b0Z ‹$e› (by rfl) (by rfl) (by rfl))
local macro_rules | `(‹E9 $a $b›)=>`(@b6O _ _ _ _ _ _ _ _ ‹$a› ‹$b› rfl)
local macro_rules | `(‹F0 $a›)=>`(@b8X _ _ _ _ ‹$a›)
local macro_rules | `(‹F1 $a $b›)=>`(@a8S _ _ _ _ _ (a3b hr) ‹$a› ‹$b›)
local macro_rules | `(‹F2 $a $b $c›)=>`(@b1w _ _ _ _ _ _ _ _ _ (a3b hr) ‹$a› ‹$b› ‹$c› ⟨rfl,rfl,rfl,rfl⟩)
local macro_rules | `(‹F3 $a $b›)=>`(@b9T _ _ _ _ _ _ _ ‹$a› ‹$b›)
local macro_rules | `(‹F4 $a›)=>`(@b4n _ _ _ _ ‹$a›)
local macro_rules | `(‹F5 $a›)=>`(@b5Z _ _ _ ‹$a›)
local macro_rules | `(‹F6 $a $b›)=>`(@b4c _ _ _ _ _ _ (a3b hr) ‹$a› ‹$b› (fun _ _=>rfl))
local macro_rules | `(‹F7 $a $b $c $d $e›)=>`(@b4C _ _ _ _ _ _ _ _ _ _ _ _ _ _ _ _ _ $a $b (hr.mono (by decide)) rfl $c $d .nil b0Z ‹$e› (by decide) (by rfl) (by rfl))
local macro_rules | `(‹F8 $a›)=>`(@b5q _ _ _ ‹$a›)
local macro_rules | `(‹F9 $a›)=>`(@b3o _ _ _ _ _ _ rfl ‹$a› (by rfl) (by rfl))
local macro_rules | `(‹G0 $a›)=>`(@b5v _ _ _ _ _ _ _ _ rfl T.z_enumerate ‹$a› (by rfl))
local macro_rules | `(‹G1 $a $b $c›)=>`(@b5n _ _ $a _ _ rfl $b $c rfl (by decide) (by decide))
local macro_rules | `(‹G2 $a $b›)=>`(@b9R _ _ _ _ ‹$a› ‹$b›)
local macro_rules | `(‹G3 $a›)=>`(@b4r _ _ _ ‹$a›)
local macro_rules | `(‹G4 $a $b $c›)=>`(@b1W _ _ _ _ _ _ _ _ _ ‹$a› ‹$b› ‹$c› ⟨rfl,rfl,rfl,rfl⟩)
local macro_rules | `(‹G5 $a $b $c›)=>`(@b1R _ _ _ _ _ _ _ _ _ _ b9k ‹$a› ‹$b› ‹$c›)
local macro_rules | `(‹G6 $a $b›)=>`(@b1A _ _ _ _ _ _ PassesOwn.never ‹$a› ‹$b›)
local macro_rules | `(‹G7 $a›)=>`(@b3Y _ (K) _ _ _ _ (2) rfl rfl ‹$a› (by rfl) (by rfl))
local macro_rules | `(‹G8 $a›)=>`(@b7F _ _ _ _ _ ‹$a›)
local macro_rules | `(‹G9 $a›)=>`(@b8M _ _ _ _ _ _ $a (by with_unfolding_all rfl))
local macro_rules | `(‹H0›)=>`(@b6f _)
local macro_rules | `(‹H1 $a $b›)=>`(@b7T _ _ _ _ _ _ ‹$a› ‹$b› (by rfl) (by rfl) (by rfl))
local macro_rules | `(‹H2 $a $b›)=>`(@b9v _ _ _ _ _ _ _ ‹$a› ‹$b›)
local macro_rules | `(‹H3 $a›)=>`(@b8d _ _ _ _ ‹$a›)
local macro_rules | `(‹H4 $a $b›)=>`(@b9O _ _ _ _ ‹$a› ‹$b›)
local macro_rules | `(‹H5 $a $b $c›)=>`(@b1C _ _ _ _ _ _ _ _ ‹$a› ‹$b› ‹$c›)
local macro_rules | `(‹H6›)=>`(@b7r _ _ _)
local macro_rules | `(‹H7 $a $b $c $d›)=>`(@b9K _ _ _ _ _ _ _ _ _ Ys $a $b $c ‹$d› (by rfl) (by rfl))
local macro_rules | `(‹H8›)=>`(@b2C _ _)
local macro_rules | `(‹H9 $a›)=>`(@b2E _ _ _ _ _ _ _ _ ‹$a› (by rfl) (by rfl))
local macro_rules | `(‹J0 $a $b $c $d $e›)=>`(@b8f _ _ $a _ _ _ _ _ _ $b $c (by trivial) ‹$d› $e (by trivial))
local macro_rules | `(‹J1 $a $b $c $d $e $f $g $h›)=>`(@b1J _ _ _ _ _ _ _ _ _ _ _ _ _ _ _ _ _ _ _ _ ‹$a› $b $c $d $e $f $g ‹$h› (by rfl) (by rfl) (by rfl))
local macro_rules | `(‹J2 $a $b $c›)=>`(@a9U _ _ _ _ _ _ _ $a $b ‹$c› (by rfl) (by rfl))
local macro_rules | `(‹J3 $a $b›)=>`(@c0G _ _ _ _ _ _ _ ‹$a› ‹$b›)
local macro_rules | `(‹J4 $a›)=>`(@b1T _ _ _ ‹$a›)
local macro_rules | `(‹J5 $a $b $c $d $e $f $g $h $i $j $k $l $m $n $o $p $q $r $s $t $u›)=>`(@b1z _ _ _ _ _ _ _ $a _ _ _ _ _ $b $c _ $d $e $f $g $h $i $j $k $l ‹$m› ‹$n› $o $p $q $r $s $t $u (by rfl))
local macro_rules | `(‹J6 $a $b $c›)=>`(@b8P _ _ _ _ _ _ _ ‹$a› ‹$b› $c (by intro _;rfl))
local macro_rules | `(‹J7 $a›)=>`(@b4g _ _ _ _ _ _ ‹$a› (by rfl) (by rfl))
local macro_rules | `(‹J8 $a $b $c $d $e $f›)=>`(@a7G _ _ _ _ _ _ _ $a $b $c $d $e ‹$f› (by rfl) (by rfl))

section
variable {P:Program} {w:World} {K:Qd} {mg:Str→Option Value} {base:Heap} {t:Adr}
theorem b6v (T:Txt K mg t):a1a P w K mg base CX0 1 t.f_z0j t.fd_z0j ["self","rules","pairs"] (b7O t):=by
 refine T.F_z0j.ok a8E (fun vs H Q E h=>?_) (fun cdv A outer s H vs Q E hr h=>?_)
 ·obtain ⟨x,dx,b,pb,xs,rs,ps,pl,rfl,hx,hb,hA,hO,hrl,hpb,hPr,hpll,q⟩:=h;rfl
 ·obtain ⟨x,dx,b,pb,xs,rs,ps,pl,rfl,hx,hb,hA,hO,hrl,hpb,hPr,hpll,q⟩:=h
  refine ⟨_,‹A2 (E9 0 (D6 a2o T.z_tuple a1J (A0 1 A1))) (A2 (E9 0 C9) (A2 (B8 (F0 (D3 0)) (A8 3 a8E.nd) (A4 (C7 (C8 Yc Xy Xz a0S (G4 (D3 0) (D3 3) (B5 A1)) (A0 3 A1))))) (A2 (E9 0 H8) (A4 (B8 (B6 2) (A8 4 a8E.nd) (A4 (C3 (D3 0) (C5 (A0 (B2 a0s 4 A3) (A0 (B2 a0s 4 A3) A1))) B9)))))))›,?_⟩
  rw [show start b6B [V.ref x,V.ref b,V.ref pb]=[some (V.ref x),some (V.ref b),some (V.ref pb),none,none] from rfl]
  have hxl:=hA.len
  try simp only [a1r,c0a,tCB,a0h,a0l,Qb,Qa,a0t,a1V,a0E,b5V,a4q,a0e]
  refine ⟨b,xs,rfl,.inl ⟨SqL.of hb,fun io hio=>?_⟩⟩
  obtain ⟨H1,e1,s1,h1⟩:=a0V hio (.tup xs);rw [e1]
  have hiox:io≠x:=fun z=>by rw [z,hx] at hio;cases hio
  refine ⟨x,t.C_Ground,dx,_,rfl,s1 _ _ hx,T.cl_Ground,T.nf_Ground_in_order,by show 0 < 1000;decide,?_⟩
  obtain ⟨H2,e2,k2,h2x,h2io⟩:∃H',upd H1 x (.ins t.C_Ground dx (a1D "in_order" (.ref io) []))=H'∧(∀c o,H c=some o→c≠x→H' c=some o)∧H' x=some (.ins t.C_Ground dx (a1D "in_order" (.ref io) []))∧H' io=some (.tup xs):=⟨_,rfl,fun c o e hc=>by rw [a0a hc];exact s1 _ _ e,a0d,by rw [a0a hiox];exact h1⟩
  rw [e2]
  intro bh hbh
  obtain ⟨H3,e3,s3,h3⟩:=a0V hbh (.dK []);rw [e3]
  have hbhx:bh≠x:=fun z=>by rw [z,h2x] at hbh;cases hbh
  have hbhn:H bh=none:=by
   cases e:H bh with
   | none=>rfl
   | some o=>rw [k2 _ _ e hbhx] at hbh;cases hbh
  refine ⟨x,t.C_Ground,dx,_,rfl,s3 _ _ h2x,T.cl_Ground,T.nf_Ground_by_head,by show 1 < 1000;decide,?_⟩
  have e2f:a1D "by_head" (V.ref bh) (a1D "in_order" (V.ref io) [])=([("in_order",V.ref io),("by_head",V.ref bh)]:List (Str×V)):=by
   show (if ("in_order":Str)="by_head" then _ else _)=_
   rw [if_neg (by decide+kernel)];rfl
  obtain ⟨H4,e4,k4,h4x,h4io,h4bh⟩:∃H',upd H3 x (.ins t.C_Ground dx (a1D "by_head" (.ref bh) (a1D "in_order" (.ref io) [])))=H'∧(∀c o,H c=some o→c≠x→H' c=some o)∧H' x=some (.ins t.C_Ground dx (a1D "by_head" (.ref bh) (a1D "in_order" (.ref io) [])))∧H' io=some (.tup xs)∧H' bh=some (.dK []):=
   ⟨_,rfl,fun c o e hc=>by rw [a0a hc];exact s3 _ _ (k2 c o e hc),a0d,by rw [a0a hiox];exact s3 _ _ h2io,by rw [a0a hbhx];exact h3⟩
  rw [e4]
  have lio:(a1D "by_head" (V.ref bh) (a1D "in_order" (V.ref io) [])).lookup ("in_order":Str)=some (V.ref io):=by rw [a0i,if_neg (by decide+kernel),a0i,if_pos rfl]
  have lbh:(a1D "by_head" (V.ref bh) (a1D "in_order" (V.ref io) [])).lookup ("by_head":Str)=some (V.ref bh):=by rw [a0i,if_pos rfl]
  refine ⟨x,_,dx,_,_,rfl,h4x,T.cl_Ground,T.nf_Ground_in_order,lio,?_⟩
  try simp only [a0D]
  refine ⟨⟨_,SqT.of h4io⟩,?_⟩
  refine a9a (K:=K) (a:=io) (xs:=xs) (fun i σ H'=>∃(kvs:List (Key×V)) (y3:Option V),σ=[some (V.ref x),some (V.ref b),some (V.ref pb),y3,none]∧(∀c o,H c=some o→c≠x→H' c=some o)∧H' x=some (.ins t.C_Ground dx (a1D "by_head" (.ref bh) (a1D "in_order" (.ref io) [])))∧H' io=some (.tup xs)∧H' bh=some (.dK kvs)∧kvs.length≤i∧
    (∀h:Str,(a0P kvs (Sum.inr h:Key)=none∧hdF (rs.take i) h=[])∨∃L ys,a0P kvs (Sum.inr h:Key)=some (.ref L)∧H L=none∧H' L=some (.lst ys)∧ys.length≤i∧a1E t H ys (hdF (rs.take i) h))∧
    (∀(h h':Str) (L:Addr),a0P kvs (Sum.inr h:Key)=some (.ref L)→a0P kvs (Sum.inr h':Key)=some (.ref L)→h=h'))
   ⟨[],_,rfl,k4,h4x,h4io,h4bh,Qi _,fun h=>.inl ⟨rfl,rfl⟩,fun h h' L e=>by cases e⟩ (fun i σ H' _ h=>by obtain ⟨_,_,_,_,_,h,_⟩:=h;exact SqT.of h) ?_ ?_
  ·rintro i v σ H5 hi ⟨kvs,y3,rfl,k5,h5x,h5io,h5bh,hkl,hF,hinj⟩
   have hil:i < rs.length:=by rw [←hA.len];exact (Qm.mp hi).1
   obtain ⟨v',ev,p,rfl,hp⟩:=hA.get i rs[i] (Qc hil)
   rw [hi] at ev;cases ev
   have hro:=hO _ (Xi hil)
   have CF:=a8y T hro.1
   have hru:b0M t H (.ref p) rs[i]:=⟨p,rfl,hp⟩
   have esn:∀h,hdF (rs.take (i+1)) h=hdF (rs.take i) h++(if rs[i].2.2.1=h then [rs[i]] else []):=fun h=>by
    unfold hdF
    rw [Qt hil,Zh,Ym]
    by_cases z:rs[i].2.2.1=h
    ·rw [if_pos z,if_pos (decide_eq_true z)];rfl
    ·rw [if_neg z,if_neg (by simpa using z)];rfl
   generalize rs[i]=r at hp hro CF hru esn
   obtain ⟨dx',t0,hp1,hp2⟩:=hp
   have hpx:p≠x:=fun z=>by
    rw [z,hx] at hp1
    injection hp1 with hp1
    injection hp1 with _ _ h3
    have:=a1v (.str r.2.1) (.str r.2.2.1) t0
    rw [←h3] at this;cases this
   have hp5:=k5 _ _ hp1 hpx
   try simp only [a0m,a3n,tBM,a6U,a4q,a0l,Qf,Qg,Qa,Qb,a2Q,a0t,a0h,a0e]
   refine ⟨x,_,dx,_,_,rfl,h5x,T.cl_Ground,T.nf_Ground_by_head,lbh,?_⟩
   try simp only [a0D]
   refine ⟨a2v h5bh,p,_,dx',_,_,rfl,hp5,CF.cl,CF.nh,a1v _ _ _,by decide,fun N hN=>?_⟩
   obtain ⟨H6,e6,s6,h6⟩:=a0V hN (.lst []);rw [e6]
   have hNx:N≠x:=fun z=>by rw [z,h5x] at hN;cases hN
   have hNio:N≠io:=fun z=>by rw [z,h5io] at hN;cases hN
   have hNbh:N≠bh:=fun z=>by rw [z,h5bh] at hN;cases hN
   have hNn:H N=none:=by
    cases e:H N with
    | none=>rfl
    | some o=>rw [k5 _ _ e hNx] at hN;cases hN
   refine ⟨kvs,Sum.inr r.2.2.1,s6 _ _ h5bh,rfl,Xk (show kvs.length≤1000 by omega) (by decide),fun u hu=>?_,fun hu=>?_⟩
   ·rcases hF r.2.2.1 with ⟨e,_⟩ | ⟨L,ys,e,hLn,hL5,hyl,hR⟩
    ·rw [e] at hu;cases hu
    rw [e] at hu;cases hu
    have hL6:=s6 _ _ hL5
    have hLx:L≠x:=a0B hL5 h5x (by intro z;cases z)
    have hLio:L≠io:=a0B hL5 h5io (by intro z;cases z)
    have hLbh:L≠bh:=a0B hL5 h5bh (by intro z;cases z)
    try skip
    refine ⟨.inl ⟨rfl,_,SqL.of hL6⟩,L,_,_,rfl,rfl,hL6,Xk (show ys.length≤1000 by omega) (by decide),?_⟩
    refine ⟨kvs,_,rfl,fun c o e hc=>?_,?_,?_,?_,by omega,fun h=>?_,hinj⟩
    ·rw [a0a (a0c e hLn)];exact s6 _ _ (k5 c o e hc)
    ·rw [a0a hLx.symm];exact s6 _ _ h5x
    ·rw [a0a hLio.symm];exact s6 _ _ h5io
    ·rw [a0a hLbh.symm];exact s6 _ _ h5bh
    ·rw [esn]
     by_cases z:r.2.2.1=h
     ·subst z
      rw [if_pos rfl]
      refine .inr ⟨L,ys++[V.ref p],e,hLn,a0d,by simp;omega,?_⟩
      refine ⟨by simp [hR.len],fun j r' ej=>?_⟩
      by_cases hj:j < (hdF (rs.take i) r.2.2.1).length
      ·rw [Xx hj] at ej
       rw [Xx (by rw [hR.len];exact hj)]
       exact hR.get j r' ej
      ·rw [Xv (by omega)] at ej
       rw [Xv (by rw [hR.len];omega),hR.len]
       have hj0:=(Qm.mp ej).1
       have ej0:j - (hdF (rs.take i) r.2.2.1).length=0:=by simp at hj0;omega
       rw [ej0] at ej ⊢
       cases ej
       exact ⟨_,rfl,hru⟩
     ·rw [if_neg z,Qh]
      rcases hF h with ⟨e',g⟩ | ⟨L',ys',e',g1,g2,g3,g4⟩
      ·exact .inl ⟨e',g⟩
      ·refine .inr ⟨L',ys',e',g1,?_,by omega,g4⟩
       have:L'≠L:=fun w=>z (hinj _ _ L e (by rw [←w];exact e'))
       rw [a0a this];exact s6 _ _ g2
   ·try skip
    have hbN:bh≠N:=hNbh.symm
    refine ⟨.inl ⟨rfl,_,SqL.of (show upd H6 bh (.dK (a2k kvs (Sum.inr r.2.2.1) (V.ref N))) N=some (.lst []) by rw [a0a hNbh];exact h6)⟩,N,_,_,rfl,rfl,(by rw [a0a hNbh];exact h6),by decide,?_⟩
    have kvl:=a0N kvs (Sum.inr r.2.2.1:Key) (V.ref N)
    refine ⟨a2k kvs (Sum.inr r.2.2.1) (V.ref N),_,rfl,fun c o e hc=>?_,?_,?_,?_,by omega,fun h=>?_,fun h h' L e1 e2=>?_⟩
    ·rw [a0a (a0c e hNn),a0a (a0c e hbhn)];exact s6 _ _ (k5 c o e hc)
    ·rw [a0a hNx.symm,a0a hbhx.symm];exact s6 _ _ h5x
    ·rw [a0a hNio.symm,a0a (a0B h5io h5bh (by intro z;cases z))];exact s6 _ _ h5io
    ·rw [a0a hbN,a0d]
    ·rw [esn,a1B]
     by_cases z:r.2.2.1=h
     ·subst z
      rw [if_pos rfl,if_pos rfl]
      rcases hF r.2.2.1 with ⟨e',g⟩ | ⟨L',ys',e',_⟩
      ·rw [g]
       refine .inr ⟨N,[V.ref p],rfl,hNn,a0d,by simp,⟨rfl,fun j r' ej=>?_⟩⟩
       cases j with
       | zero=>cases ej;exact ⟨_,rfl,hru⟩
       | succ j=>simp at ej
      ·rw [e'] at hu;cases hu
     ·rw [if_neg z,Qh,if_neg (fun w=>z (Sum.inr.inj w).symm)]
      rcases hF h with ⟨e',g⟩ | ⟨L',ys',e',g1,g2,g3,g4⟩
      ·exact .inl ⟨e',g⟩
      ·refine .inr ⟨L',ys',e',g1,?_,by omega,g4⟩
       have hLN:L'≠N:=fun w=>by rw [w,hN] at g2;cases g2
       rw [a0a hLN,a0a (a0B g2 h5bh (by intro z;cases z))];exact s6 _ _ g2
    ·rw [a1B] at e1 e2
     by_cases z1:(Sum.inr h:Key)=Sum.inr r.2.2.1
     ·by_cases z2:(Sum.inr h':Key)=Sum.inr r.2.2.1
      ·rw [Sum.inr.inj z1,Sum.inr.inj z2]
      ·rw [if_pos z1] at e1;cases e1
       rw [if_neg z2] at e2
       rcases hF h' with ⟨e',_⟩ | ⟨L',ys',e',_,g2,_⟩
       ·rw [e'] at e2;cases e2
       ·rw [e'] at e2;cases e2;rw [hN] at g2;cases g2
     ·rw [if_neg z1] at e1
      by_cases z2:(Sum.inr h':Key)=Sum.inr r.2.2.1
      ·rw [if_pos z2] at e2;cases e2
       rcases hF h with ⟨e',_⟩ | ⟨L',ys',e',_,g2,_⟩
       ·rw [e'] at e1;cases e1
       ·rw [e'] at e1;cases e1;rw [hN] at g2;cases g2
      ·rw [if_neg z2] at e2
       exact hinj _ _ L e1 e2
  rintro σ H5 ⟨kvs,y3,rfl,k5,h5x,h5io,h5bh,hkl,hF,hinj⟩
  rw [show rs.take xs.length=rs by rw [hxl];exact Xs] at hF
  try simp only [a1r,c0a,a0l,Qa,a0E,a1y,Qb,a0e,a0D]
  intro pr hpr
  obtain ⟨H6,e6,s6,h6⟩:=a0V hpr (.dT []);rw [e6]
  have hprx:pr≠x:=fun z=>by rw [z,h5x] at hpr;cases hpr
  have hprn:H pr=none:=by
   cases e:H pr with
   | none=>rfl
   | some o=>rw [k5 _ _ e hprx] at hpr;cases hpr
  refine ⟨x,t.C_Ground,dx,_,rfl,s6 _ _ h5x,T.cl_Ground,T.nf_Ground_pairs,by rw [e2f];show 2 < 1000;decide,?_⟩
  rw [show a1D "pairs" (V.ref pr) (a1D "by_head" (V.ref bh) (a1D "in_order" (V.ref io) []))=gfl io bh pr from rfl]
  obtain ⟨as,eas,hal,hat⟩:=hPr
  have hiopr:io≠pr:=fun z=>by rw [z,hpr] at h5io;cases h5io
  have hbhpr:bh≠pr:=fun z=>by rw [z,hpr] at h5bh;cases h5bh
  have base:∀H',(∀c o,upd H6 x (.ins t.C_Ground dx (gfl io bh pr)) c=some o→c≠pr→H' c=some o)→(∀c o,H c=some o→c≠x→H' c=some o)∧(∀kps,H' pr=some (.dT kps)→c0O kps pl→a4t t H' x rs pl):=fun H' kk=>by
   have k7:∀c o,H c=some o→c≠x→H' c=some o:=fun c o e hc=>kk c o (by rw [a0a hc];exact s6 _ _ (k5 c o e hc)) (a0c e hprn)
   refine ⟨k7,fun kps hk hp=>⟨dx,io,bh,pr,xs,kvs,kps,kk _ _ a0d hprx.symm,kk _ _ (by rw [a0a hiox];exact s6 _ _ h5io) hiopr,hA.refs hx k7,kk _ _ (by rw [a0a hbhx];exact s6 _ _ h5bh) hbhpr,fun h=>?_,hk,hp⟩⟩
   rcases hF h with z | ⟨L,ys,e,_,g2,_,g4⟩
   ·exact .inl z
   ·exact .inr ⟨L,ys,e,kk _ _ (by rw [a0a (a0B g2 h5x (by intro z;cases z))];exact s6 _ _ g2) (fun z=>by rw [z,hpr] at g2;cases g2),g4.refs hx k7⟩
  have hpb7:upd H6 x (.ins t.C_Ground dx (gfl io bh pr)) pb=some (.lst ps):=by
   have hpx:=a0B hpb hx (by intro z;cases z)
   rw [a0a hpx];exact s6 _ _ (k5 _ _ hpb hpx)
  have hpr7:upd H6 x (.ins t.C_Ground dx (gfl io bh pr)) pr=some (.dT []):=by rw [a0a hprx];exact h6
  have hx7:upd H6 x (.ins t.C_Ground dx (gfl io bh pr)) x=some (.ins t.C_Ground dx (gfl io bh pr)):=a0d
  have hpbpr:pb≠pr:=a0c hpb hprn
  obtain ⟨H7,e7⟩:∃H7,upd H6 x (.ins t.C_Ground dx (gfl io bh pr))=H7:=⟨_,rfl⟩
  rw [e7] at base hpb7 hpr7 hx7 ⊢
  refine ⟨⟨_,SqL.of hpb7⟩,?_⟩
  refine a1x (K:=K) (a:=pb) (xs:=ps) (fun i σ H'=>∃(kps:List (List Key×V)) (y4:Option V),σ=[some (V.ref x),some (V.ref b),some (V.ref pb),y3,y4]∧(∀c o,H7 c=some o→c≠pr→H' c=some o)∧H' pr=some (.dT kps)∧kps.length≤i∧c0O kps (pl.take i))
   ⟨[],_,rfl,fun c o e _=>e,hpr7,Qi _,fun a b=>by rw [Jm,if_neg (by simp)];rfl⟩ (fun i σ H' _ h=>by obtain ⟨_,_,_,kk,_⟩:=h;exact SqL.of (kk _ _ hpb7 hpbpr)) ?_ ?_
  ·rintro i v σ H8 hi ⟨kps,y4,rfl,kk,h8,hkl8,hpo⟩
   have hil:i < as.length:=by
    have:=(Qm.mp hi).1
    rw [eas,Qe] at this;exact this
   have hil':i < pl.length:=by omega
   have ev:v=V.ref as[i]:=by
    rw [eas,Qn,Qc hil] at hi
    exact (Option.some.inj hi).symm
   subst ev
   have hp:=hat i _ _ (Qc hil) (Qc hil')
   have hp8:=(base H8 kk).1 _ _ hp (a0B hp hx (by intro z;cases z))
   have hx8:=kk _ _ hx7 hprx.symm
   rw [Qt hil']
   generalize pl[i]=pp at hp hp8
   generalize pl.take i=pt at hpo
   try simp only [a0m,a3z,tC,a4q,a0l,Qf,Qg,Qa,a6Q,a0h,tOp,Qb,a0t,a0e]
   refine ⟨x,_,dx,_,_,rfl,hx8,T.cl_Ground,T.nf_Ground_pairs,b3a _ _ _,?_⟩
   refine a1O (SqT.of hp8) rfl (a1O (SqT.of hp8) rfl ⟨by simp only [Qo,Xb];decide,fun c hc=>?_⟩)
   obtain ⟨H9,e9,s9,h9⟩:=a0V hc (.tup [V.str pp.1,V.str pp.2]);rw [e9]
   refine ⟨pr,_,rfl,a4k.t (k:=[Sum.inr pp.1,Sum.inr pp.2]) (s9 _ _ h8) h9 (Xk (show kps.length≤1000 by omega) (by decide)),a2k kps [Sum.inr pp.1,Sum.inr pp.2] (V.bl true),_,rfl,?_,a0d,by have:=a0N kps ([Sum.inr pp.1,Sum.inr pp.2]:List Key) (V.bl true);omega,fun a b=>?_⟩
   ·intro d o e hd;rw [a0a hd];exact s9 _ _ (kk d o e hd)
   ·rw [a1B,hpo]
    by_cases z:(a,b)=pp
    ·rw [if_pos (by rw [←z]),if_pos (by rw [←z];simp)]
    ·rw [if_neg (fun w=>z (by
      have w1:=congrArg (fun l:List Key=>l.head?) w
      have w2:=congrArg (fun l:List Key=>l.getLast?) w
      simp at w1 w2
      exact Prod.ext w1 w2))]
     by_cases y:(a,b)∈pt
     ·rw [if_pos y,if_pos (Yy _ y)]
     ·rw [if_neg y,if_neg (by simp [y,z])]
  ·rintro σ H8 ⟨kps,y4,rfl,kk,h8,hkl8,hpo⟩
   rw [show pl.take ps.length=pl by rw [eas,Qe,hal,Xs]] at hpo
   try simp only []
   obtain ⟨b1,b2⟩:=base H8 kk
   exact q _ b1 (b2 kps h8 hpo)
theorem a2z (T:Txt K mg t):a1a P w K mg base CX0 1 t.f_z12 t.fd_z12 ["_law_script","_law_k"] (b9U K):=by
 refine T.F_z12.ok b9n (fun vs H Q E h=>?_) (fun cdv A outer s H vs Q E hr h=>?_)
 ·obtain ⟨a,ns,k,rfl,hS,hl,k0,k1,q⟩:=h;rfl
 ·obtain ⟨a,ns,k,rfl,hS,hl,k0,k1,q⟩:=h
  refine ⟨_,‹A2 (B4 (B1 b0y 1 (C4 a1t T.z_len a1u (A0 0 A1)) (a0n _)) (A4 (A9 (B2 a0s 0 1))) B7) (A4 (A9 A3))›,?_⟩
  rw [show start b7U [V.ref a,V.int k]=[some (V.ref a),some (V.int k)] from rfl]
  try simp only [a1r,a2T,a0R,tOp,a0l,Qb,Qa,tCB,a0h,a0t,a1j,a0e,a1m,tC]
  refine a1Y hS ?_
  try simp only [a4E,a1e,decide_eq_true_eq]
  refine a1C (fun c=>?_) (fun c=>q 0)
  obtain ⟨v,e,hv,_⟩:=a3i (xs:=ns.map V.int) (i:=k) k0 (by simpa using c)
  obtain ⟨i,_,rfl⟩:=Ql.mp hv
  exact a0o hS e (q i)
theorem b9a (T:Txt K mg t):a1a P w K mg base CX0 1 t.f_z1r t.fd_z1r ["_law_rows_here"] c4V:=by
 refine T.F_z1r.ok a9B (fun vs H Q E h=>?_) (fun cdv A outer s H vs Q E hr h=>?_)
 ·obtain ⟨a,xs,rs,rfl,ha,hA,hrl,q⟩:=h;rfl
 ·obtain ⟨a,xs,rs,rfl,ha,hA,hrl,q⟩:=h
  refine ⟨_,‹A2 (A6 1 a9B.nd C9) (A2 (B8 (B6 0) (A8 2 a9B.nd) (A4 (C7 (C8 Yc Xy Xz a0S (G4 1 (B2 a0s 2 A3) (B5 A1)) (A0 2 A1))))) (A4 (A9 1)))›,?_⟩
  rw [show start b9t [V.ref a]=[some (V.ref a),none,none] from rfl]
  have hxl:=hA.len
  try simp only [a1r,a1K,a1V,a0m,Qf,Qg,a0E,a1y,a0l,Qa,a0e,a0D]
  intro bh hbh
  obtain ⟨H1,e1,s1,h1⟩:=a0V hbh (.dK []);rw [e1]
  refine ⟨⟨_,SqL.of (s1 _ _ ha)⟩,?_⟩
  refine a1x (K:=K) (a:=a) (xs:=xs) (fun i σ H'=>∃(kvs:List (Key×V)) (y2:Option V),σ=[some (V.ref a),some (V.ref bh),y2]∧a0f H H'∧H' bh=some (.dK kvs)∧kvs.length≤i∧
    (∀h:Str,(a0P kvs (Sum.inr h:Key)=none∧hdF (rs.take i) h=[])∨∃L ys,a0P kvs (Sum.inr h:Key)=some (.ref L)∧H L=none∧H' L=some (.lst ys)∧ys.length≤i∧a2s H ys (hdF (rs.take i) h))∧
    (∀(h h':Str) (L:Addr),a0P kvs (Sum.inr h:Key)=some (.ref L)→a0P kvs (Sum.inr h':Key)=some (.ref L)→h=h'))
   ⟨[],_,rfl,s1,h1,Qi _,fun h=>.inl ⟨rfl,rfl⟩,fun h h' L e=>by cases e⟩ (fun i σ H' _ h=>by obtain ⟨_,_,_,s,_⟩:=h;exact SqL.of (s _ _ ha)) ?_ ?_
  ·rintro i v σ H5 hi ⟨kvs,y2,rfl,s5,h5bh,hkl,hF,hinj⟩
   have hil:i < rs.length:=by rw [←hA.len];exact (Qm.mp hi).1
   obtain ⟨v',ev,hru⟩:=hA.get i rs[i] (Qc hil)
   rw [hi] at ev;cases ev
   have esn:∀h,hdF (rs.take (i+1)) h=hdF (rs.take i) h++(if rs[i].2.2.1=h then [rs[i]] else []):=fun h=>by
    unfold hdF
    rw [Qt hil,Zh,Ym]
    by_cases z:rs[i].2.2.1=h
    ·rw [if_pos z,if_pos (decide_eq_true z)];rfl
    ·rw [if_neg z,if_neg (by simpa using z)];rfl
   generalize rs[i]=r at hru esn
   obtain ⟨p,t1,rfl,hp1,hp2⟩:=id hru
   have hp5:=s5 _ _ hp1
   try simp only [a0m,a3n,tBM,a6U,a0l,Qf,Qg,Qb,Qa,tOp,tC,a2Q,a0t,a0h,a0e,a0D]
   refine ⟨a2v h5bh,a1O (SqT.of hp5) rfl ⟨by decide,fun N hN=>?_⟩⟩
   obtain ⟨H6,e6,s6,h6⟩:=a0V hN (.lst []);rw [e6]
   have hNbh:N≠bh:=fun z=>by rw [z,h5bh] at hN;cases hN
   have hNn:H N=none:=none_of s5 hN
   refine ⟨kvs,Sum.inr r.2.2.1,s6 _ _ h5bh,rfl,Xk (show kvs.length≤1000 by omega) (by decide),fun u hu=>?_,fun hu=>?_⟩
   ·rcases hF r.2.2.1 with ⟨e,_⟩ | ⟨L,ys,e,hLn,hL5,hyl,hR⟩
    ·rw [e] at hu;cases hu
    rw [e] at hu;cases hu
    have hL6:=s6 _ _ hL5
    have hLbh:L≠bh:=a0B hL5 h5bh (by intro z;cases z)
    try skip
    refine ⟨.inl ⟨rfl,_,SqL.of hL6⟩,L,_,_,rfl,rfl,hL6,Xk (show ys.length≤1000 by omega) (by decide),?_⟩
    refine ⟨kvs,_,rfl,fun c o e=>?_,?_,by omega,fun h=>?_,hinj⟩
    ·rw [a0a (a0c e hLn)];exact s6 _ _ (s5 c o e)
    ·rw [a0a hLbh.symm];exact s6 _ _ h5bh
    ·rw [esn]
     by_cases z:r.2.2.1=h
     ·subst z
      rw [if_pos rfl]
      refine .inr ⟨L,ys++[V.ref p],e,hLn,a0d,by simp;omega,?_⟩
      refine ⟨by simp [hR.len],fun j r' ej=>?_⟩
      by_cases hj:j < (hdF (rs.take i) r.2.2.1).length
      ·rw [Xx hj] at ej
       rw [Xx (by rw [hR.len];exact hj)]
       exact hR.get j r' ej
      ·rw [Xv (by omega)] at ej
       rw [Xv (by rw [hR.len];omega),hR.len]
       have hj0:=(Qm.mp ej).1
       have ej0:j - (hdF (rs.take i) r.2.2.1).length=0:=by simp at hj0;omega
       rw [ej0] at ej ⊢
       cases ej
       exact ⟨_,rfl,hru⟩
     ·rw [if_neg z,Qh]
      rcases hF h with ⟨e',g⟩ | ⟨L',ys',e',g1,g2,g3,g4⟩
      ·exact .inl ⟨e',g⟩
      ·refine .inr ⟨L',ys',e',g1,?_,by omega,g4⟩
       have:L'≠L:=fun w=>z (hinj _ _ L e (by rw [←w];exact e'))
       rw [a0a this];exact s6 _ _ g2
   ·try skip
    have hbN:bh≠N:=hNbh.symm
    refine ⟨.inl ⟨rfl,_,SqL.of (show upd H6 bh (.dK (a2k kvs (Sum.inr r.2.2.1) (V.ref N))) N=some (.lst []) by rw [a0a hNbh];exact h6)⟩,N,_,_,rfl,rfl,(by rw [a0a hNbh];exact h6),by decide,?_⟩
    have kvl:=a0N kvs (Sum.inr r.2.2.1:Key) (V.ref N)
    refine ⟨a2k kvs (Sum.inr r.2.2.1) (V.ref N),_,rfl,fun c o e=>?_,?_,by omega,fun h=>?_,fun h h' L e1 e2=>?_⟩
    ·rw [a0a (a0c e hNn),a0a (a0c e hbh)];exact s6 _ _ (s5 c o e)
    ·rw [a0a hbN,a0d]
    ·rw [esn,a1B]
     by_cases z:r.2.2.1=h
     ·subst z
      rw [if_pos rfl,if_pos rfl]
      rcases hF r.2.2.1 with ⟨e',g⟩ | ⟨L',ys',e',_⟩
      ·rw [g]
       refine .inr ⟨N,[V.ref p],rfl,hNn,a0d,by simp,⟨rfl,fun j r' ej=>?_⟩⟩
       cases j with
       | zero=>cases ej;exact ⟨_,rfl,hru⟩
       | succ j=>simp at ej
      ·rw [e'] at hu;cases hu
     ·rw [if_neg z,Qh,if_neg (fun w=>z (Sum.inr.inj w).symm)]
      rcases hF h with ⟨e',g⟩ | ⟨L',ys',e',g1,g2,g3,g4⟩
      ·exact .inl ⟨e',g⟩
      ·refine .inr ⟨L',ys',e',g1,?_,by omega,g4⟩
       have hLN:L'≠N:=fun w=>by rw [w,hN] at g2;cases g2
       rw [a0a hLN,a0a (a0B g2 h5bh (by intro z;cases z))];exact s6 _ _ g2
    ·rw [a1B] at e1 e2
     by_cases z1:(Sum.inr h:Key)=Sum.inr r.2.2.1
     ·by_cases z2:(Sum.inr h':Key)=Sum.inr r.2.2.1
      ·rw [Sum.inr.inj z1,Sum.inr.inj z2]
      ·rw [if_pos z1] at e1;cases e1
       rw [if_neg z2] at e2
       rcases hF h' with ⟨e',_⟩ | ⟨L',ys',e',_,g2,_⟩
       ·rw [e'] at e2;cases e2
       ·rw [e'] at e2;cases e2;rw [hN] at g2;cases g2
     ·rw [if_neg z1] at e1
      by_cases z2:(Sum.inr h':Key)=Sum.inr r.2.2.1
      ·rw [if_pos z2] at e2;cases e2
       rcases hF h with ⟨e',_⟩ | ⟨L',ys',e',_,g2,_⟩
       ·rw [e'] at e1;cases e1
       ·rw [e'] at e1;cases e1;rw [hN] at g2;cases g2
      ·rw [if_neg z2] at e2
       exact hinj _ _ L e1 e2
  rintro σ H5 ⟨kvs,y2,rfl,s5,h5bh,hkl,hF,hinj⟩
  rw [show rs.take xs.length=rs by rw [hxl];exact Xs] at hF
  try simp only [a1j,a0l,Qb,Qa,a0e]
  refine q bh H5 s5 hbh ⟨kvs,h5bh,fun h=>(hF h).imp id fun ⟨L,ys,a,_,b,_,c⟩=>⟨L,ys,a,b,c.same s5⟩⟩
theorem b2X (T:Txt K mg t):a1a P w K mg base CX0 1 t.f_z1a t.fd_z1a ["_law_pairs_here","_law_row_here","_law_some"] a8Q:=by
 refine T.F_z1a.ok b7P (fun vs H Q E h=>?_) (fun cdv A outer s H vs Q E hr h=>?_)
 ·obtain ⟨P0,G,v,ps,pl,r,zs,rfl,hP,hPr,hPo,hv,hro,hG,hz,hzl,q⟩:=h;rfl
 ·obtain ⟨P0,G,v,ps,pl,r,zs,rfl,hP,hPr,hPo,hv,hro,hG,hz,hzl,q⟩:=h
  refine ⟨_,‹A4 (A9 (E2 (a5R hr.units) (C0 (B3 (a0b a7Q) b4Q ["_law_one","_law_pairs_here","_law_row_here"] [none,some 0,some 1]) (B6 2) (A8 0 (show Xf (["_law_one","_law_pairs_here","_law_row_here"]:List Str) by decide+kernel)) (C1 (B1 (b5J hr.units (K:=K) rfl) (C5 (A0 (B2 (a2W (K:=K) rfl) 0 A3) (A0 (B2 (a2W (K:=K) rfl) 2 A3) A1))) 1 (by with_unfolding_all rfl))) 0) (B5 A1) (a0n _)))›,?_⟩
  rw [show start b4Q [V.ref P0,v,V.ref G]=[some (V.ref P0),some (v),some (V.ref G)] from rfl]
  try simp only [a1j,tOp,a2Q,a0t,a0p,a1y,a0l,Qb,Qa,a0e,a0D]
  refine ⟨⟨_,SqL.of hG⟩,?_⟩
  refine a2C (fun H' v r=>a4S H' v r∧a1A r) (0,"","",[]) zs hG (by omega) (fun H' s=>hz.same s) [some (V.ref P0),some v] rfl (fun b=>decide ((b.2.1,r.2.1)∈pl)) (fun p=>p.1) (fun x b H' R' hx s' hR'=>?_) (fun x b H' R' hx s' hR'=>?_) (fun W H5 hWn s5 hW5=>?_)
  ·obtain ⟨⟨p,t1,rfl,hp,ht⟩,hbo⟩:=hx
   obtain ⟨p',t2,rfl,hp',ht'⟩:=hv
   try simp only [a0R,tOp,a6Q,a0h,a0l,Qa,tC,Qb,a0t,a0e]
   refine a1O (SqT.of hp) rfl (a1O (SqT.of (s' _ _ hp')) rfl ⟨by simp only [Qo,Xb];decide,fun c hc=>?_⟩)
   obtain ⟨H6,e6,s6,h6⟩:=a0V hc (.tup [V.str b.2.1,V.str r.2.1]);rw [e6]
   exact ⟨c,P0,_,_,ps,pl,rfl,rfl,h6,SqL.of (s6 _ _ (s' _ _ hP)),a0K.same s6 (a0K.same s' hPr),⟨hbo.2.2.1.1,hro.2.2.1.1⟩,hPo,_,rfl,hR' _ s6⟩
  ·try simp only [a0l,Qa,a0e]
   exact hR' _ (a0f.refl _)
  try skip
  refine ⟨Xa _,fun p7 hp7=>?_⟩
  obtain ⟨H7,e7,s7,h7⟩:=a0V hp7 (.lst []);rw [e7]
  refine a7x (s7 _ _ hW5) (SqL.of h7) (fun p hp=>((hz.same s5).same s7) p (Qv.mp hp).1) ?_
  have e:(!decide (zs.filter (fun p=>decide ((p.2.2.1,r.2.1)∈pl))=[]))=btn pl (zs.map (·.2)) r:=by
   unfold btn
   rw [Zy,Xu,Yu,decide_eq_false_iff_not,Zq,Ze]
   simp
  rw [e]
  exact q _ (s5.trans s7)
theorem b3H (T:Txt K mg t):a1a P w K mg base CX0 1 t.f_z1f t.fd_z1f ["_law_row_here","_law_down"] b4J:=by
 refine T.F_z1f.ok b8k (fun vs H Q E h=>?_) (fun cdv A outer s H vs Q E hr h=>?_)
 ·obtain ⟨v,a,r,U,rfl,hv,hro,ha,q⟩:=h;rfl
 ·obtain ⟨v,a,r,U,rfl,hv,hro,ha,q⟩:=h
  refine ⟨_,‹A4 (A9 (E2 (a5R hr.units) (C0 (B3 (a0b a7I) b5R ["_law_p","_law_down"] [none,some 1]) (F0 (B2 a0s 0 A3)) (A8 0 (show Xf (["_law_p","_law_down"]:List Str) by decide+kernel)) (C1 (D1 (a2F (a3b hr) ‹0› ‹1›))) 0) (B5 A1) (a0n _)))›,?_⟩
  rw [show start b5R [v,V.ref a]=[some (v),some (V.ref a)] from rfl]
  obtain ⟨p,t1,rfl,hp,ht⟩:=hv
  have hbl:r.2.2.2.length≤4:=hro.2.2.2.2.2
  have hbo:∀q∈r.2.2.2,OkS q:=hro.2.2.2.2.1
  try simp only [a1j,tOp,a2Q,a0t,a0p,b5V,a0l,Qa,tC,a0e]
  refine a1O (SqT.of hp) rfl ?_
  generalize r.2.2.2=bd at hbl hbo ht q
  try simp only [a0D]
  refine ⟨⟨_,SqT.of ht⟩,?_⟩
  refine a3T (a4G (xs:=bd.map V.str)) (Qj (show (bd.map V.str).length≤1000 by rw [Qe];omega) (by decide)) [some (V.ref a)] rfl (fun i=>decide (((bd[i]?).getD "")∈U)) (fun i=>V.str ((bd[i]?).getD "")) (fun H'' s=>SqT.of (s _ _ ht)) (fun i H'' R'' hi s hR''=>?_) (fun i H'' R'' hi s hR''=>?_) (fun C H6 hCn s6 hC=>?_)
  ·have hi':i < bd.length:=by simpa using hi
   have e2:((bd.map V.str)[i]?).getD .non=V.str bd[i]:=by rw [Qn,Qc hi'];rfl
   rw [e2]
   rw [Qc hi',Xr] at hR''
   try simp only [tB,b6p,a0l,Qa,Qb,a1e,a0e]
   obtain ⟨o,ho,eo⟩:=(ha.same s).get bd[i]
   refine ⟨a,o,rfl,ho,?_⟩
   have:=hR'' _ (a0f.refl _)
   rw [eo]
   exact this
  ·have hi':i < bd.length:=by simpa using hi
   have e2:((bd.map V.str)[i]?).getD .non=V.str bd[i]:=by rw [Qn,Qc hi'];rfl
   rw [e2]
   rw [Qc hi',Xr] at hR''
   try simp only [a0l,Qa,a0e]
   exact hR'' _ (a0f.refl _)
  rw [show (bd.map V.str).length=bd.length by simp,a0T ("":Str) (fun z=>decide (z∈U)) V.str bd] at hC
  try skip
  refine ⟨Xa _,fun p7 hp7=>?_⟩
  obtain ⟨H7,e7,s7,h7⟩:=a0V hp7 (.lst []);rw [e7]
  refine b5r (SqL.of (s7 _ _ hC)) (SqL.of h7) (fun z hz=>(hbo z (Qv.mp hz).1).1) ?_
  have e:(!decide (bd.filter (fun z=>decide (z∈U))=[]))=a2V bd U:=by
   unfold a2V
   rw [Xu,Yu,decide_eq_false_iff_not,Zq,Ze]
   simp
  rw [e]
  exact q _ (s6.trans s7)
theorem a7j (T:Txt K mg t):a1a P w K mg base CX0 1 t.f_z1e t.fd_z1e ["_law_q"] b9M:=by
 refine T.F_z1e.ok b7v (fun vs H Q E h=>?_) (fun cdv A outer s H vs Q E hr h=>?_)
 ·obtain ⟨z,rfl,hz,q⟩:=h;rfl
 ·obtain ⟨z,rfl,hz,q⟩:=h
  refine ⟨_,‹A2 (B4 (C2 (C8 Wk Ux Uy a5A 0 (A0 B0 A1))) (A4 (A9 (G5 0 (F8 A3) H0))) B7) (A4 (A9 (A5 a0u B0 0)))›,?_⟩
  rw [show start b7m [V.str z]=[some (V.str z)] from rfl]
  unfold a1i at q
  try simp only [a1r,a2T,tB,tBM,a0l,Qa,a0h,tC,a0t,a1j,tSl,b2S,a6v,b5u,a0e,a7n,a1m,tOp,a1s,a4j,a1e,b1r]
  refine a1C (fun c=>?_) (fun c=>?_)
  ·rw [if_pos c] at q
   exact ⟨a3r (by omega),q⟩
  ·rw [if_neg c] at q
   exact ⟨Qj (Nat.add_le_add (show (Jw "-").length≤1 by decide+kernel) hz) (by decide),q⟩
theorem b3O (T:Txt K mg t):a1a P w K mg base CX0 1 t.f_z19 t.fd_z19 ["_law_row_here","_law_up"] b2m:=by
 refine T.F_z19.ok b9J (fun vs H Q E h=>?_) (fun cdv A outer s H vs Q E hr h=>?_)
 ·obtain ⟨v,a,r,U,rfl,hv,hro,ha,q⟩:=h;rfl
 ·obtain ⟨v,a,r,U,rfl,hv,hro,ha,q⟩:=h
  refine ⟨_,‹A4 (A9 (E2 (a1g hr.units) (C0 (B3 (a0b a7T) b5X ["_law_p","_law_up"] [none,some 1]) (F0 (B2 a0s 0 A3)) (A8 0 (show Xf (["_law_p","_law_up"]:List Str) by decide+kernel)) (C1 (D1 ‹F1 0 1›)) 0) (B5 A1) (a0n _)))›,?_⟩
  rw [show start b5X [v,V.ref a]=[some (v),some (V.ref a)] from rfl]
  obtain ⟨p,t1,rfl,hp,ht⟩:=hv
  have hbl:r.2.2.2.length≤4:=hro.2.2.2.2.2
  have hbo:∀q∈r.2.2.2,OkS q:=hro.2.2.2.2.1
  try simp only [a1j,tOp,a2Q,a0t,a0p,b5V,a0l,Qa,tC,a0e]
  refine a1O (SqT.of hp) rfl ?_
  generalize r.2.2.2=bd at hbl hbo ht q
  try simp only [a0D]
  refine ⟨⟨_,SqT.of ht⟩,?_⟩
  refine a3T (a4G (xs:=bd.map V.str)) (Qj (show (bd.map V.str).length≤1000 by rw [Qe];omega) (by decide)) [some (V.ref a)] rfl (fun i=>decide (((bd[i]?).getD "")∉U)) (fun i=>V.str ((bd[i]?).getD "")) (fun H'' s=>SqT.of (s _ _ ht)) (fun i H'' R'' hi s hR''=>?_) (fun i H'' R'' hi s hR''=>?_) (fun C H6 hCn s6 hC=>?_)
  ·have hi':i < bd.length:=by simpa using hi
   have e2:((bd.map V.str)[i]?).getD .non=V.str bd[i]:=by rw [Qn,Qc hi'];rfl
   rw [e2]
   rw [Qc hi',Xr] at hR''
   try simp only [tB,a3d,a0l,Qa,Qb,a1e,a0e]
   obtain ⟨o,ho,eo⟩:=(ha.same s).get bd[i]
   refine ⟨a,o,rfl,ho,?_⟩
   have:=hR'' _ (a0f.refl _)
   rw [eo,show (!decide (bd[i]∈U))=decide (bd[i]∉U) from by simp]
   exact this
  ·have hi':i < bd.length:=by simpa using hi
   have e2:((bd.map V.str)[i]?).getD .non=V.str bd[i]:=by rw [Qn,Qc hi'];rfl
   rw [e2]
   rw [Qc hi',Xr] at hR''
   try simp only [a0l,Qa,a0e]
   exact hR'' _ (a0f.refl _)
  rw [show (bd.map V.str).length=bd.length by simp,a0T ("":Str) (fun z=>decide (z∉U)) V.str bd] at hC
  try skip
  refine ⟨Xa _,fun p7 hp7=>?_⟩
  obtain ⟨H7,e7,s7,h7⟩:=a0V hp7 (.lst []);rw [e7]
  refine b6h (SqL.of (s7 _ _ hC)) (SqL.of h7) (fun z hz=>(hbo z (Qv.mp hz).1).1) ?_
  rw [a7L]
  exact q _ (s6.trans s7)
theorem b7f (T:Txt K mg t):a1a P w K mg base CX0 2 t.f_z1m t.fd_z1m ["_law_by_here","_law_pairs_here","_law_firm","_law_up","_law_down","_law_q"] (a6D a2f):=by
 refine T.F_z1m.ok b0U (fun vs H Q E h=>?_) (fun cdv A outer s H vs Q E hr h=>?_)
 ·obtain ⟨B,P0,a1,a2,a3,q0,rs,ps,pl,S,U,D,rfl,hB,hO,hrl,hP,hPr,hPo,h1,h2,h3,hql,q⟩:=h;rfl
 ·obtain ⟨B,P0,a1,a2,a3,q0,rs,ps,pl,S,U,D,rfl,hB,hO,hrl,hP,hPr,hPo,h1,h2,h3,hql,q⟩:=h
  refine ⟨_,‹A2 (B4 (B1 a2G 5 2 (by with_unfolding_all rfl)) (A4 (A9 B9)) B7) (A2 (A6 6 b0U.nd (C0 (B3 (a0b a5j) b1q ["_law_row_here","_law_up"] [none,some 3]) (B6 (F2 0 5 (B5 A1))) (A8 0 (show Xf (["_law_row_here","_law_up"]:List Str) by decide+kernel)) (C1 (D0 (F3 (B1 (b3Q hr.units (K:=K) rfl) (B2 (a2W (K:=K) rfl) 0 A3) B0 (a0n _)) (F4 (C2 (A7 (b3O T) T.g_z19 T.F_z19.kp T.b_z19 .nil (A0 0 (A0 1 A1)))))))) 0)) (D4 (B4 (D0 (E3 (B1 (a1g hr.units) 6 (B5 A1) (a0n _)) (E6 (B1 a2G (A7 (a7j T) T.g_z1e T.F_z1e.kp T.b_z1e .nil (A0 5 A1)) 2 (by with_unfolding_all rfl))))) (A4 (A9 B9)) B7) (A2 (D5 7 (B3 (a0b a5j) b1q ["_law_row_here","_law_down"] [none,some 4]) (B6 (F2 0 (A7 (a7j T) T.g_z1e T.F_z1e.kp T.b_z1e .nil (A0 5 A1)) (B5 A1))) (A8 0 (show Xf (["_law_row_here","_law_down"]:List Str) by decide+kernel)) (C1 (E4 (C2 (A7 (b3H T) T.g_z1f T.F_z1f.kp T.b_z1f .nil (A0 0 (A0 1 A1)))))) 0 b0U.nd) (A4 (A9 (E2 (a1g hr.units) (C0 (B3 (a0b a5j) b1q ["_law_row_here","_law_pairs_here","_law_good"] [none,some 1,some 6]) (B6 7) (A8 0 (show Xf (["_law_row_here","_law_pairs_here","_law_good"]:List Str) by decide+kernel)) (C1 (E4 (C2 (A7 (b2X T) T.g_z1a T.F_z1a.kp T.b_z1a .nil (A0 1 (A0 0 (A0 2 A1))))))) 0) (B5 A1) (a0n _)))))))›,?_⟩
  rw [show start b1q [V.ref B,V.ref P0,V.ref a1,V.ref a2,V.ref a3,V.str q0]=[some (V.ref B),some (V.ref P0),some (V.ref a1),some (V.ref a2),some (V.ref a3),some (V.str q0),none,none] from rfl]
  try simp only [a1r,a2T,a0R,tOp,a0l,Qb,Qa,a1j,tC,a1m,a1K,a0m,a0p,a1y,a5D,a0x,a0h,a0t,Qh,a2Q,Qf,Qg,a0e,a0D]
  refine a3c (SqL.of h1) ?_
  try simp only [a1e,decide_eq_true_eq]
  refine a1C (fun c0=>?_) (fun c0=>?_)
  ·have:=q H (a0f.refl _)
   unfold a2f at this
   rw [if_pos c0] at this
   exact this
  obtain ⟨kvs,hk,_⟩:=id hB
  refine ⟨a2v hk,by decide,fun N hN=>?_⟩
  obtain ⟨H1,e1,s1,hN1⟩:=a0V hN (.lst []);rw [e1]
  obtain ⟨_,o,hDg,L,zr,eL,hL,hz,ez⟩:=a6Y (hB.same s1) hN1 hO q0
  have hzl:zr.length≤63:=by
   have:=congrArg Yl ez
   rw [Qe] at this
   rw [this];exact Qj (Qq _ _) hrl
  refine ⟨o,hDg,?_⟩
  rw [eL]
  try simp only [a0D]
  refine ⟨⟨_,SqL.of hL⟩,?_⟩
  refine a2C (fun H' v r=>a4S H' v r∧a1A r) (0,"","",[]) zr hL (by omega) (fun H' s=>hz.same s) [some (V.ref a2)] rfl (fun r=>spk r && a3f r.2.2.2 U) (fun p=>p.1) (fun x r H' R' hx s' hR'=>?_) (fun x r H' R' hx s' hR'=>?_) (fun W H4 hWn s4 hW4=>?_)
  ·have hx':=hx
   obtain ⟨⟨p,t1,rfl,hp,ht⟩,hro⟩:=hx
   try simp only [b6s,a0R,tOp,a0l,Qa,tC,tB,a0x,a0h,Qb,a0t,Qh,a0e]
   refine a1O (SqT.of hp) rfl ?_
   try simp only [a6V,a1e,Yu,decide_eq_false_iff_not]
   refine a1C (fun c1=>?_) (fun c1=>?_)
   ·rw [a7t hro.1 c1,Zd] at hR'
    refine ⟨_,a2,r,U,rfl,hx'.1,hro,h2.same (s1.trans s'),fun H'' s''=>?_⟩
    try simp only [a1e]
    exact hR' _ s''
   ·have:=hR' _ (a0f.refl _)
    rw [a6W hro.1 c1,Zw] at this
    exact this
  ·try simp only [a0l,Qa,a0e]
   exact hR' _ (a0f.refl _)
  have s04:=s1.trans s4
  have hz4:a9Y H4 (zr.filter fun p=>spk p.2 && a3f p.2.2.2.2 U):=fun p hp=>(hz.same s4) p (Qv.mp hp).1
  have hzl4:(zr.filter fun p=>spk p.2 && a3f p.2.2.2.2 U).length≤63:=Qj (Qq _ _) hzl
  have est:(zr.filter fun p=>spk p.2 && a3f p.2.2.2.2 U).map (·.2)=a2A rs U q0:=by
   unfold a2A
   rw [←ez,Zr,Zk]
   refine congrArg (Gh _) (Zt fun p _=>?_)
   simp only [Function.comp]
   rw [Ua]
  generalize (zr.filter fun p=>spk p.2 && a3f p.2.2.2.2 U)=zs at hW4 hz4 hzl4 est
  have hemp:(a2A rs U q0=[])↔zs=[]:=by rw [←est,Ww]
  have hneed:∀H',a0f H H'→(a2A rs U q0=[]∨a1i q0∈S)→Q (.bl false) H':=fun H' s' hc=>by
   have:=q H' s'
   unfold a2f at this
   rw [if_neg c0,if_pos hc] at this
   exact this
  try skip
  refine ⟨fun σ' H'=>σ'=[some (V.ref B),some (V.ref P0),some (V.ref a1),some (V.ref a2),some (V.ref a3),some (V.str q0),some (V.ref W),none]∧a0f H4 H'∧¬(a2A rs U q0=[]∨a1i q0∈S),?_,?_⟩
  ·try simp only [a2T,tOr,a0R,tOp,a0l,Qb,Qa,a2Q,a0t,a1j,tC,a1m,if_true,a0x,a0h,Qh,a0e]
   refine ⟨Xa _,fun p7 hp7=>?_⟩
   obtain ⟨H7,e7,s7,h7⟩:=a0V hp7 (.lst []);rw [e7]
   refine a4W (s7 _ _ hW4) (SqL.of h7) (hz4.same s7) ?_
   try simp only [a1e,decide_eq_true_eq]
   refine a1C (fun c1=>hneed _ (s04.trans s7) (.inl (hemp.mpr c1))) (fun c1=>?_)
   refine ⟨q0,rfl,hql,a3c (SqL.of ((s04.trans s7) _ _ h1)) ?_⟩
   try simp only [a1e,decide_eq_true_eq]
   exact a1C (fun c2=>hneed _ (s04.trans s7) (.inr c2)) (fun c2=>⟨(by trivial),s7,fun z=>z.elim (fun w=>c1 (hemp.mp w)) c2⟩)
  rintro σ' H5 ⟨rfl,s5,hc⟩
  have s05:=s04.trans s5
  try simp only [a1r,Qa,Qb,a1j,tOp,Qf,Qg,a2Q,a0t,a0p,a1y,a0l,a0e,a0D]
  refine ⟨a2v (s05 _ _ hk),q0,rfl,hql,by decide,fun N2 hN2=>?_⟩
  obtain ⟨H6,e6,s6,hN6⟩:=a0V hN2 (.lst []);rw [e6]
  have s06:=s05.trans s6
  obtain ⟨_,o2,hDg2,L2,zb,eL2,hL2,hzb,ezb⟩:=a6Y (hB.same s06) hN6 hO (a1i q0)
  have hbl:zb.length≤63:=by
   have:=congrArg Yl ezb
   rw [Qe] at this
   rw [this];exact Qj (Qq _ _) hrl
  refine ⟨o2,hDg2,?_⟩
  rw [eL2]
  try simp only [a0D]
  refine ⟨⟨_,SqL.of hL2⟩,?_⟩
  refine a2C (fun H' v r=>a4S H' v r∧a1A r) (0,"","",[]) zb hL2 (by omega) (fun H' s=>hzb.same s) [some (V.ref a3)] rfl (fun r=>!a2V r.2.2.2 D) (fun p=>p.1) (fun x r H' R' hx s' hR'=>?_) (fun x r H' R' hx s' hR'=>?_) (fun W2 H7 hW2n s7 hW7=>?_)
  ·try simp only [b3D,tB,a0x,a0h,a0l,Qa,Qb,a0t,Qh,a0e]
   refine ⟨_,a3,r,D,rfl,hx.1,hx.2,h3.same (s06.trans s'),fun H'' s''=>?_⟩
   try simp only [a1e]
   exact hR' _ s''
  ·try simp only [a0l,Qa,a0e]
   exact hR' _ (a0f.refl _)
  have s57:=s6.trans s7
  have s07:=s05.trans s57
  have hz7:a9Y H7 (zb.filter fun p=>!a2V p.2.2.2.2 D):=fun p hp=>(hzb.same s7) p (Qv.mp hp).1
  have hbl7:(zb.filter fun p=>!a2V p.2.2.2.2 D).length≤63:=Qj (Qq _ _) hbl
  have hWz:=s57 _ _ (s5 _ _ hW4)
  have hzz:=hz4.same (s5.trans s57)
  try simp only [a0D]
  refine ⟨⟨_,SqL.of hW7⟩,?_⟩
  refine a2C (fun H' v r=>a4S H' v r∧a1A r) (0,"","",[]) (zb.filter fun p=>!a2V p.2.2.2.2 D) hW7 (Qj hbl7 (by decide)) (fun H' s=>hz7.same s) [some (V.ref P0),some (V.ref W)] rfl (fun r=>!btn pl (zs.map (·.2)) r) (fun p=>p.1) (fun x r H' R' hx s' hR'=>?_) (fun x r H' R' hx s' hR'=>?_) (fun W3 H8 hW3n s8 hW8=>?_)
  ·try simp only [b3D,tB,a0x,a0h,a0l,Qb,Qa,a0t,Qh,a0e]
   refine ⟨P0,W,_,ps,pl,r,zs,rfl,(s07.trans s') _ _ hP,a0K.same (s07.trans s') hPr,hPo,hx.1,hx.2,s' _ _ hWz,hzz.same s',hzl4,fun H'' s''=>?_⟩
   try simp only [a1e]
   exact hR' _ s''
  ·try simp only [a0l,Qa,a0e]
   exact hR' _ (a0f.refl _)
  try skip
  refine ⟨Xa _,fun p9 hp9=>?_⟩
  obtain ⟨H9,e9,s9,h9⟩:=a0V hp9 (.lst []);rw [e9]
  have hz9:a9Y H9 ((zb.filter fun p=>!a2V p.2.2.2.2 D).filter fun p=>!btn pl (zs.map (·.2)) p.2):=fun p hp=>(hz7.same (s8.trans s9)) p (Qv.mp hp).1
  have:=q _ ((s07.trans s8).trans s9)
  unfold a2f at this
  rw [if_neg c0,if_neg hc,←ezb,Vt,←est] at this
  refine a4W (s9 _ _ hW8) (SqL.of h9) hz9 ?_
  rw [b2G]
  exact this
theorem b8w (T:Txt K mg t):a1a P w K mg base CX0 2 t.f_z13 t.fd_z13 ["_law_by_here","_law_pairs_here","_law_firm","_law_up","_law_down","_law_q"] (a6D a8A):=by
 refine T.F_z13.ok b0m (fun vs H Q E h=>?_) (fun cdv A outer s H vs Q E hr h=>?_)
 ·obtain ⟨B,P0,a1,a2,a3,q0,rs,ps,pl,S,U,D,rfl,hB,hO,hrl,hP,hPr,hPo,h1,h2,h3,hql,q⟩:=h;rfl
 ·obtain ⟨B,P0,a1,a2,a3,q0,rs,ps,pl,S,U,D,rfl,hB,hO,hrl,hP,hPr,hPo,h1,h2,h3,hql,q⟩:=h
  refine ⟨_,‹A2 (B4 (B1 a2G 5 2 (by with_unfolding_all rfl)) (A4 (A9 B9)) B7) (A2 (A6 6 b0m.nd (C0 (B3 (a0b a5m) b1i ["_law_row_here","_law_down"] [none,some 4]) (B6 (F2 0 5 (B5 A1))) (A8 0 (show Xf (["_law_row_here","_law_down"]:List Str) by decide+kernel)) (C1 (D0 (F3 (B1 (b3Q hr.units (K:=K) rfl) (B2 (a2W (K:=K) rfl) 0 A3) B0 (a0n _)) (F4 (E4 (C2 (A7 (b3H T) T.g_z1f T.F_z1f.kp T.b_z1f .nil (A0 0 (A0 1 A1))))))))) 0)) (D4 (B4 (D0 (E3 (B1 (a1g hr.units) 6 (B5 A1) (a0n _)) (E6 (B1 a2G (A7 (a7j T) T.g_z1e T.F_z1e.kp T.b_z1e .nil (A0 5 A1)) 2 (by with_unfolding_all rfl))))) (A4 (A9 B9)) B7) (A2 (D5 7 (B3 (a0b a5m) b1i ["_law_row_here","_law_up"] [none,some 3]) (B6 (F2 0 (A7 (a7j T) T.g_z1e T.F_z1e.kp T.b_z1e .nil (A0 5 A1)) (B5 A1))) (A8 0 (show Xf (["_law_row_here","_law_up"]:List Str) by decide+kernel)) (C1 (C2 (A7 (b3O T) T.g_z19 T.F_z19.kp T.b_z19 .nil (A0 0 (A0 1 A1))))) 0 b0m.nd) (A4 (A9 (E2 (a5R hr.units) (C0 (B3 (a0b a5m) b1i ["_law_row_here","_law_pairs_here","_law_left"] [none,some 1,some 6]) (B6 7) (A8 0 (show Xf (["_law_row_here","_law_pairs_here","_law_left"]:List Str) by decide+kernel)) (C1 (E4 (C2 (A7 (b2X T) T.g_z1a T.F_z1a.kp T.b_z1a .nil (A0 1 (A0 0 (A0 2 A1))))))) 0) (B5 A1) (a0n _)))))))›,?_⟩
  rw [show start b1i [V.ref B,V.ref P0,V.ref a1,V.ref a2,V.ref a3,V.str q0]=[some (V.ref B),some (V.ref P0),some (V.ref a1),some (V.ref a2),some (V.ref a3),some (V.str q0),none,none] from rfl]
  try simp only [a1r,a2T,a0R,tOp,a0l,Qb,Qa,a1j,tC,a1m,a1K,a0m,a0p,a1y,a5D,a0x,a0h,a0t,Qh,a2Q,Qf,Qg,a0e,a0D]
  refine a3c (SqL.of h1) ?_
  try simp only [a1e,decide_eq_true_eq]
  refine a1C (fun c0=>?_) (fun c0=>?_)
  ·have:=q H (a0f.refl _)
   unfold a8A at this
   rw [if_pos c0] at this
   exact this
  obtain ⟨kvs,hk,_⟩:=id hB
  refine ⟨a2v hk,by decide,fun N hN=>?_⟩
  obtain ⟨H1,e1,s1,hN1⟩:=a0V hN (.lst []);rw [e1]
  obtain ⟨_,o,hDg,L,zr,eL,hL,hz,ez⟩:=a6Y (hB.same s1) hN1 hO q0
  have hzl:zr.length≤63:=by
   have:=congrArg Yl ez
   rw [Qe] at this
   rw [this];exact Qj (Qq _ _) hrl
  refine ⟨o,hDg,?_⟩
  rw [eL]
  try simp only [a0D]
  refine ⟨⟨_,SqL.of hL⟩,?_⟩
  refine a2C (fun H' v r=>a4S H' v r∧a1A r) (0,"","",[]) zr hL (by omega) (fun H' s=>hz.same s) [some (V.ref a3)] rfl (fun r=>spk r && !a2V r.2.2.2 D) (fun p=>p.1) (fun x r H' R' hx s' hR'=>?_) (fun x r H' R' hx s' hR'=>?_) (fun W H4 hWn s4 hW4=>?_)
  ·have hx':=hx
   obtain ⟨⟨p,t1,rfl,hp,ht⟩,hro⟩:=hx
   try simp only [b6s,a0R,tOp,a0l,Qa,tC,b3D,tB,a0x,a0h,Qb,a0t,Qh,a0e]
   refine a1O (SqT.of hp) rfl ?_
   try simp only [a6V,a1e,Yu,decide_eq_false_iff_not]
   refine a1C (fun c1=>?_) (fun c1=>?_)
   ·rw [a7t hro.1 c1,Zd] at hR'
    refine ⟨_,a3,r,D,rfl,hx'.1,hro,h3.same (s1.trans s'),fun H'' s''=>?_⟩
    try simp only [a1e]
    exact hR' _ s''
   ·have:=hR' _ (a0f.refl _)
    rw [a6W hro.1 c1,Zw] at this
    exact this
  ·try simp only [a0l,Qa,a0e]
   exact hR' _ (a0f.refl _)
  have s04:=s1.trans s4
  have hz4:a9Y H4 (zr.filter fun p=>spk p.2 && !a2V p.2.2.2.2 D):=fun p hp=>(hz.same s4) p (Qv.mp hp).1
  have hzl4:(zr.filter fun p=>spk p.2 && !a2V p.2.2.2.2 D).length≤63:=Qj (Qq _ _) hzl
  have est:(zr.filter fun p=>spk p.2 && !a2V p.2.2.2.2 D).map (·.2)=unf rs D q0:=by
   unfold unf
   rw [←ez,Zr,Zk]
   refine congrArg (Gh _) (Zt fun p _=>?_)
   simp only [Function.comp]
   rw [Ua]
  generalize (zr.filter fun p=>spk p.2 && !a2V p.2.2.2.2 D)=zs at hW4 hz4 hzl4 est
  have hemp:(unf rs D q0=[])↔zs=[]:=by rw [←est,Ww]
  have hneed:∀H',a0f H H'→(unf rs D q0=[]∨a1i q0∈S)→Q (.bl true) H':=fun H' s' hc=>by
   have:=q H' s'
   unfold a8A at this
   rw [if_neg c0,if_pos hc] at this
   exact this
  try skip
  refine ⟨fun σ' H'=>σ'=[some (V.ref B),some (V.ref P0),some (V.ref a1),some (V.ref a2),some (V.ref a3),some (V.str q0),some (V.ref W),none]∧a0f H4 H'∧¬(unf rs D q0=[]∨a1i q0∈S),?_,?_⟩
  ·try simp only [a2T,tOr,a0R,tOp,a0l,Qb,Qa,a2Q,a0t,a1j,tC,a1m,if_true,a0x,a0h,Qh,a0e]
   refine ⟨Xa _,fun p7 hp7=>?_⟩
   obtain ⟨H7,e7,s7,h7⟩:=a0V hp7 (.lst []);rw [e7]
   refine a4W (s7 _ _ hW4) (SqL.of h7) (hz4.same s7) ?_
   try simp only [a1e,decide_eq_true_eq]
   refine a1C (fun c1=>hneed _ (s04.trans s7) (.inl (hemp.mpr c1))) (fun c1=>?_)
   refine ⟨q0,rfl,hql,a3c (SqL.of ((s04.trans s7) _ _ h1)) ?_⟩
   try simp only [a1e,decide_eq_true_eq]
   exact a1C (fun c2=>hneed _ (s04.trans s7) (.inr c2)) (fun c2=>⟨(by trivial),s7,fun z=>z.elim (fun w=>c1 (hemp.mp w)) c2⟩)
  rintro σ' H5 ⟨rfl,s5,hc⟩
  have s05:=s04.trans s5
  try simp only [a1r,Qa,Qb,a1j,tOp,Qf,Qg,a2Q,a0t,a0p,a1y,a0l,a0e,a0D]
  refine ⟨a2v (s05 _ _ hk),q0,rfl,hql,by decide,fun N2 hN2=>?_⟩
  obtain ⟨H6,e6,s6,hN6⟩:=a0V hN2 (.lst []);rw [e6]
  have s06:=s05.trans s6
  obtain ⟨_,o2,hDg2,L2,zb,eL2,hL2,hzb,ezb⟩:=a6Y (hB.same s06) hN6 hO (a1i q0)
  have hbl:zb.length≤63:=by
   have:=congrArg Yl ezb
   rw [Qe] at this
   rw [this];exact Qj (Qq _ _) hrl
  refine ⟨o2,hDg2,?_⟩
  rw [eL2]
  try simp only [a0D]
  refine ⟨⟨_,SqL.of hL2⟩,?_⟩
  refine a2C (fun H' v r=>a4S H' v r∧a1A r) (0,"","",[]) zb hL2 (by omega) (fun H' s=>hzb.same s) [some (V.ref a2)] rfl (fun r=>a3f r.2.2.2 U) (fun p=>p.1) (fun x r H' R' hx s' hR'=>?_) (fun x r H' R' hx s' hR'=>?_) (fun W2 H7 hW2n s7 hW7=>?_)
  ·try simp only [tB,a0x,a0h,a0l,Qa,Qb,a0t,Qh,a0e]
   refine ⟨_,a2,r,U,rfl,hx.1,hx.2,h2.same (s06.trans s'),fun H'' s''=>?_⟩
   try simp only [a1e]
   exact hR' _ s''
  ·try simp only [a0l,Qa,a0e]
   exact hR' _ (a0f.refl _)
  have s57:=s6.trans s7
  have s07:=s05.trans s57
  have hz7:a9Y H7 (zb.filter fun p=>a3f p.2.2.2.2 U):=fun p hp=>(hzb.same s7) p (Qv.mp hp).1
  have hbl7:(zb.filter fun p=>a3f p.2.2.2.2 U).length≤63:=Qj (Qq _ _) hbl
  have hWz:=s57 _ _ (s5 _ _ hW4)
  have hzz:=hz4.same (s5.trans s57)
  try simp only [a0D]
  refine ⟨⟨_,SqL.of hW7⟩,?_⟩
  refine a2C (fun H' v r=>a4S H' v r∧a1A r) (0,"","",[]) (zb.filter fun p=>a3f p.2.2.2.2 U) hW7 (Qj hbl7 (by decide)) (fun H' s=>hz7.same s) [some (V.ref P0),some (V.ref W)] rfl (fun r=>!btn pl (zs.map (·.2)) r) (fun p=>p.1) (fun x r H' R' hx s' hR'=>?_) (fun x r H' R' hx s' hR'=>?_) (fun W3 H8 hW3n s8 hW8=>?_)
  ·try simp only [b3D,tB,a0x,a0h,a0l,Qb,Qa,a0t,Qh,a0e]
   refine ⟨P0,W,_,ps,pl,r,zs,rfl,(s07.trans s') _ _ hP,a0K.same (s07.trans s') hPr,hPo,hx.1,hx.2,s' _ _ hWz,hzz.same s',hzl4,fun H'' s''=>?_⟩
   try simp only [a1e]
   exact hR' _ s''
  ·try simp only [a0l,Qa,a0e]
   exact hR' _ (a0f.refl _)
  try skip
  refine ⟨Xa _,fun p9 hp9=>?_⟩
  obtain ⟨H9,e9,s9,h9⟩:=a0V hp9 (.lst []);rw [e9]
  have hz9:a9Y H9 ((zb.filter fun p=>a3f p.2.2.2.2 U).filter fun p=>!btn pl (zs.map (·.2)) p.2):=fun p hp=>(hz7.same (s8.trans s9)) p (Qv.mp hp).1
  have:=q _ ((s07.trans s8).trans s9)
  unfold a8A at this
  rw [if_neg c0,if_neg hc,←ezb,Zy,←est] at this
  refine a7x (s9 _ _ hW8) (SqL.of h9) hz9 ?_
  rw [b2n]
  exact this
theorem b8I (T:Txt K mg t):a1a P w K mg base CX0 3 t.f_z1g t.fd_z1g ["_law_rows_here","_law_pairs_here","_law_firm","_law_some","_law_known_here"] b5b:=by
 refine T.F_z1g.ok a1M (fun vs H Q E h=>?_) (fun cdv A outer s H vs Q E hr h=>?_)
 ·obtain ⟨R,P0,F,So,kd,xs,ps,rs,pl,S,sm,kn,rfl,hR,hA,hO,hrl,hP,hPr,hPo,hF,hSo,hsn,hsl,hql,hkd,hkl,q⟩:=h;rfl
 ·obtain ⟨R,P0,F,So,kd,xs,ps,rs,pl,S,sm,kn,rfl,hR,hA,hO,hrl,hP,hPr,hPo,hF,hSo,hsn,hsl,hql,hkd,hkl,q⟩:=h
  refine ⟨_,‹A2 (A6 5 a1M.nd (A7 (b9a T) T.g_z1r T.F_z1r.kp T.b_z1r .nil (A0 0 A1))) (A2 (A6 6 a1M.nd C9) (A2 (A6 7 a1M.nd C9) (A2 (F5 (B8 (H9 4) (F9 (C6 (A8 8 a1M.nd) (C6 (A8 9 a1M.nd) E7))) (A4 (B4 (B1 (a1g hr.units) 9 B0 (a0n _)) (A4 (C3 6 8 B9)) (A4 (C3 7 8 B9)))))) (A2 (A6 10 a1M.nd C9) (A2 (A6 11 a1M.nd A3) (A2 (A6 12 a1M.nd (B5 (A0 (C5 (A0 B0 (A0 B0 A1))) A1))) (A2 (G6 (B1 (b8z hr.units) 12 (B5 A1) (a0n _)) (A2 (J0 11 a1M.nd rfl A3 b7j) (A2 (A6 12 a1M.nd (B5 A1)) (A2 (B8 (B6 3) (A8 8 a1M.nd) (A4 (B4 (D0 (F3 (D1 ‹F1 8 10›) (F4 (C2 (A7 (b7f T) T.g_z1m T.F_z1m.kp T.b_z1m .nil (A0 5 (A0 1 (A0 2 (A0 6 (A0 7 (A0 8 A1))))))))))) (A4 (C7 (C8 Yc Xy Xz a0S 12 (A0 (C5 (A0 8 (A0 B0 A1))) A1)))) (A4 (B4 (D0 (F3 (D1 ‹F1 8 10›) (F4 (C2 (A7 (b8w T) T.g_z13 T.F_z13.kp T.b_z13 .nil (A0 5 (A0 1 (A0 2 (A0 6 (A0 7 (A0 8 A1))))))))))) (A4 (C7 (C8 Yc Xy Xz a0S 12 (A0 (C5 (A0 8 (A0 B0 A1))) A1)))) B7))))) (A4 (B8 (B6 12) (F9 (C6 (A8 8 a1M.nd) (C6 (A8 9 a1M.nd) E7))) (A2 (C3 10 8 (C5 (A0 9 (A0 11 A1)))) (A4 (B4 (B1 (a1g hr.units) 9 B0 (a0n _)) (A4 (C3 6 8 B9)) (A4 (C3 7 8 B9))))))))))) (A4 (A9 10)))))))))›,?_⟩
  rw [show start b8C [V.ref R,V.ref P0,V.ref F,V.ref So,V.ref kd]=[some (V.ref R),some (V.ref P0),some (V.ref F),some (V.ref So),some (V.ref kd),none,none,none,none,none,none,none,none] from rfl]
  try simp only [a1r,a1K,a0x,a0h,a0l,Qa,a0t,Qh,a0m,a1V,Qf,Qg,a0e]
  refine ⟨R,xs,rs,rfl,hR,hA,hrl,fun By Hb sb hByn hBy=>?_⟩
  try simp only []
  intro Up hUp
  obtain ⟨H1,e1,s1,hUp1⟩:=a0V hUp (.dK []);rw [e1]
  try skip
  intro Dn hDn
  obtain ⟨H2,e2,s2,hDn2⟩:=a0V hDn (.dK []);rw [e2]
  have hkb:=sb _ _ hkd
  have nUk:Up≠kd:=fun z=>by rw [z,hkb] at hUp;cases hUp
  have nDk:Dn≠kd:=fun z=>by rw [z,s1 _ _ hkb] at hDn;cases hDn
  have nUD:Up≠Dn:=fun z=>by rw [z,hDn] at hUp1;cases hUp1
  have hDb:Hb Dn=none:=none_of s1 hDn
  refine b5z (fun H0 i σ' H'=>∃(x8 x9:Option V),σ'=[some (V.ref R),some (V.ref P0),some (V.ref F),some (V.ref So),some (V.ref kd),some (V.ref By),some (V.ref Up),some (V.ref Dn),x8,x9,none,none,none]∧(∀b o,H0 b=some o→b≠Up→b≠Dn→H' b=some o)∧a6b H' Up (ups (kn.take i)) i∧a6b H' Dn (a0X (kn.take i)) i) (s2 _ _ (s1 _ _ hkb)) (a0z rfl) (fun o=>⟨_,_,rfl,fun _ _ e _ _=>e,⟨[],by rw [a0a nUk];exact s2 _ _ hUp1,fun _=>rfl,Qi _⟩,⟨[],by rw [a0a nDk];exact hDn2,fun _=>rfl,Qi _⟩⟩) ?_ ?_ ?_
  ·rintro o i σ' H' ⟨_,_,rfl,k,_⟩
   exact k _ _ a0d nUk.symm nDk.symm
  ·rintro o i hi σ' H' p rt bk ⟨x8,x9,rfl,k,hu,hd⟩ hp
   obtain ⟨H3,e3,s3,h3⟩:=a0V hp (.tup [V.str kn[i].1,V.str (wd kn[i].2)]);rw [e3]
   refine ⟨p,_,rfl,SqT.of h3,rfl,_,_,rfl,_,_,rfl,rfl,?_⟩
   have et:kn.take (i+1)=kn.take i++[(kn[i].1,kn[i].2)]:=Qt hi
   have hu3:=hu.keep (fun o e=>s3 _ _ e) (Qi _)
   have hd3:=hd.keep (fun o e=>s3 _ _ e) (Qi _)
   try simp only [a2T,a0R,tOp,a0l,Qf,Qg,Qb,Qa,tC,a3z,a0e,a2H,a1e,decide_eq_true_eq]
   refine a1C (fun c1=>?_) (fun c1=>?_)
   ·have eb:kn[i].2=true:=a8T (c1.trans rfl)
    obtain ⟨kv,hput,hu4⟩:=hu3.put (by omega) kn[i].1 (V.bl true)
    refine ⟨Up,_,rfl,hput,_,_,rfl,fun b o e n1 n2=>by rw [a0a n1];exact s3 _ _ (k b o e n1 n2),?_,?_⟩
    ·rw [et,a3o,if_pos eb];exact hu4
    ·rw [et,a2q,if_pos eb,Qh];exact hd3.keep (fun o e=>by rw [a0a nUD.symm];exact e) (by omega)
   ·have eb:¬kn[i].2=true:=fun z=>c1 (by rw [z];rfl)
    obtain ⟨kv,hput,hd4⟩:=hd3.put (by omega) kn[i].1 (V.bl true)
    refine ⟨Dn,_,rfl,hput,_,_,rfl,fun b o e n1 n2=>by rw [a0a n2];exact s3 _ _ (k b o e n1 n2),?_,?_⟩
    ·rw [et,a3o,if_neg eb,Qh];exact hu3.keep (fun o e=>by rw [a0a nUD];exact e) (by omega)
    ·rw [et,a2q,if_neg eb];exact hd4
  rintro o σ' H' ⟨x8,x9,rfl,k,hu,hd⟩
  rw [Xs] at hu hd
  obtain ⟨H3,e3,s3,hu3,hd3⟩:∃H3,upd H' kd (.dK (wv kn))=H3∧a0f Hb H3∧a6b H3 Up (ups kn) kn.length∧a6b H3 Dn (a0X kn) kn.length:=⟨_,rfl,fun b o e=>by
   by_cases z:b=kd
   ·rw [z,a0d,←hkb,←z];exact e
   ·rw [a0a z];exact k _ _ (by rw [a0a z];exact s2 _ _ (s1 _ _ e)) (a0c e hUp) (a0c e hDb),hu.keep (fun o e=>by rw [a0a nUk];exact e) (Qi _),hd.keep (fun o e=>by rw [a0a nDk];exact e) (Qi _)⟩
  rw [e3]
  clear hu hd k e3
  have hUs:∃o,H3 Up=some o:=let ⟨_,e,_⟩:=hu3;⟨_,e⟩
  have hDs:∃o,H3 Dn=some o:=let ⟨_,e,_⟩:=hd3;⟨_,e⟩
  try simp only [a1r,a1K,a1V,a0m,tC,a2Q,a0h,a6Q,a0t,Qf,Qg]
  intro Rk hRk
  obtain ⟨H4,e4,s4,hRk4⟩:=a0V hRk (.dK []);rw [e4]
  have hRb:Hb Rk=none:=none_of s3 hRk
  have nRU:Rk≠Up:=fun z=>by obtain ⟨o,e⟩:=hUs;rw [←z,hRk] at e;cases e
  have nRD:Rk≠Dn:=fun z=>by obtain ⟨o,e⟩:=hDs;rw [←z,hRk] at e;cases e
  try skip
  refine ⟨by simp only [Qo,Xb];decide,fun p1 hp1=>?_⟩
  obtain ⟨H5,e5,s5,h5⟩:=a0V hp1 (.tup [V.str "",V.str ""]);rw [e5]
  refine ⟨by simp only [Qo,Xb];decide,fun F0 hF0=>?_⟩
  obtain ⟨H6,e6,s6,h6⟩:=a0V hF0 (.lst [V.ref p1]);rw [e6]
  have s36:=s4.trans (s5.trans s6)
  try skip
  obtain ⟨Rd,hRd⟩:∃Rd:Nat→RdS,Rd=rds rs pl S sm (ups kn) (a0X kn):=⟨_,rfl⟩
  have R0:Rd 0=⟨[],ups kn,a0X kn⟩:=by rw [hRd];rfl
  have RS:∀n,Rd (n+1)=next (n+1) (Rd n) (fresh rs pl S sm (Rd n)):=fun n=>by rw [hRd];rfl
  have RL:∀n,(Rd n).T.length≤sm.length:=fun n=>by rw [hRd];exact b5M hsn n
  have RN:∀n,((Rd n).T.map (·.1)).Nodup:=fun n=>by rw [hRd];exact a3u hsn n
  have RE:∀k,fresh rs pl S sm (Rd k)=[]→∀H' Rk',a0f H H'→H Rk'=none→TAt H' Rk' (Rd (k+1)).T→Q (V.ref Rk') H':=fun k hk H' Rk' s n hT=>q Rk' _ k H' s n hT (RN _) (by rw [hRd] at hk;exact hk) fun e=>by rw [RS,hk,hRd];unfold next;simp
  clear q
  obtain ⟨Iv,hIv⟩:∃Iv:Nat→St→Hp→Prop,∀m σ H',Iv m σ H'↔∃(n:Nat) (Fr:Addr) (ys:List V) (x8 x9:Option V),σ=[some (V.ref R),some (V.ref P0),some (V.ref F),some (V.ref So),some (V.ref kd),some (V.ref By),some (V.ref Up),some (V.ref Dn),x8,x9,some (V.ref Rk),some (V.int (n:Int)),some (V.ref Fr)]∧a0f Hb H'∧a6b H' Up (Rd n).U (kn.length+(Rd n).T.length)∧a6b H' Dn (Rd n).D (kn.length+(Rd n).T.length)∧TAt H' Rk (Rd n).T∧H' Fr=some (.lst ys)∧(ys≠[]∨∃k,n=k+1∧fresh rs pl S sm (Rd k)=[])∧m=2 * (sm.length - (Rd n).T.length)+(if ys=[] then 0 else 1):=⟨_,fun _ _ _=>Iff.rfl⟩
  refine a6J Iv _ ((hIv _ _ _).mpr ⟨0,F0,_,_,_,rfl,s3.trans s36,?_,?_,?_,h6,.inl (by intro z;cases z),rfl⟩) ?_
  ·rw [R0];exact hu3.keep (fun o e=>s36 _ _ e) (Qi _)
  ·rw [R0];exact hd3.keep (fun o e=>s36 _ _ e) (Qi _)
  ·rw [R0];exact ⟨[],rfl,(s5.trans s6) _ _ hRk4,fun e he=>by cases he⟩
  clear hu3 hd3 hUs hDs h6 h5
  intro m σ H10 hv
  obtain ⟨n,Fr,ys,y8,y9,rfl,s10,hu,hd,hT,hFr,hys,hm⟩:=(hIv _ _ _).mp hv
  have hRL:=RL n
  try simp only [a0R,tOp,a0l,Qb,Qa,a2Q,a0t,a1r,c2X,tC,ipI,a1K,a0m,Qf,Qg,a0E,a1y,a0e,a0D,a1j]
  refine ⟨Xa _,fun p9 hp9=>?_⟩
  obtain ⟨H11,e11,s11,h11⟩:=a0V hp9 (.lst []);rw [e11]
  refine ⟨Fr,p9,ys,rfl,rfl,SqL.of (s11 _ _ hFr),SqL.of h11,_,rfl,?_⟩
  have sk:a0f Hb H11:=s10.trans s11
  have hu11:=hu.keep (fun o e=>s11 _ _ e) (Qi _)
  have hd11:=hd.keep (fun o e=>s11 _ _ e) (Qi _)
  have hT11:=hT.same s11
  clear hu hd hT
  by_cases hy:ys=[]
  ·rw [if_neg (by simp [hy])]
   rcases hys with z | ⟨k,rfl,hk⟩
   ·exact absurd hy z
   ·exact RE k hk H11 Rk (sb.trans sk) (none_of sb hRb) hT11
  rw [if_pos (decide_eq_true hy)]
  rw [if_neg hy] at hm
  refine ⟨fun σ H'=>∃m',m' < m∧Iv m' σ H',fun _ _ h=>h,_,_,rfl,rfl,Xa _,fun F2 hF2=>?_⟩
  obtain ⟨H12,e12,s12,h12⟩:=a0V hF2 (.lst []);rw [e12]
  have hSo11:=sk _ _ (sb _ _ hSo)
  refine ⟨⟨_,SqL.of (s12 _ _ hSo11)⟩,?_⟩
  obtain ⟨kT,hkT,_,hkTm⟩:=hT11.keys
  refine a1x (K:=K) (a:=So) (xs:=sm.map V.str) (fun i σ H'=>∃(x8:Option V) (zs:List V),σ=[some (V.ref R),some (V.ref P0),some (V.ref F),some (V.ref So),some (V.ref kd),some (V.ref By),some (V.ref Up),some (V.ref Dn),x8,y9,some (V.ref Rk),some (V.int ((n:Int)+1)),some (V.ref F2)]∧a0f H11 H'∧H' F2=some (.lst zs)∧a0K H' zs ((fresh rs pl S (sm.take i) (Rd n)).map fun p=>(p.1,wd p.2))) ⟨_,[],rfl,s12,h12,⟨[],rfl,rfl,fun i a p e=>by simp at e⟩⟩ (fun i σ H' _ ⟨_,_,_,s,_⟩=>SqL.of (s _ _ hSo11)) ?_ ?_
  ·rintro i v σ H13 hi ⟨x8,zs,rfl,s13,hz,hpz⟩
   have hil:i < sm.length:=by simpa using (Qm.mp hi).1
   have ev:v=V.str sm[i]:=by
    rw [Qn,Qc hil] at hi
    exact (Option.some.inj hi).symm
   subst ev
   clear hi
   have hqm:=Xi hil
   have et:=Qt hil
   have hzl:zs.length≤i:=by
    obtain ⟨as,rfl,hal,_⟩:=id hpz
    have:=(a2J (rs:=rs) (pl:=pl) (S:=S) (Rd n) (sm.take i)).length_le
    rw [Qe,Xo] at this
    rw [Qe,hal,Qe]
    omega
   have hfs:=a7W (rs:=rs) (pl:=pl) (S:=S) (sm.take i) sm[i] (Rd n)
   rw [←et] at hfs
   clear et
   generalize sm[i]=q0 at hqm hfs
   have add:∀(b:Bool) (H':Hp) (p:Addr) (R:VK),a0f H13 H'→H' p=none→(∀zs' H'',a0f H11 H''→H'' F2=some (.lst zs')→a0K H'' zs' ((fresh rs pl S (sm.take i) (Rd n)).map (fun p=>(p.1,wd p.2))++[(q0,wd b)])→R .non H'')→b0d (V.ref F2) [V.ref p] (upd H' p (.tup [V.str q0,V.str (wd b)])) R:=fun b H' p R s' hp hR=>by
    obtain ⟨H14,e14,s14,h14⟩:=a0V hp (.tup [V.str q0,V.str (wd b)]);rw [e14]
    have hz14:=s14 _ _ (s' _ _ hz)
    have hpF:p≠F2:=fun z=>by rw [z,s' _ _ hz] at hp;cases hp
    have up:∀c o,c≠F2→H14 c=some o→upd H14 F2 (.lst (zs++[V.ref p])) c=some o:=fun c o hc e=>by rw [a0a hc];exact e
    exact ⟨F2,_,_,rfl,rfl,hz14,Xk (show _≤1000 by omega) (by decide),hR _ _ (fun c o e=>up _ _ (a0c e hF2) (s14 _ _ (s' _ _ (s13 _ _ e)))) a0d (a5a (p:=(q0,wd b)) (a4L (a0K.same (s'.trans s14) hpz) ⟨_,hz14⟩ up) (up _ _ hpF h14))⟩
   have hk:∀H',a0f H13 H'→a2S H' Rk (.str q0) (a0P kT (Sum.inr q0:Key)):=fun H' s=>a2S.k (k:=(Sum.inr q0:Key)) (s _ _ (s13 _ _ hkT))
   have lh:∀f H' (R:VK),a0f H13 H'→(∀H'',a0f H' H''→R (.bl (f rs pl S (Rd n).U (Rd n).D q0)) H'')→a6D f [V.ref By,V.ref P0,V.ref F,V.ref Up,V.ref Dn,V.str q0] H' R E0:=fun f H' R s' hR=>by
    have sB:=sk.trans (s13.trans s')
    have sA:=sb.trans sB
    exact ⟨By,P0,F,Up,Dn,q0,rs,ps,pl,S,_,_,rfl,hBy.same sB,hO,hrl,sA _ _ hP,a0K.same sA hPr,hPo,sA _ _ hF,hu11.dat.same (s13.trans s'),hd11.dat.same (s13.trans s'),hql q0 hqm,hR⟩
   try simp only [a0m,a2T,b6s,tB,a3d,a0l,Qf,Qg,Qb,Qa,a0x,a0h,a0t,Qh,a3n,tBM,a6Q,tC,a0e,a1m,a7s,a1e,Yu]
   refine ⟨Rk,_,rfl,hk _ (a0f.refl _),?_⟩
   rw [hkTm]
   by_cases hin:q0∈(Rd n).T.map (·.1)
   ·rw [decide_eq_true hin,if_neg (by decide)]
    refine ⟨Rk,_,rfl,hk _ (a0f.refl _),?_⟩
    rw [hkTm,decide_eq_true hin,if_neg (by decide)]
    refine ⟨_,zs,rfl,s13,hz,?_⟩
    rw [hfs,if_pos hin];simpa using hpz
   rw [decide_eq_false hin,if_pos rfl]
   rw [if_neg hin] at hfs
   refine lh _ _ _ (a0f.refl _) fun H14 s14=>⟨_,rfl,a1C (fun c1=>?_) (fun c1=>?_)⟩
   ·refine ⟨.inl ⟨rfl,_,SqL.of (s14 _ _ hz)⟩,by simp only [Qo,Xb];decide,fun p hp=>add true _ _ _ s14 hp fun zs' H15 s15 hz5 hp5=>⟨_,zs',rfl,s15,hz5,?_⟩⟩
    rw [hfs,show stt rs pl S (Rd n).U (Rd n).D q0=some true by unfold stt;rw [if_pos c1],Xc]
    exact hp5
   refine ⟨Rk,_,rfl,hk _ s14,?_⟩
   rw [hkTm,decide_eq_false hin,if_pos rfl]
   refine lh _ _ _ s14 fun H15 s15=>⟨_,rfl,a1C (fun c2=>?_) (fun c2=>?_)⟩
   ·refine ⟨.inl ⟨rfl,_,SqL.of (s15 _ _ (s14 _ _ hz))⟩,by simp only [Qo,Xb];decide,fun p hp=>add false _ _ _ (s14.trans s15) hp fun zs' H16 s16 hz5 hp5=>⟨_,zs',rfl,s16,hz5,?_⟩⟩
    rw [hfs,show stt rs pl S (Rd n).U (Rd n).D q0=some false by unfold stt;rw [if_neg c1,if_pos c2],Xc]
    exact hp5
   ·refine ⟨_,zs,rfl,s13.trans (s14.trans s15),s15 _ _ (s14 _ _ hz),?_⟩
    rw [hfs,show stt rs pl S (Rd n).U (Rd n).D q0=none by unfold stt;rw [if_neg c1,if_neg c2]]
    simpa using a0K.same (s14.trans s15) hpz
  ·rintro σ H13 ⟨x8,zs,rfl,s13,hz,hpz⟩
   rw [Qe,Xs] at hpz
   have hFn:=hsn.sublist (a2J (rs:=rs) (pl:=pl) (S:=S) (Rd n) sm)
   have hFk:∀e∈fresh rs pl S sm (Rd n),e.1∉(Rd n).T.map (·.1):=fun e he=>(a0U.mp he).2.1
   have eN:=RS n
   have hRL1:=RL (n+1)
   generalize hFe:fresh rs pl S sm (Rd n)=Fs at hpz hFn hFk eN
   have eU:(Rd (n+1)).U=(Rd n).U++ups Fs:=by rw [eN];rfl
   have eD:(Rd (n+1)).D=(Rd n).D++a0X Fs:=by rw [eN];rfl
   have eT:(Rd (n+1)).T=(Rd n).T++Fs.map fun p=>(p.1,p.2,n+1):=by rw [eN];rfl
   have eL:(Rd (n+1)).T.length=(Rd n).T.length+Fs.length:=by rw [eT,Xq,Qe]
   have hzl:zs.length=Fs.length:=by
    obtain ⟨as,rfl,hal,_⟩:=id hpz
    rw [Qe,hal,Qe]
   try simp only [a0E,a1y,a0l,Qb,Qa,a0e,a0D]
   refine ⟨⟨_,SqL.of hz⟩,?_⟩
   refine a1x (K:=K) (a:=F2) (xs:=zs) (fun j σ H'=>∃(x8 x9:Option V),σ=[some (V.ref R),some (V.ref P0),some (V.ref F),some (V.ref So),some (V.ref kd),some (V.ref By),some (V.ref Up),some (V.ref Dn),x8,x9,some (V.ref Rk),some (V.int ((n:Int)+1)),some (V.ref F2)]∧a0f Hb H'∧H' F2=some (.lst zs)∧a0K H' zs (Fs.map fun p=>(p.1,wd p.2))∧a6b H' Up ((Rd n).U++ups (Fs.take j)) (kn.length+(Rd n).T.length+j)∧a6b H' Dn ((Rd n).D++a0X (Fs.take j)) (kn.length+(Rd n).T.length+j)∧TAt H' Rk ((Rd n).T++(Fs.take j).map fun p=>(p.1,p.2,n+1)))
    ⟨x8,y9,rfl,sk.trans s13,hz,hpz,by rw [Jm,show ups []=[] from rfl,Qh];exact hu11.keep (fun o e=>s13 _ _ e) (Qi _),by rw [Jm,show a0X []=[] from rfl,Qh];exact hd11.keep (fun o e=>s13 _ _ e) (Qi _),by rw [Jm,Jk,Qh];exact hT11.same s13⟩ (fun j σ H' _ ⟨_,_,_,_,h,_⟩=>SqL.of h) ?_ ?_
   ·rintro j v σ H14 hj ⟨x8,x9,rfl,s14,hz4,hp4,hu4,hd4,hT4⟩
    have hjl:j < Fs.length:=by rw [←hzl];exact (Qm.mp hj).1
    obtain ⟨a,rfl,ha⟩:∃a,v=.ref a∧H14 a=some (.tup [.str Fs[j].1,.str (wd Fs[j].2)]):=by
     obtain ⟨as,rfl,hal,hat⟩:=hp4
     rw [Qn] at hj
     obtain ⟨a,ea,e⟩:=Jd.mp hj
     exact ⟨a,e.symm,hat j a (Fs[j].1,wd Fs[j].2) ea (by rw [Qn,Qc hjl];rfl)⟩
    have hq:Fs[j].1∉((Rd n).T++(Fs.take j).map fun p=>(p.1,p.2,n+1)).map (·.1):=fun z=>by
     rw [Xc,Xe] at z
     rcases z with z | z
     ·exact hFk _ (Xi hjl) z
     ·rw [Xh] at z
      obtain ⟨x,hx,e⟩:=Ql.mp z
      obtain ⟨l,hl,rfl⟩:=Yv hx
      rw [Xo] at hl
      have e':(Fs.map (·.1))[l]'(by rw [Qe];omega)=(Fs.map (·.1))[j]'(by rw [Qe];omega):=by rw [Jr,Jr,←e,Jg];rfl
      have:=(Zn hFn).mp e'
      omega
    have hll:((Rd n).T++(Fs.take j).map fun p=>(p.1,p.2,n+1)).length≤100000:=by
     rw [Xq,Qe,Xo];omega
    have et:Fs.take (j+1)=Fs.take j++[(Fs[j].1,Fs[j].2)]:=Qt hjl
    refine ⟨a,_,rfl,SqT.of ha,rfl,_,_,rfl,_,_,rfl,rfl,?_⟩
    generalize Fs[j].1=q0 at ha hq et
    generalize Fs[j].2=b0 at ha et
    try simp only [a1r,a3z,a6Q,a0h,a0l,Qf,Qg,Qb,Qa,a0t,a2T,a0R,tOp,tC,a0e,a2H,a1e,decide_eq_true_eq]
    refine ⟨by simp only [Qo,Xb];decide,fun p hp=>?_⟩
    obtain ⟨H15,e15,s15,h15⟩:=a0V hp (.tup [V.str (wd b0),V.int ((n:Int)+1)]);rw [e15]
    obtain ⟨kv,hput,hT5⟩:=hT4.put (n:=n+1) s15 h15 hq hll
    refine ⟨Rk,_,rfl,hput,?_⟩
    have kb:∀b o,H14 b=some o→b≠Rk→upd H15 Rk (.dK kv) b=some o:=fun b o e nb=>by rw [a0a nb];exact s15 _ _ e
    generalize upd H15 Rk (.dK kv)=H16 at kb hT5
    have hu5:=hu4.keep (fun o e=>kb _ _ e nRU.symm) (Qi _)
    have hd5:=hd4.keep (fun o e=>kb _ _ e nRD.symm) (Qi _)
    have hRs:∃kv,H14 Rk=some (.dK kv):=let ⟨kv,e,_⟩:=hT4.keys;⟨kv,e⟩
    have s16:a0f Hb H16:=fun b o e=>kb _ _ (s14 _ _ e) (a0c e hRb)
    have hz6:H16 F2=some (.lst zs):=kb _ _ hz4 (by obtain ⟨kv,e⟩:=hRs;exact a0B hz4 e (by intro z;cases z))
    have hp6:a0K H16 zs (Fs.map fun p=>(p.1,wd p.2)):=a7g hp4 fun b ys e=>kb _ _ e (by obtain ⟨kv,e'⟩:=hRs;exact a0B e e' (by intro z;cases z))
    have fin:∀(c:Addr) (kc:List (Key×V)),c=Up∨c=Dn→(∀(o:HO),H16 c=some o→∃k,o=.dK k)→a0f Hb (upd H16 c (.dK kc))∧upd H16 c (.dK kc) F2=some (.lst zs)∧a0K (upd H16 c (.dK kc)) zs (Fs.map fun p=>(p.1,wd p.2))∧TAt (upd H16 c (.dK kc)) Rk ((Rd n).T++(Fs.take (j+1)).map fun p=>(p.1,p.2,n+1)):=fun c kc hc hk=>by
     have nt:∀b o,H16 b=some o→(∀k,o≠.dK k)→b≠c:=fun b o e ho z=>by
      obtain ⟨k,rfl⟩:=hk o (by rw [←z];exact e)
      exact ho k rfl
     refine ⟨fun b o e=>?_,?_,a7g hp6 fun b ys e=>?_,?_⟩
     ·rw [a0a (by rcases hc with rfl | rfl;exact a0c e hUp;exact a0c e hDb)];exact s16 _ _ e
     ·rw [a0a (nt _ _ hz6 (by intro k z;cases z))];exact hz6
     ·rw [a0a (nt _ _ e (by intro k z;cases z))];exact e
     ·rw [et,Xc,←Zu]
      refine TAt.keep hT5 fun b o e hb=>?_
      rcases hb with rfl | ⟨xs,rfl⟩
      ·rw [a0a (by rcases hc with rfl | rfl;exact nRU;exact nRD)];exact e
      ·rw [a0a (nt _ _ e (by intro k z;cases z))];exact e
    refine a1C (fun c1=>?_) (fun c1=>?_)
    ·have eb:b0=true:=a8T (c1.trans rfl)
     obtain ⟨kc,hput2,hu6⟩:=hu5.put (by omega) q0 (V.bl true)
     obtain ⟨f1,f2,f3,f4⟩:=fin Up kc (.inl rfl) (by obtain ⟨k,e,_⟩:=hu5;intro o e';rw [e] at e';cases e';exact ⟨_,rfl⟩)
     refine ⟨Up,_,rfl,hput2,_,_,rfl,f1,f2,f3,?_,?_,f4⟩
     ·rw [et,a3o,if_pos eb,←Zu];exact hu6
     ·rw [et,a2q,if_pos eb,Qh];exact hd5.keep (fun o e=>by rw [a0a nUD.symm];exact e) (by omega)
    ·have eb:¬b0=true:=fun z=>c1 (by rw [z];rfl)
     obtain ⟨kc,hput2,hd6⟩:=hd5.put (by omega) q0 (V.bl true)
     obtain ⟨f1,f2,f3,f4⟩:=fin Dn kc (.inr rfl) (by obtain ⟨k,e,_⟩:=hd5;intro o e';rw [e] at e';cases e';exact ⟨_,rfl⟩)
     refine ⟨Dn,_,rfl,hput2,_,_,rfl,f1,f2,f3,?_,?_,f4⟩
     ·rw [et,a3o,if_neg eb,Qh];exact hu5.keep (fun o e=>by rw [a0a nUD];exact e) (by omega)
     ·rw [et,a2q,if_neg eb,←Zu];exact hd6
   ·rintro σ H14 ⟨x8,x9,rfl,s14,hz4,hp4,hu4,hd4,hT4⟩
    rw [hzl,Xs] at hu4 hd4 hT4
    rw [←eU] at hu4
    rw [←eD] at hd4
    rw [←eT] at hT4
    refine ⟨_,?_,(hIv _ _ _).mpr ⟨n+1,F2,zs,_,_,rfl,s14,hu4.keep (fun _ e=>e) (by omega),hd4.keep (fun _ e=>e) (by omega),hT4,hz4,?_,rfl⟩⟩
    ·split<;>rename_i hc
     ·omega
     ·have:zs.length≠0:=fun z=>hc (Zm.mp z)
      omega
    ·by_cases hc:zs=[]
     ·exact .inr ⟨n,rfl,by rw [hFe];exact Zm.mp (by rw [←hzl,hc];rfl)⟩
     ·exact .inl hc
theorem a3y (T:Txt K mg t):a1a P w K mg base CX0 1 t.f_z1p t.fd_z1p ["_law_cell","_law_k"] b9H:=by
 refine T.F_z1p.ok b0A (fun vs H Q E h=>?_) (fun cdv A outer s H vs Q E hr h=>?_)
 ·obtain ⟨c,k,rfl,q⟩:=h;rfl
 ·obtain ⟨c,k,rfl,q⟩:=h
  refine ⟨_,‹A2 (A6 2 b0A.nd (A5 a0r (A5 a0u (A5 a0u 0 (A5 a3D A3 1)) A3) A3)) (A2 (A6 2 b0A.nd (A5 a0r (A5 a3D (A5 a0r (A5 a3D 2 2) A3) A3) A3)) (A4 (A9 (A5 a0r (A5 a3D (A5 a0u 2 A3) (A5 a0u 2 A3)) A3))))›,?_⟩
  rw [show start b9y [V.int c,V.int k]=[some (V.int c),some (V.int k),none] from rfl]
  try simp only [a1r,a1K,tOp,a0l,Qa,tC,Qb,a0m,Qf,Qg,a1j,a0e,a0J,b4u,a0L]
  have h0:=a1d (i:=c+7919 * k+12345) (j:=2147483629) (by decide)
  generalize (c+7919 * k+12345) % 2147483629=n at h0 ⊢
  have h1:=a1d (i:=n * n) (j:=2147483629) (by decide)
  generalize n * n % 2147483629=m at h1 ⊢
  have h2:=a1d (i:=m * 48271) (j:=2147483647) (by decide)
  generalize m * 48271 % 2147483647=l at h2 ⊢
  exact ⟨.inl (by decide),by decide,.inl (by omega),by decide,.inr (by decide),by decide,.inl (by omega),by decide,q _ (Za _ (by decide))⟩
theorem b9I (T:Txt K mg t):a1a P w K mg base CX0 2 t.f_z1h t.fd_z1h ["_law_cell","_law_some"] b5O:=by
 refine T.F_z1h.ok a5f (fun vs H Q E h=>?_) (fun cdv A outer s H vs Q E hr h=>?_)
 ·obtain ⟨c,a,sm,rfl,ha,hsn,hsl,q⟩:=h;rfl
 ·obtain ⟨c,a,sm,rfl,ha,hsn,hsl,q⟩:=h
  refine ⟨_,‹A2 (A6 2 a5f.nd C9) (A2 (B8 (G0 (A0 1 A1)) (F9 (C6 (A8 3 a5f.nd) (C6 (A8 4 a5f.nd) E7))) (A2 (A6 5 a5f.nd (A5 a0r (A7 (a3y T) T.g_z1p T.F_z1p.kp T.b_z1p .nil (A0 0 (A0 (A5 a0u A3 3) A1))) A3)) (A4 (B4 (B1 b0y 5 A3 (a0n _)) (A4 (C3 2 4 (B2 a0s (B5 (A0 B0 (A0 B0 A1))) 5))) B7)))) (A4 (A9 2)))›,?_⟩
  rw [show start b6Z [V.int c,V.ref a]=[some (V.int c),some (V.ref a),none,none,none,none] from rfl]
  try simp only [a1r,a1K,a1V,a0m,Qf,Qg,a0E,b2d,a0h,a0l,Qb,Qa,a0t,a0e]
  intro D hD
  obtain ⟨H1,e1,s1,h1⟩:=a0V hD (.dK []);rw [e1]
  refine ⟨a,rfl,⟨_,SqL.of (s1 _ _ ha)⟩,?_⟩
  refine b1S (K:=K) (a:=a) (xs:=sm.map V.str) (fun i σ H'=>∃(kn:List (Str×Bool)) (x3 x4 x5:Option V),σ=[some (V.int c),some (V.ref a),some (V.ref D),x3,x4,x5]∧a0f H H'∧H' D=some (.dK (wv kn))∧(kn.map (·.1)).Sublist (sm.take i))
   ⟨[],_,_,_,rfl,s1,h1,Vr _⟩ (fun i σ H' _ ⟨_,_,_,_,_,s,_⟩=>SqL.of (s _ _ ha)) ?_ ?_
  ·rintro i v σ H2 p hi ⟨kn,x3,x4,x5,rfl,s2,hD2,hsub⟩ hp
   have hil:i < sm.length:=by simpa using (Qm.mp hi).1
   have ev:v=V.str sm[i]:=by
    rw [Qn,Qc hil] at hi
    exact (Option.some.inj hi).symm
   subst ev
   obtain ⟨H3,e3,s3,h3⟩:=a0V hp (.tup [V.int i,V.str sm[i]]);rw [e3]
   refine ⟨p,_,rfl,SqT.of h3,rfl,_,_,rfl,_,_,rfl,rfl,?_⟩
   have et:=Qt hil
   have hq:sm[i]∉kn.map (·.1):=fun z=>by
    obtain ⟨j,hj,e⟩:=Yv (hsub.subset z)
    rw [Xo] at hj
    rw [Jg] at e
    have:=(Zn hsn).mp e
    omega
   have hkl:kn.length≤i:=by
    have:=hsub.length_le
    rw [Qe,Xo] at this
    omega
   try simp only [a1r,a1K,tOp,a0x,a0h,a0l,Qf,Qg,Qa,tC,Qb,a0t,Qh,a0m,a2T,a0R,a3z,a2Q,a0e,a1m,a0L,a2d,a0J,a4E,a1e,decide_eq_true_eq]
   intro r hr0
   have m3:=a1d (i:=r) (j:=3) (by decide)
   refine ⟨by decide,a1C (fun c1=>?_) (fun c1=>⟨kn,_,_,_,rfl,s2.trans s3,s3 _ _ hD2,by rw [et];exact hsub.trans (List.sublist_append_left _ _)⟩)⟩
   refine ⟨by simp only [Qo,Xb];decide,fun p4 hp4=>?_⟩
   obtain ⟨H4,e4,s4,h4⟩:=a0V hp4 (.lst [V.str "held",V.str "refused"]);rw [e4]
   obtain ⟨b,eb⟩:∃b,atI [V.str "held",V.str "refused"] (r % 3)=some (V.str (wd b)):=by
    rcases (show r % 3=0∨r % 3=1 by omega) with z | z
    ·exact ⟨true,by rw [z];rfl⟩
    ·exact ⟨false,by rw [z];rfl⟩
   refine a0o (SqL.of h4) eb ⟨D,_,rfl,c3q (s4 _ _ (s3 _ _ hD2)) (by omega) hq b,kn++[(sm[i],b)],_,_,_,rfl,?_,a0d,?_⟩
   ·intro x o e;rw [a0a (a0c e hD)];exact s4 _ _ (s3 _ _ (s2 _ _ e))
   ·rw [et,Xc];exact hsub.append (Gb.refl _)
  ·rintro σ H2 ⟨kn,x3,x4,x5,rfl,s2,hD2,hsub⟩
   try simp only [a1j,a0l,Qb,Qa,a0e]
   rw [Qe,Xs] at hsub
   exact q D kn H2 s2 hD hD2 hsub
theorem a7A (T:Txt K mg t):a1a P w K mg base CX0 1 t.f_z0w t.fd_z0w ["self","label","head","body"] (b7J K):=by
 refine T.F_z0w.ok b8i (fun vs H Q E h=>?_) (fun cdv A outer s H vs Q E hr h=>?_)
 ·obtain ⟨x,C,dx,lb,hd,b,bs,rfl,hx,hC,hb,q⟩:=h;rfl
 ·obtain ⟨x,C,dx,lb,hd,b,bs,rfl,hx,hC,hb,q⟩:=h
  refine ⟨_,‹A2 (E9 0 1) (A2 (E9 0 2) (A4 (E9 0 (D6 a2o T.z_tuple a1J (A0 3 A1)))))›,?_⟩
  rw [show start b7E [V.ref x,lb,hd,V.ref b]=[some (V.ref x),some (lb),some (hd),some (V.ref b)] from rfl]
  obtain ⟨cl,n1,n2,n3⟩:=hC
  try simp only [a1r,c0a,a0l,Qb,Qa,tCB,a0h,a0t,a0e]
  have cut:∀(H0:Hp),(∀c o,H c=some o→c≠x→H0 c=some o)→H0 x=some (.ins C dx (a1D "head" hd (a1D "label" lb [])))→∀t,H0 t=some (.tup bs)→t≠x→(∀c o,H c=some o→c≠x→upd H0 x (.ins C dx (a8z lb hd t)) c=some o)∧a1N (upd H0 x (.ins C dx (a8z lb hd t))) x C lb hd bs:=fun H0 k0 h0 t ht htx=>
   ⟨fun c o e hc=>by rw [a0a hc];exact k0 c o e hc,dx,t,a0d,by rw [a0a htx];exact ht⟩
  refine ⟨x,C,dx,_,rfl,hx,cl,n1,by show 0 < 1000;decide,x,C,dx,_,rfl,a0d,cl,n2,by show 1 < 1000;decide,?_⟩
  rw [b5S]
  obtain ⟨H1,e1,k1,h1⟩:∃H',upd H x (.ins C dx (a1D "head" hd (a1D "label" lb [])))=H'∧(∀c o,H c=some o→c≠x→H' c=some o)∧H' x=some (.ins C dx (a1D "head" hd (a1D "label" lb []))):=⟨_,rfl,fun c o e hc=>by rw [a0a hc];exact e,a0d⟩
  rw [e1]
  have hlen:(a1D "head" hd (a1D "label" lb [])).length < 1000:=by
   rw [show a1D "head" hd (a1D "label" lb [])=([("label",lb),("head",hd)]:List (Str×V)) from by
    show (if ("label":Str)="head" then _ else _)=_
    rw [if_neg (by decide+kernel)];rfl]
   show 2 < 1000;decide
  rcases hb with hb | ⟨hb,hb'⟩
  ·have hb1:SqL K H1 b bs:=by
    rcases hb with (hb | ⟨o,hb⟩) | hb
    ·exact .inl (.inl (k1 _ _ hb (a0B hb hx (by intro z;cases z))))
    ·exact .inl (.inr ⟨o,k1 _ _ hb (a0B hb hx (by intro z;cases z))⟩)
    ·exact .inr hb
   refine ⟨b,bs,rfl,.inl ⟨hb1,fun t ht=>?_⟩⟩
   have htx:t≠x:=fun z=>by rw [z,h1] at ht;cases ht
   obtain ⟨H2,e2,s2,h2⟩:=a0V ht (.tup bs);rw [e2]
   obtain ⟨a1,a2⟩:=cut H2 (fun c o e hc=>s2 _ _ (k1 c o e hc)) (s2 _ _ h1) t h2 htx
   exact ⟨x,C,dx,_,rfl,s2 _ _ h1,cl,n3,hlen,q _ a1 a2⟩
  ·have hbx:b≠x:=a0B hb' hx (by intro z;cases z)
   have hb1:=k1 _ _ hb' hbx
   refine ⟨b,bs,rfl,.inr ⟨SqT.of hb1,?_⟩⟩
   obtain ⟨a1,a2⟩:=cut H1 k1 h1 b hb1 hbx
   exact ⟨x,C,dx,_,rfl,h1,cl,n3,hlen,q _ a1 a2⟩
theorem b6Y (T:Txt K mg t):a1a P w K mg base CX0 2 t.f_z0y t.fd_z0y ["self","head"] (b4p K t.C_Fact):=by
 refine T.F_z0y.ok b6J (fun vs H Q E h=>?_) (fun cdv A outer s H vs Q E hr h=>?_)
 ·obtain ⟨x,dx,hd,rfl,hx,q⟩:=h;rfl
 ·obtain ⟨x,dx,hd,rfl,hx,q⟩:=h
  refine ⟨_,‹A4 (C7 (J1 (D9 (.ref t.C_Rule) T.g_Rule rfl) T.cm_Rule (a7A T) (hr.mono (by decide)) T.b_z0w .nil b0Z (A0 0 (A0 B0 (A0 1 (A0 (C5 A1) A1))))))›,?_⟩
  rw [show start b6P [V.ref x,hd]=[some (V.ref x),some (hd)] from rfl]
  try simp only [a3n,b2W,tC,a0h,a0l,Qa,Qb,a6Q,a0t,Qh,a0e]
  refine ⟨(by trivial),by decide,fun b hb=>?_⟩
  obtain ⟨H1,e1,s1,h1⟩:=a0V hb (.tup []);rw [e1]
  refine ⟨x,t.C_Fact,dx,_,hd,b,[],rfl,s1 _ _ hx,⟨T.cl_Fact,T.nf_Fact_label,T.nf_Fact_head,T.nf_Fact_body⟩,.inr ⟨SqT.of h1,h1⟩,fun H' k r=>?_⟩
  exact q _ (fun c o e hc=>k c o (s1 _ _ e) hc) r
theorem b7k (T:Txt K mg t):a1a P w K mg base CX0 4 t.f_z1k t.fd_z1k ["_law_row_here"] (b4d K t):=by
 refine T.F_z1k.ok a5Y (fun vs H Q E h=>?_) (fun cdv A outer s H vs Q E hr h=>?_)
 ·obtain ⟨p,b,r,rfl,hro,hp,hb,q⟩:=h;rfl
 ·obtain ⟨p,b,r,rfl,hro,hp,hb,q⟩:=h
  refine ⟨_,‹A2 (H1 0 (F9 (C6 (A8 1 a5Y.nd) (C6 (A8 2 a5Y.nd) (C6 (A8 3 a5Y.nd) (C6 (A8 4 a5Y.nd) E7)))))) (A2 (B4 (B1 (a1g hr.units) 1 B0 (a0n _)) (A4 (A9 (F7 T.mk_Fact (b6Y T) T.g_Fact T.b_z0y (A0 3 A1)))) B7) (A2 (B4 (B1 (a1g hr.units) 1 B0 (a0n _)) (A4 (A9 (F7 T.mk_Sure (a7A T) T.g_Sure T.b_z0w (A0 2 (A0 3 (A0 (D6 a1o T.z_list a1n (A0 4 A1)) A1)))))) B7) (A2 (B4 (B1 (a1g hr.units) 1 B0 (a0n _)) (A4 (A9 (F7 T.mk_Most (a7A T) T.g_Most T.b_z0w (A0 2 (A0 3 (A0 4 A1)))))) B7) (A4 (A9 (F7 T.mk_Block (a7A T) T.g_Block T.b_z0w (A0 2 (A0 3 (A0 4 A1)))))))))›,?_⟩
  rw [show start b6W [V.ref p]=[some (V.ref p),none,none,none,none] from rfl]
  obtain ⟨so,lb,hd,bd⟩:=r
  dsimp only at hp hb
  try simp only [a1r,a1K,a0l,Qa,b8S,a8w,a0m,c0c,a2T,a0R,tOp,Qf,Qg,Qb,tC,a1j,b4G,a0h,a0t,Qh,a0e,a1m,tCB]
  refine ⟨p,_,rfl,SqT.of hp,rfl,_,_,rfl,_,_,rfl,_,_,rfl,_,_,rfl,rfl,?_⟩
  have hh:∀{H0:Hp} {x dx:Addr} {C:Addr},H0 x=none→H0 dx=none→dx≠x→(a0f H0 (upd (upd H0 dx (.own x)) x (.ins C dx [])))∧(upd (upd H0 dx (.own x)) x (.ins C dx [])) x=some (.ins C dx []):=fun {H0 x dx C} h1 h2 h3=>
   ⟨fun c o e=>by rw [a0a (a0c e h1),a0a (a0c e h2)];exact e,a0d⟩
  have ez:so=0→bd=[]∧lb="":=hro.2.1
  try simp only [a2H,a1e,decide_eq_true_eq]
  match so,hro.1,ez with
  | 0,_,ez=>
   refine a1C (fun _=>?_) (fun c=>absurd rfl c)
   intro x dx nx ndx ne
   obtain ⟨s,hx⟩:=hh (C:=t.C_Fact) nx ndx ne
   refine ⟨x,dx,_,rfl,hx,fun H' k r=>⟨rfl,q x H' (fun c o e=>k c o (s _ _ e) (a0c e nx)) ?_⟩⟩
   obtain ⟨e1,e2⟩:=ez rfl
   subst e1 e2
   exact r
  | 1,_,_=>
   refine a1C (fun c=>absurd c (by decide+kernel)) (fun _=>a1C (fun _=>?_) (fun c=>absurd rfl c))
   refine ⟨b,_,rfl,.inr (SqT.of hb),fun l hl=>?_⟩
   obtain ⟨H1,e1,s1,h1⟩:=a0V hl (.lst (bd.map V.str));rw [e1]
   intro x dx nx ndx ne
   obtain ⟨s,hx⟩:=hh (C:=t.C_Sure) nx ndx ne
   exact ⟨x,t.C_Sure,dx,_,_,l,_,rfl,hx,⟨T.cl_Sure,T.nf_Sure_label,T.nf_Sure_head,T.nf_Sure_body⟩,.inl (SqL.of (s _ _ h1)),fun H' k r=>⟨rfl,q x H' (fun c o e=>k c o (s _ _ (s1 _ _ e)) (a0c (s1 _ _ e) nx)) r⟩⟩
  | 2,_,_=>
   refine a1C (fun c=>absurd c (by decide+kernel)) (fun _=>a1C (fun c=>absurd c (by decide+kernel)) (fun _=>a1C (fun _=>?_) (fun c=>absurd rfl c)))
   intro x dx nx ndx ne
   obtain ⟨s,hx⟩:=hh (C:=t.C_Most) nx ndx ne
   exact ⟨x,t.C_Most,dx,_,_,b,_,rfl,hx,⟨T.cl_Most,T.nf_Most_label,T.nf_Most_head,T.nf_Most_body⟩,.inr ⟨SqT.of (s _ _ hb),s _ _ hb⟩,fun H' k r=>⟨rfl,q x H' (fun c o e=>k c o (s _ _ e) (a0c e nx)) r⟩⟩
  | 3,_,_=>
   refine a1C (fun c=>absurd c (by decide+kernel)) (fun _=>a1C (fun c=>absurd c (by decide+kernel)) (fun _=>a1C (fun c=>absurd c (by decide+kernel)) (fun _=>?_)))
   intro x dx nx ndx ne
   obtain ⟨s,hx⟩:=hh (C:=t.C_Block) nx ndx ne
   exact ⟨x,t.C_Block,dx,_,_,b,_,rfl,hx,⟨T.cl_Block,T.nf_Block_label,T.nf_Block_head,T.nf_Block_body⟩,.inr ⟨SqT.of (s _ _ hb),s _ _ hb⟩,fun H' k r=>⟨rfl,q x H' (fun c o e=>k c o (s _ _ e) (a0c e nx)) r⟩⟩
theorem b3L (T:Txt K mg t):a1a P w K mg base CX0 1 t.f_z1i t.fd_z1i ["_law_cell","_law_k","_law_signs"] b9o:=by
 refine T.F_z1i.ok a3k (fun vs H Q E h=>?_) (fun cdv A outer s H vs Q E hr h=>?_)
 ·obtain ⟨c,k,sg,rfl,hsg,q⟩:=h;rfl
 ·obtain ⟨c,k,sg,rfl,hsg,q⟩:=h
  refine ⟨_,‹A2 (A6 3 a3k.nd (A5 a0u A3 (A5 a0r 0 A3))) (A2 (A6 4 a3k.nd (A5 a0r (A5 a0G 0 A3) 3)) (A2 (A6 5 a3k.nd B0) (A2 (B8 (E0 (A0 3 A1)) (A8 6 a3k.nd) (A2 (A6 7 a3k.nd (A5 a0u (A5 a0G 0 A3) (A5 a3D A3 6))) (D4 (B4 (B1 (a1g hr.units) 6 4 (a0n _)) (A4 (A6 7 a3k.nd (A5 a0u 7 1))) B7) (A4 (A6 5 a3k.nd (A5 a0u 5 (B2 a0s 2 (A5 a0r 7 (C4 a1t T.z_len a1u (A0 2 A1)))))))))) (A4 (A9 5)))))›,?_⟩
  rw [show start b7C [V.int c,V.int k,sv sg]=[some (V.int c),some (V.int k),some (sv sg),none,none,none,none,none] from rfl]
  have m8:=a1d (i:=c) (j:=8) (by decide)
  try simp only [a1r,a1K,tOp,tC,a0l,Qa,a0m,Qf,Qg,Qb,a0E,a5w,a0h,a0t,a0e,a0J,a6c,a0L]
  refine ⟨by decide,⟨by decide,by decide⟩,by omega,_,rfl,by omega,by omega,?_⟩
  refine a1U (n:=(1+c % 8).toNat) (lo:=0) (fun i σ H'=>H=H'∧∃(j st:Option V),σ=[some (V.int c),some (V.int k),some (sv sg),some (V.int (1+c % 8)),some (V.int (c / 8 % (1+c % 8))),some (sv ((Yg i).map fun (j:Nat)=>sg.getD (((c / 64+5 * (j:Int)+(if (j:Int)=c / 8 % (1+c % 8) then k else 0)) % (sg.length:Int)).toNat) 0)),j,st]) ⟨rfl,_,_,rfl⟩ ?_ ?_
  ·rintro i σ H' hi ⟨rfl,j,st,rfl⟩
   obtain ⟨l,el⟩:∃l,((Yg i).map fun (j:Nat)=>sg.getD (((c / 64+5 * (j:Int)+(if (j:Int)=c / 8 % (1+c % 8) then k else 0)) % (sg.length:Int)).toNat) 0)=l:=⟨_,rfl⟩
   have hl:l.length=i:=by rw [←el,Qe,Jf]
   rw [Jt,Xc,Xl,Jk,el,Int.zero_add]
   try simp only [a0m,a1r,a1K,tOp,a0l,Qf,Qg,Qa,tC,Qb,a0e,a0J,b4u,a6c,a0L]
   refine ⟨⟨by decide,by decide⟩,.inl (by decide),fun σ' H'=>H=H'∧∃n:Int,n=c / 64+5 * (i:Int)+(if (i:Int)=c / 8 % (1+c % 8) then k else 0)∧σ'=[some (V.int c),some (V.int k),some (sv sg),some (V.int (1+c % 8)),some (V.int (c / 8 % (1+c % 8))),some (sv l),some (V.int (i:Int)),some (V.int n)],?_,?_⟩
   ·try simp only [a2T,a0R,tOp,a0l,Qb,Qa,a1K,a0m,Qf,Qg,a0e,a0L,a1m,a1q,a1e,decide_eq_true_eq]
    exact a1C (fun z=>⟨(by trivial),_,by rw [if_pos z],rfl⟩) (fun z=>⟨(by trivial),_,by rw [if_neg z,Int.add_zero],rfl⟩)
   rintro σ' H' ⟨rfl,n,hn,rfl⟩
   rw [←hn]
   try simp only [a1K,tOp,a0l,Qb,Qa,tCB,a0h,a0t,a0m,Qf,Qg,a0e,b1a,a0J,b4H,a1s]
   have hm:=a1d (i:=n) (j:=((mk sg).length:Int)) (by rw [a0y];omega)
   obtain ⟨d,e,hv,hd⟩:=a3i (xs:=(mk sg).cps.toList) hm.1 (by rw [show ((mk sg).cps.toList.length:Int)=((mk sg).length:Int) by rw [a0y]];exact hm.2)
   have hd':sg.getD ((n % (sg.length:Int)).toNat) 0=d:=by
    have hd2:sg[(n % ((mk sg).length:Int)).toNat]?=some d:=hd
    rw [a0y] at hd2
    rw [Yj,hd2];rfl
   rw [hd']
   refine ⟨a3r (by rw [a0y];omega),by rw [a0y];omega,a3r (by rw [a0y];omega),d,e,?_,(by trivial),_,_,by rw [show (mk l++(⟨#[d]⟩:Str))=mk (l++[d]) from a2j l [d]]⟩
   show (mk l).length+1≤sizeLine
   rw [a0y]
   exact Qj (show l.length+1≤1000 by omega) (by decide)
  ·rintro σ H' ⟨rfl,j,st,rfl⟩
   try simp only [a1j,a0l,Qb,Qa,a0e]
   exact q
theorem a8G (T:Txt K mg t):a1a P w K mg base CX0 2 t.f_z18 t.fd_z18 ["_law_cell"] b1D:=by
 refine T.F_z18.ok b6A (fun vs H Q E h=>?_) (fun cdv A outer s H vs Q E hr h=>?_)
 ·obtain ⟨c,rfl,q⟩:=h;rfl
 ·obtain ⟨c,rfl,q⟩:=h
  refine ⟨_,‹A4 (A9 (C0 (B3 (a0b a8f) b6k ["_law_k","_law_cell"] [none,some 0]) (E0 (A0 A3 A1)) (A8 0 (show Xf (["_law_k","_law_cell"]:List Str) by decide+kernel)) D2 (A7 (b3L T) T.g_z1i T.F_z1i.kp T.b_z1i .nil (A0 (A5 a0G 1 A3) (A0 0 (A0 B0 A1))))))›,?_⟩
  rw [show start b6k [V.int c]=[some (V.int c)] from rfl]
  try simp only [a1j,a0p,a5w,a0h,tC,a0t]
  refine ⟨12,rfl,by decide,by decide,?_⟩
  refine a4i a2K (Qj (show (12:Int).toNat≤1000 by decide) (by decide)) [some (V.int c)] rfl (fun i v=>∃z,v=.str z∧OkS z) (fun _ _=>trivial) (fun i H' R hi s hR=>?_) (fun D H' ys hDn s hD hl hv=>?_)
  ·try simp only [a0x,a0h,tOp,a0l,Qb,Qa,tC,a0t,Qh,a0e,a0J,a6c]
   rw [b5D]
   refine ⟨⟨by decide,by decide⟩,_,_,c0A,rfl,by decide,hR _ _ (a0f.refl _) ⟨_,rfl,OkS.of (fun x hx=>b4O (a5E (by decide) x hx)) (Qj (a3A _ _ _).2 (by decide))⟩⟩
  ·obtain ⟨zs,rfl,ho⟩:=a6m hv
   exact q D zs H' s hDn hD (by simpa using hl) ho
theorem b7Z (T:Txt K mg t):a1a P w K mg base CX0 3 t.f_z1d t.fd_z1d ["_law_cell","_law_many"] b5d:=by
 refine T.F_z1d.ok a3w (fun vs H Q E h=>?_) (fun cdv A outer s H vs Q E hr h=>?_)
 ·obtain ⟨c,m,rfl,hm,q⟩:=h;rfl
 ·obtain ⟨c,m,rfl,hm,q⟩:=h
  refine ⟨_,‹A2 (A6 2 a3w.nd (A7 (a8G T) T.g_z18 T.F_z18.kp T.b_z18 .nil (A0 0 A1))) (A2 (A6 3 a3w.nd (B5 A1)) (A2 (B8 (E0 (A0 1 A1)) (A8 4 a3w.nd) (A2 (A6 5 a3w.nd (A7 (a3y T) T.g_z1p T.F_z1p.kp T.b_z1p .nil (A0 0 (A0 (A5 a0u A3 4) A1)))) (A2 (A6 6 a3w.nd (A5 a0r 5 A3)) (A2 (A6 7 a3w.nd (A5 a0r (A5 a0G 5 A3) A3)) (A4 (B4 (B1 (a5R hr.units) 6 7 (a0n _)) (A4 (C7 (C8 Yc Xy Xz a0S 3 (A0 (C5 (A0 (B2 a0s 2 (C4 (a9C rfl) T.z_min b0V (A0 6 (A0 7 A1)))) (A0 (B2 a0s 2 (C4 (a9Z rfl) T.z_max a8F (A0 6 (A0 7 A1)))) A1))) A1)))) B7)))))) (A4 (A9 3))))›,?_⟩
  rw [show start b6L [V.int c,V.int m]=[some (V.int c),some (V.int m),none,none,none,none,none,none] from rfl]
  try simp only [a1r,a1K,a0x,a0h,a0l,Qa,a0t,Qh,a0m,a2Q,Qf,Qg,a0E,a5w,Qb,a0e]
  refine ⟨c,rfl,fun La ls H1 s1 hLn hL hl12 hlo=>?_⟩
  try simp only []
  refine ⟨by decide,fun D hD=>⟨_,rfl,by omega,by omega,?_⟩⟩
  obtain ⟨H2,e2,s2,h2⟩:=a0V hD (.lst []);rw [e2]
  have hDn:H D=none:=none_of s1 hD
  have hLD:La≠D:=a0c hL hD
  refine a1U (n:=m.toNat) (lo:=0) (fun i σ H'=>∃(ps:List V) (pl:List (Str×Str)) (x4 x5 x6 x7:Option V),σ=[some (V.int c),some (V.int m),some (V.ref La),some (V.ref D),x4,x5,x6,x7]∧a0f H H'∧H' La=some (.lst (ls.map V.str))∧H' D=some (.lst ps)∧a0K H' ps pl∧pl.length≤i∧b3B pl)
   ⟨[],[],_,_,_,_,rfl,s1.trans s2,s2 _ _ hL,h2,⟨[],rfl,rfl,fun i a p e=>by simp at e⟩,Qi _,fun _ h=>by cases h⟩ ?_ ?_
  ·rintro i σ H3 hi ⟨ps,pl,x4,x5,x6,x7,rfl,s3,hL3,hD3,hP3,hpl,hpo⟩
   try simp only [a0m,a1r,a1K,a0x,a0h,a0l,Qf,Qg,Qa,tOp,tC,Qb,a0t,Qh,a2T,a0R,a3n,tBM,a6Q,tCB,a0e,a1m,a0L,a2d,a0J,a6c,b2w,a1e,Yu,decide_eq_false_iff_not]
   intro r hr
   have m1:=a1d (i:=r) (j:=12) (by decide)
   have m2:=a1d (i:=r / 12) (j:=12) (by decide)
   generalize r % 12=x at m1
   generalize r / 12 % 12=y at m2
   have hpsl:ps.length≤60:=by
    obtain ⟨as,rfl,hal,_⟩:=hP3
    rw [Qe];omega
   refine ⟨by decide,⟨by decide,by decide⟩,by decide,a1C (fun c1=>?_) (fun c1=>⟨ps,pl,_,_,_,_,rfl,s3,hL3,hD3,hP3,by omega,hpo⟩)⟩
   have pk:∀n:Int,0≤n∧n < 12→∃z,atI (ls.map V.str) n=some (.str z)∧OkS z:=fun n hn=>by
    obtain ⟨v,e,hv,_⟩:=a3i (xs:=ls.map V.str) (i:=n) hn.1 (by rw [Qe,hl12];exact hn.2)
    obtain ⟨z,hz,rfl⟩:=Ql.mp hv
    exact ⟨z,e,hlo z hz⟩
   obtain ⟨z1,ez1,o1⟩:=pk (if y < x then y else x) (by split<;>omega)
   obtain ⟨z2,ez2,o2⟩:=pk (if y > x then y else x) (by split<;>omega)
   refine ⟨.inl ⟨rfl,_,SqL.of hD3⟩,x,y,rfl,a0o (SqL.of hL3) ez1 ⟨x,y,rfl,a0o (SqL.of hL3) ez2 ⟨by simp only [Qo,Xb];decide,fun p hp=>?_⟩⟩⟩
   obtain ⟨H4,e4,s4,h4⟩:=a0V hp (.tup [V.str z1,V.str z2]);rw [e4]
   have hD4:=s4 _ _ hD3
   have hpD:p≠D:=fun z=>by rw [z,hD3] at hp;cases hp
   refine ⟨D,_,_,rfl,rfl,hD4,Xk (show _≤1000 by omega) (by decide),?_⟩
   have up:∀b o,b≠D→H4 b=some o→upd H4 D (.lst (ps++[V.ref p])) b=some o:=fun b o hb e=>by rw [a0a hb];exact e
   refine ⟨ps++[V.ref p],pl++[(z1,z2)],_,_,_,_,rfl,fun b o e=>up _ _ (a0c e hDn) (s4 _ _ (s3 _ _ e)),up _ _ hLD (s4 _ _ hL3),a0d,a5a (a4L (a0K.same s4 hP3) ⟨_,hD4⟩ up) (up _ _ hpD h4),by simp;omega,fun w hw=>?_⟩
   rcases Xe.mp hw with z | z
   ·exact hpo w z
   ·rw [Xm.mp z];exact ⟨o1.1,o2.1⟩
  ·rintro σ H3 ⟨ps,pl,x4,x5,x6,x7,rfl,s3,hL3,hD3,hP3,hpl,hpo⟩
   try simp only [a1j,a0l,Qb,Qa,a0e]
   exact q D ps pl H3 s3 hDn hD3 hP3 (by omega) hpo
theorem b8L (T:Txt K mg t):a1a P w K mg base CX0 4 t.f_z01 t.fd_z01 ["_law_script"] (b2p K):=by
 refine T.F_z01.ok a3v (fun vs H Q E h=>?_) (fun cdv A outer s H vs Q E hr h=>?_)
 ·obtain ⟨a,ns,rfl,hS,hl,q⟩:=h;rfl
 ·obtain ⟨a,ns,rfl,hS,hl,q⟩:=h
  refine ⟨_,‹A2 (A6 1 a3v.nd (A7 (a8G T) T.g_z18 T.F_z18.kp T.b_z18 .nil (A0 (A7 (a2z T) T.g_z12 T.F_z12.kp T.b_z12 .nil (A0 0 (A0 A3 A1))) A1))) (A2 (A6 2 a3v.nd (A7 (a2z T) T.g_z12 T.F_z12.kp T.b_z12 .nil (A0 0 (A0 A3 A1)))) (A2 (B4 (B1 b0y (A5 a0r (A7 (a2z T) T.g_z12 T.F_z12.kp T.b_z12 .nil (A0 0 (A0 A3 A1))) A3) A3 (a0n _)) (A4 (A9 (A7 (b7Z T) T.g_z1d T.F_z1d.kp T.b_z1d .nil (A0 (A7 (a2z T) T.g_z12 T.F_z12.kp T.b_z12 .nil (A0 0 (A0 A3 A1))) (A0 (A5 a0r 2 A3) A1))))) B7) (A2 (A6 3 a3v.nd (B5 A1)) (A2 (B8 (E0 (A0 A3 A1)) (A8 4 a3v.nd) (A4 (B8 (J2 rfl T.z_range (A0 (A5 a0u 4 A3) (A0 A3 A1))) (A8 5 a3v.nd) (D4 (B4 (B1 (a1g hr.units) (A5 a0r 2 A3) A3 (a0n _)) (A4 (C7 (C8 Yc Xy Xz a0S 3 (A0 (C5 (A0 (B2 a0s 1 4) (A0 (B2 a0s 1 5) A1))) A1)))) B7) (A4 (A6 2 a3v.nd (A5 a0G 2 A3))))))) (A4 (A9 3))))))›,?_⟩
  rw [show start b8y [V.ref a]=[some (V.ref a),none,none,none,none,none] from rfl]
  try simp only [a1r,a1K,a0x,a0h,a0l,Qa,tC,a0t,Qh,a0m,Qf,Qg,a2T,a0R,tOp,a1j,Qb,a0e,a1m,a2Q,a0E,a5w]
  refine ⟨a,ns,0,rfl,hS,hl,by decide,by decide,fun c0=>?_⟩
  refine ⟨c0,rfl,fun La ls H1 s1 hLn hL hl12 hlo=>?_⟩
  have hS1:SqL K H1 a (ns.map V.int):=s1.seq hS
  try simp only []
  refine ⟨a,ns,2,rfl,hS1,hl,by decide,by decide,fun c2=>?_⟩
  try simp only [a0J]
  refine ⟨a,ns,1,rfl,hS1,hl,by decide,by decide,fun c1=>?_⟩
  try simp only [a0J,a4E,a1e,decide_eq_true_eq]
  refine ⟨by decide,a1C (fun cc=>?_) (fun cc=>?_)⟩
  ·refine ⟨a,ns,0,rfl,hS1,hl,by decide,by decide,fun c3=>?_⟩
   have m25:=a1d (i:=c2) (j:=25) (by decide)
   try simp only []
   exact ⟨by decide,c3,c2 % 25,rfl,by omega,fun D ps pl H' s' hDn hD hP hpl hpo=>q D ps pl H' (s1.trans s') (none_of s1 hDn) hD hP hpl hpo⟩
  refine ⟨by decide,fun D hD=>⟨11,rfl,by decide,by decide,?_⟩⟩
  obtain ⟨H2,e2,s2,h2⟩:=a0V hD (.lst []);rw [e2]
  have hDn:H D=none:=none_of s1 hD
  have hLD:La≠D:=a0c hL hD
  have pk:∀n:Int,0≤n∧n < 12→∃z,atI (ls.map V.str) n=some (.str z)∧OkS z:=fun n hn=>by
   obtain ⟨v,e,hv,_⟩:=a3i (xs:=ls.map V.str) (i:=n) hn.1 (by rw [Qe,hl12];exact hn.2)
   obtain ⟨z,hz,rfl⟩:=Ql.mp hv
   exact ⟨z,e,hlo z hz⟩
  refine a1U (n:=(11:Int).toNat) (lo:=0) (fun i σ H'=>∃(ps:List V) (pl:List (Str×Str)) (cc:Int) (x4 x5:Option V),σ=[some (V.ref a),some (V.ref La),some (V.int cc),some (V.ref D),x4,x5]∧a0f H H'∧H' La=some (.lst (ls.map V.str))∧H' D=some (.lst ps)∧a0K H' ps pl∧pl.length≤10 * i∧b3B pl)
   ⟨[],[],_,_,_,rfl,s1.trans s2,s2 _ _ hL,h2,⟨[],rfl,rfl,fun i a p e=>by simp at e⟩,Qi _,fun _ h=>by cases h⟩ ?_ ?_
  ·rintro i σ H3 hi ⟨ps,pl,cc,x4,x5,rfl,s3,hL3,hD3,hP3,hpl,hpo⟩
   have hi11:i < 11:=hi
   try simp only [a0m,Qf,Qg,a0E,b8Q,a0h,tOp,a0l,Qb,Qa,tC,a0t,a0e,a0L]
   refine ⟨_,_,rfl,⟨by omega,by omega,by omega,by omega⟩,?_⟩
   refine a1U (n:=(11 - (0+(i:Int)+1)).toNat) (lo:=0+(i:Int)+1) (fun j σ H'=>∃(ps:List V) (pl:List (Str×Str)) (cc:Int) (x5:Option V),σ=[some (V.ref a),some (V.ref La),some (V.int cc),some (V.ref D),some (V.int (0+(i:Int))),x5]∧a0f H H'∧H' La=some (.lst (ls.map V.str))∧H' D=some (.lst ps)∧a0K H' ps pl∧pl.length≤10 * i+j∧b3B pl)
    ⟨ps,pl,cc,_,rfl,s3,hL3,hD3,hP3,by omega,hpo⟩ ?_ ?_
   ·clear hD3 hP3 hpl hpo
    rintro j σ H4 hj ⟨ps,pl,cc,x5,rfl,s4,hL4,hD4,hP4,hpl,hpo⟩
    have hpsl:ps.length≤200:=by
     obtain ⟨as,rfl,hal,_⟩:=hP4
     rw [Qe];omega
    try simp only [a0m,Qf,Qg]
    refine ⟨fun σ' H'=>∃(ps:List V) (pl:List (Str×Str)),σ'=[some (V.ref a),some (V.ref La),some (V.int cc),some (V.ref D),some (V.int (0+(i:Int))),some (V.int (0+(i:Int)+1+(j:Int)))]∧a0f H H'∧H' La=some (.lst (ls.map V.str))∧H' D=some (.lst ps)∧a0K H' ps pl∧pl.length≤10 * i+(j+1)∧b3B pl,?_,?_⟩
    ·try simp only [a2T,a0R,tOp,a0l,Qb,Qa,tC,a3n,tBM,a0h,a6Q,a0t,a0e,a1m,a0J,a1q,a1e,decide_eq_true_eq]
     refine ⟨by decide,a1C (fun c5=>?_) (fun c5=>⟨ps,pl,(by trivial),s4,hL4,hD4,hP4,by omega,hpo⟩)⟩
     obtain ⟨z1,ez1,o1⟩:=pk (0+(i:Int)) (by omega)
     obtain ⟨z2,ez2,o2⟩:=pk (0+(i:Int)+1+(j:Int)) (by omega)
     refine ⟨.inl ⟨rfl,_,SqL.of hD4⟩,a0o (SqL.of hL4) ez1 (a0o (SqL.of hL4) ez2 ⟨by simp only [Qo,Xb];decide,fun p hp=>?_⟩)⟩
     obtain ⟨H5,e5,s5,h5⟩:=a0V hp (.tup [V.str z1,V.str z2]);rw [e5]
     have hD5:=s5 _ _ hD4
     have hpD:p≠D:=fun z=>by rw [z,hD4] at hp;cases hp
     refine ⟨D,_,_,rfl,rfl,hD5,Xk (show _≤1000 by omega) (by decide),?_⟩
     have up:∀b o,b≠D→H5 b=some o→upd H5 D (.lst (ps++[V.ref p])) b=some o:=fun b o hb e=>by rw [a0a hb];exact e
     refine ⟨ps++[V.ref p],pl++[(z1,z2)],(by trivial),fun b o e=>up _ _ (a0c e hDn) (s5 _ _ (s4 _ _ e)),up _ _ hLD (s5 _ _ hL4),a0d,a5a (a4L (a0K.same s5 hP4) ⟨_,hD5⟩ up) (up _ _ hpD h5),by simp;omega,fun w hw=>?_⟩
     rcases Xe.mp hw with z | z
     ·exact hpo w z
     ·rw [Xm.mp z];exact ⟨o1.1,o2.1⟩
    ·rintro σ' H5 ⟨ps,pl,rfl,s5,hL5,hD5,hP5,hpl5,hpo5⟩
     try simp only [a1K,tOp,a0l,Qb,Qa,tC,a0m,Qf,Qg,a0e,a0J,a6c]
     exact ⟨⟨by decide,by decide⟩,ps,pl,_,_,rfl,s5,hL5,hD5,hP5,hpl5,hpo5⟩
   ·rintro σ H4 ⟨ps,pl,cc,x5,rfl,s4,hL4,hD4,hP4,hpl,hpo⟩
    exact ⟨ps,pl,cc,_,_,rfl,s4,hL4,hD4,hP4,by omega,hpo⟩
  ·rintro σ H3 ⟨ps,pl,cc,x4,x5,rfl,s3,hL3,hD3,hP3,hpl,hpo⟩
   try simp only [a1j,a0l,Qb,Qa,a0e]
   exact q D ps pl H3 s3 hDn hD3 hP3 (by have:(11:Int).toNat=11:=rfl;omega) hpo
theorem b3j (T:Txt K mg t):a1a P w K mg base CX0 2 t.f_z1j t.fd_z1j ["_law_cell"] b8e:=by
 refine T.F_z1j.ok a5L (fun vs H Q E h=>?_) (fun cdv A outer s H vs Q E hr h=>?_)
 ·obtain ⟨c,rfl,q⟩:=h;rfl
 ·obtain ⟨c,rfl,q⟩:=h
  refine ⟨_,‹A2 (D5 1 (B3 (a0b a8v) b5c ["_law_k","_law_cell"] [none,some 0]) (E0 (A0 A3 A1)) (A8 0 (show Xf (["_law_k","_law_cell"]:List Str) by decide+kernel)) D2 (A7 (b3L T) T.g_z1i T.F_z1i.kp T.b_z1i .nil (A0 (A5 a0G 1 A3) (A0 0 (A0 B0 A1)))) a5L.nd) (A2 (A6 2 a5L.nd (B5 A1)) (A2 (B8 (E0 (A0 (A5 a0u A3 (A5 a0r 0 A3)) A1)) (A8 3 a5L.nd) (A2 (A6 4 a5L.nd (B2 a0s (B5 (A0 B0 (A0 (A5 a0u (A5 a0u B0 (B2 a0s 1 A3)) B0) (A0 (A5 a0u (A5 a0u (A5 a0u (A5 a0u B0 (B2 a0s 1 A3)) B0) (B2 a0s 1 A3)) B0) A1)))) (A5 a0G 3 A3))) (A2 (C7 (C8 Yc Xy Xz a0S 2 (A0 (A5 a0u (B2 a0s 1 (A5 a0r 3 A3)) 4) A1))) (A4 (C7 (C8 Yc Xy Xz a0S 2 (A0 (A5 a0u (A5 a0u B0 (B2 a0s 1 (A5 a0r 3 A3))) 4) A1))))))) (A4 (A9 2))))›,?_⟩
  rw [show start b5c [V.int c]=[some (V.int c),none,none,none,none] from rfl]
  try simp only [a1r,a1K,a2Q,a0t,a0m,Qf,Qg,a0E,a5w,a0h,tOp,tC,a0l,Qa,a0e,a0J,a0L,a0p]
  refine ⟨5,rfl,by decide,by decide,?_⟩
  refine a4i a2K (Qj (show (5:Int).toNat≤1000 by decide) (by decide)) [some (V.int c)] rfl (fun i v=>v=sv (a3O (c / 9) (i:Int) a3V)) (fun _ _=>trivial) (fun i H' R hi s hR=>?_) (fun W H1 ys hWn s1 hW hl hv=>?_)
  ·try simp only [a0x,a0h,tOp,a0l,Qb,Qa,tC,a0t,Qh,a0e,a0J,a6c]
   rw [b8F]
   refine ⟨⟨by decide,by decide⟩,_,_,a3V,rfl,by decide,hR _ _ (a0f.refl _) (by rw [Int.zero_add])⟩
  obtain ⟨wd,hwd⟩:∃wd:Nat→List Nat,wd=fun (i:Nat)=>a3O (c / 9) (i:Int) a3V:=⟨_,rfl⟩
  have hw1:∀k,k < 5→∀x∈wd k,x∈a3V:=fun k _ x hx=>by rw [hwd] at hx;exact a5E (by decide) x hx
  have hw2:∀k,k < 5→wd k≠[]:=fun k _ z=>by
   have:=(a3A (c / 9) (k:Int) a3V).1
   rw [hwd] at z
   rw [show a3O (c / 9) (k:Int) a3V=[] from z] at this
   simp at this
  have hw3:∀j k,j < 5→k < 5→wd j=wd k→j=k:=fun j k hj hk e=>by
   rw [hwd] at e
   have:=b0t (c:=c / 9) (k:=(j:Int)) (k':=(k:Int)) (by omega) (by omega) e
   omega
  have hyi:∀n:Nat,n < 5→atI ys (n:Int)=some (sv (wd n))∧(wd n).length≤8∧∀x∈wd n,x∈a3V:=fun n hn=>by
   have hn':n < ys.length:=by rw [hl];exact hn
   refine ⟨?_,by rw [hwd];exact (a3A _ _ _).2,hw1 n hn⟩
   unfold atI ixN
   rw [if_pos (by omega),if_pos (by omega)]
   show ys[((n:Int)).toNat]?=_
   rw [Int.toNat_natCast,Qc hn',hv n _ (Qc hn'),hwd]
  have m9:=a1d (i:=c) (j:=9) (by decide)
  try skip
  refine ⟨by decide,fun D hD=>?_⟩
  have hWD:W≠D:=fun z=>by rw [z,hD] at hW;cases hW
  refine ⟨by decide,_,rfl,by omega,by omega,?_⟩
  refine a1U (n:=(1+c % 9).toNat) (lo:=0) (fun i σ H'=>∃(pl:List Str) (k pc:Option V),σ=[some (V.int c),some (V.ref W),some (V.ref D),k,pc]∧a0f H1 H'∧H' D=some (.lst (pl.map V.str))∧(pl=(Yg (2 * i)).map (plG wd))∧∀z∈pl,OkS z) ⟨[],_,_,rfl,a0f.upd hD,a0d,rfl,by simp⟩ ?_ ?_
  ·rintro i σ H2 hi ⟨pl,k,pc,rfl,s2,hD2,hpl,hok⟩
   have hW2:=s2 _ _ hW
   have hpll:pl.length=2 * i:=by rw [hpl,Qe,Jf]
   obtain ⟨e3,b3,c3⟩:=hyi 3 (by decide)
   obtain ⟨e4,b4,c4⟩:=hyi 4 (by decide)
   obtain ⟨en,bn,cn⟩:=hyi (i % 3) (by omega)
   rw [show ((i % 3:Nat):Int)=(0+(i:Int)) % 3 by omega] at en
   have enm:nmL wd i=wd (i % 3)++pcl wd (i / 3):=rfl
   have epc:∀(x y z:V),x=sv (pcl wd 0)→y=sv (pcl wd 1)→z=sv (pcl wd 2)→atI [x,y,z] ((0+(i:Int)) / 3)=some (sv (pcl wd (i / 3))):=fun x y z h1 h2 h3=>by
    have hi3:i / 3 < 3:=by omega
    rw [show (0+(i:Int)) / 3=((i / 3:Nat):Int) by omega]
    match i / 3,hi3 with
    | 0,_=>rw [h1];rfl
    | 1,_=>rw [h2];rfl
    | 2,_=>rw [h3];rfl
   have e31:pcl wd 1=40::(wd 3++[41]):=rfl
   have e32:pcl wd 2=40::(wd 4++[44])++wd 3++[41]:=rfl
   have eplG:(Yg (2 * (i+1))).map (plG wd)=pl++[mk (nmL wd i),mk (45::nmL wd i)]:=by
    rw [show 2 * (i+1)=2 * i+1+1 by omega,Jt,Jt,Xc,Xc,←hpl]
    have g1:plG wd (2 * i)=mk (nmL wd i):=by unfold plG;rw [if_pos (by omega),show 2 * i / 2=i by omega]
    have g2:plG wd (2 * i+1)=mk (45::nmL wd i):=by unfold plG;rw [if_neg (by omega),show (2 * i+1) / 2=i by omega]
    rw [Xl,Xl,Jk,g1,g2,Zu];rfl
   generalize wd 3=l3 at e3 b3 c3 e31 e32
   generalize wd 4=l4 at e4 b4 c4 e32
   generalize wd (i % 3)=ln at en bn cn enm
   try simp only [a0m,a1r,a1K,tOp,a2Q,a0h,tC,a0l,Qf,Qg,Qb,Qa,a0t,a3n,tBM,a0e,a0J,a6c]
   rw [show ("(":Str)=mk [40] by decide+kernel,show (")":Str)=mk [41] by decide+kernel,show (",":Str)=mk [44] by decide+kernel,show ("-":Str)=mk [45] by decide+kernel]
   refine a0o (SqL.of hW2) e3 ?_
   try simp only [a1s]
   rw [a2j,a2j]
   refine ⟨by rw [a0y,a0y];exact Qj (show _≤2000 by simp;omega) (by decide),by rw [a0y,a0y];exact Qj (show _≤2000 by simp;omega) (by decide),a0o (SqL.of hW2) e4 ?_⟩
   try simp only [Jo,Ui,a1s]
   rw [a2j,a2j]
   refine ⟨by rw [a0y,a0y];exact Qj (show _≤2000 by simp;omega) (by decide),by rw [a0y,a0y];exact Qj (show _≤2000 by simp;omega) (by decide),a0o (SqL.of hW2) e3 ?_⟩
   try simp only [Jo,Ui,a1s]
   rw [a2j,a2j]
   refine ⟨by rw [a0y,a0y];exact Qj (show _≤2000 by simp;omega) (by decide),by rw [a0y,a0y];exact Qj (show _≤2000 by simp;omega) (by decide),by simp only [Qo,Xb];decide,fun p3 hp3=>?_⟩
   obtain ⟨H3,e3',s3,h3⟩:=a0V hp3 (.lst [V.str "",sv (40::(l3++[41])),sv (40::(l4++[44])++l3++[41])]);rw [e3']
   have d3:0≤(0+(i:Int)) / 3∧(0+(i:Int)) / 3 < 3:=by omega
   have epv:=epc (V.str "") (sv (40::(l3++[41]))) (sv (40::(l4++[44])++l3++[41])) rfl (by rw [e31]) (by rw [e32])
   have hpc:(pcl wd (i / 3)).length≤30∧∀c∈pcl wd (i / 3),c < 128:=by
    have hi3:i / 3 < 3:=by omega
    match i / 3,hi3 with
    | 0,_=>exact ⟨Xa _,fun c hc=>by cases hc⟩
    | 1,_=>
     rw [e31]
     refine ⟨by simp;omega,fun c hc=>?_⟩
     simp only [Xe,Qy,Zz,or_false] at hc
     rcases hc with h | h | h
     ·omega
     ·exact a5z (c3 c h)
     ·omega
    | 2,_=>
     rw [e32]
     refine ⟨by simp;omega,fun c hc=>?_⟩
     simp only [Xe,Qy,Zz,or_false] at hc
     rcases hc with ((h | h | h) | h) | h
     ·omega
     ·exact a5z (c4 c h)
     ·omega
     ·exact a5z (c3 c h)
     ·omega
   obtain ⟨bpc,cpc⟩:=hpc
   generalize pcl wd (i / 3)=pc' at epv bpc cpc enm
   have hW3:=s3 _ _ hW2
   have hD3:=s3 _ _ hD2
   refine ⟨⟨by decide,by decide⟩,a0o (SqL.of h3) epv ?_⟩
   have o1:OkS (mk (ln++pc')):=OkS.of (fun c hc=>(Xe.mp hc).elim (fun h=>a5z (cn c h)) (fun h=>cpc c h)) (by simp;omega)
   have o2:OkS (mk ([45]++ln++pc')):=OkS.of (fun c hc=>by
    simp only [Xe,Xm] at hc
    rcases hc with (h | h) | h
    ·omega
    ·exact a5z (cn c h)
    ·exact cpc c h) (by simp;omega)
   have hWD3:upd H3 D (.lst (pl.map V.str++[sv (ln++pc')])) W=some (.lst ys):=by rw [a0a hWD];exact hW3
   refine ⟨.inl ⟨rfl,_,SqL.of hD3⟩,by decide,a0o (SqL.of hW3) en ?_⟩
   try simp only [a1s]
   rw [a2j]
   refine ⟨by rw [a0y,a0y];exact Qj (show _≤2000 by omega) (by decide),D,_,_,rfl,rfl,hD3,Xk (show _≤1000 by rw [Qe];omega) (by decide),?_⟩
   refine ⟨.inl ⟨rfl,_,SqL.of a0d⟩,by decide,a0o (SqL.of hWD3) en ?_⟩
   try simp only [a1s]
   rw [a2j,a2j]
   refine ⟨by rw [a0y,a0y];exact Qj (show _≤2000 by simp;omega) (by decide),by rw [a0y,a0y];exact Qj (show _≤2000 by simp;omega) (by decide),D,_,_,rfl,rfl,a0d,Xk (show _≤1000 by simp;omega) (by decide),pl++[mk (ln++pc'),mk ([45]++ln++pc')],_,_,rfl,?_,?_,by rw [eplG,enm];rfl,fun z hz=>?_⟩
   ·intro b o e;rw [a0a (a0c e hD),a0a (a0c e hD)];exact s3 _ _ (s2 _ _ e)
   ·rw [a0d];simp
   ·rcases Xe.mp hz with h | h
    ·exact hok z h
    ·simp only [Qy,Zz,or_false] at h
     rcases h with rfl | rfl
     ·exact o1
     ·exact o2
  ·rintro σ H2 ⟨pl,k,pc,rfl,s2,hD2,hpl,hok⟩
   try simp only [a1j,a0l,Qb,Qa,a0e]
   have hpll:pl.length=2 * (1+c % 9).toNat:=by rw [hpl,Qe,Jf]
   exact q D pl H2 (s1.trans s2) (none_of s1 hD) hD2 (by omega) (by omega) hok (by rw [hpl];exact b2z hw1 hw2 hw3 (by omega)) (fun z hz=>by rw [hpl] at hz;obtain ⟨j,_,rfl⟩:=Ql.mp hz;exact b9W hw1 hw2 j)
theorem b9G (T:Txt K mg t):a1a P w K mg base CX0 2 t.f_z1q t.fd_z1q ["_law_m","_law_k","_law_pool_here","_law_labels_here","_law_style"] c0s:=by
 refine T.F_z1q.ok a3g (fun vs H Q E h=>?_) (fun cdv A outer s H vs Q E hr h=>?_)
 ·obtain ⟨m,k,st,P,L,pl,ls,rfl,hP,hp2,hp18,hpo,hL,hl12,hlo,q⟩:=h;rfl
 ·obtain ⟨m,k,st,P,L,pl,ls,rfl,hP,hp2,hp18,hpo,hL,hl12,hlo,q⟩:=h
  refine ⟨_,‹A2 (A6 5 a3g.nd (C4 a1t T.z_len a1u (A0 2 A1))) (A2 (A6 6 a3g.nd (B2 a0s 2 (A5 a0r (A5 a0G 0 A3) 5))) (A2 (D5 7 (B3 (a0b a6j) b2M ["_law_j","_law_pool_here","_law_size","_law_m"] [none,some 2,some 5,some 0]) (E0 (A0 (A5 a0r (A5 a0G 0 A3) A3) A1)) (A8 0 (show Xf (["_law_j","_law_pool_here","_law_size","_law_m"]:List Str) by decide+kernel)) D2 (B2 (a2W (K:=K) rfl) 1 (A5 a0r (A7 (a3y T) T.g_z1p T.F_z1p.kp T.b_z1p .nil (A0 3 (A0 (A5 (a6B (K:=K) rfl) A3 0) A1))) 2)) a3g.nd) (D4 (B4 (B1 (a1g hr.units) 4 A3 (a0n _)) (A2 (A6 6 a3g.nd (B2 a0s 2 (A5 a0r (A5 a3D A3 1) 5))) (A2 (A6 8 a3g.nd (B2 a0s (B5 (A0 A3 (A0 A3 (A0 A3 (A0 A3 (A0 A3 (A0 A3 A1))))))) (A5 a0r (A5 a0G 0 A3) A3))) (A4 (D5 7 (B3 (a0b a6j) b2M ["_law_j","_law_pool_here","_law_size","_law_k","_law_m"] [none,some 2,some 5,some 1,some 0]) (E0 (A0 8 A1)) (A8 0 (show Xf (["_law_j","_law_pool_here","_law_size","_law_k","_law_m"]:List Str) by decide+kernel)) D2 (B2 (a2W (K:=K) rfl) 1 (A5 a0r (A5 b3t (A5 b3t (A5 a3D A3 3) A3) (A5 a0r (A7 (a3y T) T.g_z1p T.F_z1p.kp T.b_z1p .nil (A0 4 (A0 (A5 (a6B (K:=K) rfl) A3 0) A1))) A3)) 2)) a3g.nd)))) B7) (A2 (A6 9 a3g.nd (B2 a0s (B5 (A0 B0 (A0 B0 (A0 B0 (A0 B0 (A0 B0 (A0 B0 (A0 B0 (A0 B0 A1))))))))) (A5 a0r 0 A3))) (A2 (B4 (B1 (a1g hr.units) (A5 a0r (A5 a0G 0 A3) A3) A3 (a0n _)) (A4 (A9 (C5 (A0 B0 (A0 B0 (A0 6 (A0 (C5 A1) A1))))))) B7) (A4 (A9 (C5 (A0 9 (A0 (B2 a0s 3 (A5 a0r (A5 a0G 0 A3) A3)) (A0 6 (A0 (D6 a2o T.z_tuple a1J (A0 7 A1)) A1))))))))))))›,?_⟩
  rw [show start b2M [V.int m,V.int k,V.ref P,V.ref L,V.int st]=[some (V.int m),some (V.int k),some (V.ref P),some (V.ref L),some (V.int st),none,none,none,none,none] from rfl]
  obtain ⟨z0,e0,o0⟩:=a2E hp2 hpo (m / 8)
  have m5:=a1d (i:=m / 200) (j:=5) (by decide)
  try simp only [a1r,a1K,tCB,a0h,a0l,Qb,Qa,a0t,a0m,tOp,Qf,Qg,tC,a0p,a5w,a0e,a0J,a6c]
  refine a1Y (SqL.of hP) ?_
  try simp only [a0J]
  rw [Qe]
  refine ⟨⟨by decide,by decide⟩,by omega,a0o (SqL.of hP) e0 ?_⟩
  try skip
  refine ⟨⟨by decide,by decide⟩,by decide,_,rfl,by omega,by omega,?_⟩
  refine a4i a2K (Qj (show (m / 200 % 5).toNat≤1000 by omega) (by decide)) [some (V.ref P),some (V.int pl.length),some (V.int m)] rfl (fun i v=>∃z,v=V.str z∧OkS z) (fun _ _=>trivial) (fun i H' R hi s hR=>?_) (fun B H1 ys hBn s1 hB hl hv=>?_)
  ·try simp only [tOp,a0l,Qb,Qa,a0x,a0h,tC,a0t,Qh,a0e,a0L,a2d,a0J]
   intro r hr
   obtain ⟨z,e,o⟩:=a2E hp2 hpo r
   exact ⟨by omega,a0o (SqL.of (s _ _ hP)) e (hR _ _ (a0f.refl _) ⟨z,rfl,o⟩)⟩
  obtain ⟨zs,rfl,hzo⟩:=a6m hv
  have hzl:zs.length≤4:=by
   rw [Qe] at hl;omega
  refine ⟨fun σ' H'=>∃(hd:Str) (B:Addr) (zs:List Str) (mn:Option V),σ'=[some (V.int m),some (V.int k),some (V.ref P),some (V.ref L),some (V.int st),some (V.int pl.length),some (V.str hd),some (V.ref B),mn,none]∧a0f H H'∧OkS hd∧H' B=some (.lst (zs.map V.str))∧zs.length≤4∧∀z∈zs,OkS z,?_,?_⟩
  ·try simp only [a2T,a0R,tOp,a0l,Qb,Qa,tC,a1r,a1K,a0m,a2Q,a0h,a0t,Qf,Qg,a0e,a0J,a6c,b4u,a1m,a1q,a1e,decide_eq_true_eq]
   refine a1C (fun c1=>?_) (fun c1=>⟨_,_,_,_,rfl,s1,o0,hB,hzl,hzo⟩)
   obtain ⟨z1,e1,o1⟩:=a2E hp2 hpo (2 * k)
   have hP1:=s1 _ _ hP
   have m6:=a1d (i:=m / 200) (j:=6) (by decide)
   refine ⟨.inl (by decide),by omega,a0o (SqL.of hP1) e1 ?_⟩
   refine ⟨by simp only [Qo,Xb];decide,fun p2 hp2'=>?_⟩
   obtain ⟨H2,e2,s2,h2⟩:=a0V hp2' (.lst [V.int 1,V.int 2,V.int 0,V.int 1,V.int 2,V.int 1]);rw [e2]
   obtain ⟨v6,e6,hv6,_⟩:=a3i (xs:=[V.int 1,V.int 2,V.int 0,V.int 1,V.int 2,V.int 1]) m6.1 m6.2
   obtain ⟨mn,rfl,hmn⟩:∃n:Int,v6=.int n∧(0≤n∧n≤2):=by
    simp only [Qy,Zz,or_false] at hv6
    rcases hv6 with rfl | rfl | rfl | rfl | rfl | rfl<;>exact ⟨_,rfl,by decide⟩
   refine ⟨⟨by decide,by decide⟩,by decide,a0o (SqL.of h2) e6 ?_⟩
   try skip
   refine ⟨_,rfl,by omega,by omega,?_⟩
   have hP2:=s2 _ _ hP1
   refine a4i a2K (Qj (show mn.toNat≤1000 by omega) (by decide)) [some (V.ref P),some (V.int pl.length),some (V.int k),some (V.int m)] rfl (fun i v=>∃z,v=V.str z∧OkS z) (fun _ _=>trivial) (fun i H' R hi s hR=>?_) (fun B2 H3 ys3 hBn3 s3 hB3 hl3 hv3=>?_)
   ·try simp only [tOp,a0l,Qb,Qa,tC,a0x,a0h,a0t,Qh,a0e,a0L,a2d,a0J,b4u,a3M]
    refine ⟨.inl (by decide),?_⟩
    intro r hr
    obtain ⟨z,e,o⟩:=a2E hp2 hpo (2 * k - 2 - r % 3)
    exact ⟨by decide,by omega,a0o (SqL.of (s _ _ hP2)) e (hR _ _ (a0f.refl _) ⟨z,rfl,o⟩)⟩
   obtain ⟨zs3,rfl,hzo3⟩:=a6m hv3
   exact ⟨_,_,zs3,_,rfl,(s1.trans s2).trans s3,o1,hB3,by rw [Qe] at hl3;omega,hzo3⟩
  clear hB hzl hzo hBn
  rintro σ' H2 ⟨hd,B,zs,mn,rfl,s2,oh,hB,hzl,hzo⟩
  have m8:=a1d (i:=m) (j:=8) (by decide)
  try simp only [a1r,a1K,tOp,a2Q,a0h,tC,a0t,a0l,Qa,a0m,a2T,a0R,Qf,Qg,a1j,a6Q,Qb,a0e,a1m,tCB,a0J,a6c,a1q,a1e,decide_eq_true_eq]
  refine ⟨by simp only [Qo,Xb];decide,fun p3 hp3=>?_⟩
  obtain ⟨H3,e3,s3,h3⟩:=a0V hp3 (.lst [V.str "most",V.str "most",V.str "most",V.str "block",V.str "most",V.str "most",V.str "sure",V.str "most"]);rw [e3]
  obtain ⟨v8,e8,hv8,_⟩:=a3i (xs:=[V.str "most",V.str "most",V.str "most",V.str "block",V.str "most",V.str "most",V.str "sure",V.str "most"]) m8.1 m8.2
  obtain ⟨so,rfl,hso⟩:∃so:Nat,v8=.str (a2g so)∧(so < 4∧so≠0):=by
   simp only [Qy,Zz,or_false] at hv8
   rcases hv8 with rfl | rfl | rfl | rfl | rfl | rfl | rfl | rfl
   all_goals first | exact ⟨2,rfl,by decide⟩ | exact ⟨3,rfl,by decide⟩ | exact ⟨1,rfl,by decide⟩
  refine ⟨by decide,a0o (SqL.of h3) e8 ?_⟩
  have s03:=s2.trans s3
  have hL3:=s03 _ _ hL
  have hB3:=s3 _ _ hB
  try skip
  refine ⟨⟨by decide,by decide⟩,by decide,a1C (fun _=>?_) (fun _=>?_)⟩
  ·refine ⟨Xa _,fun t ht=>⟨by simp only [Qo,Xb];decide,fun p hp=>?_⟩⟩
   have hpt:t≠p:=fun z=>by rw [←z,a0d] at hp;cases hp
   have hp':H3 p=none:=by rw [a0a hpt.symm] at hp;exact hp
   refine q p t (0,"",hd,[]) _ (s03.trans (fun b o e=>?_)) (none_of s03 hp') (none_of s03 ht) ⟨show 0 < 4 by decide,fun _=>⟨rfl,rfl⟩,OkS.of (l:=[]) (by simp) (by simp),oh,by simp,by simp⟩ a0d (by rw [a0a hpt,a0d];rfl)
   rw [a0a (a0c e hp'),a0a (a0c e ht)];exact e
  obtain ⟨z12,e12,o12⟩:=b0H hl12 hlo (m / 1000)
  refine ⟨⟨by decide,by decide⟩,by decide,a0o (SqL.of hL3) e12 ?_⟩
  refine ⟨B,_,rfl,.inl ⟨SqL.of hB3,fun t ht=>?_⟩⟩
  refine ⟨by simp only [Qo,Xb];decide,fun p hp=>?_⟩
  have hpt:t≠p:=fun z=>by rw [←z,a0d] at hp;cases hp
  have hp':H3 p=none:=by rw [a0a hpt.symm] at hp;exact hp
  refine q p t (so,z12,hd,zs) _ (s03.trans (fun b o e=>?_)) (none_of s03 hp') (none_of s03 ht) ⟨hso.1,fun z=>absurd z hso.2,o12,oh,hzo,hzl⟩ a0d (by rw [a0a hpt,a0d])
  rw [a0a (a0c e hp'),a0a (a0c e ht)];exact e
theorem b6G (T:Txt K mg t):a1a P w K mg base CX0 1 t.f_z04 t.fd_z04 ["_law_cell","_law_pool_here","_law_labels_here"] c0u:=by
 refine T.F_z04.ok a2w (fun vs H Q E h=>?_) (fun cdv A outer s H vs Q E hr h=>?_)
 ·obtain ⟨m,P,L,pl,ls,rfl,hP,hp2,hp18,hpo,hL,hl12,hlo,q⟩:=h;rfl
 ·obtain ⟨m,P,L,pl,ls,rfl,hP,hp2,hp18,hpo,hL,hl12,hlo,q⟩:=h
  refine ⟨_,‹A2 (A6 3 a2w.nd (C4 a1t T.z_len a1u (A0 1 A1))) (A2 (A6 4 a2w.nd (B2 a0s (B5 (A0 B0 (A0 B0 (A0 B0 (A0 B0 (A0 B0 (A0 B0 (A0 B0 (A0 B0 A1))))))))) (A5 a0r 0 A3))) (A2 (A6 5 a2w.nd (B2 a0s 2 (A5 a0r (A5 a0G 0 A3) A3))) (A2 (A6 6 a2w.nd (B2 a0s 1 (A5 a0r (A5 a0G 0 A3) 3))) (A2 (A6 7 a2w.nd (A5 a0r (A5 a0G (A5 a0G 0 A3) 3) A3)) (A2 (A6 8 a2w.nd (A5 a0G (A5 a0G 0 A3) 3)) (A2 (A6 9 a2w.nd (B5 A1)) (A2 (B8 (E0 (A0 7 A1)) (A8 10 a2w.nd) (A2 (C7 (C8 Yc Xy Xz a0S 9 (A0 (B2 a0s 1 (A5 a0r 8 3)) A1))) (A4 (A6 8 a2w.nd (A5 a0G 8 3))))) (A2 (B4 (B1 (a1g hr.units) 4 B0 (a0n _)) (A4 (A9 (C5 (A0 4 (A0 B0 (A0 6 (A0 (C5 A1) A1))))))) B7) (A4 (A9 (C5 (A0 4 (A0 5 (A0 6 (A0 (D6 a2o T.z_tuple a1J (A0 9 A1)) A1)))))))))))))))›,?_⟩
  rw [show start b9j [V.int m,V.ref P,V.ref L]=[some (V.int m),some (V.ref P),some (V.ref L),none,none,none,none,none,none,none,none] from rfl]
  have m8:=a1d (i:=m) (j:=8) (by decide)
  obtain ⟨z12,e12,o12⟩:=b0H hl12 hlo (m / 8)
  obtain ⟨z0,e0,o0⟩:=a2E hp2 hpo (m / 96)
  have m5:=a1d (i:=m / 96 / (pl.length:Int)) (j:=5) (by decide)
  have h5:(m / 96 / (pl.length:Int) % 5).toNat≤4:=by
   generalize m / 96 / (pl.length:Int)=N at m5 ⊢
   omega
  try simp only [a1r,a1K,tCB,a0h,a0l,Qb,Qa,a0t,a0m,tOp,a2Q,tC,Qf,Qg,a0E,a5w,a0e,a0J,a6c]
  refine a1Y (SqL.of hP) ?_
  try simp only [a0J,a6c]
  rw [Qe]
  refine ⟨by simp only [Qo,Xb];decide,fun p3 hp3=>?_⟩
  obtain ⟨H3,e3,s3,h3⟩:=a0V hp3 (.lst [V.str "most",V.str "most",V.str "most",V.str "block",V.str "most",V.str "fact",V.str "sure",V.str "most"]);rw [e3]
  obtain ⟨v8,e8,hv8,_⟩:=a3i (xs:=[V.str "most",V.str "most",V.str "most",V.str "block",V.str "most",V.str "fact",V.str "sure",V.str "most"]) m8.1 m8.2
  obtain ⟨so,rfl,hso⟩:∃so:Nat,v8=.str (a2g so)∧so < 4:=by
   simp only [Qy,Zz,or_false] at hv8
   rcases hv8 with rfl | rfl | rfl | rfl | rfl | rfl | rfl | rfl
   all_goals first | exact ⟨2,rfl,by decide⟩ | exact ⟨3,rfl,by decide⟩ | exact ⟨1,rfl,by decide⟩ | exact ⟨0,rfl,by decide⟩
  refine ⟨by decide,a0o (SqL.of h3) e8 ?_⟩
  have hL3:=s3 _ _ hL
  have hP3:=s3 _ _ hP
  try skip
  refine ⟨⟨by decide,by decide⟩,by decide,a0o (SqL.of hL3) e12 ?_⟩
  refine ⟨⟨by decide,by decide⟩,by omega,a0o (SqL.of hP3) e0 ?_⟩
  refine ⟨⟨by decide,by decide⟩,⟨by omega,by omega⟩,by decide,⟨by decide,by decide⟩,⟨by omega,by omega⟩,by decide,fun B hB=>?_⟩
  have hPB:P≠B:=fun z=>by rw [z,hB] at hP3;cases hP3
  have hLB:L≠B:=fun z=>by rw [z,hB] at hL3;cases hL3
  refine ⟨_,rfl,by omega,by omega,?_⟩
  refine a1U (n:=(m / 96 / (pl.length:Int) % 5).toNat) (lo:=0) (fun i σ H'=>∃(zs:List Str) (rs:Int) (j:Option V),σ=[some (V.int m),some (V.ref P),some (V.ref L),some (V.int pl.length),some (V.str (a2g so)),some (V.str z12),some (V.str z0),some (V.int (m / 96 / (pl.length:Int) % 5)),some (V.int rs),some (V.ref B),j]∧a0f H3 H'∧H' B=some (.lst (zs.map V.str))∧zs.length=i∧∀z∈zs,OkS z) ⟨[],_,_,rfl,a0f.upd hB,a0d,rfl,by simp⟩ ?_ ?_
  ·rintro i σ H' hi ⟨zs,rs,j,rfl,s,hB',hzl,hzo⟩
   obtain ⟨z,e,o⟩:=a2E hp2 hpo rs
   try simp only [a0m,a1r,a3n,tBM,a0l,Qf,Qg,Qb,Qa,a0h,tOp,a0t,a1K,a0e,a0J,a6c]
   refine ⟨.inl ⟨rfl,_,SqL.of hB'⟩,by omega,a0o (SqL.of (s _ _ hP3)) e ?_⟩
   refine ⟨B,_,_,rfl,rfl,hB',Xk (show _≤1000 by rw [Qe];omega) (by decide),⟨by omega,by omega⟩,zs++[z],_,_,rfl,?_,?_,by simp [hzl],fun x hx=>?_⟩
   ·intro b u e;rw [a0a (a0c e hB)];exact s _ _ e
   ·rw [a0d];simp
   ·rcases Xe.mp hx with h | h
    ·exact hzo x h
    ·rw [Xm.mp h];exact o
  rintro σ H' ⟨zs,rs,j,rfl,s,hB',hzl,hzo⟩
  have s0':=s3.trans s
  try simp only [a1r,a2T,a0R,tOp,a0l,Qb,Qa,tC,a1j,a6Q,a0h,a0t,a0e,a1m,tCB,a2H,a1e,decide_eq_true_eq]
  refine a1C (fun c1=>?_) (fun c1=>?_)
  ·have hz:so=0:=by
    match so,hso with
    | 0,_=>rfl
    | 1,_=>exact absurd c1 (by decide+kernel)
    | 2,_=>exact absurd c1 (by decide+kernel)
    | 3,_=>exact absurd c1 (by decide+kernel)
   refine ⟨Xa _,fun t ht=>⟨by simp only [Qo,Xb];decide,fun p hp=>?_⟩⟩
   have hpt:t≠p:=fun z=>by rw [←z,a0d] at hp;cases hp
   have hp':H' p=none:=by rw [a0a hpt.symm] at hp;exact hp
   refine q p t (so,"",z0,[]) _ (s0'.trans (fun b o e=>?_)) (none_of s0' hp') (none_of s0' ht) ⟨hso,fun _=>⟨rfl,rfl⟩,OkS.of (l:=[]) (by simp) (by simp),o0,by simp,by simp⟩ a0d (by rw [a0a hpt,a0d];rfl)
   rw [a0a (a0c e hp'),a0a (a0c e ht)];exact e
  ·refine ⟨B,_,rfl,.inl ⟨SqL.of hB',fun t ht=>?_⟩⟩
   refine ⟨by simp only [Qo,Xb];decide,fun p hp=>?_⟩
   have hpt:t≠p:=fun z=>by rw [←z,a0d] at hp;cases hp
   have hp':H' p=none:=by rw [a0a hpt.symm] at hp;exact hp
   refine q p t (so,z12,z0,zs) _ (s0'.trans (fun b o e=>?_)) (none_of s0' hp') (none_of s0' ht) ⟨hso,fun z=>absurd (show a2g so="fact" by rw [show so=0 from z];rfl) c1,o12,o0,hzo,by show zs.length≤4;rw [hzl];exact h5⟩ a0d (by rw [a0a hpt,a0d])
   rw [a0a (a0c e hp'),a0a (a0c e ht)];exact e
theorem b7c (T:Txt K mg t):a1a P w K mg base CX0 3 t.f_z1l t.fd_z1l ["_law_script","_law_start"] (b7H K):=by
 refine T.F_z1l.ok a5s (fun vs H Q E h=>?_) (fun cdv A outer s H vs Q E hr h=>?_)
 ·obtain ⟨a,ns,st,rfl,hS,hl,hst,q⟩:=h;rfl
 ·obtain ⟨a,ns,st,rfl,hS,hl,hst,q⟩:=h
  refine ⟨_,‹A2 (A6 2 a5s.nd (A7 (b3j T) T.g_z1j T.F_z1j.kp T.b_z1j .nil (A0 (A7 (a2z T) T.g_z12 T.F_z12.kp T.b_z12 .nil (A0 0 (A0 A3 A1))) A1))) (A2 (A6 3 a5s.nd (A7 (a8G T) T.g_z18 T.F_z18.kp T.b_z18 .nil (A0 (A7 (a2z T) T.g_z12 T.F_z12.kp T.b_z12 .nil (A0 0 (A0 A3 A1))) A1))) (A2 (A6 4 a5s.nd (A5 a0r (A7 (a2z T) T.g_z12 T.F_z12.kp T.b_z12 .nil (A0 0 (A0 A3 A1))) A3)) (A2 (A6 5 a5s.nd (G5 0 (F8 1) (F8 A3))) (A2 (B4 (B1 b1x 4 A3 (a0n _)) (A4 (A9 (C0 (B3 (a0b a6h) b2k ["_law_cell","_law_pool_here","_law_labels_here"] [none,some 2,some 3]) (B6 5) (A8 0 (show Xf (["_law_cell","_law_pool_here","_law_labels_here"]:List Str) by decide+kernel)) D2 (A7 (b6G T) T.g_z04 T.F_z04.kp T.b_z04 .nil (A0 0 (A0 1 (A0 2 A1))))))) B7) (A4 (A9 (C0 (B3 (a0b a6h) b2k ["_law_k","_law_cell","_law_pool_here","_law_labels_here","_law_style"] [none,none,some 2,some 3,some 4]) (G0 (A0 5 A1)) (G7 (C6 (A8 0 (show Xf (["_law_k","_law_cell","_law_pool_here","_law_labels_here","_law_style"]:List Str) by decide+kernel)) (C6 (A8 1 (show Xf (["_law_k","_law_cell","_law_pool_here","_law_labels_here","_law_style"]:List Str) by decide+kernel)) E7))) D2 (A7 (b9G T) T.g_z1q T.F_z1q.kp T.b_z1q .nil (A0 (A7 (a3y T) T.g_z1p T.F_z1p.kp T.b_z1p .nil (A0 1 (A0 0 A1))) (A0 0 (A0 2 (A0 3 (A0 4 A1)))))))))))))›,?_⟩
  rw [show start b2k [V.ref a,V.int st]=[some (V.ref a),some (V.int st),none,none,none,none] from rfl]
  try simp only [a1r,a1K,a0x,a0h,a0l,Qa,tC,a0t,Qh,a0m,Qf,Qg,tOp,tSl,b2S,Qb,a2T,a0R,a1j,a0p,a1y,a0e,a1m,b2d,b5u]
  refine ⟨a,ns,0,rfl,hS,hl,by decide,by decide,fun c0=>?_⟩
  refine ⟨c0,rfl,fun Pa pl H1 s1 hPn hP hp2 hp18 hpo _ _=>?_⟩
  have hS1:SqL K H1 a (ns.map V.int):=s1.seq hS
  try simp only []
  refine ⟨a,ns,0,rfl,hS1,hl,by decide,by decide,fun c1=>?_⟩
  refine ⟨c1,rfl,fun La ls H2 s2 hLn hL hl12 hlo=>?_⟩
  have hS2:SqL K H2 a (ns.map V.int):=s2.seq hS1
  try simp only []
  refine ⟨a,ns,1,rfl,hS2,hl,by decide,by decide,fun c2=>?_⟩
  try simp only [a0J,a3M,a1e,decide_eq_true_eq]
  refine ⟨by decide,.inr (.inl ⟨a,_,rfl,hS2,fun C hCn=>?_⟩)⟩
  have hc:∀v∈a9c (ns.map V.int) (some st) (some 63),∃i,v=V.int i:=fun v hv=>by
   have:=List.mem_of_mem_drop (Uk hv)
   obtain ⟨i,_,e⟩:=Ql.mp this
   exact ⟨i,e.symm⟩
  have hcl:(a9c (ns.map V.int) (some st) (some 63)).length+st.toNat≤63:=by
   have h1:(a9c (ns.map V.int) (some st) (some 63)).length≤ns.length - min st.toNat ns.length:=by
    unfold a9c
    refine Qj (Wq _ _) ?_
    rw [Jn,Qe]
    unfold HT.sIx
    dsimp only
    rw [if_neg (by omega)]
    exact Qi _
   have:=Nat.min_def (n:=st.toNat) (m:=ns.length)
   split at this<;>omega
  generalize a9c (ns.map V.int) (some st) (some 63)=ws at hc hcl
  obtain ⟨H3,e3,s3,h3⟩:=a0V hCn (.lst ws);rw [e3]
  have s03:=(s1.trans s2).trans s3
  have hP3:=s3 _ _ (s2 _ _ hP)
  have hL3:=s3 _ _ hL
  have mono:∀(D:Addr) (i:Nat) (v:V) (Ha Hb:Hp),(∀b o,b≠D→Ha b=some o→Hb b=some o)→RwD D v Ha→RwD D v Hb:=fun D i v Ha Hb up h=>by
   obtain ⟨p,t,r,e,n1,n2,ho,g1,g2⟩:=h
   exact ⟨p,t,r,e,n1,n2,ho,up _ _ n1 g1,up _ _ n2 g2⟩
  have fin:∀(D:Addr) (H':Hp) (ys:List V),H3 D=none→a0f H3 H'→H' D=some (.lst ys)→ys.length=ws.length→(∀(i:Nat) v,ys[i]?=some v→RwD D v H')→Q (.ref D) H':=fun D H' ys hDn s hD hl' hv=>by
   obtain ⟨rs,hA,hO⟩:=a7z hv
   exact q D ys rs H' (s03.trans s) (none_of s03 hDn) hD hA (by rw [←hA.len,hl'];exact hcl) hO
  try simp only [a0D]
  refine a1C (fun c1=>?_) (fun c1=>?_)
  ·refine ⟨⟨_,SqL.of h3⟩,?_⟩
   refine a8V (a2M (xs:=ws)) (Qj (show ws.length≤1000 by omega) (by decide)) [some (V.ref Pa),some (V.ref La)] rfl (fun D i v H'=>RwD D v H') mono (fun H' s=>SqL.of (s _ _ h3)) (fun D i H' R hi hDn s hD hR=>?_) fin
   obtain ⟨c,ec⟩:=hc ws[i] (Xi hi)
   rw [Qc hi,Xr,ec]
   obtain ⟨ys,hD⟩:=hD
   try simp only [a0x,a0h,a0l,Qa,Qb,a0t,Qh,a0e]
   refine ⟨c,Pa,La,pl,ls,rfl,s _ _ hP3,hp2,hp18,hpo,s _ _ hL3,hl12,hlo,fun p t r H'' s' hp ht ho g1 g2=>?_⟩
   exact hR _ _ s' ⟨p,t,r,rfl,fun z=>a0c hD hp z.symm,fun z=>a0c hD ht z.symm,ho,g1,g2⟩
  ·refine ⟨C,rfl,⟨_,SqL.of h3⟩,?_⟩
   refine b8q (xs:=ws) (Qj (show ws.length≤1000 by omega) (by decide)) [some (V.ref Pa),some (V.ref La),some (V.int (c2 % 4))] rfl (fun D i v H'=>RwD D v H') mono (SqL.of h3) (fun D i H' R hi hDn s hD hR=>?_) fin
   obtain ⟨c,ec⟩:=hc ws[i] (Xi hi)
   rw [ec]
   obtain ⟨ys,hD⟩:=hD
   try simp only [a0x,a0h,a0l,Qb,Qa,a0t,Qh,a0e,a2d]
   intro r0 hr0
   refine ⟨r0,(i:Int),c2 % 4,Pa,La,pl,ls,rfl,s _ _ hP3,hp2,hp18,hpo,s _ _ hL3,hl12,hlo,fun p t r H'' s' hp ht ho g1 g2=>?_⟩
   exact hR _ _ s' ⟨p,t,r,rfl,fun z=>a0c hD hp z.symm,fun z=>a0c hD ht z.symm,ho,g1,g2⟩
theorem b7K (T:Txt K mg t):a1a P w K mg base CX0 1 t.f_z1c t.fd_z1c ["_law_found"] b5B:=by
 refine T.F_z1c.ok b9s (fun vs H Q E h=>?_) (fun cdv A outer s H vs Q E hr h=>?_)
 ·obtain ⟨i,rfl,q⟩:=h;rfl
 ·obtain ⟨i,rfl,q⟩:=h
  refine ⟨_,‹A4 (A9 (H2 (C4 a2a T.z_isinstance a1b (A0 0 (A0 (G1 (.ty "int") T.z_int b0q) A1))) (G8 (H3 (C4 a2a T.z_isinstance a1b (A0 0 (A0 (G1 (.ty "bool") T.z_bool a8x) A1)))))))›,?_⟩
  rw [show start b9m [V.int i]=[some (V.int i)] from rfl]
  try simp only [a1j,b6c,tCB,a0h,a0l,Qa,tC,a0t,b4K,a0e]
  refine ⟨_,_,_,_,_,rfl,rfl,.int i,a6G,?_⟩
  try simp only [a1e,if_true]
  refine ⟨_,_,_,_,_,rfl,rfl,.int i,a5r,?_⟩
  try simp only [a1e]
  exact q
theorem b3M (T:Txt K mg t):a1a P w K mg base CX0 1 t.f_z0c t.fd_z0c ["self"] (a9w t):=by
 refine T.F_z0c.ok b9b (fun vs H Q E h=>?_) (fun cdv A outer s H vs Q E hr h=>?_)
 ·obtain ⟨g,rs,pl,rfl,hG,q⟩:=h;rfl
 ·obtain ⟨g,rs,pl,rfl,hG,q⟩:=h
  refine ⟨_,‹A4 (A9 (D6 a1o T.z_list a1n (A0 (D3 0) A1)))›,?_⟩
  rw [show start b7M [V.ref g]=[some (V.ref g)] from rfl]
  obtain ⟨dx,io,bh,pr,xs,kvs,kps,h1,h2,h3,h4,h5,h6',h7'⟩:=hG
  try simp only [a1j,tCB,a0h,a4q,a0l,Qa,a0t,a0e]
  refine ⟨g,_,dx,_,_,rfl,h1,T.cl_Ground,T.nf_Ground_in_order,b7R _ _ _,io,_,rfl,.inr (SqT.of h2),fun l hl=>?_⟩
  obtain ⟨H6,e6,s6,h6⟩:=a0V hl (.lst xs);rw [e6]
  exact q l xs _ s6 hl h6 (h3.same s6)
theorem b6M (T:Txt K mg t):a1a P w K mg base CX0 2 t.f_z02 t.fd_z02 ["ground"] (b4Y t):=by
 refine T.F_z02.ok a7y (fun vs H Q E h=>?_) (fun cdv A outer s H vs Q E hr h=>?_)
 ·obtain ⟨g,rs,pl,rfl,hG,hO,hrl,q⟩:=h;rfl
 ·obtain ⟨g,rs,pl,rfl,hG,hO,hrl,q⟩:=h
  refine ⟨_,‹A2 (A6 1 a7y.nd C9) (A2 (B8 (B6 (D7 0 T.cl_Ground T.me_Ground_rules (b3M T) T.b_z0c)) (A8 2 a7y.nd) (A4 (B8 (F0 (D3 2)) (A8 3 a7y.nd) (A4 (C7 (C8 Yc Xy Xz a0S (G4 1 3 (B5 A1)) (A0 (D3 2) A1))))))) (A4 (A9 1)))›,?_⟩
  rw [show start b9E [V.ref g]=[some (V.ref g),none,none,none] from rfl]
  obtain ⟨dx,io,bh,pr,_,_,_,hg1,_⟩:=id hG
  try simp only [a1r,a1K,a1V,a0m,Qf,Qg,a0E,a1y,a2B,a0l,Qa,a0t,Qh,a0e]
  intro D hD
  obtain ⟨H1,e1,s1,h1⟩:=a0V hD (.dK []);rw [e1]
  refine ⟨g,dx,_,rfl,s1 _ _ hg1,a2R _ _ _ (by decide+kernel) (by decide+kernel) (by decide+kernel),g,rs,pl,rfl,hG.same s1,fun W ys H2 s2 hWn hW2 hR2=>?_⟩
  have hWD:W≠D:=fun z=>by have e:=s2 _ _ h1;rw [←z,hW2] at e;cases e
  have s02:=s1.trans s2
  have hDn:=s2 _ _ h1
  have hyl:=hR2.len
  try simp only [a0D]
  refine ⟨⟨_,SqL.of hW2⟩,?_⟩
  refine a1x (K:=K) (a:=W) (xs:=ys) (fun i σ H'=>∃(kvs:List (Key×V)) (x y:Option V),σ=[some (V.ref g),some (V.ref D),x,y]∧a5e H2 D H'∧a8t H2 H' D kvs (phs (rs.take i)))
   ⟨[],_,_,rfl,a5e.refl _ _,⟨hDn,Qi _,fun p=>.inl ⟨rfl,rfl⟩,fun p p' N e=>by cases e⟩⟩ (fun i σ H' _ h=>by obtain ⟨_,_,_,_,k,_⟩:=h;exact SqL.of (k _ _ hW2 hWD)) ?_ ?_
  ·rintro i v σ H3 hi ⟨kvs,x,y,rfl,k3,I3⟩
   have hil:i < rs.length:=by rw [←hyl];exact (Qm.mp hi).1
   obtain ⟨v',ev,p,rfl,hp⟩:=hR2.get i rs[i] (Qc hil)
   rw [hi] at ev;cases ev
   have hro:=hO _ (Xi hil)
   have CF:=a8y T hro.1
   have esn:phs (rs.take (i+1))=phs (rs.take i)++rs[i].2.2.2.map fun p=>(p,rs[i].2.2.1):=by
    unfold phs
    rw [Qt hil,List.flatMap_append];simp
   have hphl:(phs (rs.take i)).length≤252:=by
    have:=a6M (rs:=rs.take i) (fun r hr=>hO r (Uk hr))
    rw [Xo] at this;omega
   generalize rs[i]=r at hp hro CF esn
   generalize phs (rs.take i)=L0 at I3 esn hphl
   obtain ⟨dx',t0,hp1,hp2⟩:=hp
   have hpD:p≠D:=a0B hp1 hDn (by intro z;cases z)
   have htD:t0≠D:=a0B hp2 hDn (by intro z;cases z)
   have hbl:=hro.2.2.2.2.2
   try simp only [a0m,Qf,Qg,a0E,b5V,a4q,a0l,Qb,Qa,a0e]
   refine ⟨p,_,dx',_,_,rfl,k3 _ _ hp1 hpD,CF.cl,CF.nb,a1X _ _ _,?_⟩
   try simp only [a0D]
   refine ⟨⟨_,SqT.of (k3 _ _ hp2 htD)⟩,?_⟩
   refine a9a (K:=K) (a:=t0) (xs:=r.2.2.2.map V.str) (fun j σ H'=>∃(kvs:List (Key×V)) (y:Option V),σ=[some (V.ref g),some (V.ref D),some (V.ref p),y]∧a5e H2 D H'∧a8t H2 H' D kvs (L0++(r.2.2.2.take j).map fun p=>(p,r.2.2.1)))
    ⟨kvs,_,rfl,k3,by rw [Jm,Jk,Qh];exact I3⟩ (fun i σ H' _ h=>by obtain ⟨_,_,_,k,_⟩:=h;exact SqT.of (k _ _ hp2 htD)) ?_ ?_
   ·clear I3 k3
    rintro j v σ H4 hj ⟨kvs,y,rfl,k4,I4⟩
    have hjl:j < r.2.2.2.length:=by simpa using (Qm.mp hj).1
    have ex:v=V.str r.2.2.2[j]:=by
     rw [Qn,Qc hjl] at hj
     exact (Option.some.inj hj).symm
    subst ex
    have ej:L0++(r.2.2.2.take (j+1)).map (fun p=>(p,r.2.2.1))=(L0++(r.2.2.2.take j).map fun p=>(p,r.2.2.1))++[(r.2.2.2[j],r.2.2.1)]:=by
     rw [Qt hjl,Xc,←Zu];rfl
    have hll:(L0++(r.2.2.2.take j).map fun p=>(p,r.2.2.1)).length≤256:=by
     rw [Xq,Qe,Xo];omega
    rw [ej]
    generalize (L0++(r.2.2.2.take j).map fun p=>(p,r.2.2.1))=L1 at I4 hll
    generalize r.2.2.2[j]=pq
    have hp4:=k4 _ _ hp1 hpD
    have hkl:=I4.len
    try simp only [a0m,a3n,tBM,a6U,a0l,Qf,Qg,Qb,Qa,a2Q,a0t,a0h,a4q,a0e,a0D]
    refine ⟨a2v I4.d,by decide,fun N hN=>?_⟩
    obtain ⟨H6,e6,s6,h6⟩:=a0V hN (.lst []);rw [e6]
    have hNn:H2 N=none:=by
     cases e:H2 N with
     | none=>rfl
     | some o=>
      by_cases z:N=D
      ·rw [z,I4.d] at hN;cases hN
      ·rw [k4 _ _ e z] at hN;cases hN
    have hND:N≠D:=fun z=>by rw [z,I4.d] at hN;cases hN
    have hNp:N≠p:=fun z=>by rw [z,hp4] at hN;cases hN
    refine ⟨kvs,Sum.inr pq,s6 _ _ I4.d,rfl,Xk (show kvs.length≤1000 by omega) (by decide),fun u hu=>?_,fun hu=>?_⟩
    ·rcases I4.at_ pq with ⟨e,_⟩ | ⟨M,e,_⟩
     ·rw [e] at hu;cases hu
     rw [e] at hu;cases hu
     obtain ⟨hM,hMn,I7⟩:=(I4.same s6).old (h:=r.2.2.1) e
     have hsz:=b2t L1 pq
     try skip
     refine ⟨.inl ⟨rfl,_,SqL.of hM⟩,p,_,dx',_,_,rfl,s6 _ _ hp4,CF.cl,CF.nh,a1v _ _ _,M,_,_,rfl,rfl,hM,Xk (show _≤1000 by rw [Qe];omega) (by decide),?_⟩
     exact ⟨kvs,_,rfl,fun b o e n=>by rw [a0a (a0c e hMn)];exact s6 _ _ (k4 _ _ e n),I7⟩
    ·have I7:=I4.new (h:=r.2.2.1) hu hN hNn (.lst [])
     rw [e6] at I7
     have hN7:upd H6 D (.dK (a2k kvs (Sum.inr pq) (V.ref N))) N=some (.lst []):=by rw [a0a hND];exact h6
     try skip
     refine ⟨.inl ⟨rfl,_,SqL.of hN7⟩,p,_,dx',_,_,rfl,(by rw [a0a hpD];exact s6 _ _ hp4),CF.cl,CF.nh,a1v _ _ _,N,_,_,rfl,rfl,hN7,by decide,?_⟩
     exact ⟨_,_,rfl,fun b o e n=>by rw [a0a (a0c e hNn),a0a n];exact s6 _ _ (k4 _ _ e n),I7⟩
   ·rintro σ H4 ⟨kvs,y,rfl,k4,I4⟩
    rw [Qe,Xs,←esn] at I4
    exact ⟨kvs,_,_,rfl,k4,I4⟩
  ·rintro σ H3 ⟨kvs,x,y,rfl,k3,I3⟩
   rw [show rs.take ys.length=rs by rw [hyl];exact Xs] at I3
   try simp only [a1j,a0l,Qb,Qa,a0e]
   exact q D H3 (fun c o e=>k3 _ _ (s02 _ _ e) (a0c e hD)) hD (I3.hds hO hrl)
theorem a3t (T:Txt K mg t):a1a P w K mg base CX0 1 t.f_z1o t.fd_z1o ["some"] (b5o K):=by
 refine T.F_z1o.ok a6T (fun vs H Q E h=>?_) (fun cdv A outer s H vs Q E hr h=>?_)
 ·obtain ⟨v,kn,rfl,ha,hl,q⟩:=h;rfl
 ·obtain ⟨v,kn,rfl,ha,hl,q⟩:=h
  refine ⟨_,‹A2 (A6 1 a6T.nd C9) (A2 (H4 (F5 (B8 (E1 0) (A8 2 a6T.nd) (A4 (C3 1 2 B9)))) (B8 (B6 0) (A8 2 a6T.nd) (A4 (C3 1 2 B9)))) (A4 (A9 1)))›,?_⟩
  rw [show start b7o [v]=[some (v),none,none] from rfl]
  try simp only [a1r,a1K,a1V,a0m,Qf,Qg]
  intro D hD
  obtain ⟨H1,e1,s1,h1⟩:=a0V hD (.dK []);rw [e1]
  have hvD:v≠.ref D:=fun z=>by
   obtain ⟨b,o,e,hb⟩:=ha.at
   rw [z] at e;cases e;rw [hD] at hb;cases hb
  refine a4g (fun H0 i σ' H'=>∃x,σ'=[some v,some (V.ref D),x]∧a5e H0 D H'∧H' D=some (.dK (bv ((kn.take i).foldl a1p [])))) (ha.same s1) (a0z rfl) (fun H0 h0=>⟨_,rfl,a5e.refl _ _,h0.keep _ _ h1 hvD⟩) ?_ ?_ ?_
  ·rintro H0 i σ' H' b o ⟨x,rfl,k,_⟩ z e
   exact k _ _ e fun w=>hvD (by rw [z,w])
  ·rintro H0 i hi σ' H' rt bk h0 ⟨x,rfl,k,hD'⟩
   have hlen:=a1h (kn.take i) []
   try simp only [a0m,a3z,tC,a0l,Qf,Qg,Qb,Qa,a0e]
   refine ⟨D,_,rfl,c0b hD' (by simp at hlen;omega) kn[i],_,rfl,fun b o e n=>?_,?_⟩
   ·rw [a0a n];exact k _ _ e n
   ·rw [a0d,Qt hi,Vf];rfl
  ·rintro H0 σ' H' H'' h0 ⟨x,rfl,k,hD'⟩ k1 k2
   rw [Xs] at hD'
   try simp only [a1j,a0l,Qb,Qa,a0e]
   refine q D H'' (fun b o e=>?_) hD (k1 _ _ hD' hvD)
   by_cases z:v=.ref b
   ·exact k2 b o z (s1 _ _ e)
   ·exact k1 b o (k b o (h0.keep _ _ (s1 _ _ e) z) (a0c e hD)) z
theorem a4B (T:Txt K mg t):a1a P w K mg base CX0 1 t.f_z14 t.fd_z14 ["statement"] b9M:=by
 refine T.F_z14.ok b8Y (fun vs H Q E h=>?_) (fun cdv A outer s H vs Q E hr h=>?_)
 ·obtain ⟨z,rfl,hz,q⟩:=h;rfl
 ·obtain ⟨z,rfl,hz,q⟩:=h
  refine ⟨_,‹A4 (A9 (H5 (C2 (C8 Wk Ux Uy a5A 0 (A0 B0 A1))) (G5 0 (F8 A3) H0) (A5 a0u B0 0)))›,?_⟩
  rw [show start b8W [V.str z]=[some (V.str z)] from rfl]
  unfold a1i at q
  try simp only [a1j,tIf,tB,tBM,a0l,Qa,a0h,tC,a0t,tSl,b2S,a6v,b5u,a0e,a7n,tOp,a1s,a4j,a1e,b1r]
  refine a1C (fun c=>?_) (fun c=>?_)
  ·rw [if_pos c] at q
   exact ⟨a3r (by omega),q⟩
  ·rw [if_neg c] at q
   exact ⟨Qj (Nat.add_le_add (show (Jw "-").length≤1 by decide+kernel) hz) (by decide),q⟩
theorem b9C (T:Txt K mg t):a1a P w K mg base CX0 2 t.f_z1b t.fd_z1b ["heads","came"] a9s:=by
 refine T.F_z1b.ok a7p (fun vs H Q E h=>?_) (fun cdv A outer s H vs Q E hr h=>?_)
 ·obtain ⟨hd,cm,rs,F,rfl,hoff,hcm,hFl,hO,hrl,q⟩:=h;rfl
 ·obtain ⟨hd,cm,rs,F,rfl,hoff,hcm,hFl,hO,hrl,q⟩:=h
  refine ⟨_,‹A2 (A6 2 a7p.nd C9) (A2 (F5 (B8 (E1 1) (A8 3 a7p.nd) (A4 (B8 (B6 (F2 0 3 (B5 A1))) (A8 4 a7p.nd) (A2 (C3 2 4 B9) (A4 (C3 2 (A7 (a4B T) T.g_z14 T.F_z14.kp T.b_z14 .nil (A0 4 A1)) B9))))))) (A4 (A9 2)))›,?_⟩
  rw [show start b7p [V.ref hd,V.ref cm]=[some (V.ref hd),some (V.ref cm),none,none,none] from rfl]
  try simp only [a1r,a1K,a1V,a0m,Qf,Qg]
  intro D hD
  obtain ⟨H1,e1,s1,h1⟩:=a0V hD (.dK []);rw [e1]
  have hcD:cm≠D:=fun z=>by rw [z,hD] at hcm;cases hcm
  refine a8K (kn:=F.map (·.1)) (fun H0 i σ' H'=>∃(x y:Option V) (T:List Str),σ'=[some (V.ref hd),some (V.ref cm),some (V.ref D),x,y]∧a5e H0 D H'∧H' D=some (.dK (bv T))∧T.Nodup∧T.length≤600 * i∧∀z,z∈T↔tch rs ((F.map (·.1)).take i) z) (s1 _ _ hcm) (a2Y F) (a0z rfl) (fun o=>⟨_,_,[],rfl,a5e.refl _ _,by rw [a0a hcD.symm];exact h1,Uu,Xa _,fun z=>⟨fun w=>(by cases w),fun ⟨r,_,⟨p,_,w⟩,_⟩=>(by cases w)⟩⟩) ?_ ?_ ?_
  ·rintro o i σ' H' ⟨x,y,T,rfl,k,_⟩
   exact k _ _ a0d hcD
  ·rintro o i hi σ' H' rt bk ⟨x,y,T,rfl,k,hT,hnd,hTl,hTm⟩
   have hoff':∀H2,a5e H' D H2→a3U H2 hd rs:=fun H2 k2=>hoff H2 fun b o e n=>k2 _ _ (k _ _ (by rw [a0a (fun z=>n (by rw [z]))];exact s1 _ _ e) (a0c e hD)) (a0c e hD)
   have hi100:i < 100:=by rw [Qe] at hi;omega
   have esn:∀z,tch rs ((F.map (·.1)).take (i+1)) z↔tch rs ((F.map (·.1)).take i) z∨∃r∈rs,(F.map (·.1))[i]∈r.2.2.2∧(z=r.2.2.1∨z=a1i r.2.2.1):=fun z=>by
    rw [Qt hi]
    constructor
    ·rintro ⟨r,hr,⟨p,hp,hm⟩,hz⟩
     rcases Xe.mp hm with w | w
     ·exact .inl ⟨r,hr,⟨p,hp,w⟩,hz⟩
     ·exact .inr ⟨r,hr,Xm.mp w ▸ hp,hz⟩
    ·rintro (⟨r,hr,⟨p,hp,hm⟩,hz⟩ | ⟨r,hr,hp,hz⟩)
     ·exact ⟨r,hr,⟨p,hp,Yy _ hm⟩,hz⟩
     ·exact ⟨r,hr,⟨_,hp,Qz _ (Xm.mpr rfl)⟩,hz⟩
   generalize (F.map (·.1))[i]=pq at esn
   obtain ⟨kvs,hk,hv⟩:=hoff' H' (a5e.refl _ _)
   have hdD:hd≠D:=fun z=>by
    obtain ⟨kvs2,hk2,_⟩:=hoff H (fun _ _ e _=>e)
    rw [z,hD] at hk2;cases hk2
   try simp only [a0m,Qf,Qg,a0E,a1y,a5D,a0l,Qa,Qb,a2Q,a0t,a0e,a0D]
   refine ⟨a2v hk,by decide,fun N hN=>?_⟩
   obtain ⟨H2,e2,s2,h2⟩:=a0V hN (.lst []);rw [e2]
   refine ⟨_,a2S.k (k:=(Sum.inr pq:Key)) (s2 _ _ hk),?_⟩
   have hND:N≠D:=fun z=>by rw [z,hT] at hN;cases hN
   have hcase:∃(L:Addr) (hs:List Str),(a0P kvs (Sum.inr pq:Key)).getD (.ref N)=.ref L∧H2 L=some (.lst (hs.map V.str))∧hs.length≤300∧∀h:Str,h∈hs↔∃r∈rs,pq∈r.2.2.2∧r.2.2.1=h:=by
    rcases hv pq with ⟨e,g⟩ | ⟨L,hs,e,g1,g2,g3⟩
    ·rw [e];exact ⟨N,[],rfl,h2,Xa _,fun h=>⟨fun w=>(by cases w),fun ⟨r,hr,hp,_⟩=>absurd hp (g r hr)⟩⟩
    ·rw [e];exact ⟨L,hs,rfl,s2 _ _ g1,g2,g3⟩
   obtain ⟨L,hs,eL,hL,hsl,hsm⟩:=hcase
   have hT2:=s2 _ _ hT
   have hLD:L≠D:=a0B hL hT2 (by intro z;cases z)
   have hho:∀h∈hs,h.length≤40:=fun h hh=>by
    obtain ⟨r,hr,_,rfl⟩:=(hsm h).mp hh
    exact (hO r hr).2.2.2.1.2
   rw [eL]
   try simp only [a0D]
   refine ⟨⟨_,SqL.of hL⟩,?_⟩
   refine a1x (K:=K) (a:=L) (xs:=hs.map V.str) (fun j σ H'=>∃(y:Option V) (T':List Str),σ=[some (V.ref hd),some (V.ref cm),some (V.ref D),some (V.str pq),y]∧a5e H2 D H'∧H' D=some (.dK (bv T'))∧T'.Nodup∧T'.length≤600 * i+2 * j∧∀z,z∈T'↔z∈T∨∃h∈hs.take j,z=h∨z=a1i h)
    ⟨_,T,rfl,a5e.refl _ _,hT2,hnd,by omega,fun z=>⟨.inl,fun w=>w.elim id fun ⟨_,h,_⟩=>(by cases h)⟩⟩ (fun j σ H' _ h=>by obtain ⟨_,_,_,k,_⟩:=h;exact SqL.of (k _ _ hL hLD)) ?_ ?_
   ·rintro j v σ H3 hj ⟨y,T',rfl,k3,hT3,hnd3,hTl3,hTm3⟩
    have hjl:j < hs.length:=by simpa using (Qm.mp hj).1
    have ex:v=V.str hs[j]:=by
     rw [Qn,Qc hjl] at hj
     exact (Option.some.inj hj).symm
    subst ex
    have hho':=hho _ (Xi hjl)
    rw [Qt hjl]
    generalize hs[j]=h0 at hho'
    have l1:=a1h [h0] T'
    have l2:=a1h [a1i h0] (a1p T' h0)
    try simp only [a0m,a1r,a3z,tC,a0l,Qf,Qg,Qb,Qa,a0x,a0h,a0t,Qh,a0e]
    refine ⟨D,_,rfl,c0b hT3 (by omega) h0,h0,rfl,by omega,?_⟩
    try simp only []
    refine ⟨D,_,rfl,c0b a0d (by simp at l1;show (a1p T' h0).length≤_;omega) (a1i h0),_,a1p (a1p T' h0) (a1i h0),rfl,fun b o e n=>?_,a0d,?_,?_,fun z=>?_⟩
    ·rw [a0a n,a0a n];exact k3 _ _ e n
    ·exact a2n [h0,a1i h0] hnd3
    ·have:=a1h [h0,a1i h0] T'
     simp at this
     show (a1p (a1p T' h0) (a1i h0)).length≤_
     omega
    ·rw [a4K,a4K,hTm3]
     constructor
     ·rintro (((w | ⟨h,hh,w⟩) | w) | w)
      ·exact .inl w
      ·exact .inr ⟨h,Yy _ hh,w⟩
      ·exact .inr ⟨h0,Qz _ (Xm.mpr rfl),.inl w⟩
      ·exact .inr ⟨h0,Qz _ (Xm.mpr rfl),.inr w⟩
     ·rintro (w | ⟨h,hh,w⟩)
      ·exact .inl (.inl (.inl w))
      ·rcases Xe.mp hh with m | m
       ·exact .inl (.inl (.inr ⟨h,m,w⟩))
       ·rw [Xm.mp m] at w
        exact w.elim (fun w=>.inl (.inr w)) .inr
   ·rintro σ H3 ⟨y,T',rfl,k3,hT3,hnd3,hTl3,hTm3⟩
    rw [Qe,Xs] at hTm3
    refine ⟨_,_,T',rfl,fun b o e n=>k3 _ _ (s2 _ _ (k _ _ e n)) n,hT3,hnd3,by rw [Qe] at hTl3;omega,fun z=>?_⟩
    rw [hTm3,hTm,esn]
    refine or_congr Iff.rfl ⟨fun ⟨h,hh,w⟩=>?_,fun ⟨r,hr,hp,w⟩=>⟨r.2.2.1,(hsm _).mpr ⟨r,hr,hp,rfl⟩,w⟩⟩
    obtain ⟨r,hr,hp,rfl⟩:=(hsm h).mp hh
    exact ⟨r,hr,hp,w⟩
  ·rintro o σ' H' ⟨x,y,T,rfl,k,hT,hnd,hTl,hTm⟩
   rw [Xs] at hTm
   try simp only [a1j,a0l,Qb,Qa,a0e]
   refine q D T _ (fun b u e=>?_) hD (by rw [a0a hcD.symm];exact hT) hnd ?_ hTm
   ·by_cases z:b=cm
    ·subst z;rw [a0d,←hcm];exact e
    ·rw [a0a z];exact k _ _ (by rw [a0a z];exact s1 _ _ e) (a0c e hD)
   ·have:=a1R hnd (m:=rs.flatMap fun r=>[r.2.2.1,a1i r.2.2.1]) fun z hz=>by
     obtain ⟨r,hr,_,w⟩:=(hTm z).mp hz
     exact Vs.mpr ⟨r,hr,by simpa using w⟩
    have h2:=b0i rs
    omega
theorem b3k (T:Txt K mg t):a1a P w K mg base CX0 1 t.f_z06 t.fd_z06 ["self","statement"] (a7H t):=by
 refine T.F_z06.ok b7D (fun vs H Q E h=>?_) (fun cdv A outer s H vs Q E hr h=>?_)
 ·obtain ⟨g,h,rs,pl,rfl,hG,q⟩:=h;rfl
 ·obtain ⟨g,h,rs,pl,rfl,hG,q⟩:=h
  refine ⟨_,‹A4 (A9 (D6 a1o T.z_list a1n (A0 (F2 (D3 0) 1 (B5 A1)) A1)))›,?_⟩
  rw [show start b9F [V.ref g,V.str h]=[some (V.ref g),some (V.str h)] from rfl]
  obtain ⟨dx,io,bh,pr,xs,kvs,kps,h1,h2,h3,h4,h5,_⟩:=hG
  try simp only [a1j,tCB,a0h,a5D,a4q,a0l,Qa,Qb,a2Q,a0t,a0e]
  refine ⟨g,_,dx,_,_,rfl,h1,T.cl_Ground,T.nf_Ground_by_head,b8l _ _ _,?_⟩
  try simp only [a0D]
  refine ⟨a2v h4,by decide,fun N hN=>?_⟩
  obtain ⟨H6,e6,s6,h6⟩:=a0V hN (.lst []);rw [e6]
  refine ⟨_,a2S.k (k:=(Sum.inr h:Key)) (s6 _ _ h4),?_⟩
  rcases h5 h with ⟨e,g5⟩ | ⟨L,ys,e,g2,g4⟩
  ·rw [e]
   refine ⟨N,_,rfl,.inl (SqL.of h6),fun l hl=>?_⟩
   obtain ⟨H7,e7,s7,h7⟩:=a0V hl (.lst []);rw [e7]
   refine q l [] _ (s6.trans s7) (none_of s6 hl) h7 ?_
   rw [g5];exact ⟨rfl,fun i r e=>by simp at e⟩
  ·rw [e]
   refine ⟨L,_,rfl,.inl (SqL.of (s6 _ _ g2)),fun l hl=>?_⟩
   obtain ⟨H7,e7,s7,h7⟩:=a0V hl (.lst ys);rw [e7]
   exact q l ys _ (s6.trans s7) (none_of s6 hl) h7 (g4.same (s6.trans s7))
theorem b3m (T:Txt K mg t):a1a P w K mg base CX0 2 t.f_z05 t.fd_z05 ["self","statement"] (a9l t):=by
 refine T.F_z05.ok b6V (fun vs H Q E h=>?_) (fun cdv A outer s H vs Q E hr h=>?_)
 ·obtain ⟨g,h,rs,pl,rfl,hG,hO,hhl,q⟩:=h;rfl
 ·obtain ⟨g,h,rs,pl,rfl,hG,hO,hhl,q⟩:=h
  refine ⟨_,‹A4 (A9 (E8 0 T.me_Ground_ruling (b3k T) T.b_z06 (A0 (A7 (a4B T) T.g_z14 T.F_z14.kp T.b_z14 .nil (A0 1 A1)) A1)))›,?_⟩
  rw [show start b6F [V.ref g,V.str h]=[some (V.ref g),some (V.str h)] from rfl]
  obtain ⟨dx,io,bh,pr,_,_,_,hg1,_⟩:=id hG
  try simp only [a1j,a2B,a0l,Qa,a0h,a0x,Qb,a0t,Qh,a0e]
  refine ⟨g,dx,_,rfl,hg1,a2R _ _ _ (by decide+kernel) (by decide+kernel) (by decide+kernel),h,rfl,hhl,?_⟩
  refine ⟨g,a1i h,rs,pl,rfl,hG,fun W ys H3 s3 hWn hW3 hR3=>?_⟩
  obtain ⟨zr,ez1,ez2,hz⟩:=hR3.zip (fun r hr=>hO r (Qv.mp hr).1)
  subst ez1
  exact q W zr H3 s3 hWn hW3 hz ez2
theorem b9h (T:Txt K mg t):a1a P w K mg base CX0 1 t.f_z0b t.fd_z0b ["self"] (a0W false):=by
 refine T.F_z0b.ok b9Q (fun vs H Q E h=>?_) (fun cdv A outer s H vs Q E hr h=>?_)
 ·obtain ⟨x,rfl,q⟩:=h;rfl
 ·obtain ⟨x,rfl,q⟩:=h
  refine ⟨_,‹A4 (A9 B9)›,?_⟩
  rw [show start b9q [x]=[some (x)] from rfl]
  try simp only [a1j,tC]
  exact q
theorem a9P (T:Txt K mg t):a1a P w K mg base CX0 1 t.f_z0g t.fd_z0g ["self"] (a0W true):=by
 refine T.F_z0g.ok b7h (fun vs H Q E h=>?_) (fun cdv A outer s H vs Q E hr h=>?_)
 ·obtain ⟨x,rfl,q⟩:=h;rfl
 ·obtain ⟨x,rfl,q⟩:=h
  refine ⟨_,‹A4 (A9 B9)›,?_⟩
  rw [show start b7a [x]=[some (x)] from rfl]
  try simp only [a1j,tC]
  exact q
theorem b3b (T:Txt K mg t):a1a P w K mg base CX0 2 t.f_z03 t.fd_z03 ["self","statement"] (a8e t):=by
 refine T.F_z03.ok b9D (fun vs H Q E h=>?_) (fun cdv A outer s H vs Q E hr h=>?_)
 ·obtain ⟨g,h,rs,pl,rfl,hG,hO,hrl,q⟩:=h;rfl
 ·obtain ⟨g,h,rs,pl,rfl,hG,hO,hrl,q⟩:=h
  refine ⟨_,‹A4 (A9 (C0 (B3 (a0b a7M) b6n ["rule"] [none]) (B6 (E8 0 T.me_Ground_ruling (b3k T) T.b_z06 (A0 1 A1))) (A8 0 (show Xf (["rule"]:List Str) by decide+kernel)) (C1 (C2 (E5 (D7 0 T.cl_Fact T.me_Fact_speaks (a9P T) T.b_z0g) (E5 (D7 0 T.cl_Sure T.me_Sure_speaks (a9P T) T.b_z0g) (E5 (D7 0 T.cl_Most T.me_Most_speaks (a9P T) T.b_z0g) (D7 0 T.cl_Block T.me_Block_speaks (b9h T) T.b_z0b)))))) 0))›,?_⟩
  rw [show start b6n [V.ref g,V.str h]=[some (V.ref g),some (V.str h)] from rfl]
  obtain ⟨dx,io,bh,pr,_,_,_,hg1,_⟩:=id hG
  try simp only [a1j,a0p,a1y,a2B,a0l,Qa,a0h,Qb,a0t,Qh,a0e]
  refine ⟨g,dx,_,rfl,hg1,a2R _ _ _ (by decide+kernel) (by decide+kernel) (by decide+kernel),g,h,rs,pl,rfl,hG,fun W ys H3 s3 hWn hW3 hR3=>?_⟩
  obtain ⟨zr,ez1,ez2,hz⟩:=hR3.zip (fun r hr=>hO r (Qv.mp hr).1)
  subst ez1
  have hzl:zr.length≤63:=by
   have:=congrArg Yl ez2
   rw [Qe] at this
   rw [this];exact Qj (Qq _ _) hrl
  try simp only [a0D]
  refine ⟨⟨_,SqL.of hW3⟩,?_⟩
  refine a1Q zr hW3 (by omega) hz [] rfl spk (fun p=>p.1) (fun x r H' R ho hr s' hR=>?_) (fun x r H' R ho hr s' hR=>?_) (fun W2 H4 hW2n s4 hW4=>?_)
  ·try simp only [tB]
   refine c3A ho.1 (a0z rfl) hr ⟨by decide+kernel,by decide+kernel,by decide+kernel⟩ ?_
   rw [a6w ho.1]
   try simp only [a4y,a1e]
   exact hR _ (a0f.refl _)
  ·try simp only [a0l,Qa,a0e]
   exact hR _ (a0f.refl _)
  refine q W2 (zr.filter fun p=>spk p.2) H4 (s3.trans s4) (none_of s3 hW2n) hW4 (fun p hp=>(hz.same s4) p (Qv.mp hp).1) ?_
  rw [←ez2,Zk];rfl
theorem a7w (T:Txt K mg t):a1a P w K mg base CX0 1 t.f_z0s t.fd_z0s ["statements","some"] a7b:=by
 refine T.F_z0s.ok b8B (fun vs H Q E h=>?_) (fun cdv A outer s H vs Q E hr h=>?_)
 ·obtain ⟨t0,v,bd,S,rfl,ht,hl,hD,q⟩:=h;rfl
 ·obtain ⟨t0,v,bd,S,rfl,ht,hl,hD,q⟩:=h
  refine ⟨_,‹A4 (A9 (C4 (a2y rfl) T.z_all a5U (A0 (C0 (B3 (a0b a7N) b5i ["statement","some"] [none,some 1]) (F0 0) (A8 0 (show Xf (["statement","some"]:List Str) by decide+kernel)) D2 (E5 (G9 (a2F (a3b hr) ‹0› ‹1›)) (E2 (b2Y (K:=K) rfl) 0 1 (by with_unfolding_all rfl)))) A1)))›,?_⟩
  rw [show start b5i [V.ref t0,v]=[some (V.ref t0),some (v)] from rfl]
  try simp only [a1j,tCB,a0h,a0t,a0p,b5V,a0l,Qa,a0e,a0D]
  refine ⟨⟨_,SqT.of ht⟩,?_⟩
  refine a4i (a4G (xs:=bd.map V.str)) (Qj (show (bd.map V.str).length≤1000 by simpa using hl) (by decide)) [some v] rfl (fun i v=>∃hi:i < bd.length,v=.bl (decide (bd[i]∈S))) (fun H' s=>SqT.of (s _ _ ht)) (fun i H' R hi s hR=>?_) (fun E1 H1 ys hEn s1 hE hl1 hv1=>?_)
  ·have hi':i < bd.length:=by simpa using hi
   have e2:((bd.map V.str)[i]?).getD .non=V.str bd[i]:=by rw [Qn,Qc hi'];rfl
   rw [e2]
   exact b0P (hD.same s) (a0z rfl) (a0z rfl) (hR _ _ (a0f.refl _) ⟨hi',rfl⟩)
  have eys:ys=(bd.map fun q=>decide (q∈S)).map V.bl:=by
   refine Jy fun i=>?_
   rw [Qn,Qn]
   by_cases hi:i < ys.length
   ·obtain ⟨hi',e⟩:=hv1 i _ (Qc hi)
    rw [Qc hi,e,Qc hi'];rfl
   ·rw [Yb (by omega),Yb (by rw [Qe] at hl1;omega)];rfl
  subst eys
  refine ⟨E1,_,rfl,SqL.of hE,?_⟩
  have:=q _ s1
  rw [Vt];exact this
theorem b3F (T:Txt K mg t):a1a P w K mg base CX0 1 t.f_z0t t.fd_z0t ["statements","some"] b7s:=by
 refine T.F_z0t.ok b7x (fun vs H Q E h=>?_) (fun cdv A outer s H vs Q E hr h=>?_)
 ·obtain ⟨t0,v,bd,S,rfl,ht,hl,hD,q⟩:=h;rfl
 ·obtain ⟨t0,v,bd,S,rfl,ht,hl,hD,q⟩:=h
  refine ⟨_,‹A4 (A9 (C4 (a1S rfl) T.z_any a3S (A0 (C0 (B3 (a0b a8j) b6i ["statement","some"] [none,some 1]) (F0 0) (A8 0 (show Xf (["statement","some"]:List Str) by decide+kernel)) D2 (E5 (G9 (a2F (a3b hr) ‹0› ‹1›)) (E2 (b2Y (K:=K) rfl) 0 1 (by with_unfolding_all rfl)))) A1)))›,?_⟩
  rw [show start b6i [V.ref t0,v]=[some (V.ref t0),some (v)] from rfl]
  try simp only [a1j,tCB,a0h,a0t,a0p,b5V,a0l,Qa,a0e,a0D]
  refine ⟨⟨_,SqT.of ht⟩,?_⟩
  refine a4i (a4G (xs:=bd.map V.str)) (Qj (show (bd.map V.str).length≤1000 by simpa using hl) (by decide)) [some v] rfl (fun i v=>∃hi:i < bd.length,v=.bl (decide (bd[i]∈S))) (fun H' s=>SqT.of (s _ _ ht)) (fun i H' R hi s hR=>?_) (fun E1 H1 ys hEn s1 hE hl1 hv1=>?_)
  ·have hi':i < bd.length:=by simpa using hi
   have e2:((bd.map V.str)[i]?).getD .non=V.str bd[i]:=by rw [Qn,Qc hi'];rfl
   rw [e2]
   exact b0P (hD.same s) (a0z rfl) (a0z rfl) (hR _ _ (a0f.refl _) ⟨hi',rfl⟩)
  have eys:ys=(bd.map fun q=>decide (q∈S)).map V.bl:=by
   refine Jy fun i=>?_
   rw [Qn,Qn]
   by_cases hi:i < ys.length
   ·obtain ⟨hi',e⟩:=hv1 i _ (Qc hi)
    rw [Qc hi,e,Qc hi'];rfl
   ·rw [Yb (by omega),Yb (by rw [Qe] at hl1;omega)];rfl
  subst eys
  refine ⟨E1,_,rfl,SqL.of hE,?_⟩
  have:=q _ s1
  rw [Zy];exact this
theorem b7A (T:Txt K mg t):a1a P w K mg base CX0 1 t.f_z0d t.fd_z0d ["self","one","other"] (b4P t):=by
 refine T.F_z0d.ok b7i (fun vs H Q E h=>?_) (fun cdv A outer s H vs Q E hr h=>?_)
 ·obtain ⟨g,x,y,rs,pl,r1,r2,rfl,hG,h1,h2,o1,o2,q⟩:=h;rfl
 ·obtain ⟨g,x,y,rs,pl,r1,r2,rfl,hG,h1,h2,o1,o2,q⟩:=h
  refine ⟨_,‹A4 (A9 (G9 (a2F (a3b hr) ‹C5 (A0 (D3 1) (A0 (D3 2) A1))› ‹D3 0›)))›,?_⟩
  rw [show start b8T [V.ref g,V.ref x,V.ref y]=[some (V.ref g),some (V.ref x),some (V.ref y)] from rfl]
  obtain ⟨dx,io,bh,pr,_,_,kps,hg1,_,_,_,_,hk,hp⟩:=id hG
  obtain ⟨_,e1,dx1,t1,a1,b1⟩:=h1
  cases e1
  obtain ⟨_,e2,dx2,t2,a2,b2⟩:=h2
  cases e2
  have C1:=a8y T o1.1
  have C2:=a8y T o2.1
  try simp only [a1j,b6p,a6Q,a0h,a4q,a0l,Qb,Qa,a0t,a0e]
  refine ⟨x,_,dx1,_,_,rfl,a1,C1.cl,C1.nl,a4z _ _ _,y,_,dx2,_,_,rfl,a2,C2.cl,C2.nl,a4z _ _ _,by simp only [Qo,Xb];decide,fun c hc=>?_⟩
  obtain ⟨H1,e1,s1,h1⟩:=a0V hc (.tup [V.str r1.2.1,V.str r2.2.1]);rw [e1]
  refine ⟨g,_,dx,_,_,rfl,s1 _ _ hg1,T.cl_Ground,T.nf_Ground_pairs,b3a _ _ _,pr,_,rfl,a2S.t (k:=[Sum.inr r1.2.1,Sum.inr r2.2.1]) (s1 _ _ hk) h1,?_⟩
  have:=q _ s1
  rw [hp]
  by_cases z:(r1.2.1,r2.2.1)∈pl
  ·rw [if_pos z];rw [decide_eq_true z] at this;exact this
  ·rw [if_neg z];rw [decide_eq_false z] at this;exact this
theorem b3N (T:Txt K mg t):a1a P w K mg base CX0 2 t.f_z0u t.fd_z0u ["ground","rule","beaters"] (b2R t):=by
 refine T.F_z0u.ok b8O (fun vs H Q E h=>?_) (fun cdv A outer s H vs Q E hr h=>?_)
 ·obtain ⟨g,x,L,rs,pl,r,zr,rfl,hG,hx,hro,hL,hz,hzl,q⟩:=h;rfl
 ·obtain ⟨g,x,L,rs,pl,r,zr,rfl,hG,hx,hro,hL,hz,hzl,q⟩:=h
  refine ⟨_,‹A4 (A9 (C4 (a1S rfl) T.z_any a3S (A0 (C0 (B3 (a0b a8a) b4e ["beater","rule","ground"] [none,some 1,some 0]) (B6 2) (A8 0 (show Xf (["beater","rule","ground"]:List Str) by decide+kernel)) D2 (E8 2 T.me_Ground_beats (b7A T) T.b_z0d (A0 0 (A0 1 A1)))) A1)))›,?_⟩
  rw [show start b4e [V.ref g,V.ref x,V.ref L]=[some (V.ref g),some (V.ref x),some (V.ref L)] from rfl]
  try simp only [a1j,tCB,a0h,a0t,a0p,a1y,a0l,Qb,Qa,a0e,a0D]
  refine ⟨⟨_,SqL.of hL⟩,?_⟩
  refine a1Q zr hL (by omega) hz [some (V.ref x),some (V.ref g)] rfl (fun _=>true) (fun p=>V.bl (decide ((p.2.2.1,r.2.1)∈pl))) (fun y r' H' R ho hr s' hR=>hR _ (a0f.refl _)) (fun y r' H' R ho hr s' hR=>?_) (fun B H5 hBn s5 hB5=>?_)
  ·obtain ⟨dx,io,bh,pr,_,_,_,hg1,_⟩:=id (hG.same s')
   try simp only [a2B,a0l,Qb,Qa,a0h,a0t,Qh,a0e]
   exact ⟨g,dx,_,rfl,hg1,a2R _ _ _ (by decide+kernel) (by decide+kernel) (by decide+kernel),g,y,x,rs,pl,r',r,rfl,hG.same s',⟨y,rfl,hr⟩,hx.same s',ho,hro,fun H'' s''=>hR _ s''⟩
  have hB5':H5 B=some (.lst ((zr.map fun p=>decide ((p.2.2.1,r.2.1)∈pl)).map V.bl)):=by
   rw [hB5,Uq.mpr (fun _ _=>rfl),Xh];rfl
  refine ⟨B,_,rfl,SqL.of hB5',?_⟩
  have:=q _ s5
  rw [show ((zr.map fun p=>decide ((p.2.2.1,r.2.1)∈pl)).any id)=btn pl (zr.map (·.2)) r from by unfold btn;rw [Zy,Zy];rfl]
  exact this
theorem b3K (T:Txt K mg t):a1a P w K mg base CX0 3 t.f_z15 t.fd_z15 ["ground","sures","held","refused","q"] (b0h t a2f):=by
 refine T.F_z15.ok b3x (fun vs H Q E h=>?_) (fun cdv A outer s H vs Q E hr h=>?_)
 ·obtain ⟨g,v1,v2,v3,q0,rs,pl,S,U,D,rfl,hG,hO,hrl,h1,h2,h3,hql,q⟩:=h;rfl
 ·obtain ⟨g,v1,v2,v3,q0,rs,pl,S,U,D,rfl,hG,hO,hrl,h1,h2,h3,hql,q⟩:=h
  refine ⟨_,‹A2 (B4 (G2 (D1 (a2F (a3b hr) ‹4› ‹1›)) (B1 a2G 4 1 (by with_unfolding_all rfl))) (A4 (A9 B9)) B7) (A2 (A6 5 b3x.nd (C0 (B3 (a0b a6l) b1U ["rule","held"] [none,some 2]) (B6 (E8 0 T.me_Ground_speaking (b3b T) T.b_z03 (A0 4 A1))) (A8 0 (show Xf (["rule","held"]:List Str) by decide+kernel)) (C1 (C2 (A7 (a7w T) T.g_z0s T.F_z0s.kp T.b_z0s .nil (A0 (D8 0) (A0 1 A1))))) 0)) (D4 (B4 (D0 (E3 (B1 (a1g hr.units) (C4 a1t T.z_len a1u (A0 5 A1)) A3 (a0n _)) (E6 (G2 (D1 (a2F (a3b hr) ‹A7 (a4B T) T.g_z14 T.F_z14.kp T.b_z14 .nil (A0 4 A1)› ‹1›)) (B1 a2G (A7 (a4B T) T.g_z14 T.F_z14.kp T.b_z14 .nil (A0 4 A1)) 1 (by with_unfolding_all rfl)))))) (A4 (A9 B9)) B7) (A4 (A9 (C4 (a2y rfl) T.z_all a5U (A0 (C0 (B3 (a0b a6l) b1U ["rule","refused","ground","standing"] [none,some 3,some 0,some 5]) (B6 (E8 0 T.me_Ground_against (b3m T) T.b_z05 (A0 4 A1))) (A8 0 (show Xf (["rule","refused","ground","standing"]:List Str) by decide+kernel)) D2 (J3 (A7 (b3F T) T.g_z0t T.F_z0t.kp T.b_z0t .nil (A0 (D8 0) (A0 1 A1))) (G8 (A7 (b3N T) T.g_z0u T.F_z0u.kp T.b_z0u .nil (A0 2 (A0 0 (A0 3 A1))))))) A1))))))›,?_⟩
  rw [show start b1U [V.ref g,v1,v2,v3,V.str q0]=[some (V.ref g),some (v1),some (v2),some (v3),some (V.str q0),none] from rfl]
  obtain ⟨dx,io,bh,pr,_,_,_,hg1,_⟩:=id hG
  try simp only [a1r,a2T,a1j,tC,a1m,a1K,a0m,Qf,Qg,a0p,a1y,a2B,a0l,Qa,a0h,Qb,a0t,Qh,a0e]
  refine a3p h1 (a0z rfl) (a0z rfl) ?_
  try simp only [decide_eq_true_eq]
  refine a1C (fun c0=>?_) (fun c0=>?_)
  ·have:=q H (a0f.refl _)
   unfold a2f at this
   rw [if_pos c0] at this
   exact this
  refine ⟨g,dx,_,rfl,hg1,a2R _ _ _ (by decide+kernel) (by decide+kernel) (by decide+kernel),g,q0,rs,pl,rfl,hG,hO,hrl,fun W zr H3 s3 hWn hW3 hz ez=>?_⟩
  have hzl:zr.length≤63:=by
   have:=congrArg Yl ez
   rw [Qe] at this
   rw [this];exact Qj (Qq _ _) (Qj (Qq _ _) hrl)
  try simp only [a0D]
  refine ⟨⟨_,SqL.of hW3⟩,?_⟩
  refine a1Q zr hW3 (by omega) hz [some v2] rfl (fun r=>a3f r.2.2.2 U) (fun p=>p.1) (fun x r H' R ho hr s' hR=>?_) (fun x r H' R ho hr s' hR=>?_) (fun W2 H4 hW2n s4 hW4=>?_)
  ·have CF:=a8y T ho.1
   obtain ⟨dx',t0,g1,g2⟩:=hr
   try simp only [tB,a0x,a0h,a4q,a0l,Qa,Qb,a0t,Qh,a0e]
   refine ⟨x,_,dx',_,_,rfl,g1,CF.cl,CF.nb,a1X _ _ _,t0,v2,r.2.2.2,U,rfl,g2,by have:=ho.2.2.2.2.2;omega,h2.same (s3.trans s'),fun H'' s''=>?_⟩
   try simp only [a1e]
   exact hR _ s''
  ·try simp only [a0l,Qa,a0e]
   exact hR _ (a0f.refl _)
  have s04:=s3.trans s4
  have hz4:a8B t H4 (zr.filter fun p=>a3f p.2.2.2.2 U):=fun p hp=>(hz.same s4) p (Qv.mp hp).1
  have hzl4:(zr.filter fun p=>a3f p.2.2.2.2 U).length≤63:=Qj (Qq _ _) hzl
  have est:(zr.filter fun p=>a3f p.2.2.2.2 U).map (·.2)=a2A rs U q0:=by
   unfold a2A
   rw [←ez,Zk];rfl
  generalize (zr.filter fun p=>a3f p.2.2.2.2 U)=zs at hW4 hz4 hzl4 est
  have hneed:∀H',a0f H H'→(a2A rs U q0=[]∨a1i q0∈S)→Q (.bl false) H':=fun H' s' hc=>by
   have:=q H' s'
   unfold a2f at this
   rw [if_neg c0,if_pos hc] at this
   exact this
  refine ⟨fun σ' H'=>σ'=[some (V.ref g),some v1,some v2,some v3,some (V.str q0),some (V.ref W2)]∧H'=H4∧¬(a2A rs U q0=[]∨a1i q0∈S),?_,?_⟩
  ·try simp only [a2T,tOr,a0R,tOp,tCB,a0h,a0l,Qb,Qa,a0t,tC,a1j,a1m,if_true,a0e]
   refine a1Y (SqL.of hW4) ?_
   try simp only [a1q,a1e,decide_eq_true_eq]
   refine a1C (fun c1=>?_) (fun c1=>?_)
   ·refine hneed _ s04 (.inl ?_)
    rw [←est]
    have:zs.length=0:=by rw [Qe] at c1;omega
    rw [Zm.mp this];rfl
   refine a3p (h1.same s04) (x:=a1i q0) (fun R hR=>?_) (a0z rfl) ?_
   ·try simp only [a0x,a0h,a0l,Qb,Qa,a0t,Qh,a0e]
    exact ⟨q0,rfl,hql,hR⟩
   try simp only [decide_eq_true_eq]
   refine a1C (fun c2=>hneed _ s04 (.inr c2)) (fun c2=>⟨(by trivial),(by trivial),fun z=>z.elim (fun w=>c1 ?_) c2⟩)
   rw [←est] at w
   have:zs.length=0:=by have:=congrArg Yl w;rw [Qe] at this;exact this
   rw [Qe,this];rfl
  rintro σ' H5 ⟨rfl,rfl,hc⟩
  try simp only [a1j,tCB,a0h,a0t,a0p,a1y,a2B,a0l,Qa,Qb,Qh,a0e]
  refine ⟨g,dx,_,rfl,s04 _ _ hg1,a2R _ _ _ (by decide+kernel) (by decide+kernel) (by decide+kernel),g,q0,rs,pl,rfl,hG.same s04,hO,hql,fun B zb H6 s6 hBn hB6 hzb eb=>?_⟩
  have hbl:zb.length≤63:=by
   have:=congrArg Yl eb
   rw [Qe] at this
   rw [this];exact Qj (Qq _ _) hrl
  have s06:=s04.trans s6
  try simp only [a0D]
  refine ⟨⟨_,SqL.of hB6⟩,?_⟩
  refine a1Q zb hB6 (by omega) hzb [some v3,some (V.ref g),some (V.ref W2)] rfl (fun _=>true) (fun p=>V.bl (a2V p.2.2.2.2 D || btn pl (zs.map (·.2)) p.2)) (fun x r H' R ho hr s' hR=>hR _ (a0f.refl _)) (fun x r H' R ho hr s' hR=>?_) (fun C H7 hCn s7 hC7=>?_)
  ·have CF:=a8y T ho.1
   have hru:b0M t H' (.ref x) r:=⟨x,rfl,hr⟩
   obtain ⟨dx',t0,g1,g2⟩:=hr
   try simp only [c2a,a0x,a0h,a4q,a0l,Qa,Qb,a0t,Qh,a0e]
   refine ⟨x,_,dx',_,_,rfl,g1,CF.cl,CF.nb,a1X _ _ _,t0,v3,r.2.2.2,D,rfl,g2,by have:=ho.2.2.2.2.2;omega,h3.same (s06.trans s'),fun H'' s''=>?_⟩
   have s48:=(s6.trans s').trans s''
   have hh:=fun H'' s''=>hR H'' s''
   try simp only [a1e]
   refine a1C (fun c5=>?_) (fun c5=>?_)
   ·have:=hR _ s''
    rw [c5,Bool.true_or] at this;exact this
   ·have c6:a2V r.2.2.2 D=false:=by simpa using c5
    rw [c6] at hR
    exact ⟨g,x,W2,rs,pl,r,zs,rfl,(hG.same s04).same s48,hru.same s'',ho,s48 _ _ hW4,hz4.same s48,hzl4,fun H9 s9=>hR _ (s''.trans s9)⟩
  have hC7':H7 C=some (.lst ((zb.map fun p=>(a2V p.2.2.2.2 D || btn pl (zs.map (·.2)) p.2)).map V.bl)):=by
   rw [hC7,Uq.mpr (fun _ _=>rfl),Xh];rfl
  refine ⟨C,_,rfl,SqL.of hC7',?_⟩
  have:=q _ (s06.trans s7)
  unfold a2f at this
  rw [if_neg c0,if_neg hc,←eb,Vt,←est] at this
  rw [Vt]
  exact this
theorem b3i (T:Txt K mg t):a1a P w K mg base CX0 3 t.f_z0m t.fd_z0m ["ground","sures","held","refused","q"] (b0h t a8A):=by
 refine T.F_z0m.ok b3r (fun vs H Q E h=>?_) (fun cdv A outer s H vs Q E hr h=>?_)
 ·obtain ⟨g,v1,v2,v3,q0,rs,pl,S,U,D,rfl,hG,hO,hrl,h1,h2,h3,hql,q⟩:=h;rfl
 ·obtain ⟨g,v1,v2,v3,q0,rs,pl,S,U,D,rfl,hG,hO,hrl,h1,h2,h3,hql,q⟩:=h
  refine ⟨_,‹A2 (B4 (G2 (D1 (a2F (a3b hr) ‹4› ‹1›)) (B1 a2G 4 1 (by with_unfolding_all rfl))) (A4 (A9 B9)) B7) (A2 (A6 5 b3r.nd (C0 (B3 (a0b a6u) b1O ["rule","refused"] [none,some 3]) (B6 (E8 0 T.me_Ground_speaking (b3b T) T.b_z03 (A0 4 A1))) (A8 0 (show Xf (["rule","refused"]:List Str) by decide+kernel)) (C1 (E4 (C2 (A7 (b3F T) T.g_z0t T.F_z0t.kp T.b_z0t .nil (A0 (D8 0) (A0 1 A1)))))) 0)) (D4 (B4 (D0 (E3 (B1 (a1g hr.units) (C4 a1t T.z_len a1u (A0 5 A1)) A3 (a0n _)) (E6 (G2 (D1 (a2F (a3b hr) ‹A7 (a4B T) T.g_z14 T.F_z14.kp T.b_z14 .nil (A0 4 A1)› ‹1›)) (B1 a2G (A7 (a4B T) T.g_z14 T.F_z14.kp T.b_z14 .nil (A0 4 A1)) 1 (by with_unfolding_all rfl)))))) (A4 (A9 B9)) B7) (A4 (A9 (C4 (a1S rfl) T.z_any a3S (A0 (C0 (B3 (a0b a6u) b1O ["rule","held","ground","unfallen"] [none,some 2,some 0,some 5]) (B6 (E8 0 T.me_Ground_against (b3m T) T.b_z05 (A0 4 A1))) (A8 0 (show Xf (["rule","held","ground","unfallen"]:List Str) by decide+kernel)) D2 (H2 (A7 (a7w T) T.g_z0s T.F_z0s.kp T.b_z0s .nil (A0 (D8 0) (A0 1 A1))) (G8 (H3 (A7 (b3N T) T.g_z0u T.F_z0u.kp T.b_z0u .nil (A0 2 (A0 0 (A0 3 A1)))))))) A1))))))›,?_⟩
  rw [show start b1O [V.ref g,v1,v2,v3,V.str q0]=[some (V.ref g),some (v1),some (v2),some (v3),some (V.str q0),none] from rfl]
  obtain ⟨dx,io,bh,pr,_,_,_,hg1,_⟩:=id hG
  try simp only [a1r,a2T,a1j,tC,a1m,a1K,a0m,Qf,Qg,a0p,a1y,a2B,a0l,Qa,a0h,Qb,a0t,Qh,a0e]
  refine a3p h1 (a0z rfl) (a0z rfl) ?_
  try simp only [decide_eq_true_eq]
  refine a1C (fun c0=>?_) (fun c0=>?_)
  ·have:=q H (a0f.refl _)
   unfold a8A at this
   rw [if_pos c0] at this
   exact this
  refine ⟨g,dx,_,rfl,hg1,a2R _ _ _ (by decide+kernel) (by decide+kernel) (by decide+kernel),g,q0,rs,pl,rfl,hG,hO,hrl,fun W zr H3 s3 hWn hW3 hz ez=>?_⟩
  have hzl:zr.length≤63:=by
   have:=congrArg Yl ez
   rw [Qe] at this
   rw [this];exact Qj (Qq _ _) (Qj (Qq _ _) hrl)
  try simp only [a0D]
  refine ⟨⟨_,SqL.of hW3⟩,?_⟩
  refine a1Q zr hW3 (by omega) hz [some v3] rfl (fun r=>!a2V r.2.2.2 D) (fun p=>p.1) (fun x r H' R ho hr s' hR=>?_) (fun x r H' R ho hr s' hR=>?_) (fun W2 H4 hW2n s4 hW4=>?_)
  ·have CF:=a8y T ho.1
   obtain ⟨dx',t0,g1,g2⟩:=hr
   try simp only [b3D,tB,a0x,a0h,a4q,a0l,Qa,Qb,a0t,Qh,a0e]
   refine ⟨x,_,dx',_,_,rfl,g1,CF.cl,CF.nb,a1X _ _ _,t0,v3,r.2.2.2,D,rfl,g2,by have:=ho.2.2.2.2.2;omega,h3.same (s3.trans s'),fun H'' s''=>?_⟩
   try simp only [a1e]
   exact hR _ s''
  ·try simp only [a0l,Qa,a0e]
   exact hR _ (a0f.refl _)
  have s04:=s3.trans s4
  have hz4:a8B t H4 (zr.filter fun p=>!a2V p.2.2.2.2 D):=fun p hp=>(hz.same s4) p (Qv.mp hp).1
  have hzl4:(zr.filter fun p=>!a2V p.2.2.2.2 D).length≤63:=Qj (Qq _ _) hzl
  have est:(zr.filter fun p=>!a2V p.2.2.2.2 D).map (·.2)=unf rs D q0:=by
   unfold unf
   rw [←ez,Zk];rfl
  generalize (zr.filter fun p=>!a2V p.2.2.2.2 D)=zs at hW4 hz4 hzl4 est
  have hneed:∀H',a0f H H'→(unf rs D q0=[]∨a1i q0∈S)→Q (.bl true) H':=fun H' s' hc=>by
   have:=q H' s'
   unfold a8A at this
   rw [if_neg c0,if_pos hc] at this
   exact this
  refine ⟨fun σ' H'=>σ'=[some (V.ref g),some v1,some v2,some v3,some (V.str q0),some (V.ref W2)]∧H'=H4∧¬(unf rs D q0=[]∨a1i q0∈S),?_,?_⟩
  ·try simp only [a2T,tOr,a0R,tOp,tCB,a0h,a0l,Qb,Qa,a0t,tC,a1j,a1m,if_true,a0e]
   refine a1Y (SqL.of hW4) ?_
   try simp only [a1q,a1e,decide_eq_true_eq]
   refine a1C (fun c1=>?_) (fun c1=>?_)
   ·refine hneed _ s04 (.inl ?_)
    rw [←est]
    have:zs.length=0:=by rw [Qe] at c1;omega
    rw [Zm.mp this];rfl
   refine a3p (h1.same s04) (x:=a1i q0) (fun R hR=>?_) (a0z rfl) ?_
   ·try simp only [a0x,a0h,a0l,Qb,Qa,a0t,Qh,a0e]
    exact ⟨q0,rfl,hql,hR⟩
   try simp only [decide_eq_true_eq]
   refine a1C (fun c2=>hneed _ s04 (.inr c2)) (fun c2=>⟨(by trivial),(by trivial),fun z=>z.elim (fun w=>c1 ?_) c2⟩)
   rw [←est] at w
   have:zs.length=0:=by have:=congrArg Yl w;rw [Qe] at this;exact this
   rw [Qe,this];rfl
  rintro σ' H5 ⟨rfl,rfl,hc⟩
  try simp only [a1j,tCB,a0h,a0t,a0p,a1y,a2B,a0l,Qa,Qb,Qh,a0e]
  refine ⟨g,dx,_,rfl,s04 _ _ hg1,a2R _ _ _ (by decide+kernel) (by decide+kernel) (by decide+kernel),g,q0,rs,pl,rfl,hG.same s04,hO,hql,fun B zb H6 s6 hBn hB6 hzb eb=>?_⟩
  have hbl:zb.length≤63:=by
   have:=congrArg Yl eb
   rw [Qe] at this
   rw [this];exact Qj (Qq _ _) hrl
  have s06:=s04.trans s6
  try simp only [a0D]
  refine ⟨⟨_,SqL.of hB6⟩,?_⟩
  refine a1Q zb hB6 (by omega) hzb [some v2,some (V.ref g),some (V.ref W2)] rfl (fun _=>true) (fun p=>V.bl (a3f p.2.2.2.2 U && !btn pl (zs.map (·.2)) p.2)) (fun x r H' R ho hr s' hR=>hR _ (a0f.refl _)) (fun x r H' R ho hr s' hR=>?_) (fun C H7 hCn s7 hC7=>?_)
  ·have CF:=a8y T ho.1
   have hru:b0M t H' (.ref x) r:=⟨x,rfl,hr⟩
   obtain ⟨dx',t0,g1,g2⟩:=hr
   try simp only [b6c,a0x,a0h,a4q,a0l,Qa,Qb,a0t,Qh,b4K,a0e]
   refine ⟨x,_,dx',_,_,rfl,g1,CF.cl,CF.nb,a1X _ _ _,t0,v2,r.2.2.2,U,rfl,g2,by have:=ho.2.2.2.2.2;omega,h2.same (s06.trans s'),fun H'' s''=>?_⟩
   have s48:=(s6.trans s').trans s''
   try simp only [a1e]
   refine a1C (fun c5=>?_) (fun c5=>?_)
   ·rw [c5,Zd] at hR
    refine ⟨g,x,W2,rs,pl,r,zs,rfl,(hG.same s04).same s48,hru.same s'',ho,s48 _ _ hW4,hz4.same s48,hzl4,fun H9 s9=>?_⟩
    try simp only [a1e]
    exact hR _ (s''.trans s9)
   ·have c6:a3f r.2.2.2 U=false:=by simpa using c5
    have:=hR _ s''
    rw [c6,Zw] at this
    exact this
  have hC7':H7 C=some (.lst ((zb.map fun p=>(a3f p.2.2.2.2 U && !btn pl (zs.map (·.2)) p.2)).map V.bl)):=by
   rw [hC7,Uq.mpr (fun _ _=>rfl),Xh];rfl
  refine ⟨C,_,rfl,SqL.of hC7',?_⟩
  have:=q _ (s06.trans s7)
  unfold a8A at this
  rw [if_neg c0,if_neg hc,←eb,Zy,←est] at this
  rw [Zy]
  exact this
theorem b3T (T:Txt K mg t):a1a P w K mg base CX0 4 t.f_z0v t.fd_z0v ["ground","sures","held","refused","asked"] (b6g K t):=by
 refine T.F_z0v.ok a7m (fun vs H Q E h=>?_) (fun cdv A outer s H vs Q E hr h=>?_)
 ·obtain ⟨g,v1,v2,v3,va,rs,pl,S,U,D,ask,rfl,hoff,hO,hrl,hA,hnd,hal,hql,q⟩:=h;rfl
 ·obtain ⟨g,v1,v2,v3,va,rs,pl,S,U,D,ask,rfl,hoff,hO,hrl,hA,hnd,hal,hql,q⟩:=h
  obtain ⟨_,k_HELD⟩:=T.k_HELD
  obtain ⟨_,k_REFUSED⟩:=T.k_REFUSED
  refine ⟨_,‹A2 (A6 5 a7m.nd C9) (A2 (H4 (F5 (B8 (E1 4) (A8 6 a7m.nd) (A4 (B4 (C2 (A7 (b3K T) T.g_z15 T.F_z15.kp T.b_z15 .nil (A0 0 (A0 1 (A0 2 (A0 3 (A0 6 A1))))))) (A4 (C3 5 6 (D9 (.str "held") k_HELD ⟨_,rfl⟩))) (A4 (B4 (C2 (A7 (b3i T) T.g_z0m T.F_z0m.kp T.b_z0m .nil (A0 0 (A0 1 (A0 2 (A0 3 (A0 6 A1))))))) (A4 (C3 5 6 (D9 (.str "refused") k_REFUSED ⟨_,rfl⟩))) B7)))))) (B8 (B6 4) (A8 6 a7m.nd) (A4 (B4 (C2 (A7 (b3K T) T.g_z15 T.F_z15.kp T.b_z15 .nil (A0 0 (A0 1 (A0 2 (A0 3 (A0 6 A1))))))) (A4 (C3 5 6 (D9 (.str "held") k_HELD ⟨_,rfl⟩))) (A4 (B4 (C2 (A7 (b3i T) T.g_z0m T.F_z0m.kp T.b_z0m .nil (A0 0 (A0 1 (A0 2 (A0 3 (A0 6 A1))))))) (A4 (C3 5 6 (D9 (.str "refused") k_REFUSED ⟨_,rfl⟩))) B7)))))) (A4 (A9 5)))›,?_⟩
  rw [show start b8p [V.ref g,v1,v2,v3,va]=[some (V.ref g),some (v1),some (v2),some (v3),some (va),none,none] from rfl]
  try simp only [a1r,a1K,a1V,a0m,Qf,Qg]
  intro W hW
  obtain ⟨H1,e1,s1,h1⟩:=a0V hW (.dK []);rw [e1]
  have hvW:va≠.ref W:=fun z=>by
   obtain ⟨b,o,e,hb⟩:=hA.at
   rw [z] at e;cases e;rw [hW] at hb;cases hb
  refine a4g (fun H0 i σ' H'=>∃x,σ'=[some (V.ref g),some v1,some v2,some v3,some va,some (V.ref W),x]∧a5e H0 W H'∧H' W=some (.dK (wv (wds rs pl S U D (ask.take i))))) (hA.same s1) (a0z rfl) (fun H0 h0=>⟨_,rfl,a5e.refl _ _,h0.keep _ _ h1 hvW⟩) ?_ ?_ ?_
  ·rintro H0 i σ' H' b o ⟨x,rfl,k,_⟩ z e
   exact k _ _ e fun w=>hvW (by rw [z,w])
  ·rintro H0 i hi σ' H' rt bk h0 ⟨x,rfl,k,hW'⟩
   have off:∀H2,a0f H' H2→Off H va H2:=fun H2 s2 b o e n=>s2 _ _ (k _ _ (h0.keep _ _ (s1 _ _ e) n) (a0c e hW))
   have hiq:=hql _ (Xi hi)
   have hlen:(wds rs pl S U D (ask.take i)).length≤1000:=by
    have:=(a4R rs pl S U D (ask.take i)).length_le
    rw [Qe,Xo] at this;omega
   have hnew:ask[i]∉(wds rs pl S U D (ask.take i)).map (·.1):=fun z=>by
    have:=b2A z
    obtain ⟨j,hj,e⟩:=Yv this
    rw [Jg] at e
    rw [Xo] at hj
    have:=(Zn (h₀:=by omega) (h₁:=hi) hnd).mp e
    omega
   have hst:wds rs pl S U D (ask.take (i+1))=wds rs pl S U D (ask.take i)++((stt rs pl S U D ask[i]).map fun w=>(ask[i],w)).toList:=by rw [Qt hi,b1H]
   generalize wds rs pl S U D (ask.take i)=F at hW' hlen hnew hst
   generalize ask[i]=q0 at hiq hnew hst
   have hend:∀(b:Bool) (H2:Hp),a0f H' H2→stt rs pl S U D q0=some b→a4k H2 W (.str q0) (V.str (wd b)) (upd H2 W (.dK (wv (F++[(q0,b)]))))∧(a5e H0 W (upd H2 W (.dK (wv (F++[(q0,b)]))))∧upd H2 W (.dK (wv (F++[(q0,b)]))) W=some (.dK (wv (wds rs pl S U D (ask.take (i+1)))))):=fun b H2 s2 e=>
    ⟨c3q (s2 _ _ hW') (by omega) hnew b,fun c o e n=>by rw [a0a n];exact s2 _ _ (k _ _ e n),by rw [a0d,hst,e];rfl⟩
   obtain ⟨hG,k1,k2,k3⟩:=hoff H' (off H' (a0f.refl _))
   try simp only [a0m,a2T,tB,a0x,a0h,a0l,Qf,Qg,Qa,Qb,a0t,Qh,a3z,tC,a0e,a1m]
   refine ⟨g,v1,v2,v3,q0,rs,pl,S,U,D,rfl,hG,hO,hrl,k1,k2,k3,hiq,fun H2 s2=>?_⟩
   try simp only [a1e]
   refine a1C (fun c1=>?_) (fun c1=>?_)
   ·obtain ⟨a1,a2,a3⟩:=hend true H2 s2 (by unfold stt;rw [if_pos c1])
    exact ⟨W,_,rfl,a1,_,rfl,a2,a3⟩
   obtain ⟨hG,k1,k2,k3⟩:=hoff H2 (off H2 s2)
   refine ⟨g,v1,v2,v3,q0,rs,pl,S,U,D,rfl,hG,hO,hrl,k1,k2,k3,hiq,fun H3 s3=>?_⟩
   try simp only [a1e]
   refine a1C (fun c2=>?_) (fun c2=>?_)
   ·obtain ⟨a1,a2,a3⟩:=hend false H3 (s2.trans s3) (by unfold stt;rw [if_neg c1,if_pos c2])
    exact ⟨W,_,rfl,a1,_,rfl,a2,a3⟩
   ·refine ⟨_,rfl,fun c o e n=>s3 _ _ (s2 _ _ (k _ _ e n)),?_⟩
    rw [hst,show stt rs pl S U D q0=none from by unfold stt;rw [if_neg c1,if_neg c2]]
    show _=some (HO.dK (wv (F++[])))
    rw [Qh];exact s3 _ _ (s2 _ _ hW')
  ·rintro H0 σ' H' H'' h0 ⟨x,rfl,k,hW'⟩ k1 k2
   rw [Xs] at hW'
   try simp only [a1j,a0l,Qb,Qa,a0e]
   refine q W H'' (fun b o e=>?_) hW (k1 _ _ hW' hvW)
   by_cases z:va=.ref b
   ·exact k2 b o z (s1 _ _ e)
   ·exact k1 b o (k b o (h0.keep _ _ (s1 _ _ e) z) (a0c e hW)) z
theorem b3g (T:Txt K mg t):a1a P w K mg base CX0 5 t.f_z0f t.fd_z0f ["ground","some","sures","known"] (b2i K t):=by
 refine T.F_z0f.ok a1Z (fun vs H Q E h=>?_) (fun cdv A outer s H vs Q E hr h=>?_)
 ·obtain ⟨g,v1,v2,kd,rs,pl,sm,S,kn,rfl,hG,hO,hrl,h1,h2,hkd,hkn,hsl,hSl,hkl,hsm,q⟩:=h;rfl
 ·obtain ⟨g,v1,v2,kd,rs,pl,sm,S,kn,rfl,hG,hO,hrl,h1,h2,hkd,hkn,hsl,hSl,hkl,hsm,q⟩:=h
  obtain ⟨_,k_HELD⟩:=T.k_HELD
  obtain ⟨_,k_REFUSED⟩:=T.k_REFUSED
  refine ⟨_,‹A2 (A6 4 a1Z.nd (A7 (a3t T) T.g_z1o T.F_z1o.kp T.b_z1o .nil (A0 2 A1))) (A2 (A6 5 a1Z.nd (A7 (a3t T) T.g_z1o T.F_z1o.kp T.b_z1o .nil (A0 (G3 (C0 (B3 (a0b a3Z) a6g ["q","known"] [none,some 3]) (E1 3) (A8 0 (show Xf (["q","known"]:List Str) by decide+kernel)) (C1 (B1 (a4h hr.units (K:=K) rfl) (F6 1 0) (D9 (.str "held") k_HELD ⟨_,rfl⟩) (a0n _))) 0)) A1))) (A2 (A6 6 a1Z.nd (A7 (a3t T) T.g_z1o T.F_z1o.kp T.b_z1o .nil (A0 (G3 (C0 (B3 (a0b a3Z) a6g ["q","known"] [none,some 3]) (E1 3) (A8 0 (show Xf (["q","known"]:List Str) by decide+kernel)) (C1 (B1 (a4h hr.units (K:=K) rfl) (F6 1 0) (D9 (.str "refused") k_REFUSED ⟨_,rfl⟩) (a0n _))) 0)) A1))) (A2 (A6 7 a1Z.nd (A7 (b6M T) T.g_z02 T.F_z02.kp T.b_z02 .nil (A0 0 A1))) (A2 (A6 8 a1Z.nd (A7 (a3t T) T.g_z1o T.F_z1o.kp T.b_z1o .nil (A0 1 A1))) (A2 (A6 9 a1Z.nd C9) (A2 (A6 10 a1Z.nd A3) (A2 (A6 11 a1Z.nd (A7 (b3T T) T.g_z0v T.F_z0v.kp T.b_z0v .nil (A0 0 (A0 4 (A0 5 (A0 6 (A0 8 A1))))))) (A2 (G6 (B1 b1x (C4 a1t T.z_len a1u (A0 11 A1)) A3 (a0n _)) (A2 (F5 (B8 (E1 11) (A8 12 a1Z.nd) (A4 (C3 9 12 (C5 (A0 (F6 11 12) (A0 10 A1))))))) (A2 (C7 (C8 Ys Jx Vu a4w 5 (A0 (A7 (a3t T) T.g_z1o T.F_z1o.kp T.b_z1o .nil (A0 (G3 (C0 (B3 (a0b a3Z) a6g ["q","came"] [none,some 11]) (E1 11) (A8 0 (show Xf (["q","came"]:List Str) by decide+kernel)) (C1 (B1 (a4h hr.units (K:=K) rfl) (F6 1 0) (D9 (.str "held") k_HELD ⟨_,rfl⟩) (a0n _))) 0)) A1)) A1))) (A2 (C7 (C8 Ys Jx Vu a4w 6 (A0 (A7 (a3t T) T.g_z1o T.F_z1o.kp T.b_z1o .nil (A0 (G3 (C0 (B3 (a0b a3Z) a6g ["q","came"] [none,some 11]) (E1 11) (A8 0 (show Xf (["q","came"]:List Str) by decide+kernel)) (C1 (B1 (a4h hr.units (K:=K) rfl) (F6 1 0) (D9 (.str "refused") k_REFUSED ⟨_,rfl⟩) (a0n _))) 0)) A1)) A1))) (A2 (A6 10 a1Z.nd (A5 a0u 10 A3)) (A2 (J4 (D5 13 (B3 (a0b a3Z) a6g ["q","wanted","told"] [none,some 8,some 9]) (E1 (A7 (b9C T) T.g_z1b T.F_z1b.kp T.b_z1b .nil (A0 7 (A0 11 A1)))) (A8 0 (show Xf (["q","wanted","told"]:List Str) by decide+kernel)) (C1 (D0 (F3 (D1 (a2F (a3b hr) ‹0› ‹1›)) (F4 (D1 ‹F1 0 2›))))) 0 a1Z.nd)) (A4 (A6 11 a1Z.nd (A7 (b3T T) T.g_z0v T.F_z0v.kp T.b_z0v .nil (A0 0 (A0 4 (A0 5 (A0 6 (A0 13 A1)))))))))))))) (A4 (A9 9))))))))))›,?_⟩
  rw [show start a6g [V.ref g,v1,v2,V.ref kd]=[some (V.ref g),some (v1),some (v2),some (V.ref kd),none,none,none,none,none,none,none,none,none,none] from rfl]
  try simp only [a1r,a1K,a0x,a0h,a0l,Qb,Qa,a0t,Qh,a0m,Qf,Qg,a1V,tC,a0p,a9V,a0e]
  refine ⟨v2,S,rfl,h2,by omega,fun Su H1 s1 hSn hSu=>?_⟩
  have f1:=a4M kn true
  have f2:=a4M kn false
  try simp only []
  refine a2O (s1 _ _ hkd) (a2Y kn) (by rw [Qe];omega) (a0z rfl) [some (V.ref kd)] rfl (fun q=>decide ((q,true)∈kn)) (fun q0 H0 H' R hq off hR s hR'=>a2P (b:=true) hkn hq hR hR') fun L1 H2 hL1 s2 hL2=>?_
  refine ⟨_,_,rfl,.inl ⟨L1,rfl,hL2⟩,by omega,fun He H3 s3 hHen hHe=>?_⟩
  have s13:=s2.trans s3
  try simp only []
  refine a2O ((s1.trans s13) _ _ hkd) (a2Y kn) (by rw [Qe];omega) (a0z rfl) [some (V.ref kd)] rfl (fun q=>decide ((q,false)∈kn)) (fun q0 H0 H' R hq off hR s hR'=>a2P (b:=false) hkn hq hR hR') fun L2 H4 hL2n s4 hL4=>?_
  refine ⟨_,_,rfl,.inl ⟨L2,rfl,hL4⟩,by omega,fun Re H5 s5 hRen hRe=>?_⟩
  have s35:=s4.trans s5
  have s05:=(s1.trans s13).trans s35
  try simp only []
  refine ⟨g,rs,pl,rfl,hG.same s05,hO,hrl,fun Hd H6 s6 hHdn hHd=>?_⟩
  have s06:=s05.trans s6
  have hWl:(sm.foldl a1p []).length≤100:=Qj (a1h sm []) (by simpa using hsl)
  have hWn:(sm.foldl a1p []).Nodup:=a2n sm (by simp)
  have hWm:∀x,x∈sm.foldl a1p []↔x∈sm:=fun x=>by rw [a1W];exact ⟨fun h=>h.elim (fun z=>(by cases z)) id,.inr⟩
  try simp only []
  refine ⟨v1,sm,rfl,h1.same s06,by omega,fun Wa H7 s7 hWan hWa=>?_⟩
  generalize sm.foldl a1p []=W at hWl hWn hWm hWa q
  try skip
  intro To hTo
  obtain ⟨H8,e8,s8,hTo8⟩:=a0V hTo (.dK []);rw [e8]
  have s68:=s7.trans s8
  have s08:=s06.trans s68
  have hHe6:=s6 _ _ (s35 _ _ hHe)
  have hRe6:=s6 _ _ hRe
  have hSu6:=s6 _ _ (s35 _ _ (s13 _ _ hSu))
  have aSu:∀H',a0f H6 H'→a1l H' (.ref Su) S:=fun H' s=>(a8n (s _ _ hSu6) fun x=>by rw [a1W];exact ⟨fun h=>h.elim (fun z=>(by cases z)) id,.inr⟩).some
  have aHe:∀x,x∈((kn.map (·.1)).filter fun q=>decide ((q,true)∈kn)).foldl a1p []↔x∈ups kn:=fun x=>by rw [a4Y,a3J]
  have aRe:∀x,x∈((kn.map (·.1)).filter fun q=>decide ((q,false)∈kn)).foldl a1p []↔x∈a0X kn:=fun x=>by rw [a4Y,a2l]
  have lHe:=a1h ((kn.map (·.1)).filter fun q=>decide ((q,true)∈kn)) []
  have lRe:=a1h ((kn.map (·.1)).filter fun q=>decide ((q,false)∈kn)) []
  refine ⟨g,_,_,_,_,rs,pl,S,ups kn,a0X kn,W,rfl,fun H' off=>?_,hO,hrl,.inr ⟨Wa,_,rfl,s8 _ _ hWa,a8Z _⟩,hWn,by omega,fun q0 hq0=>(hsm q0 ((hWm q0).mp hq0)).1,fun Cm H9 s9 hCmn hCm=>?_⟩
  ·have s6':a0f H6 H':=off.same s68 hWan
   exact ⟨hG.same (s06.trans s6'),aSu _ s6',(a8n (s6' _ _ hHe6) aHe).some,(a8n (s6' _ _ hRe6) aRe).some⟩
  have hHe8:=s68 _ _ hHe6
  have hRe8:=s68 _ _ hRe6
  have nST:Su≠To:=fun z=>by have:=s7 _ _ hSu6;rw [z,hTo] at this;cases this
  have nSH:Su≠He:=fun z=>by rw [←z,s2 _ _ hSu] at hHen;cases hHen
  have nSR:Su≠Re:=fun z=>by rw [←z,s4 _ _ (s13 _ _ hSu)] at hRen;cases hRen
  have nHT:He≠To:=fun z=>by have:=s7 _ _ hHe6;rw [z,hTo] at this;cases this
  have nRT:Re≠To:=fun z=>by have:=s7 _ _ hRe6;rw [z,hTo] at this;cases this
  have nHR:He≠Re:=fun z=>by rw [←z,s4 _ _ hHe] at hRen;cases hRen
  have hHd6:∃o,H6 Hd=some o:=let ⟨k,a,_⟩:=hHd;⟨_,a⟩
  have nDT:Hd≠To:=fun z=>by obtain ⟨o,e⟩:=hHd6;have:=s7 _ _ e;rw [z,hTo] at this;cases this
  have nDH:Hd≠He:=fun z=>by rw [z,s35 _ _ hHe] at hHdn;cases hHdn
  have nDR:Hd≠Re:=fun z=>by rw [z,hRe] at hHdn;cases hHdn
  have nWT:Wa≠To:=fun z=>by rw [z,hTo] at hWa;cases hWa
  have nWH:Wa≠He:=fun z=>by rw [z,hHe6] at hWan;cases hWan
  have nWR:Wa≠Re:=fun z=>by rw [z,hRe6] at hWan;cases hWan
  try simp only []
  obtain ⟨K3,eK3⟩:∃K3:Hp→Prop,K3=fun H'=>∀b o,H8 b=some o→b≠To→b≠He→b≠Re→H' b=some o:=⟨_,rfl⟩
  have k3of:∀H',K3 H'→∀b o,H8 b=some o→b≠To→b≠He→b≠Re→H' b=some o:=fun H' h=>by rw [eK3] at h;exact h
  have k3to:∀H',(∀b o,H8 b=some o→b≠To→b≠He→b≠Re→H' b=some o)→K3 H':=fun H' h=>by rw [eK3];exact h
  have k3H:∀H',K3 H'→a0f H H':=fun H' k b o e=>k3of _ k b o (s08 _ _ e) (a0c e (none_of s06 (none_of s7 hTo))) (a0c e (none_of (s1.trans s2) hHen)) (a0c e (none_of ((s1.trans s13).trans s4) hRen))
  have k3D:∀H',K3 H'→a3U H' Hd rs:=fun H' k=>(hHd.same s68).keep fun b o e hb=>by
   rcases hb with rfl | ⟨xs,rfl⟩
   ·exact k3of _ k _ _ e nDT nDH nDR
   ·exact k3of _ k _ _ e (a0B e hTo8 (by intro z;cases z)) (a0B e hHe8 (by intro z;cases z)) (a0B e hRe8 (by intro z;cases z))
  have k3S:∀H',K3 H'→a1l H' (.ref Su) S:=fun H' k=>(a8n (k3of _ k _ _ (s68 _ _ hSu6) nST nSH nSR) fun x=>by rw [a1W];exact ⟨fun h=>h.elim (fun z=>(by cases z)) id,.inr⟩).some
  refine a6J (fun m σ H'=>∃(n:Nat) (T:List Tr) (F:List (Str×Bool)) (cm:Addr) (x12 x13:Option V) (kH kR:List (Key×V)),σ=[some (V.ref g),some v1,some v2,some (V.ref kd),some (V.ref Su),some (V.ref He),some (V.ref Re),some (V.ref Hd),some (V.ref Wa),some (V.ref To),some (V.int ((n:Int)+1)),some (V.ref cm),x12,x13]∧K3 H'∧TAt H' To T∧(T.map (·.1)).Nodup∧IsT rs pl S W (ups kn) (a0X kn) n T∧H' He=some (.dK kH)∧(∀x:Str,(a0P kH (Sum.inr x:Key)).isSome=decide (x∈(rds rs pl S W (ups kn) (a0X kn) n).U))∧kH.length≤100+T.length∧H' Re=some (.dK kR)∧(∀x:Str,(a0P kR (Sum.inr x:Key)).isSome=decide (x∈(rds rs pl S W (ups kn) (a0X kn) n).D))∧kR.length≤100+T.length∧H' cm=some (.dK (wv F))∧(cm≠To∧cm≠He∧cm≠Re∧cm≠Hd)∧(F.map (·.1)).Nodup∧IsF rs pl S W (ups kn) (a0X kn) n F∧m=W.length - T.length)
   W.length ⟨0,[],_,Cm,_,_,_,_,rfl,k3to _ fun b o e _ _ _=>s9 _ _ e,⟨[],rfl,s9 _ _ hTo8,fun _ h=>by cases h⟩,Uu,fun _=>Iff.rfl,s9 _ _ hHe8,(fun x=>by obtain ⟨k,e,h⟩:=a8n (H:=H8) hHe8 aHe;rw [hHe8] at e;cases e;exact h x),(by unfold bv;rw [Qe];simp at lHe;omega),s9 _ _ hRe8,(fun x=>by obtain ⟨k,e,h⟩:=a8n (H:=H8) hRe8 aRe;rw [hRe8] at e;cases e;exact h x),(by unfold bv;rw [Qe];simp at lRe;omega),hCm,⟨fun z=>(by rw [z,hTo8] at hCmn;cases hCmn),fun z=>(by rw [z,hHe8] at hCmn;cases hCmn),fun z=>(by rw [z,hRe8] at hCmn;cases hCmn),fun z=>(by obtain ⟨o,e⟩:=hHd6;rw [z,s68 _ _ e] at hCmn;cases hCmn)⟩,hWn.sublist (a4R _ _ _ _ _ _),b2V,rfl⟩ ?_
  clear hCm hCmn
  rintro m σ H10 ⟨n,T,F,cm,x12,x13,kH,kR,rfl,kk,hT,hTn,hIT,hH,hHm,hHl,hR,hRm,hRl,hC,⟨nCT,nCH,nCR,nCD⟩,hFn,hIF,hm⟩
  have hkey:∀x,x∈(T++F.map fun p=>(p.1,p.2,n+1)).map (·.1)→x∈W:=fun x hx=>by
   rw [a2i (a7k hIT hIF)] at hx
   exact a4F _ _ hx
  have hnew:∀x∈F.map (·.1),x∉T.map (·.1):=fun x hx=>by
   obtain ⟨⟨y,w⟩,hy,rfl⟩:=Ql.mp hx
   have:=(a0U.mp ((hIF _).mp hy)).2.1
   rw [a2i hIT];exact this
  have hnd:((T++F.map fun p=>(p.1,p.2,n+1)).map (·.1)).Nodup:=by
   rw [Xc,Zs]
   refine ⟨hTn,by rw [Xh];exact hFn,fun x hx y hy z=>hnew y (by rw [Xh] at hy;exact hy) (z ▸ hx)⟩
  have hTF:T.length+F.length≤W.length:=by
   have:=a1R hnd hkey
   simpa using this
  try simp only [a0R,tOp,tCB,a0h,a0l,Qb,Qa,a0t,tC,a1r,a1j,a0e]
  refine .inr ⟨cm,_,rfl,hC,?_⟩
  rw [show (wv F).length=F.length from by unfold wv;rw [Qe]]
  try simp only [a3M,a1e,decide_eq_true_eq]
  refine a1C (fun c1=>?_) (fun c1=>?_)
  ·refine ⟨fun σ H'=>∃m',m' < m∧∃(n:Nat) (T:List Tr) (F:List (Str×Bool)) (cm:Addr) (x12 x13:Option V) (kH kR:List (Key×V)),σ=[some (V.ref g),some v1,some v2,some (V.ref kd),some (V.ref Su),some (V.ref He),some (V.ref Re),some (V.ref Hd),some (V.ref Wa),some (V.ref To),some (V.int ((n:Int)+1)),some (V.ref cm),x12,x13]∧K3 H'∧TAt H' To T∧(T.map (·.1)).Nodup∧IsT rs pl S W (ups kn) (a0X kn) n T∧H' He=some (.dK kH)∧(∀x:Str,(a0P kH (Sum.inr x:Key)).isSome=decide (x∈(rds rs pl S W (ups kn) (a0X kn) n).U))∧kH.length≤100+T.length∧H' Re=some (.dK kR)∧(∀x:Str,(a0P kR (Sum.inr x:Key)).isSome=decide (x∈(rds rs pl S W (ups kn) (a0X kn) n).D))∧kR.length≤100+T.length∧H' cm=some (.dK (wv F))∧(cm≠To∧cm≠He∧cm≠Re∧cm≠Hd)∧(F.map (·.1)).Nodup∧IsF rs pl S W (ups kn) (a0X kn) n F∧m'=W.length - T.length,fun _ _ h=>h,?_⟩
   refine a8K (kn:=F.map (·.1)) (fun H0 i σ' H'=>∃(x12:Option V),σ'=[some (V.ref g),some v1,some v2,some (V.ref kd),some (V.ref Su),some (V.ref He),some (V.ref Re),some (V.ref Hd),some (V.ref Wa),some (V.ref To),some (V.int ((n:Int)+1)),some (V.ref cm),x12,x13]∧a5e H0 To H'∧TAt H' To (T++(F.take i).map fun p=>(p.1,p.2,n+1))) hC (a2Y F) (a0z rfl) (fun o=>⟨_,rfl,a5e.refl _ _,?_⟩) ?_ ?_ ?_
   ·rw [Jm,Jk,Qh]
    refine hT.keep fun b o e hb=>?_
    rcases hb with rfl | ⟨xs,rfl⟩
    ·rw [a0a nCT.symm];exact e
    ·rw [a0a (a0B e hC (by intro z;cases z))];exact e
   ·rintro o i σ' H' ⟨_,rfl,k,_⟩
    exact k _ _ a0d nCT
   ·rintro o i hi σ' H' rt bk ⟨_,rfl,k,hT'⟩
    have hi':i < F.length:=by simpa using hi
    have hcm':H' cm=some (.frz o (.dK (wv F))):=k _ _ a0d nCT
    have hv:=a6O hFn (show (F[i].1,F[i].2)∈F from Xi hi')
    have hq:F[i].1∉(T++(F.take i).map fun p=>(p.1,p.2,n+1)).map (·.1):=fun z=>by
     rw [Xc,Xe] at z
     rcases z with z | z
     ·exact hnew _ (Ql.mpr ⟨_,Xi hi',rfl⟩) z
     ·rw [Xh] at z
      obtain ⟨x,hx,e⟩:=Ql.mp z
      obtain ⟨j,hj,rfl⟩:=Yv hx
      rw [Xo] at hj
      have e':(F.map (·.1))[j]'(by rw [Qe];omega)=(F.map (·.1))[i]'hi:=by rw [Jr,Jr,←e,Jg];rfl
      have:=(Zn hFn).mp e'
      omega
    have hll:(T++(F.take i).map fun p=>(p.1,p.2,n+1)).length≤100000:=by
     rw [Xq,Qe,Xo];omega
    rw [Jr,Qt hi',Xc,←Zu]
    try simp only [a0m,a3z,a6Q,a0h,b2u,a0l,Qf,Qg,Qb,Qa,a0t,a0e]
    refine ⟨cm,_,rfl,.inl ⟨_,Sum.inr F[i].1,.inr ⟨o,hcm'⟩,rfl,hv.symm⟩,by simp only [Qo,Xb];decide,fun p hp=>?_⟩
    obtain ⟨H11,e11,s11,h11⟩:=a0V hp (.tup [V.str (wd F[i].2),V.int ((n:Int)+1)]);rw [e11]
    obtain ⟨kv,hput,hT2⟩:=hT'.put (n:=n+1) s11 h11 hq hll
    exact ⟨To,_,rfl,hput,_,rfl,fun b o e n=>by rw [a0a n];exact s11 _ _ (k _ _ e n),hT2⟩
   ·rintro o σ' H' ⟨y12,rfl,k,hT'⟩
    rw [Qe,Xs] at hT'
    have k11:∀b o',H10 b=some o'→b≠To→upd H' cm (.dK (wv F)) b=some o':=fun b o' e nb=>by
     by_cases z:b=cm
     ·rw [z,a0d,←hC,←z];exact e
     ·rw [a0a z];exact k _ _ (by rw [a0a z];exact e) nb
    have hT11:TAt (upd H' cm (.dK (wv F))) To (T++F.map fun p=>(p.1,p.2,n+1)):=hT'.keep fun b o' e hb=>by
     have hcf:H' cm=some (.frz o (.dK (wv F))):=k _ _ a0d nCT
     rcases hb with rfl | ⟨xs,rfl⟩
     ·rw [a0a nCT.symm];exact e
     ·rw [a0a (a0B e hcf (by intro z;cases z))];exact e
    generalize upd H' cm (.dK (wv F))=H11 at k11 hT11
    clear hT' k
    have hC11:=k11 _ _ hC nCT
    have hH11:=k11 _ _ hH nHT
    have hR11:=k11 _ _ hR nRT
    have g1:=a4M F true
    have g2:=a4M F false
    have g3:=a1h ((F.map (·.1)).filter fun q=>decide ((q,true)∈F)) []
    have g4:=a1h ((F.map (·.1)).filter fun q=>decide ((q,false)∈F)) []
    have bvl:∀l:List Str,(bv l).length=l.length:=fun l=>by unfold bv;rw [Qe]
    try simp only [a1r,a3n,tBM,a0l,Qb,Qa,a0h,a0x,a0t,Qh,a1K,tOp,tC,a0m,b3h,Qf,Qg,a0e,a0L]
    refine ⟨.inr (.inr (.inl ⟨rfl,.inl ⟨_,hH11⟩⟩)),a2O hC11 (a2Y F) (by rw [Qe];omega) (a0z rfl) [some (V.ref cm)] rfl (fun q=>decide ((q,true)∈F)) (fun q0 H0 H' R hq off hR s hR'=>a2P (b:=true) hFn hq hR hR') fun L3 H12 hL3 s12 hL12=>?_⟩
    refine ⟨_,_,rfl,.inl ⟨L3,rfl,hL12⟩,by omega,fun KD H13 s13' hKn hKD=>?_⟩
    have s1113:=s12.trans s13'
    have nHK:He≠KD:=fun z=>by rw [←z,s12 _ _ hH11] at hKn;cases hKn
    refine ⟨He,KD,kH,_,rfl,rfl,nHK,s1113 _ _ hH11,hKD,Qj (show _≤1000 by rw [bvl];simp at g3;omega) (by decide),?_⟩
    have hml:=a1z (bv (((F.map (·.1)).filter fun q=>decide ((q,true)∈F)).foldl a1p [])) kH
    obtain ⟨H14,e14,k14,hH14⟩:∃H',upd H13 He (.dK (a1F kH (bv (((F.map (·.1)).filter fun q=>decide ((q,true)∈F)).foldl a1p []))))=H'∧(∀b o,H11 b=some o→b≠He→H' b=some o)∧H' He=some (.dK (a1F kH (bv (((F.map (·.1)).filter fun q=>decide ((q,true)∈F)).foldl a1p [])))):=⟨_,rfl,fun b o e n=>by rw [a0a n];exact s1113 _ _ e,a0d⟩
    rw [e14]
    have hC14:=k14 _ _ hC11 nCH
    have hR14:=k14 _ _ hR11 nHR.symm
    try simp only []
    refine ⟨.inr (.inr (.inl ⟨rfl,.inl ⟨_,hR14⟩⟩)),a2O hC14 (a2Y F) (by rw [Qe];omega) (a0z rfl) [some (V.ref cm)] rfl (fun q=>decide ((q,false)∈F)) (fun q0 H0 H' R hq off hR s hR'=>a2P (b:=false) hFn hq hR hR') fun L4 H15 hL4 s15 hL15=>?_⟩
    refine ⟨_,_,rfl,.inl ⟨L4,rfl,hL15⟩,by omega,fun KE H16 s16 hKEn hKE=>?_⟩
    have s1416:=s15.trans s16
    have nRK:Re≠KE:=fun z=>by rw [←z,s15 _ _ hR14] at hKEn;cases hKEn
    refine ⟨Re,KE,kR,_,rfl,rfl,nRK,s1416 _ _ hR14,hKE,Qj (show _≤1000 by rw [bvl];simp at g4;omega) (by decide),?_⟩
    have hml2:=a1z (bv (((F.map (·.1)).filter fun q=>decide ((q,false)∈F)).foldl a1p [])) kR
    obtain ⟨H17,e17,k17,hR17⟩:∃H',upd H16 Re (.dK (a1F kR (bv (((F.map (·.1)).filter fun q=>decide ((q,false)∈F)).foldl a1p []))))=H'∧(∀b o,H14 b=some o→b≠Re→H' b=some o)∧H' Re=some (.dK (a1F kR (bv (((F.map (·.1)).filter fun q=>decide ((q,false)∈F)).foldl a1p [])))):=⟨_,rfl,fun b o e n=>by rw [a0a n];exact s1416 _ _ e,a0d⟩
    rw [e17]
    rw [bvl] at hml hml2
    have hC17:=k17 _ _ hC14 nCR
    have hH17:=k17 _ _ hH14 nHR
    have hHm17:=DAt.merge hHm (b2J hIF)
    have hRm17:=DAt.merge hRm (b2Q hIF)
    have hIT1:=a7k hIT hIF
    have hT17:TAt H17 To (T++F.map fun p=>(p.1,p.2,n+1)):=hT11.keep fun b o' e hb=>by
     rcases hb with rfl | ⟨xs,rfl⟩
     ·exact k17 _ _ (k14 _ _ e nHT.symm) nRT.symm
     ·exact k17 _ _ (k14 _ _ e (a0B e hH11 (by intro z;cases z))) (a0B e hR11 (by intro z;cases z))
    have kk17:K3 H17:=k3to _ fun b o e n1 n2 n3=>k17 _ _ (k14 _ _ (k11 _ _ (k3of _ kk _ _ e n1 n2 n3) n1) n2) n3
    generalize a1F kH (bv (((F.map (·.1)).filter fun q=>decide ((q,true)∈F)).foldl a1p []))=kH' at hml hH17 hHm17
    generalize a1F kR (bv (((F.map (·.1)).filter fun q=>decide ((q,false)∈F)).foldl a1p []))=kR' at hml2 hR17 hRm17
    have hTl1:(T++F.map fun p=>(p.1,p.2,n+1)).length=T.length+F.length:=by rw [Xq,Qe]
    generalize hTe:(T++F.map fun p=>(p.1,p.2,n+1))=T1 at hT17 hIT1 hnd hkey hTl1
    have hW17:=k3of _ kk17 _ _ (s8 _ _ hWa) nWT nWH nWR
    obtain ⟨kT,hkT,_,hkTm⟩:=hT17.keys
    try simp only []
    refine ⟨Hd,cm,rs,F,rfl,fun H' off=>(k3D _ kk17).keep fun b o e hb=>off b o e fun z=>?_,hC17,by omega,hO,hrl,fun Dt kt H18 s18 hDtn hDt hktn hktl hktm=>?_⟩
    ·cases z
     rcases hb with w | ⟨xs,rfl⟩
     ·exact nCD w
     ·rw [hC17] at e;cases e
    refine a9p hDt (a8Z kt) hktl s18 [some (V.ref Wa),some (V.ref To)] (by rfl) (fun q=>decide (q∈W) && decide (q∉T1.map (·.1))) (fun q0 H0 H' R hq off s hR'=>?_) fun As H19 hAsn s19 hAs=>?_
    ·have hW':=s _ _ (off.keep _ _ (s18 _ _ hW17) fun z=>by cases z;rw [hW17] at hDtn;cases hDtn)
     have hT':=s _ _ (off.keep _ _ (s18 _ _ hkT) fun z=>by cases z;rw [hkT] at hDtn;cases hDtn)
     have:=hR' _ (a0f.refl _)
     try simp only [b6s,tB,b6p,a0l,Qa,Qb,a3d,a1e,a0e]
     refine ⟨Wa,_,rfl,a2S.k (k:=(Sum.inr q0:Key)) hW',?_⟩
     rw [a2D]
     by_cases z1:q0∈W
     ·rw [if_pos z1]
      rw [decide_eq_true z1,Zd] at this
      refine ⟨To,_,rfl,a2S.k (k:=(Sum.inr q0:Key)) hT',?_⟩
      rw [hkTm,show (!decide (q0∈T1.map (·.1)))=decide (q0∉T1.map (·.1)) from by simp]
      exact this
     ·rw [if_neg z1]
      rw [decide_eq_false z1,Zw] at this
      exact this
    try simp only [a1K,a0x,a0h,a0l,Qa,Qb,a0t,Qh,a0m,Qf,Qg,a0e]
    have ha:∀x,x∈kt.filter (fun q=>decide (q∈W) && decide (q∉T1.map (·.1)))↔tch rs (F.map (·.1)) x∧x∈W∧x∉T1.map (·.1):=fun x=>by
     rw [Qv,hktm,Xn,decide_eq_true_eq,decide_eq_true_eq]
    have hfl:=Qq (fun q=>decide (q∈W) && decide (q∉T1.map (·.1))) kt
    have hfn:(kt.filter (fun q=>decide (q∈W) && decide (q∉T1.map (·.1)))).Nodup:=hktn.sublist Ur
    generalize kt.filter (fun q=>decide (q∈W) && decide (q∉T1.map (·.1)))=ask at ha hfl hfn hAs
    have hlt:W.length - T1.length < m:=by
     have:0 < F.length:=by omega
     omega
    refine ⟨g,_,_,_,_,rs,pl,S,(rds rs pl S W (ups kn) (a0X kn) (n+1)).U,(rds rs pl S W (ups kn) (a0X kn) (n+1)).D,ask,rfl,fun H' off=>?_,hO,hrl,.inl ⟨As,rfl,hAs⟩,hfn,by omega,fun q0 hq0=>(hsm q0 ((hWm q0).mp ((ha q0).mp hq0).2.1)).1,fun C2 H20 s20 hC2n hC2=>?_⟩
    ·have s18':a0f H18 H':=off.same s19 hAsn
     have kk':K3 H':=k3to _ fun b o e n1 n2 n3=>s18' _ _ (s18 _ _ (k3of _ kk17 _ _ e n1 n2 n3))
     exact ⟨hG.same (k3H _ kk'),k3S _ kk',.inr ⟨He,_,rfl,s18' _ _ (s18 _ _ hH17),hHm17⟩,.inr ⟨Re,_,rfl,s18' _ _ (s18 _ _ hR17),hRm17⟩⟩
    have s1720:=(s18.trans s19).trans s20
    have hn19:∀{x:Addr} {o:HO},H17 x=some o→C2≠x:=fun {x o} e z=>by rw [z,s19 _ _ (s18 _ _ e)] at hC2n;cases hC2n
    refine ⟨_,hlt,n+1,T1,_,C2,_,_,kH',kR',rfl,k3to _ fun b o e n1 n2 n3=>s1720 _ _ (k3of _ kk17 _ _ e n1 n2 n3),hT17.same s1720,hnd,hIT1,s1720 _ _ hH17,hHm17,by simp at g3;omega,s1720 _ _ hR17,hRm17,by simp at g4;omega,hC2,⟨hn19 hkT,hn19 hH17,hn19 hR17,?_⟩,hfn.sublist (a4R _ _ _ _ _ _),b1K (fun q0 hq0=>(hsm q0 ((hWm q0).mp hq0)).2) hIT1 hIF ha,rfl⟩
    obtain ⟨kv,e,_⟩:=k3D _ kk17
    exact hn19 e
  ·have hF0:F=[]:=by
    cases F with
    | nil=>rfl
    | cons x l=>exact absurd (by simp only [Qo];omega) c1
   subst hF0
   try skip
   exact q To T n H10 (k3H _ kk) (none_of s06 (none_of s7 hTo)) hT hTn (b4q hIF) hIT
theorem b7I (T:Txt K mg t):a1a P w K mg base CX0 1 t.f_z09 t.fd_z09 ["self"] (a0W true):=by
 refine T.F_z09.ok b9p (fun vs H Q E h=>?_) (fun cdv A outer s H vs Q E hr h=>?_)
 ·obtain ⟨x,rfl,q⟩:=h;rfl
 ·obtain ⟨x,rfl,q⟩:=h
  refine ⟨_,‹A4 (A9 B9)›,?_⟩
  rw [show start b8N [x]=[some (x)] from rfl]
  try simp only [a1j,tC]
  exact q
theorem b3J (T:Txt K mg t):a1a P w K mg base CX0 1 t.f_z07 t.fd_z07 ["self"] (a0W false):=by
 refine T.F_z07.ok b9N (fun vs H Q E h=>?_) (fun cdv A outer s H vs Q E hr h=>?_)
 ·obtain ⟨x,rfl,q⟩:=h;rfl
 ·obtain ⟨x,rfl,q⟩:=h
  refine ⟨_,‹A4 (A9 B9)›,?_⟩
  rw [show start b7L [x]=[some (x)] from rfl]
  try simp only [a1j,tC]
  exact q
theorem b7w (T:Txt K mg t):a1a P w K mg base CX0 1 t.f_z0a t.fd_z0a ["self"] (a0W true):=by
 refine T.F_z0a.ok b7g (fun vs H Q E h=>?_) (fun cdv A outer s H vs Q E hr h=>?_)
 ·obtain ⟨x,rfl,q⟩:=h;rfl
 ·obtain ⟨x,rfl,q⟩:=h
  refine ⟨_,‹A4 (A9 B9)›,?_⟩
  rw [show start b7Q [x]=[some (x)] from rfl]
  try simp only [a1j,tC]
  exact q
theorem b6T (T:Txt K mg t):a1a P w K mg base CX0 3 t.f_z0e t.fd_z0e ["rules","known"] (b9w K t):=by
 refine T.F_z0e.ok a2x (fun vs H Q E h=>?_) (fun cdv A outer s H vs Q E hr h=>?_)
 ·obtain ⟨a,kv,xs,rs,kn,rfl,ha,hA,hO,hrl,hk,hkl,q⟩:=h;rfl
 ·obtain ⟨a,kv,xs,rs,kn,rfl,ha,hA,hO,hrl,hk,hkl,q⟩:=h
  refine ⟨_,‹D4 (A6 2 a2x.nd (A7 (a3t T) T.g_z1o T.F_z1o.kp T.b_z1o .nil (A0 (H5 (B1 b7B 1 H6 (a0n _)) (B5 A1) 1) A1))) (A2 (D5 3 (B3 (a0b a2t) a8u ["rule","sure"] [none,some 2]) (B6 0) (A8 0 (show Xf (["rule","sure"]:List Str) by decide+kernel)) (C1 (D0 (F3 (C2 (E5 (D7 0 T.cl_Fact T.me_Fact_is_sure (b7I T) T.b_z09) (E5 (D7 0 T.cl_Sure T.me_Sure_is_sure (b7w T) T.b_z0a) (E5 (D7 0 T.cl_Most T.me_Most_is_sure (b3J T) T.b_z07) (D7 0 T.cl_Block T.me_Block_is_sure (b3J T) T.b_z07))))) (F4 (D1 ‹F1 (D8 0) 1›))))) 0 a2x.nd) (A2 (A6 4 a2x.nd C9) (A2 (A6 5 a2x.nd A3) (A2 (D5 6 (B3 (a0b a2t) a8u ["rule","sure"] [none,some 2]) (B6 3) (A8 0 (show Xf (["rule","sure"]:List Str) by decide+kernel)) (C1 (C2 (A7 (a7w T) T.g_z0s T.F_z0s.kp T.b_z0s .nil (A0 (D8 0) (A0 1 A1))))) (D8 0) a2x.nd) (A2 (G6 (B1 b1x (C4 a1t T.z_len a1u (A0 6 A1)) A3 (a0n _)) (A2 (B8 (B6 6) (A8 7 a2x.nd) (A2 (C3 4 7 5) (A4 (C3 2 7 B9)))) (A2 (D5 3 (B3 (a0b a2t) a8u ["rule","sure"] [none,some 2]) (B6 3) (A8 0 (show Xf (["rule","sure"]:List Str) by decide+kernel)) (C1 (D1 ‹F1 (D8 0) 1›)) 0 a2x.nd) (A2 (A6 5 a2x.nd (A5 a0u 5 A3)) (A4 (D5 6 (B3 (a0b a2t) a8u ["rule","sure"] [none,some 2]) (B6 3) (A8 0 (show Xf (["rule","sure"]:List Str) by decide+kernel)) (C1 (C2 (A7 (a7w T) T.g_z0s T.F_z0s.kp T.b_z0s .nil (A0 (D8 0) (A0 1 A1))))) (D8 0) a2x.nd)))))) (A4 (A9 4)))))))›,?_⟩
  rw [show start a8u [V.ref a,kv]=[some (V.ref a),some (kv),none,none,none,none,none,none] from rfl]
  have hkl':(kn.foldl a1p []).length≤100:=Qj (a1h kn []) (by simpa using hkl)
  have hkn:(kn.foldl a1p []).Nodup:=a2n kn (by simp)
  try simp only [a0p,a1y,a0l]
  refine ⟨fun σ' H'=>∃D,σ'=[some (V.ref a),some kv,some (V.ref D),none,none,none,none,none]∧a0f H H'∧H D=none∧H' D=some (.dK (bv (kn.foldl a1p []))),?_,?_⟩
  ·rcases hk with ⟨rfl,rfl⟩ | ⟨b,rfl,hb⟩
   ·try simp only [a1K,a0x,a0h,tIf,a0R,tOp,a0l,Qb,Qa,tC,a2Q,a0t,Qh,a0m,Qf,Qg,a0e,b2U,a1e,if_true]
    refine ⟨by decide,fun p hp=>?_⟩
    obtain ⟨H1,e1,s1,h1⟩:=a0V hp (.lst []);rw [e1]
    exact ⟨_,[],rfl,.inl ⟨p,rfl,h1⟩,by decide,fun D H' s hD hD'=>⟨D,rfl,s1.trans s,none_of s1 hD,hD'⟩⟩
   ·try simp only [a1K,a0x,a0h,tIf,a0R,tOp,a0l,Qb,Qa,tC,a2Q,a0t,Qh,a0m,Qf,Qg,a0e,b1F,a1e,a7s]
    exact ⟨_,kn,rfl,.inl ⟨b,rfl,hb⟩,by omega,fun D H' s hD hD'=>⟨D,rfl,s,hD,hD'⟩⟩
  rintro σ H1 ⟨D,rfl,s1,hD,hD1⟩
  generalize kn.foldl a1p []=k0 at hD1 hkl' hkn q
  obtain ⟨zr,ez1,ez2,hz⟩:=hA.zip hO
  subst ez1 ez2
  have hzl:zr.length≤100:=by simpa using hrl
  try simp only [a1r,Qa,a1K,a1V,a0m,tC,Qf,Qg,Qb,a0e,a0D]
  refine ⟨⟨_,SqL.of (s1 _ _ ha)⟩,?_⟩
  refine a1Q zr (s1 _ _ ha) (by omega) (hz.same s1) [some (V.ref D)] rfl (fun r=>(srW r).1 && decide ((srW r).2.1∉k0)) (fun p=>p.1) (fun x r H' R ho hr s hR=>?_) (fun x r H' R ho hr s hR=>?_) (fun W H2 hWn s2 hW2=>?_)
  ·try simp only [b6s,tB,a3d,a4q,a0l,Qa,Qb,a1e,a0e]
   have CF:=a8y T ho.1
   refine c3A ho.1 (a0z rfl) hr ⟨by decide+kernel,by decide+kernel,by decide+kernel⟩ ?_
   rw [a9N ho.1]
   try simp only [a4y,a1e,decide_eq_true_eq]
   obtain ⟨dx,t0,h1,h2⟩:=hr
   have:=hR _ (a0f.refl _)
   refine a1C (fun c=>?_) (fun c=>?_)
   ·have e1:(srW r).1=true:=decide_eq_true (by have:=c;omega)
    refine ⟨x,_,dx,_,_,rfl,h1,CF.cl,CF.nh,a1v _ _ _,D,_,rfl,c1o (s _ _ hD1) _,?_⟩
    rw [e1,Zd] at this
    by_cases h:r.2.2.1∈k0
    ·rw [if_pos h];rw [decide_eq_false (show ¬¬(srW r).2.1∈k0 from fun z=>z h)] at this;exact this
    ·rw [if_neg h];rw [decide_eq_true (show ¬(srW r).2.1∈k0 from h)] at this;exact this
   ·have e1:(srW r).1=false:=decide_eq_false (by have:=c;omega)
    rw [e1,Zw] at this;exact this
  ·try simp only [a0l,Qa,a0e]
   exact hR _ (a0f.refl _)
  try simp only [a0D]
  obtain ⟨RS,eRS⟩:∃RS,(zr.map (·.2)).map srW=RS:=⟨_,rfl⟩
  rw [eRS] at q
  have hRl:RS.length≤100:=by rw [←eRS];simpa using hzl
  intro R hR0
  obtain ⟨H3,e3,s3,hR3⟩:=a0V hR0 (.dK []);rw [e3]
  have hD3:=s3 _ _ (s2 _ _ hD1)
  have hW3:=s3 _ _ hW2
  have s03:=(s1.trans s2).trans s3
  have hRn:H R=none:=none_of (s1.trans s2) hR0
  have hDR:D≠R:=fun z=>by have e:=s2 _ _ hD1;rw [z,hR0] at e;cases e
  refine ⟨⟨_,SqL.of hW3⟩,?_⟩
  have hAm:∀(S:List Str) (x:Addr) (r:Rw) (H':Hp) (R:Bool→Hp→Prop),a1A r→a1N H' x (a4e t r.1) (.str r.2.1) (.str r.2.2.1) (r.2.2.2.map V.str)→H' D=some (.dK (bv S))→(∀H'',a0f H' H''→R ((srW r).2.2.all fun q=>decide (q∈S)) H'')→tB (a0x a7b [] E0 (a0h (a4q K (a0l 0) "body") (a0h (a0l 1) a0t))) [some (V.ref x),some (V.ref D)] H' R:=by
   intro S x r H' R ho hr hD' hR
   have CF:=a8y T ho.1
   obtain ⟨dx,t0,h1,h2⟩:=hr
   try simp only [tB,a0x,a0h,a4q,a0l,Qa,Qb,a0t,Qh,a0e]
   refine ⟨x,_,dx,_,_,rfl,h1,CF.cl,CF.nb,a1X _ _ _,?_⟩
   refine ⟨t0,_,r.2.2.2,S,rfl,h2,by have:=ho.2.2.2.2.2;omega,c4t hD',fun H'' s''=>?_⟩
   try simp only [a1e]
   exact hR _ s''
  have hHd:∀(x:Addr) (r:Rw) (H':Hp) (R:V→Hp→Prop),a1A r→a1N H' x (a4e t r.1) (.str r.2.1) (.str r.2.2.1) (r.2.2.2.map V.str)→(∀H'',a0f H' H''→R (V.str (srW r).2.1) H'')→a4q K (a0l 0) "head" [some (V.ref x),some (V.ref D)] H' R:=by
   intro x r H' R ho hr hR
   have CF:=a8y T ho.1
   obtain ⟨dx,t0,h1,h2⟩:=hr
   try simp only [a4q,a0l,Qa,a0e]
   exact ⟨x,_,dx,_,_,rfl,h1,CF.cl,CF.nh,a1v _ _ _,hR _ (a0f.refl _)⟩
  refine a1Q (wat zr k0) hW3 (Qj (a6F _ _) (by omega)) ((a9z hz).same s03) [some (V.ref D)] rfl (fun r=>(srW r).2.2.all fun q=>decide (q∈k0)) (fun p=>V.str (srW p.2).2.1) (fun x r H' R ho hr s hR=>hAm k0 x r H' R ho hr (s _ _ hD3) hR) (fun x r H' R ho hr s hR=>hHd x r H' R ho hr hR) (fun F H4 hFn s4 hF4=>?_)
  rw [a7D,eRS] at hF4
  refine a6J (fun m σ H'=>∃(n:Nat) (W F:Addr) (x7:Option V),σ=[some (V.ref a),some kv,some (V.ref D),some (V.ref W),some (V.ref R),some (V.int ((n:Int)+1)),some (V.ref F),x7]∧a0f H H'∧H' D=some (.dK (bv (sS RS k0 n)))∧H' R=some (.dK (dv (sR RS k0 n)))∧H' W=some (.lst ((wat zr (sS RS k0 n)).map (·.1)))∧H' F=some (.lst ((frs RS (sS RS k0 n)).map V.str))∧m=b3l RS (sS RS k0 n))
   (b3l RS k0) ⟨0,W,F,_,rfl,s03.trans s4,s4 _ _ hD3,s4 _ _ hR3,s4 _ _ hW3,hF4,rfl⟩ ?_
  clear hF4 hFn s4 hW3 hW2 hWn
  rintro m σ H4 ⟨n,W,F,x7,rfl,s4,hD4,hR4,hW4,hF4,hm⟩
  have hfl:=b4Z RS (sS RS k0 n)
  have hSl:=b3s (rs:=RS) hkn n
  have hRl':=b3w (rs:=RS) hkn n
  try simp only [a0R,tOp,tCB,a0h,a0l,Qb,Qa,a0t,tC,a1r,a0E,a1y,a0e,a0D,a1j]
  refine a1Y (SqL.of hF4) ?_
  rw [Qe]
  try simp only [a3M,a1e,decide_eq_true_eq]
  refine a1C (fun c1=>?_) (fun c1=>?_)
  ·have hne:frs RS (sS RS k0 n)≠[]:=fun z=>by rw [z] at c1;exact absurd c1 (by decide)
   refine ⟨fun σ' H'=>∃m',m' < m∧∃(n:Nat) (W F:Addr) (x7:Option V),σ'=[some (V.ref a),some kv,some (V.ref D),some (V.ref W),some (V.ref R),some (V.int ((n:Int)+1)),some (V.ref F),x7]∧a0f H H'∧H' D=some (.dK (bv (sS RS k0 n)))∧H' R=some (.dK (dv (sR RS k0 n)))∧H' W=some (.lst ((wat zr (sS RS k0 n)).map (·.1)))∧H' F=some (.lst ((frs RS (sS RS k0 n)).map V.str))∧m'=b3l RS (sS RS k0 n),fun _ _ h=>h,⟨_,SqL.of hF4⟩,?_⟩
   have hFD:F≠D:=a0B hF4 hD4 (by intro z;cases z)
   have hFR:F≠R:=a0B hF4 hR4 (by intro z;cases z)
   have hWD:W≠D:=a0B hW4 hD4 (by intro z;cases z)
   have hWR:W≠R:=a0B hW4 hR4 (by intro z;cases z)
   refine a1x (K:=K) (a:=F) (xs:=(frs RS (sS RS k0 n)).map V.str) (fun j σ H'=>∃(x7:Option V),σ=[some (V.ref a),some kv,some (V.ref D),some (V.ref W),some (V.ref R),some (V.int ((n:Int)+1)),some (V.ref F),x7]∧a0f H H'∧H' D=some (.dK (bv (((frs RS (sS RS k0 n)).take j).foldl a1p (sS RS k0 n))))∧H' R=some (.dK (dv (((frs RS (sS RS k0 n)).take j).foldl (a3X (n+1)) (sR RS k0 n))))∧H' W=some (.lst ((wat zr (sS RS k0 n)).map (·.1)))∧H' F=some (.lst ((frs RS (sS RS k0 n)).map V.str)))
    ⟨_,rfl,s4,hD4,hR4,hW4,hF4⟩ (fun j σ H' _ h=>by obtain ⟨_,_,_,_,_,_,h⟩:=h;exact SqL.of h) ?_ ?_
   ·rintro j x σ H5 hj ⟨x9,rfl,s5,hD5,hR5,hW5,hF5⟩
    have hjl:j < (frs RS (sS RS k0 n)).length:=by simpa using (Qm.mp hj).1
    have ex:x=V.str (frs RS (sS RS k0 n))[j]:=by
     rw [Qn,Qc hjl] at hj
     exact (Option.some.inj hj).symm
    subst ex
    have hnew:=a6k (Xi hjl)
    rw [Qt hjl,Vf,Vf]
    have hlkt:lk (((frs RS (sS RS k0 n)).take j).foldl (a3X (n+1)) (sR RS k0 n)) (frs RS (sS RS k0 n))[j]=none∨lk (((frs RS (sS RS k0 n)).take j).foldl (a3X (n+1)) (sR RS k0 n)) (frs RS (sS RS k0 n))[j]=some (n+1):=by
     rw [a4T fun h hh=>.inl (a6k (Uk hh)),hnew]
     split
     ·exact .inr rfl
     ·exact .inl rfl
    have l1:=a1h ((frs RS (sS RS k0 n)).take j) (sS RS k0 n)
    have l2:=a5k (n+1) ((frs RS (sS RS k0 n)).take j) (sR RS k0 n)
    have l3:((frs RS (sS RS k0 n)).take j).length≤100:=by rw [Xo];omega
    have nd:=a3K (n+1) ((frs RS (sS RS k0 n)).take j) (a1c (rs:=RS) (kn:=k0) n)
    generalize ((frs RS (sS RS k0 n)).take j).foldl (a3X (n+1)) (sR RS k0 n)=R5 at hR5 l2 nd hlkt
    generalize ((frs RS (sS RS k0 n)).take j).foldl a1p (sS RS k0 n)=S5 at hD5 l1
    try simp only [a0m,a1r,a3z,a0l,Qf,Qg,Qb,Qa,tC,a0e]
    refine ⟨R,_,rfl,c6I (n:=n+1) hR5 (by omega) nd hlkt,?_⟩
    refine ⟨D,_,rfl,c0b (by rw [a0a hDR];exact hD5) (by omega) _,_,rfl,?_,a0d,?_,?_,?_⟩
    ·intro b o e;rw [a0a (a0c e hD),a0a (a0c e hRn)];exact s5 _ _ e
    ·rw [a0a hDR.symm,a0d];rfl
    ·rw [a0a hWD,a0a hWR];exact hW5
    ·rw [a0a hFD,a0a hFR];exact hF5
   ·rintro σ H5 ⟨x9,rfl,s5,hD5,hR5,hW5,hF5⟩
    rw [Qe,Xs] at hD5 hR5
    have hD5':H5 D=some (.dK (bv (sS RS k0 (n+1)))):=hD5
    have hR5':H5 R=some (.dK (dv (sR RS k0 (n+1)))):=hR5
    clear hD5 hR5
    have hsub:∀x,x∈sS RS k0 n→x∈sS RS k0 (n+1):=fun x hx=>a3P.mpr (.inl hx)
    have hlack:=a5h hne
    try simp only [a1r,Qb,Qa,a1K,tOp,a0l,Qf,Qg,tC,a0m,a0e,a0L,a0D]
    refine ⟨⟨_,SqL.of hW5⟩,?_⟩
    refine a1Q (wat zr (sS RS k0 n)) hW5 (Qj (a6F _ _) (by omega)) ((a9z hz).same s5) [some (V.ref D)] rfl (fun r=>decide ((srW r).2.1∉sS RS k0 (n+1))) (fun p=>p.1) (fun x r H' R ho hr s hR=>?_) (fun x r H' R ho hr s hR=>?_) (fun W' H6 hWn s6 hW6=>?_)
    ·have CF:=a8y T ho.1
     obtain ⟨dx,t0,h1,h2⟩:=hr
     try simp only [tB,a3d,a4q,a0l,Qa,Qb,a1e,a0e]
     refine ⟨x,_,dx,_,_,rfl,h1,CF.cl,CF.nh,a1v _ _ _,D,_,rfl,c1o (s _ _ hD5') _,?_⟩
     have:=hR _ (a0f.refl _)
     by_cases h:r.2.2.1∈sS RS k0 (n+1)
     ·rw [if_pos h];rw [decide_eq_false (show ¬¬(srW r).2.1∈sS RS k0 (n+1) from fun z=>z h)] at this;exact this
     ·rw [if_neg h];rw [decide_eq_true (show ¬(srW r).2.1∈sS RS k0 (n+1) from h)] at this;exact this
    ·try simp only [a0l,Qa,a0e]
     exact hR _ (a0f.refl _)
    rw [b8x zr hsub] at hW6
    have hD6:=s6 _ _ hD5'
    try simp only [a0D]
    refine ⟨⟨_,SqL.of hW6⟩,?_⟩
    refine a1Q (wat zr (sS RS k0 (n+1))) hW6 (Qj (a6F _ _) (by omega)) ((a9z hz).same (s5.trans s6)) [some (V.ref D)] rfl (fun r=>(srW r).2.2.all fun q=>decide (q∈sS RS k0 (n+1))) (fun p=>V.str (srW p.2).2.1) (fun x r H' R ho hr s hR=>hAm _ x r H' R ho hr (s _ _ hD6) hR) (fun x r H' R ho hr s hR=>hHd x r H' R ho hr hR) (fun F' H7 hFn s7 hF7=>?_)
    rw [a7D,eRS] at hF7
    have s57:=s6.trans s7
    exact ⟨_,by rw [hm];exact hlack,n+1,W',F',_,rfl,s5.trans s57,s57 _ _ hD5',s57 _ _ hR5',s7 _ _ hW6,hF7,rfl⟩
  ·have he:frs RS (sS RS k0 n)=[]:=by
    cases e:frs RS (sS RS k0 n) with
    | nil=>rfl
    | cons x l=>rw [e] at c1;exact absurd (by simp only [Qo];omega) c1
   rw [b9e he] at hR4
   try skip
   exact q R H4 s4 hRn hR4
theorem b7W (T:Txt K mg t):a1a P w K mg base CX0 4 t.f_z0l t.fd_z0l ["ground"] (b5I t):=by
 refine T.F_z0l.okC b3p (fun vs H Q E h=>?_) (fun A outer s H vs Q E hr h=>?_)
 ·obtain ⟨g,rs,pl,rfl,hG,hO,hrl,lt,q⟩:=h;rfl
 ·obtain ⟨g,rs,pl,rfl,hG,hO,hrl,lt,q⟩:=h
  refine ⟨_,‹A2 (A6 1 b3p.nd (A7 (b6T T) T.g_z0e T.F_z0e.kp T.bd_z0e (.cons (show a0H .non Value.none from rfl) .nil) (A0 (D7 0 T.cl_Ground T.me_Ground_rules (b3M T) T.b_z0c) A1))) (A4 (A9 (J5 ("statement") ["ranks"] [some 1] a2N 0 rfl rfl (hr.mono (by decide)) rfl T.z_sorted T.L_z0l T.LB 1 (B3 (a0b a7O) b5T ["statement","ranks"] [none,some 1]) rfl rfl rfl (fun _ _ _ _ _ _=>rfl) a2r rfl (fun _ _ _ _ _ _ hr=>‹C5 (A0 (F6 1 0) (A0 0 A1))›))))›,?_⟩
  rw [show start b5T [V.ref g]=[some (V.ref g),none] from rfl]
  obtain ⟨dx,io,bh,pr,_,_,_,hg1,_⟩:=id hG
  try simp only [a1r,a1K,a0x,a0h,a2B,a0l,Qa,a0t,Qh,Jo,Ui,a0m,a1j,b3u,Qf,Qg,Qb,a0e]
  refine ⟨g,dx,_,rfl,hg1,a2R _ _ _ (by decide+kernel) (by decide+kernel) (by decide+kernel),g,rs,pl,rfl,hG,fun W ys H1 s1 hWn hW1 hR1=>?_⟩
  refine ⟨W,_,ys,rs,[],rfl,hW1,hR1,hO,by omega,.inl ⟨rfl,rfl⟩,by decide,fun Fd H2 s2 hFn hF2=>?_⟩
  obtain ⟨F,eF⟩:∃F,FIN (rs.map srW) []=F:=⟨_,rfl⟩
  have hF2':H2 Fd=some (.dK (dv F)):=by rw [←eF];exact hF2
  have hFn':(F.map (·.1)).Nodup:=by rw [←eF];exact a9r _ _
  have hFl:F.length≤63:=by rw [←eF];exact Qj (a9o rs) hrl
  have lt2:=lt.mono (s1.trans s2)
  try skip
  refine ⟨Fd,dv F,F.map (·.1),gF (rs.map srW),rfl,hF2',b5h F,by rw [Qe];omega,hFn',lt2,fun z hz H3 k3=>?_,fun l H' ss lt' k' hln hl' hp hs=>?_⟩
  ·have hF3:=a9n lt2 k3 hF2' (by intro _ z;cases z)
   try simp only [a6Q,a0h,b2u,a0l,Qb,Qa,a0t,a0D,a0e]
   obtain ⟨p0,hp0,rfl⟩:=Ql.mp hz
   have hlk:=a9q hFn' hp0
   have hg:gF (rs.map srW) p0.1=(p0.2:Int):=by unfold gF;rw [eF,hlk];rfl
   have hd:=a2S.k (k:=(Sum.inr p0.1:Key)) hF3
   rw [a5c,hlk] at hd
   exact ⟨_,rfl,Fd,_,rfl,hd,by simp only [Qo,Xb];decide,fun p hp=>⟨by rw [a0d,hg],a0f.upd hp⟩⟩
  ·exact q l ss H' lt' (fun a o n e=>k' a o n (s2 _ _ (s1 _ _ e))) (none_of (s1.trans s2) hln) hl' ⟨by rw [eF];exact hp,hs⟩
theorem b2x (T:Txt K mg t):a1a P w K mg base CX0 10 t.f_d_law t.fd_d_law ["_law_script"] (b5Q t.TB_z0l K):=by
 refine T.F_d_law.ok a0O (fun vs H Q E h=>?_) (fun cdv A outer s H vs Q E hr h=>?_)
 ·obtain ⟨a,ns,rfl,hS,hl,lt,q⟩:=h;rfl
 ·obtain ⟨a,ns,rfl,hS,hl,lt,q⟩:=h
  refine ⟨_,‹A2 (A6 1 a0O.nd (A7 (b7c T) T.g_z1l T.F_z1l.kp T.b_z1l .nil (A0 0 (A0 A3 A1)))) (A2 (A6 2 a0O.nd (A7 (b3j T) T.g_z1j T.F_z1j.kp T.b_z1j .nil (A0 (A7 (a2z T) T.g_z12 T.F_z12.kp T.b_z12 .nil (A0 0 (A0 A3 A1))) A1))) (A2 (A6 3 a0O.nd (A7 (b8L T) T.g_z01 T.F_z01.kp T.b_z01 .nil (A0 0 A1))) (A2 (A6 4 a0O.nd (F7 T.mk_Ground (b6v T) T.g_Ground T.b_z0j (A0 (C0 (B3 (a0b a2e) a3a ["_law_row_here"] [none]) (B6 1) (A8 0 (show Xf (["_law_row_here"]:List Str) by decide+kernel)) D2 (A7 (b7k T) T.g_z1k T.F_z1k.kp T.b_z1k .nil (A0 0 A1))) (A0 3 A1)))) (A2 (A6 5 a0O.nd (A7 (a2z T) T.g_z12 T.F_z12.kp T.b_z12 .nil (A0 0 (A0 A3 A1)))) (A2 (A6 6 a0O.nd (C0 (B3 (a0b a2e) a3a ["_law_k","_law_q","_law_cell"] [none,none,some 5]) (G0 (A0 2 A1)) (G7 (C6 (A8 0 (show Xf (["_law_k","_law_q","_law_cell"]:List Str) by decide+kernel)) (C6 (A8 1 (show Xf (["_law_k","_law_q","_law_cell"]:List Str) by decide+kernel)) E7))) (C1 (D0 (E3 (B1 (a4h hr.units (K:=K) rfl) (A5 a0r 2 A3) A3 (a0n _)) (E6 (B1 b1x (A5 a0r (A7 (a3y T) T.g_z1p T.F_z1p.kp T.b_z1p .nil (A0 2 (A0 0 A1))) A3) A3 (a0n _)))))) 1)) (A2 (A6 7 a0O.nd (A7 (b9I T) T.g_z1h T.F_z1h.kp T.b_z1h .nil (A0 (A7 (a2z T) T.g_z12 T.F_z12.kp T.b_z12 .nil (A0 0 (A0 A3 A1))) (A0 (C0 (B3 (a0b a2e) a3a ["_law_q","_law_some"] [none,some 6]) (B6 2) (A8 0 (show Xf (["_law_q","_law_some"]:List Str) by decide+kernel)) (C1 (B1 (b0D (K:=K) rfl) 0 1 (by with_unfolding_all rfl))) 0) A1)))) (A2 (A6 8 a0O.nd (A7 (b7W T) T.g_z0l T.F_z0l.kp T.b_z0l .nil (A0 4 A1))) (D4 (B4 (B1 (a1g hr.units) (A5 a0r (A5 a0G 5 A3) A3) A3 (a0n _)) (A4 (D5 8 (B3 (a0b a2e) a3a ["_law_k","_law_q","_law_cell"] [none,none,some 5]) (G0 (A0 2 A1)) (G7 (C6 (A8 0 (show Xf (["_law_k","_law_q","_law_cell"]:List Str) by decide+kernel)) (C6 (A8 1 (show Xf (["_law_k","_law_q","_law_cell"]:List Str) by decide+kernel)) E7))) (C1 (B1 (a4h hr.units (K:=K) rfl) (A5 a0r (A7 (a3y T) T.g_z1p T.F_z1p.kp T.b_z1p .nil (A0 2 (A0 (A5 (a6B (K:=K) rfl) A3 0) A1))) A3) A3 (a0n _))) 1 a0O.nd)) B7) (A2 (A6 9 a0O.nd (B5 (A0 (D6 a1o T.z_list a1n (A0 6 A1)) (A0 (D6 a1o T.z_list a1n (A0 8 A1)) (A0 (H7 Wh PySem.F.type_dict_copy b2o 7) A1))))) (D4 (B4 (B1 (a1g hr.units) (A5 a0r (A5 a0G 5 A3) A3) A3 (a0n _)) (A2 (H1 C9 (J6 9 A3 b2H)) (A4 (B8 (B6 8) (A8 10 a0O.nd) (A4 (C3 (B2 a0s 9 A3) 10 H6))))) B7) (A2 (A6 11 a0O.nd (A7 (b3g T) T.g_z0f T.F_z0f.kp T.b_z0f .nil (A0 4 (A0 (B2 a0s 9 A3) (A0 (B2 a0s 9 A3) (A0 (B2 a0s 9 A3) A1)))))) (A2 (A6 12 a0O.nd (A7 (b8I T) T.g_z1g T.F_z1g.kp T.b_z1g .nil (A0 1 (A0 3 (A0 8 (A0 6 (A0 7 A1))))))) (D4 (B4 (D0 (E3 (E4 (C2 (C4 a2a T.z_isinstance a1b (A0 11 (A0 (G1 (.ty "dict") T.z_dict a8h) A1))))) (E3 (B1 (b5F hr.units) 11 12 (a0n _)) (E6 (B1 (b4j hr.units) (B5 (A0 (B2 a0s 9 A3) (A0 (D6 (a7P rfl) T.z_list a1n (A0 (B2 a0s 9 A3) A1)) (A0 (B2 a0s 9 A3) A1)))) (B5 (A0 6 (A0 8 (A0 7 A1)))) (a0n _)))))) (A4 (A9 B9)) B7) (A2 (F5 (B8 (J7 11) (A8 13 a0O.nd) (A4 (B4 (D0 (E3 (E4 (C2 (C4 a2a T.z_isinstance a1b (A0 13 (A0 (G1 (.ty "tuple") T.z_tuple a1J) A1))))) (E6 (E4 (C2 (A7 (b7K T) T.g_z1c T.F_z1c.kp T.b_z1c .nil (A0 (B2 a0s 13 A3) A1))))))) (A4 (A9 B9)) B7)))) (A2 (C7 (H7 Vx PySem.F.type_dict_clear a9M 11)) (A4 (A9 (E2 (b4I hr.units) (A7 (b3g T) T.g_z0f T.F_z0f.kp T.b_z0f .nil (A0 4 (A0 (J8 rfl rfl T.z_list rfl T.z_reversed 6) (A0 8 (A0 7 A1))))) 12 (a0n _)))))))))))))))))))›,?_⟩
  rw [show start a3a [V.ref a]=[some (V.ref a),none,none,none,none,none,none,none,none,none,none,none,none,none] from rfl]
  try simp only [a1r,a1K,a0x,a0h,a0l,Qa,tC,a0t,Qh,a0m,Qf,Qg,b4G,Qb,a0p,b2d,a0e,a1y]
  refine ⟨a,ns,5,rfl,hS,hl,⟨by decide,by decide⟩,fun R0 xs rs H1 s1 hBn hB1 hA1 hrl hO=>?_⟩
  have hrl':rs.length≤58:=by have:rs.length+(5:Int).toNat≤63:=hrl;simp at this;omega
  have hS1:SqL K H1 a (ns.map V.int):=s1.seq hS
  try simp only [a0D]
  refine ⟨a,ns,0,rfl,hS1,hl,by decide,by decide,fun c0=>?_⟩
  refine ⟨c0,rfl,fun Pa po H2 s2 hPn hP hp2 hp18 hpo hpn hop=>?_⟩
  have hS2:SqL K H2 a (ns.map V.int):=s2.seq hS1
  try simp only [a0D]
  refine ⟨a,ns,rfl,hS2,hl,fun Pr ps pl H3 s3 hPrn hPr3 hPs3 hprl hpro=>?_⟩
  have s13:=s2.trans s3
  have hB3:=s13 _ _ hB1
  have hA3:=hA1.same s13
  try simp only []
  refine ⟨⟨_,SqL.of hB3⟩,?_⟩
  refine a8V (a2M (xs:=xs)) (Qj (show xs.length≤1000 by rw [hA1.len];omega) (by decide)) [] rfl (fun D i v H'=>∃hi:i < rs.length,RuD t D v rs[i] H') ?_ (fun H' s=>SqL.of (s _ _ hB3)) (fun D i H' R hi hDn s hD hR=>?_) (fun Ru H4 ys hRn s4 hR4 hyl hv=>?_)
  ·rintro D i v Ha Hb up ⟨hi,p,dx,t0,e,n1,n2,g1,g2⟩
   exact ⟨hi,p,dx,t0,e,n1,n2,up _ _ n1 g1,up _ _ n2 g2⟩
  ·have hi':i < rs.length:=by rw [←hA1.len];exact hi
   obtain ⟨x,ex,p,t1,rfl,g1,g2⟩:=hA3.get i rs[i] (Qc hi')
   rw [ex,Xr]
   obtain ⟨zs,hD⟩:=hD
   try simp only [a0x,a0h,a0l,Qa,a0t,Qh,a0e]
   refine ⟨p,t1,rs[i],rfl,hO _ (Xi hi'),s _ _ g1,s _ _ g2,fun x H' s' hx=>?_⟩
   obtain ⟨dx,t0,f1,f2⟩:=hx
   have hD':=s' _ _ hD
   exact hR _ _ s' ⟨hi',x,dx,t0,rfl,a0B f1 hD' (by intro z;cases z),a0B f2 hD' (by intro z;cases z),f1,f2⟩
  have hU4:=b8u (hyl.trans hA1.len) hv
  clear hv
  refine b5W hR4 hU4 hO (by omega) (s4 _ _ hPr3) (a0K.same s4 hPs3) hprl fun g H5 s5 ng hG5=>?_
  have s35:=s4.trans s5
  have s15:=s13.trans s35
  have sx5:Sx K t H5 a ns R0 xs rs Pa po Pr ps pl g:=⟨(s3.trans s35).seq hS2,s35 _ _ hB3,hA3.same s35,(s3.trans s35) _ _ hP,s35 _ _ hPr3,a0K.same s35 hPs3,hG5⟩
  have lt5:=lt.mono (s1.trans s15)
  clear hS1 hS2 hP hPs3 hPr3 hB3 hA3 hB1 hA1 hR4 hU4 hG5 hS lt
  try skip
  refine ⟨a,ns,3,rfl,sx5.S,hl,by decide,by decide,fun c1=>?_⟩
  try simp only []
  refine ⟨Pa,rfl,⟨_,SqL.of sx5.P⟩,?_⟩
  have hpl:(po.map V.str).length≤sizeLine:=Qj (show (po.map V.str).length≤1000 by rw [Qe];omega) (by decide)
  refine a9Q (xs:=po.map V.str) [some (V.int c1)] hpl rfl (fun _ _=>True) (SqL.of sx5.P) (fun i H' R hi s hR=>?_) (fun i H' R hi s hR=>?_) (fun So H6 bs hbl _ hSn s6 hSo6=>?_)
  ·try simp only [tOr,a0R,tOp,a0l,Qb,Qa,tC,a0x,a0h,a0t,Qh,a0e,a2d,a0J,a3M,a1e,a1q,decide_eq_true_eq]
   exact ⟨by decide,a1C (fun _=>hR _ _ (a0f.refl _) trivial) (fun _ r hr=>⟨by decide,hR _ _ (a0f.refl _) trivial⟩)⟩
  ·try simp only [a0l,Qb,Qa,a0e]
   exact hR _ (a0f.refl _)
  obtain ⟨sm,esm,hss⟩:=a6E po bs
  rw [esm] at hSo6
  have hsn:=hpn.sublist hss
  have hsl:=Qj hss.length_le hp18
  clear esm hbl
  have sx6:=sx5.same s6
  try skip
  refine ⟨a,ns,4,rfl,sx6.S,hl,by decide,by decide,fun c2=>?_⟩
  try simp only []
  refine ⟨⟨_,SqL.of sx6.P⟩,?_⟩
  refine a3T (a2M (xs:=po.map V.str)) hpl [some (V.ref So)] rfl (fun i=>decide (((po[i]?).getD "")∉sm)) (fun i=>V.str ((po[i]?).getD "")) (fun H'' s=>SqL.of (s _ _ sx6.P)) (fun i H'' R'' hi s hR''=>?_) (fun i H'' R'' hi s hR''=>?_) (fun Re H7 hRn s7 hRe=>?_)
  ·have hi':i < po.length:=by simpa using hi
   have e2:((po.map V.str)[i]?).getD .non=V.str po[i]:=by rw [Qn,Qc hi'];rfl
   rw [e2]
   rw [Qc hi',Xr] at hR''
   try simp only [a0R,tOp,a0l,Qa,Qb,a0e]
   refine a7X (SqL.of (s _ _ hSo6)) ⟨_,rfl,?_⟩
   have:=hR'' _ (a0f.refl _)
   rw [show (!decide (po[i]∈sm))=decide (po[i]∉sm) from by simp]
   exact this
  ·have hi':i < po.length:=by simpa using hi
   have e2:((po.map V.str)[i]?).getD .non=V.str po[i]:=by rw [Qn,Qc hi'];rfl
   rw [e2]
   rw [Qc hi',Xr] at hR''
   try simp only [a0l,Qa,a0e]
   exact hR'' _ (a0f.refl _)
  rw [show (po.map V.str).length=po.length by simp,a0T ("":Str) (fun z=>decide (z∉sm)) V.str po] at hRe
  try skip
  refine ⟨c2,Re,_,rfl,hRe,hpn.sublist Ur,Qj (Qq _ _) hp18,fun kd kn H8 s8 hkn hkd hksub=>?_⟩
  have hknd:(kn.map (·.1)).Nodup:=(hpn.sublist Ur).sublist hksub
  have hkl:kn.length≤18:=by
   have:=hksub.length_le
   rw [Qe] at this
   exact Qj this (Qj (Qq _ _) hp18)
  clear hRe hksub
  have s68:=s7.trans s8
  have sx8:=sx6.same s68
  have lt8:=lt5.mono (s6.trans s68)
  try simp only []
  refine ⟨g,rs,pl,rfl,sx8.G,hO,by omega,lt8,fun Fo ss H9 lt9 k9 hFn hF9 hdue=>?_⟩
  have sx9:=sx8.on lt8 k9
  have hSo9:=a9n lt8 k9 (s68 _ _ hSo6) (fun _ z=>nomatch z)
  have hkd9:=a9n lt8 k9 hkd (fun _ z=>nomatch z)
  clear k9 lt9 lt8 lt5 hSo6 hkd sx8 sx6 sx5
  try simp only []
  refine ⟨fun σ' H'=>∃(Fi:Addr) (S:List Str),σ'=[some (V.ref a),some (V.ref R0),some (V.ref Pa),some (V.ref Pr),some (V.ref g),some (V.int c1),some (V.ref So),some (V.ref kd),some (V.ref Fi),none,none,none,none,none]∧a0f H9 H'∧H' Fi=some (.lst (S.map V.str))∧S.Nodup∧S.length≤63∧(∀z∈S,Yd z=true),?_,?_⟩
  ·try simp only [a2T,a0R,tOp,a0l,Qb,Qa,tC,Qf,Qg,a0e,a1m,a0J,a6c,a1q,a1e,decide_eq_true_eq]
   refine ⟨⟨by decide,by decide⟩,by decide,a1C (fun _=>?_) (fun _=>⟨Fo,ss,rfl,a0f.refl _,hF9,hdue.1.nodup_iff.mpr (a1c _),Qj (b3Z hdue) (by omega),fun z hz=>(b7S hO hdue z hz).1⟩)⟩
   refine ⟨Pa,rfl,⟨_,SqL.of sx9.P⟩,?_⟩
   refine a9Q (xs:=po.map V.str) [some (V.int c1)] hpl rfl (fun _ _=>True) (SqL.of sx9.P) (fun i H' R hi s hR=>?_) (fun i H' R hi s hR=>?_) (fun Fi H10 bs hbl _ hSn s10 hF10=>?_)
   ·try simp only [a0R,tOp,a0x,a0h,a0l,Qb,Qa,tC,a0t,Qh,a0e,a0L,a2d,a0J,a1q,a1e]
    exact fun r hr=>⟨by decide,hR _ _ (a0f.refl _) trivial⟩
   ·try simp only [a0l,Qb,Qa,a0e]
    exact hR _ (a0f.refl _)
   obtain ⟨S,eS,hS'⟩:=a6E po bs
   rw [eS] at hF10
   try skip
   exact ⟨Fi,S,rfl,s10,hF10,hpn.sublist hS',Qj hS'.length_le (by omega),fun z hz=>(hpo z (hS'.subset hz)).1⟩
  rintro σ' H10 ⟨Fi,S,rfl,s10,hFi,hSn',hSl,hSok⟩
  have sx10:=sx9.same s10
  have hSo10:=s10 _ _ hSo9
  have hkd10:=s10 _ _ hkd9
  try simp only [a1r,a1K,a2Q,a0h,tCB,a0l,Qb,Qa,a0t,c0L,a0m,Qf,Qg,a0e]
  refine ⟨So,_,rfl,.inl (SqL.of hSo10),fun l1 hl1=>?_⟩
  obtain ⟨H11,e11,s11,h11⟩:=a0V hl1 (.lst (sm.map V.str));rw [e11]
  refine ⟨Fi,_,rfl,.inl (SqL.of (s11 _ _ hFi)),fun l2 hl2=>?_⟩
  obtain ⟨H12,e12,s12,h12⟩:=a0V hl2 (.lst (S.map V.str));rw [e12]
  have hkd12:=s12 _ _ (s11 _ _ hkd10)
  refine ⟨.inr (.inr (.inl ⟨rfl,.inl ⟨_,hkd12⟩⟩)),kd,_,rfl,rfl,hkd12,fun cp hcp=>?_⟩
  obtain ⟨H13,e13,s13',h13⟩:=a0V hcp (.dK (wv kn));rw [e13]
  refine ⟨by simp only [Qo,Xb];decide,fun hd hhd=>?_⟩
  obtain ⟨H14,e14,s14,h14⟩:=a0V hhd (.lst [V.ref l1,V.ref l2,V.ref cp]);rw [e14]
  have s1013:=(s11.trans s12).trans s13'
  have hcpk:cp≠kd:=fun z=>by rw [z,hkd12] at hcp;cases hcp
  have h11':=s13' _ _ (s12 _ _ h11)
  have h12':=s13' _ _ h12
  have sx13:=sx10.same s1013
  have hFi13:=s1013 _ _ hFi
  have hSo13:=s1013 _ _ hSo10
  have hkd13:=s1013 _ _ hkd10
  clear sx10 sx9 hFi hSo10 hkd10 hSo9 hkd9 h11 h12 e11 e12 e13 e14 hkd12
  refine ⟨fun σ' H'=>∃(v1:V) (x10:Option V),σ'=[some (V.ref a),some (V.ref R0),some (V.ref Pa),some (V.ref Pr),some (V.ref g),some (V.int c1),some (V.ref So),some (V.ref kd),some (V.ref Fi),some (V.ref hd),x10,none,none,none]∧a0f H13 H'∧H' hd=some (.lst [V.ref l1,v1,V.ref cp])∧a2X K H' v1 S,?_,?_⟩
  ·try simp only [a2T,a0R,tOp,a0l,Qb,Qa,tC,a1r,a1K,a1V,c3H,a0E,a1y,a0e,a0D,a1m,a0J,a6c,a1q,a1e,decide_eq_true_eq]
   refine ⟨⟨by decide,by decide⟩,by decide,a1C (fun _=>?_) (fun _=>⟨_,_,rfl,s14,h14,.inl ⟨l2,rfl,s14 _ _ h12'⟩⟩)⟩
   intro d hdn
   obtain ⟨H15,e15,s15,h15⟩:=a0V hdn (.dK []);rw [e15]
   have nd:d≠hd:=fun z=>by rw [z,h14] at hdn;cases hdn
   refine ⟨hd,_,1,1,rfl,rfl,s15 _ _ h14,rfl,?_⟩
   have hd13:=none_of s14 hdn
   have k16:∀b o,H14 b=some o→b≠hd→upd H15 hd (.lst ([V.ref l1,V.ref l2,V.ref cp].set 1 (V.ref d))) b=some o:=fun b o e n=>by rw [a0a n];exact s15 _ _ e
   have h16:upd H15 hd (.lst ([V.ref l1,V.ref l2,V.ref cp].set 1 (V.ref d))) d=some (.dK []):=by rw [a0a nd];exact h15
   have g16:upd H15 hd (.lst ([V.ref l1,V.ref l2,V.ref cp].set 1 (V.ref d))) hd=some (.lst [V.ref l1,V.ref d,V.ref cp]):=a0d
   generalize upd H15 hd (.lst ([V.ref l1,V.ref l2,V.ref cp].set 1 (V.ref d)))=H16 at k16 h16 g16
   have s16:a0f H13 H16:=fun b o e=>k16 _ _ (s14 _ _ e) (a0c e hhd)
   refine ⟨⟨_,SqL.of (s16 _ _ hFi13)⟩,?_⟩
   refine a1x (K:=K) (a:=Fi) (xs:=S.map V.str) (fun i σ H'=>∃(x10:Option V),σ=[some (V.ref a),some (V.ref R0),some (V.ref Pa),some (V.ref Pr),some (V.ref g),some (V.int c1),some (V.ref So),some (V.ref kd),some (V.ref Fi),some (V.ref hd),x10,none,none,none]∧a0f H13 H'∧H' hd=some (.lst [V.ref l1,V.ref d,V.ref cp])∧H' d=some (.dK (nv (S.take i)))) ⟨_,rfl,s16,g16,h16⟩ (fun i σ H' _ ⟨_,_,s,_⟩=>SqL.of (s _ _ hFi13)) ?_ ?_
   ·rintro i v σ H17 hi ⟨x10,rfl,s17,g17,h17⟩
    have hil:i < S.length:=by simpa using (Qm.mp hi).1
    have ev:v=V.str S[i]:=by
     rw [Qn,Qc hil] at hi
     exact (Option.some.inj hi).symm
    subst ev
    have hq:S[i]∉S.take i:=fun z=>by
     obtain ⟨j,hj,e⟩:=Yv z
     rw [Xo] at hj
     rw [Jg] at e
     have:=(Zn hSn').mp e
     omega
    have et:=Qt hil
    rw [et]
    try simp only [a0m,a3z,tC,tOp,a0l,Qf,Qg,Qb,Qa,a0e]
    refine a0o (SqL.of g17) rfl ⟨d,_,rfl,c5g h17 (by rw [Xo];omega) hq,_,rfl,fun b o e=>?_,?_,a0d⟩
    ·rw [a0a (a0c e hd13)];exact s17 _ _ e
    ·rw [a0a nd.symm];exact g17
   ·rintro σ H17 ⟨x10,rfl,s17,g17,h17⟩
    rw [Qe,Xs] at h17
    exact ⟨_,_,rfl,s17,g17,.inr ⟨d,_,rfl,h17,by unfold nv;rw [Xh];rfl⟩⟩
  rintro σ' H15 ⟨v1,x10,rfl,s15',g15,hK15⟩
  have sx15:=sx13.same s15'
  have hqs:∀q∈sm,q.length≤100∧a1i (a1i q)=q:=fun q hq=>⟨by have:=(hpo q (hss.subset hq)).2;omega,hop q (hss.subset hq)⟩
  try simp only [a1r,a1K,a0x,a0h,a0l,Qb,Qa,tOp,tC,a0t,Qh,a0m,Qf,Qg,a0e]
  refine a0o (SqL.of g15) rfl (a0o (SqL.of g15) rfl (a0o (SqL.of g15) rfl ⟨g,V.ref l1,v1,cp,rs,pl,sm,S,kn,rfl,sx15.G,hO,by omega,.inl ⟨l1,rfl,s15' _ _ h11'⟩,hK15,s15' _ _ h13,hknd,by omega,by omega,by omega,hqs,fun Fd T n H16 s16 hFdn hTA hTn hfr hIT=>?_⟩))
  try simp only []
  have s1316:=s15'.trans s16
  have sx16:=sx13.same s1316
  refine ⟨R0,Pr,Fi,So,kd,xs,ps,rs,pl,S,sm,kn,rfl,sx16.B,sx16.A,hO,by omega,sx16.R,sx16.Q,hpro,s1316 _ _ hFi13,s1316 _ _ hSo13,hsn,hsl,fun q hq=>(hqs q hq).1,s1316 _ _ hkd13,by omega,fun Du T' n' H17 s17 hDun hTA' hTn' hfr' hIT'=>?_⟩
  have hW:∀(l:List Str) x,x∈l.foldl a1p []↔x∈l:=fun l x=>by rw [a1W];exact ⟨fun h=>h.elim (fun z=>(by cases z)) id,.inr⟩
  have hE:=b0C (W:=sm.foldl a1p []) (W':=sm) (hW sm) (fun q hq=>(hqs q ((hW sm q).mp hq)).2) hfr hfr' hIT hIT'
  have s1517:=s16.trans s17
  have s1317:=s15'.trans s1517
  have hTA7:=hTA.same s17
  try simp only []
  refine ⟨fun σ' H'=>σ'=[some (V.ref a),some (V.ref R0),some (V.ref Pa),some (V.ref Pr),some (V.ref g),some (V.int c1),some (V.ref So),some (V.ref kd),some (V.ref Fi),some (V.ref hd),x10,some (V.ref Fd),some (V.ref Du),none]∧a0f H17 H',?_,?_⟩
  ·obtain ⟨kF,kD,eF,eD,hdat⟩:=b0Q (K:=K) hTA7 hTA' hTn hTn' hE
   have g17:=s1517 _ _ g15
   try simp only [a2T,tOr,b3D,tB,tCB,a0h,a0l,Qb,Qa,tC,a0t,Yu,a1j,a1m,if_true,a0R,tOp,a2Q,a0e]
   refine ⟨_,_,_,_,_,rfl,rfl,.dK eF,a4Z,?_⟩
   try simp only [a1e,b0v]
   refine ⟨Fd,Du,kF,kD,rfl,rfl,eF,eD,hdat,?_⟩
   try simp only [a1e,a7s]
   refine a0o (SqL.of g17) rfl (a0o (SqL.of g17) rfl ((hK15.same s1517).list fun l3 hl3=>?_))
   obtain ⟨H18,e18,s18,h18⟩:=a0V hl3 (.lst (S.map V.str));rw [e18]
   refine a0o (SqL.of (s18 _ _ g17)) rfl ⟨by simp only [Qo,Xb];decide,fun L4 hL4=>?_⟩
   obtain ⟨H19,e19,s19,h19⟩:=a0V hL4 (.lst [V.ref l1,V.ref l3,V.ref cp]);rw [e19]
   refine ⟨by simp only [Qo,Xb];decide,fun L5 hL5=>?_⟩
   obtain ⟨H20,e20,s20,h20⟩:=a0V hL5 (.lst [V.ref So,V.ref Fi,V.ref kd]);rw [e20]
   have s1720:=s18.trans (s19.trans s20)
   have s1320:=s1317.trans s1720
   refine ⟨L4,L5,_,_,rfl,rfl,SqL.of (s20 _ _ h19),SqL.of h20,rfl,fun i v u e1 e2=>?_,?_⟩
   ·match i,e1,e2 with
    | 0,e1,e2=>cases e1;cases e2;exact a4p (fun z hz=>(hpo z (hss.subset hz)).1) (s1320 _ _ h11') (s1320 _ _ hSo13)
    | 1,e1,e2=>cases e1;cases e2;exact a4p hSok (s20 _ _ (s19 _ _ h18)) (s1320 _ _ hFi13)
    | 2,e1,e2=>cases e1;cases e2;exact .inr ⟨cp,kd,_,_,rfl,rfl,hcpk,s1320 _ _ h13,s1320 _ _ hkd13,b8H hknd⟩
   try simp only [a1e,a7s]
   exact ⟨(by trivial),s1720⟩
  rintro σ' H18 ⟨rfl,s18⟩
  have hTA8:=hTA7.same s18
  obtain ⟨A,hA2,eA,hAt⟩:=id hTA8
  try simp only [a1r]
  refine b3U (fun H0 σ' H'=>∃x13,σ'=[some (V.ref a),some (V.ref R0),some (V.ref Pa),some (V.ref Pr),some (V.ref g),some (V.int c1),some (V.ref So),some (V.ref kd),some (V.ref Fi),some (V.ref hd),x10,some (V.ref Fd),some (V.ref Du),x13]∧a0f H0 H') eA (a0z rfl) (fun o=>⟨_,rfl,a0f.refl _⟩) (fun o σ' H' ⟨_,_,s⟩=>s _ _ a0d) ?_ ?_
  ·rintro o p σ' H' rt bk hp ⟨x13,rfl,s⟩
   obtain ⟨e,he,rfl⟩:=Ql.mp hp
   have ht:H' e.1=some (.tup [.str (wd e.2.2.1),.int e.2.2.2]):=s _ _ (by rw [a0a (a0B (hAt e he) eA (by intro z;cases z))];exact hAt e he)
   try simp only [a0m,a2T,tOr,b3D,tB,tCB,a0h,a0l,Qf,Qg,Qb,Qa,tC,a0t,Yu,a1j,a1m,if_true,a0x,tOp,Qh,a0e]
   refine b2F ht ?_
   try simp only [a1e,b0v]
   refine a1O (SqT.of ht) rfl ⟨_,rfl,?_⟩
   try simp only [a1e,b0v]
   exact ⟨_,rfl,s⟩
  rintro o σ' H' ⟨x13,rfl,s⟩
  obtain ⟨H19,e19,k19,h19⟩:∃H19,upd H' Fd (.dK (A.map fun e=>((Sum.inr e.2.1:Key),V.ref e.1)))=H19∧(∀b o,H18 b=some o→b≠Fd→H19 b=some o)∧H19 Fd=some (.dK (A.map fun e=>(Sum.inr e.2.1,.ref e.1))):=⟨_,rfl,fun b o e n=>by rw [a0a n];exact s _ _ (by rw [a0a n];exact e),a0d⟩
  rw [e19]
  try simp only [a1r,a3n,c0L,a0l,Qb,Qa,a1j,tOp,a0x,a0h,a7E,a0t,Qh,a0e]
  refine ⟨.inr (.inr (.inl ⟨rfl,.inl ⟨_,h19⟩⟩)),Fd,_,rfl,rfl,h19,?_⟩
  obtain ⟨H20,e20,k20⟩:∃H20,upd H19 Fd (.dK [])=H20∧∀b o,H18 b=some o→b≠Fd→H20 b=some o:=⟨_,rfl,fun b o e n=>by rw [a0a n];exact k19 _ _ e n⟩
  rw [e20]
  have s20:a0f H15 H20:=fun b o e=>k20 _ _ (s18 _ _ (s1517 _ _ e)) (a0c e hFdn)
  have hFs:∃o,H16 Fd=some o:=let ⟨A,_,e,_⟩:=hTA;⟨_,e⟩
  have nDF:Du≠Fd:=fun z=>by obtain ⟨o,e⟩:=hFs;rw [←z,hDun] at e;cases e
  have hTD:TAt H20 Du T':=(hTA'.same s18).keep fun b o e hb=>k20 _ _ e (by
   rcases hb with rfl | ⟨xs,rfl⟩
   ·exact nDF
   ·exact a0B e eA (by intro z;cases z))
  have sx20:=sx15.same s20
  have s1320:=s15'.trans s20
  try skip
  refine ⟨So,_,rfl,SqL.of (s1320 _ _ hSo13),fun Z hZ=>?_⟩
  rw [←List.map_reverse]
  obtain ⟨H21,e21,s21,h21⟩:=a0V hZ (.lst (sm.reverse.map V.str));rw [e21]
  have s1321:=s1320.trans s21
  refine ⟨g,V.ref Z,V.ref Fi,kd,rs,pl,sm.reverse,S,kn,rfl,sx20.G.same s21,hO,by omega,.inl ⟨Z,rfl,h21⟩,.inl ⟨Fi,rfl,s1321 _ _ hFi13⟩,s1321 _ _ hkd13,hknd,by rw [Wv];omega,by omega,by omega,fun q hq=>hqs q (Vv.mp hq),fun F2 T2 n2 H22 s22 hF2n hTA2 hT2n hfr2 hIT2=>?_⟩
  have hE2:=b0C (W:=sm.reverse.foldl a1p []) (W':=sm) (fun x=>(hW _ x).trans Vv) (fun q hq=>(hqs q (Vv.mp ((hW _ q).mp hq))).2) hfr2 hfr' hIT2 hIT'
  obtain ⟨kF,kD,eF,eD,hdat⟩:=b0Q (K:=K) hTA2 (hTD.same (s21.trans s22)) hT2n hTn' hE2
  exact ⟨F2,Du,kF,kD,rfl,rfl,eF,eD,hdat,q _⟩
end
end K42
open PySem PySem.W PyProof.Rows
namespace K42
open PySem PySem.W L2
noncomputable section
abbrev kE (P:Params) (x:String) (t:Nat) (v:Value):DictEntry:=⟨Yk P x,.str x t,v⟩
abbrev kC (n q:String) (s:Stmt):Obj:=⟨.none,none,(.func ⟨n,q,a1H s,.stmts (a1f s),a0b s,0,[],.none,.none,.none,.none,none,.none,.none,0⟩),#[]⟩
abbrev kD1 (n q:String) (t l a r u:Nat):Obj:=⟨.type "code",none,.fields #[.str n t,.str q (t+1),.str "/claim/cut.py" (t+2),.int l 0,.int a 0,.int 0 0,.int 0 0,.int 3 0,.ref r,.bool true,.int 181 0,.ref (r+1),.none,.ref (r+2),.ref (r+3),.ref (r+4),.int u 0,.int l 0,.str "/claim/cut.py" (u+1)],#[]⟩
abbrev kD2 (n q:String) (t l a r u:Nat):Obj:=⟨.type "code",none,.fields #[.str n t,.str q (t+1),.str "/claim/cut.py" (t+2),.int l 0,.int a 0,.int 0 0,.int 0 0,.int 3 0,.ref r,.bool true,.int 181 0,.ref (r+1),.none,.none,.none,.ref (r+2),.int u 0,.int l 0,.str "/claim/cut.py" (u+1)],#[]⟩
abbrev kG (n q:String) (s:Stmt) (m:Value) (c:Nat):FuncData:=Yw n q (a1H s) (a1f s) (a0b s) .none .none .none m none (.ref c) .none
abbrev kF (n q:String) (s:Stmt) (m:Value) (c:Nat):Obj:=⟨.type "function",none,.func (kG n q s m c),#[]⟩
abbrev kTs:Nat→List String→List Value
 | _,[]=>[]
 | t,x::l=>.str x t::kTs (t+1) l
abbrev kT (t:Nat) (l:List String):Obj:=⟨.type "tuple",none,.seq ⟨kTs t l⟩ 0,#[]⟩
abbrev kBs (f:String→Value) (P:Params):Nat→List String→List DictEntry
 | _,[]=>[]
 | t,x::l=>kE P x t (f x)::kBs f P (t+1) l
abbrev kLs:List (Nat×Nat×Nat)→List Value
 | []=>[]
 | (a,b,c)::l=>.int a 0::.int b 0::.ref c::kLs l
abbrev kL (l:List (Nat×Nat×Nat)):Obj:=⟨.none,none,.fields ⟨kLs l⟩,#[]⟩
abbrev kQ (l:List DictEntry) (n:Nat):Obj:=⟨.type "dict",none,.dict ⟨l⟩ n,#[]⟩
def kU:Obj:=⟨.type "tuple",none,.seq #[] 0,#[]⟩
def kN:Obj:=⟨.none,none,.fields #[],#[]⟩
abbrev m0:Value:=.str "__main__" 164
abbrev m1:Value:=.str "mostwise.among" 194
abbrev m2:Value:=.str "mostwise.words" 217
abbrev m3:Value:=.str "mostwise.leaning" 226
abbrev m4:Value:=.str "mostwise.sure" 238
abbrev m5:Value:=.str "mostwise.mostly" 254
abbrev m6:Value:=.str "mostwise.rules" 308
abbrev m7:Value:=.str "mostwise.ground" 559
abbrev m8:Value:=.str "law_mostwise_k42_round_by_round" 651
def o0 (P:Params):Obj:=kQ ([kE P "__name__" 1 (.str "builtins" 160),kE P "__doc__" 2 (.builtin "builtins.__doc__:str#opaque"),kE P "__package__" 3 (.builtin "builtins.__package__:str#opaque"),kE P "__loader__" 4 (.builtin "builtins.__loader__:shared#opaque"),kE P "__spec__" 5 (.builtin "builtins.__spec__#opaque")]++kBs .builtin P 6 ["__build_class__","__import__","abs","all","any","ascii","bin","breakpoint","callable","chr","compile","delattr","dir","divmod","eval","exec","format","getattr","globals","hasattr","hash","hex","id","input","isinstance","issubclass","iter","aiter","len","locals","max","min","next","anext","oct","ord","pow","print","repr","round","setattr","sorted","sum","vars"]++[kE P "None" 50 .none,kE P "Ellipsis" 51 .ellipsis,kE P "NotImplemented" 52 .notImplemented,kE P "False" 53 (.bool false),kE P "True" 54 (.bool true)]++kBs .type P 55 ["bool","memoryview","bytearray","bytes","classmethod","complex","dict","enumerate","filter","float","frozenset","property","int","list","map","object","range","reversed","set","slice","staticmethod","str","super","tuple","type","zip"]++[kE P "__debug__" 81 (.bool true)]++kBs .type P 82 ["BaseException","BaseExceptionGroup","Exception","GeneratorExit","KeyboardInterrupt","SystemExit","ArithmeticError","AssertionError","AttributeError","BufferError","EOFError","ImportError","LookupError","MemoryError","NameError","OSError","ReferenceError","RuntimeError","StopAsyncIteration","StopIteration","SyntaxError","SystemError","TypeError","ValueError","Warning","FloatingPointError","OverflowError","ZeroDivisionError","BytesWarning","DeprecationWarning","EncodingWarning","FutureWarning","ImportWarning","PendingDeprecationWarning","ResourceWarning","RuntimeWarning","SyntaxWarning","UnicodeWarning","UserWarning","BlockingIOError","ChildProcessError","ConnectionError","FileExistsError","FileNotFoundError","InterruptedError","IsADirectoryError","NotADirectoryError","PermissionError","ProcessLookupError","TimeoutError"]++kBs .type P 132 ["IndentationError","_IncompleteInputError","IndexError","KeyError","ModuleNotFoundError","NotImplementedError","PythonFinalizationError","RecursionError","UnboundLocalError","UnicodeError","BrokenPipeError","ConnectionAbortedError","ConnectionRefusedError","ConnectionResetError","TabError","UnicodeDecodeError","UnicodeEncodeError","UnicodeTranslateError","ExceptionGroup"]++[kE P "EnvironmentError" 151 (.type "OSError"),kE P "IOError" 152 (.type "OSError"),kE P "open" 153 (.builtin "open"),kE P "quit" 154 (.builtin "builtins.quit#opaque"),kE P "exit" 155 (.builtin "builtins.exit#opaque"),kE P "copyright" 156 (.builtin "builtins.copyright#opaque"),kE P "credits" 157 (.builtin "builtins.credits#opaque"),kE P "license" 158 (.builtin "builtins.license#opaque"),kE P "help" 159 (.builtin "builtins.help#opaque")]) 159
def o1 (P:Params):Obj:=kQ [kE P "builtins" 162 (.ref 4),kE P "__main__" 163 (.ref 5)] 2
def o2:Obj:=⟨.none,none,(.dict #[] 0),#[]⟩
def o3 (P:Params):Obj:=kQ ([kE P "__name__" 165 (.str "law_mostwise_k42_round_by_round" 651),kE P "__doc__" 166 .none,kE P "__package__" 167 .none,kE P "__loader__" 168 (.builtin "__main__.__loader__#opaque"),kE P "__spec__" 169 .none,kE P "__annotations__" 170 (.ref 6),kE P "__builtins__" 171 (.ref 4),kE P "__file__" 173 (.str "/claim/cut.py" 172),kE P "__cached__" 174 .none,kE P "_wall" 193 (.ref 21),kE P "keyed" 204 (.ref 28),kE P "all_among" 210 (.ref 33),kE P "any_among" 216 (.ref 38),kE P "opposite" 225 (.ref 45),kE P "heads_by_premise" 237 (.ref 52),kE P "sure_rounds" 245 (.ref 58),kE P "sure_steps" 253 (.ref 65),kE P "HELD" 257 (.str "held" 256),kE P "REFUSED" 259 (.str "refused" 258),kE P "is_beaten" 265 (.ref 70),kE P "holds_by" 271 (.ref 75),kE P "refused_by" 277 (.ref 80),kE P "words_now" 290 (.ref 87),kE P "touched" 301 (.ref 94),kE P "most_rounds" 307 (.ref 99),kE P "Rule" 394 (.ref 165),kE P "Fact" 448 (.ref 214),kE P "Sure" 487 (.ref 247),kE P "Most" 519 (.ref 273),kE P "Block" 558 (.ref 306),kE P "Ground" 650 (.ref 372),kE P "_law_cell_at" 660 (.ref 383),kE P "_law_whole" 667 (.ref 390),kE P "_law_mix" 676 (.ref 397),kE P "_law_word" 690 (.ref 404),kE P "_law_pool" 696 (.ref 409),kE P "_law_row" 702 (.ref 414),kE P "_law_made" 713 (.ref 421),kE P "_law_labels" 719 (.ref 426),kE P "_law_row_by_digits" 736 (.ref 433),kE P "_law_rows" 742 (.ref 438),kE P "_law_pairs" 756 (.ref 445),kE P "_law_pairs_by_digits" 768 (.ref 452),kE P "_law_other" 775 (.ref 459),kE P "_law_by" 784 (.ref 466),kE P "_law_stands" 790 (.ref 471),kE P "_law_falls" 796 (.ref 476),kE P "_law_beaten" 802 (.ref 481),kE P "_law_held" 808 (.ref 486),kE P "_law_refused" 814 (.ref 491)]++[kE P "_law_fixed" 833 (.ref 498),kE P "_law_known" 845 (.ref 505),kE P "law" 851 (.ref 510)]) 53
def o4:Obj:=⟨(.type "module"),(some 0),.plain,#[]⟩
def o5:Obj:=⟨(.type "module"),(some 3),.plain,#[]⟩
def o6:Obj:=⟨(.type "dict"),none,(.dict #[] 0),#[]⟩
def o9:Obj:=⟨(.type "code"),none,(.fields #[(.str "<module>" 176),(.str "<module>" 177),(.str "/claim/cut.py" 178),(.int (1) 0),(.int (0) 0),(.int (0) 0),(.int (0) 0),(.int (0) 0),(.ref 7),(.bool false),(.int (175) 0),(.ref 8),.none,.none,.none,.none,(.int (179) 0),(.int (1) 0),(.str "/claim/cut.py" 180)]),#[]⟩
def o10:Obj:=⟨(.type "frame"),none,.plain,#[(some (.ref 9)),(some (.ref 3)),(some (.ref 3)),none,(some (.str "__main__" 164)),none,(some (.ref 0))]⟩
def o12:Obj:=kL [(1,0,20),(5,0,27),(10,0,32),(12,0,37),(15,0,44),(18,0,51),(25,0,57),(39,0,64),(45,0,69),(47,0,74),(54,0,79),(61,0,86),(69,0,93),(76,0,98),(95,0,105),(122,0,175),(138,0,222),(148,0,255),(155,0,281),(166,0,314),(203,0,382),(207,0,389),(209,0,396),(213,0,403),(223,0,408),(231,0,413),(243,0,420),(252,0,425),(254,0,432),(268,0,437),(276,0,444),(286,0,451),(298,0,458),(302,0,465),(307,0,470),(309,0,475),(311,0,480),(313,0,485),(321,0,490),(329,0,497),(356,0,504),(363,0,509)]
def o13:Obj:=⟨(.type "code"),none,(.fields #[(.str "<module>" 182),(.str "<module>" 183),(.str "/claim/cut.py" 184),(.int (1) 0),(.int (0) 0),(.int (0) 0),(.int (0) 0),(.int (0) 0),(.ref 11),(.bool false),(.int (181) 0),(.ref 12),.none,.none,.none,.none,(.int (185) 0),(.int (1) 0),(.str "/claim/cut.py" 186)]),#[]⟩
def o14:Obj:=⟨(.type "frame"),none,.plain,#[(some (.ref 13)),(some (.ref 3)),(some (.ref 3)),none,(some (.str "__main__" 164)),none,(some (.ref 0))]⟩
def o17:Obj:=kT 190 ["k"]
def o19:Obj:=kC "_wall" "_wall" (top 0)
def o20:Obj:=kD1 "_wall" "_wall" 187 1 1 15 191
def o21:Obj:=kF "_wall" "_wall" (top 0) m0 20
def o24:Obj:=kT 199 ["some","told","statement"]
def o26:Obj:=kC "keyed" "keyed" a9e
def o27:Obj:=kD1 "keyed" "keyed" 196 5 1 22 202
def o28:Obj:=kF "keyed" "keyed" a9e m1 27
def o31:Obj:=kC "all_among" "all_among" a7N
def o32:Obj:=kD2 "all_among" "all_among" 205 10 2 29 208
def o33:Obj:=kF "all_among" "all_among" a7N m1 32
def o36:Obj:=kC "any_among" "any_among" a8j
def o37:Obj:=kD2 "any_among" "any_among" 211 12 2 34 214
def o38:Obj:=kF "any_among" "any_among" a8j m1 37
def o41:Obj:=kT 222 ["statement"]
def o43:Obj:=kC "opposite" "opposite" a8H
def o44:Obj:=kD1 "opposite" "opposite" 219 15 1 39 223
def o45:Obj:=kF "opposite" "opposite" a8H m2 44
def o48:Obj:=kT 231 ["ground","heads","rule","premise"]
def o50:Obj:=kC "heads_by_premise" "heads_by_premise" b0l
def o51:Obj:=kD1 "heads_by_premise" "heads_by_premise" 228 18 1 46 235
def o52:Obj:=kF "heads_by_premise" "heads_by_premise" b0l m3 51
def o53:Obj:=⟨(.type "tuple"),none,(.seq #[.none] 0),#[]⟩
def o56:Obj:=kC "sure_rounds" "sure_rounds" a2t
def o57:Obj:=kD2 "sure_rounds" "sure_rounds" 240 25 2 54 243
def o58:Obj:=⟨(.type "function"),none,(.func (Yw "sure_rounds" "sure_rounds" (a1H a2t) (a1f a2t) (a0b a2t) (.ref 53) .none .none (.str "mostwise.sure" 238) none (.ref 57) .none)),#[]⟩
def o61:Obj:=kT 249 ["ground"]
def o62:Obj:=kT 250 ["ranks"]
def o63:Obj:=kC "sure_steps" "sure_steps" a7O
def o64:Obj:=kD1 "sure_steps" "sure_steps" 246 39 1 59 251
def o65:Obj:=kF "sure_steps" "sure_steps" a7O m4 64
def o68:Obj:=kC "is_beaten" "is_beaten" a8a
def o69:Obj:=kD2 "is_beaten" "is_beaten" 260 45 3 66 263
def o70:Obj:=kF "is_beaten" "is_beaten" a8a m5 69
def o73:Obj:=kC "holds_by" "holds_by" a6l
def o74:Obj:=kD2 "holds_by" "holds_by" 266 47 5 71 269
def o75:Obj:=kF "holds_by" "holds_by" a6l m5 74
def o78:Obj:=kC "refused_by" "refused_by" a6u
def o79:Obj:=kD2 "refused_by" "refused_by" 272 54 5 76 275
def o80:Obj:=kF "refused_by" "refused_by" a6u m5 79
def o83:Obj:=kT 281 ["ground","sures","held","refused","asked","words","q"]
def o85:Obj:=kC "words_now" "words_now" b0s
def o86:Obj:=kD1 "words_now" "words_now" 278 61 5 81 288
def o87:Obj:=kF "words_now" "words_now" b0s m5 86
def o90:Obj:=kT 294 ["heads","came","told","premise","head"]
def o92:Obj:=kC "touched" "touched" b1e
def o93:Obj:=kD1 "touched" "touched" 291 69 2 88 299
def o94:Obj:=kF "touched" "touched" b1e m5 93
def o97:Obj:=kC "most_rounds" "most_rounds" a3Z
def o98:Obj:=kD2 "most_rounds" "most_rounds" 302 76 4 95 305
def o99:Obj:=kF "most_rounds" "most_rounds" a3Z m5 98
def c4y:Obj:=⟨(.type "builtin_function_or_method"),none,(.fields #[(.builtin "type.__prepare__"),(.type "type")]),#[]⟩
def c5M (P:Params):Obj:=kQ [kE P "__module__" 317 (.str "mostwise.rules" 308),kE P "__qualname__" 319 (.str "Rule" 318),⟨Yk P "__firstlineno__",(.str "__firstlineno__" 321),(.int (95) 320)⟩,kE P "__init__" 331 (.ref 113),kE P "word" 338 (.ref 120),kE P "speaks" 345 (.ref 127),kE P "is_sure" 352 (.ref 134),kE P "letters" 359 (.ref 141),kE P "again" 368 (.ref 148),kE P "filled" 376 (.ref 155),kE P "row" 383 (.ref 162),kE P "__static_attributes__" 387 (.ref 163)] 12
def c5d:Obj:=kL [(97,4,112),(102,4,119),(105,4,126),(108,4,133),(111,4,140),(114,4,147),(117,4,154),(120,4,161)]
def c6N:Obj:=⟨(.type "code"),none,(.fields #[(.str "Rule" 312),(.str "Rule" 313),(.str "/claim/cut.py" 314),(.int (95) 0),(.int (0) 0),(.int (0) 0),(.int (0) 0),(.int (0) 0),(.ref 103),(.bool false),(.int (181) 0),(.ref 104),.none,.none,.none,.none,(.int (315) 0),(.int (95) 0),(.str "/claim/cut.py" 316)]),#[]⟩
def c6i:Obj:=⟨(.type "frame"),none,.plain,#[(some (.ref 105)),(some (.ref 3)),(some (.ref 102)),none,(some (.str "mostwise.rules" 308)),none,(some (.ref 0))]⟩
def c1w:Obj:=kT 325 ["self","label","head","body"]
def c5H:Obj:=kC "__init__" "Rule.__init__" b0X
def c3i:Obj:=kD1 "__init__" "Rule.__init__" 322 97 4 107 329
def c1d:Obj:=kF "__init__" "Rule.__init__" b0X m6 112
def c2A:Obj:=kT 335 ["self"]
def c6n:Obj:=kC "word" "Rule.word" (a0j (top 22) 1)
def c3N:Obj:=kD1 "word" "Rule.word" 332 102 1 114 336
def c5Y:Obj:=kF "word" "Rule.word" (a0j (top 22) 1) m6 119
def c3U:Obj:=kT 342 ["self"]
def c5w:Obj:=kC "speaks" "Rule.speaks" a9J
def c1t:Obj:=kD1 "speaks" "Rule.speaks" 339 105 1 121 343
def c0R:Obj:=kF "speaks" "Rule.speaks" a9J m6 126
def c3M:Obj:=kT 349 ["self"]
def c4L:Obj:=kC "is_sure" "Rule.is_sure" a8L
def c0Z:Obj:=kD1 "is_sure" "Rule.is_sure" 346 108 1 128 350
def c3K:Obj:=kF "is_sure" "Rule.is_sure" a8L m6 133
def c2D:Obj:=kT 356 ["self"]
def c4Z:Obj:=kC "letters" "Rule.letters" (a0j (top 22) 4)
def c1J:Obj:=kD1 "letters" "Rule.letters" 353 111 1 135 357
def c5j:Obj:=kF "letters" "Rule.letters" (a0j (top 22) 4) m6 140
def c1X:Obj:=kT 363 ["self","head","body"]
def c4K:Obj:=kC "again" "Rule.again" (a0j (top 22) 5)
def c4n:Obj:=kD1 "again" "Rule.again" 360 114 3 142 366
def c5k:Obj:=kF "again" "Rule.again" (a0j (top 22) 5) m6 147
def c3m:Obj:=kT 372 ["self","given"]
def c5h:Obj:=kC "filled" "Rule.filled" (a0j (top 22) 6)
def c3l:Obj:=kD1 "filled" "Rule.filled" 369 117 2 149 374
def c5S:Obj:=kF "filled" "Rule.filled" (a0j (top 22) 6) m6 154
def c3Z:Obj:=kT 380 ["self"]
def c5e:Obj:=kC "row" "Rule.row" (a0j (top 22) 7)
def c1g:Obj:=kD1 "row" "Rule.row" 377 120 1 156 381
def c4D:Obj:=kF "row" "Rule.row" (a0j (top 22) 7) m6 161
def c4c:Obj:=kT 384 ["body","head","label"]
def c3Q (P:Params):Obj:=kQ [kE P "__module__" 317 (.str "mostwise.rules" 308),⟨Yk P "__firstlineno__",(.str "__firstlineno__" 321),(.int (95) 320)⟩,kE P "__init__" 331 (.ref 113),kE P "word" 338 (.ref 120),kE P "speaks" 345 (.ref 127),kE P "is_sure" 352 (.ref 134),kE P "letters" 359 (.ref 141),kE P "again" 368 (.ref 148),kE P "filled" 376 (.ref 155),kE P "row" 383 (.ref 162),kE P "__static_attributes__" 387 (.ref 163),kE P "__dict__" 389 (.ref 166),kE P "__weakref__" 391 (.ref 167),kE P "__doc__" 392 .none] 4
def c3c:Obj:=⟨(.type "type"),none,(.cls ⟨"Rule",[(.type "object")],[(.ref 165),(.type "object")],164,"Rule",true,[],[(.ref 214),(.ref 247),(.ref 273),(.ref 306)],false,none,false⟩),#[none,none,(some (.str "Rule" 310)),(some (.str "Rule" 318)),(some (.builtin "object.__new__")),(some (.bool true))]⟩
def c2e:Obj:=⟨(.type "getset_descriptor"),none,(.fields #[(.str "__dict__" 388),(.ref 165),(.builtin "function.__dict__"),(.builtin "function.__dict__#set")]),#[]⟩
def c2I:Obj:=⟨(.type "getset_descriptor"),none,(.fields #[(.str "__weakref__" 390),(.ref 165),(.builtin "ExceptionGroup.__weakref__"),.none]),#[]⟩
def c5F:Obj:=⟨(.type "super"),none,(.fields #[(.ref 165),(.ref 165),(.ref 165)]),#[]⟩
def c5R:Obj:=⟨(.type "builtin_function_or_method"),none,(.fields #[(.builtin "object.__init_subclass__"),(.ref 165)]),#[]⟩
def c1s:Obj:=⟨(.type "tuple"),none,(.seq #[(.ref 165)] 0),#[]⟩
def c4z:Obj:=⟨(.type "builtin_function_or_method"),none,(.fields #[(.builtin "type.__prepare__"),(.type "type")]),#[]⟩
def c5P (P:Params):Obj:=kQ [kE P "__module__" 402 (.str "mostwise.rules" 308),kE P "__qualname__" 404 (.str "Fact" 403),⟨Yk P "__firstlineno__",(.str "__firstlineno__" 406),(.int (122) 405)⟩,kE P "__init__" 414 (.ref 183),kE P "word" 421 (.ref 190),kE P "is_sure" 428 (.ref 197),kE P "again" 437 (.ref 204),kE P "row" 444 (.ref 211),kE P "__static_attributes__" 445 (.ref 212)] 9
def c5f:Obj:=kL [(124,4,182),(127,4,189),(130,4,196),(133,4,203),(136,4,210)]
def c4C:Obj:=⟨(.type "code"),none,(.fields #[(.str "Fact" 397),(.str "Fact" 398),(.str "/claim/cut.py" 399),(.int (122) 0),(.int (0) 0),(.int (0) 0),(.int (0) 0),(.int (0) 0),(.ref 173),(.bool false),(.int (181) 0),(.ref 174),.none,.none,.none,.none,(.int (400) 0),(.int (122) 0),(.str "/claim/cut.py" 401)]),#[]⟩
def c4O:Obj:=⟨(.type "frame"),none,.plain,#[(some (.ref 175)),(some (.ref 3)),(some (.ref 172)),none,(some (.str "mostwise.rules" 308)),none,(some (.ref 0))]⟩
def c4j:Obj:=kT 410 ["self","head"]
def c5o:Obj:=kC "__init__" "Fact.__init__" b1t
def c2i:Obj:=kD1 "__init__" "Fact.__init__" 407 124 2 177 412
def c2n:Obj:=kF "__init__" "Fact.__init__" b1t m6 182
def c0U:Obj:=kT 418 ["self"]
def c5Q:Obj:=kC "word" "Fact.word" (a0j (top 23) 1)
def c2g:Obj:=kD1 "word" "Fact.word" 415 127 1 184 419
def c5E:Obj:=kF "word" "Fact.word" (a0j (top 23) 1) m6 189
def c1A:Obj:=kT 425 ["self"]
def c5m:Obj:=kC "is_sure" "Fact.is_sure" b0S
def c0X:Obj:=kD1 "is_sure" "Fact.is_sure" 422 130 1 191 426
def c2J:Obj:=kF "is_sure" "Fact.is_sure" b0S m6 196
def c3X:Obj:=kT 432 ["self","head","body"]
def c5t:Obj:=kC "again" "Fact.again" (a0j (top 23) 3)
def c2U:Obj:=kD1 "again" "Fact.again" 429 133 3 198 435
def c5O:Obj:=kF "again" "Fact.again" (a0j (top 23) 3) m6 203
def c2T:Obj:=kT 441 ["self"]
def c5W:Obj:=kC "row" "Fact.row" (a0j (top 23) 4)
def c2B:Obj:=kD1 "row" "Fact.row" 438 136 1 205 442
def c4u:Obj:=kF "row" "Fact.row" (a0j (top 23) 4) m6 210
def c3J (P:Params):Obj:=kQ [kE P "__module__" 402 (.str "mostwise.rules" 308),⟨Yk P "__firstlineno__",(.str "__firstlineno__" 406),(.int (122) 405)⟩,kE P "__init__" 414 (.ref 183),kE P "word" 421 (.ref 190),kE P "is_sure" 428 (.ref 197),kE P "again" 437 (.ref 204),kE P "row" 444 (.ref 211),kE P "__static_attributes__" 445 (.ref 212),kE P "__doc__" 446 .none] 2
def c2u:Obj:=⟨(.type "type"),none,(.cls ⟨"Fact",[(.ref 165)],[(.ref 214),(.ref 165),(.type "object")],213,"Fact",true,[],[],false,none,false⟩),#[(some (.ref 170)),none,(some (.str "Fact" 395)),(some (.str "Fact" 403)),(some (.builtin "object.__new__")),(some (.bool true))]⟩
def c6m:Obj:=⟨(.type "super"),none,(.fields #[(.ref 214),(.ref 214),(.ref 214)]),#[]⟩
def c5y:Obj:=⟨(.type "builtin_function_or_method"),none,(.fields #[(.builtin "object.__init_subclass__"),(.ref 214)]),#[]⟩
def c1E:Obj:=⟨(.type "tuple"),none,(.seq #[(.ref 165)] 0),#[]⟩
def c6u:Obj:=⟨(.type "builtin_function_or_method"),none,(.fields #[(.builtin "type.__prepare__"),(.type "type")]),#[]⟩
def c5D (P:Params):Obj:=kQ [kE P "__module__" 456 (.str "mostwise.rules" 308),kE P "__qualname__" 458 (.str "Sure" 457),⟨Yk P "__firstlineno__",(.str "__firstlineno__" 460),(.int (138) 459)⟩,kE P "word" 467 (.ref 230),kE P "is_sure" 474 (.ref 237),kE P "again" 483 (.ref 244),kE P "__static_attributes__" 484 (.ref 245)] 7
def c5G:Obj:=kL [(140,4,229),(143,4,236),(146,4,243)]
def c5s:Obj:=⟨(.type "code"),none,(.fields #[(.str "Sure" 451),(.str "Sure" 452),(.str "/claim/cut.py" 453),(.int (138) 0),(.int (0) 0),(.int (0) 0),(.int (0) 0),(.int (0) 0),(.ref 220),(.bool false),(.int (181) 0),(.ref 221),.none,.none,.none,.none,(.int (454) 0),(.int (138) 0),(.str "/claim/cut.py" 455)]),#[]⟩
def c6b:Obj:=⟨(.type "frame"),none,.plain,#[(some (.ref 222)),(some (.ref 3)),(some (.ref 219)),none,(some (.str "mostwise.rules" 308)),none,(some (.ref 0))]⟩
def c4b:Obj:=kT 464 ["self"]
def c6M:Obj:=kC "word" "Sure.word" (a0j (top 24) 0)
def c1c:Obj:=kD1 "word" "Sure.word" 461 140 1 224 465
def c6F:Obj:=kF "word" "Sure.word" (a0j (top 24) 0) m6 229
def c2c:Obj:=kT 471 ["self"]
def c6J:Obj:=kC "is_sure" "Sure.is_sure" b0O
def c0S:Obj:=kD1 "is_sure" "Sure.is_sure" 468 143 1 231 472
def c4e:Obj:=kF "is_sure" "Sure.is_sure" b0O m6 236
def c3x:Obj:=kT 478 ["self","head","body"]
def c6D:Obj:=kC "again" "Sure.again" (a0j (top 24) 2)
def c3e:Obj:=kD1 "again" "Sure.again" 475 146 3 238 481
def c4S:Obj:=kF "again" "Sure.again" (a0j (top 24) 2) m6 243
def c2x (P:Params):Obj:=kQ [kE P "__module__" 456 (.str "mostwise.rules" 308),⟨Yk P "__firstlineno__",(.str "__firstlineno__" 460),(.int (138) 459)⟩,kE P "word" 467 (.ref 230),kE P "is_sure" 474 (.ref 237),kE P "again" 483 (.ref 244),kE P "__static_attributes__" 484 (.ref 245),kE P "__doc__" 485 .none] 2
def c2F:Obj:=⟨(.type "type"),none,(.cls ⟨"Sure",[(.ref 165)],[(.ref 247),(.ref 165),(.type "object")],246,"Sure",true,[],[],false,none,false⟩),#[(some (.ref 217)),none,(some (.str "Sure" 449)),(some (.str "Sure" 457)),(some (.builtin "object.__new__")),(some (.bool true))]⟩
def c5J:Obj:=⟨(.type "super"),none,(.fields #[(.ref 247),(.ref 247),(.ref 247)]),#[]⟩
def c5K:Obj:=⟨(.type "builtin_function_or_method"),none,(.fields #[(.builtin "object.__init_subclass__"),(.ref 247)]),#[]⟩
def c1h:Obj:=⟨(.type "tuple"),none,(.seq #[(.ref 165)] 0),#[]⟩
def c5r:Obj:=⟨(.type "builtin_function_or_method"),none,(.fields #[(.builtin "type.__prepare__"),(.type "type")]),#[]⟩
def c6c (P:Params):Obj:=kQ [kE P "__module__" 495 (.str "mostwise.rules" 308),kE P "__qualname__" 497 (.str "Most" 496),⟨Yk P "__firstlineno__",(.str "__firstlineno__" 499),(.int (148) 498)⟩,kE P "word" 506 (.ref 263),kE P "again" 515 (.ref 270),kE P "__static_attributes__" 516 (.ref 271)] 6
def c4H:Obj:=kL [(150,4,262),(153,4,269)]
def c5n:Obj:=⟨(.type "code"),none,(.fields #[(.str "Most" 490),(.str "Most" 491),(.str "/claim/cut.py" 492),(.int (148) 0),(.int (0) 0),(.int (0) 0),(.int (0) 0),(.int (0) 0),(.ref 253),(.bool false),(.int (181) 0),(.ref 254),.none,.none,.none,.none,(.int (493) 0),(.int (148) 0),(.str "/claim/cut.py" 494)]),#[]⟩
def c6o:Obj:=⟨(.type "frame"),none,.plain,#[(some (.ref 255)),(some (.ref 3)),(some (.ref 252)),none,(some (.str "mostwise.rules" 308)),none,(some (.ref 0))]⟩
def c3L:Obj:=kT 503 ["self"]
def c4w:Obj:=kC "word" "Most.word" (a0j (top 25) 0)
def c1L:Obj:=kD1 "word" "Most.word" 500 150 1 257 504
def c5V:Obj:=kF "word" "Most.word" (a0j (top 25) 0) m6 262
def c2r:Obj:=kT 510 ["self","head","body"]
def c4P:Obj:=kC "again" "Most.again" (a0j (top 25) 1)
def c4l:Obj:=kD1 "again" "Most.again" 507 153 3 264 513
def c4U:Obj:=kF "again" "Most.again" (a0j (top 25) 1) m6 269
def c3r (P:Params):Obj:=kQ [kE P "__module__" 495 (.str "mostwise.rules" 308),⟨Yk P "__firstlineno__",(.str "__firstlineno__" 499),(.int (148) 498)⟩,kE P "word" 506 (.ref 263),kE P "again" 515 (.ref 270),kE P "__static_attributes__" 516 (.ref 271),kE P "__doc__" 517 .none] 2
def c3f:Obj:=⟨(.type "type"),none,(.cls ⟨"Most",[(.ref 165)],[(.ref 273),(.ref 165),(.type "object")],272,"Most",true,[],[],false,none,false⟩),#[(some (.ref 250)),none,(some (.str "Most" 488)),(some (.str "Most" 496)),(some (.builtin "object.__new__")),(some (.bool true))]⟩
def c6L:Obj:=⟨(.type "super"),none,(.fields #[(.ref 273),(.ref 273),(.ref 273)]),#[]⟩
def c5C:Obj:=⟨(.type "builtin_function_or_method"),none,(.fields #[(.builtin "object.__init_subclass__"),(.ref 273)]),#[]⟩
def c3z:Obj:=⟨(.type "tuple"),none,(.seq #[(.ref 165)] 0),#[]⟩
def c6q:Obj:=⟨(.type "builtin_function_or_method"),none,(.fields #[(.builtin "type.__prepare__"),(.type "type")]),#[]⟩
def c4x (P:Params):Obj:=kQ [kE P "__module__" 527 (.str "mostwise.rules" 308),kE P "__qualname__" 529 (.str "Block" 528),⟨Yk P "__firstlineno__",(.str "__firstlineno__" 531),(.int (155) 530)⟩,kE P "word" 538 (.ref 289),kE P "speaks" 545 (.ref 296),kE P "again" 554 (.ref 303),kE P "__static_attributes__" 555 (.ref 304)] 7
def c5A:Obj:=kL [(157,4,288),(160,4,295),(163,4,302)]
def c4A:Obj:=⟨(.type "code"),none,(.fields #[(.str "Block" 522),(.str "Block" 523),(.str "/claim/cut.py" 524),(.int (155) 0),(.int (0) 0),(.int (0) 0),(.int (0) 0),(.int (0) 0),(.ref 279),(.bool false),(.int (181) 0),(.ref 280),.none,.none,.none,.none,(.int (525) 0),(.int (155) 0),(.str "/claim/cut.py" 526)]),#[]⟩
def c5N:Obj:=⟨(.type "frame"),none,.plain,#[(some (.ref 281)),(some (.ref 3)),(some (.ref 278)),none,(some (.str "mostwise.rules" 308)),none,(some (.ref 0))]⟩
def c1C:Obj:=kT 535 ["self"]
def c6t:Obj:=kC "word" "Block.word" (a0j (top 26) 0)
def c1e:Obj:=kD1 "word" "Block.word" 532 157 1 283 536
def c4Q:Obj:=kF "word" "Block.word" (a0j (top 26) 0) m6 288
def c3a:Obj:=kT 542 ["self"]
def c6C:Obj:=kC "speaks" "Block.speaks" b0K
def c3W:Obj:=kD1 "speaks" "Block.speaks" 539 160 1 290 543
def c3D:Obj:=kF "speaks" "Block.speaks" b0K m6 295
def c2m:Obj:=kT 549 ["self","head","body"]
def c6a:Obj:=kC "again" "Block.again" (a0j (top 26) 2)
def c1q:Obj:=kD1 "again" "Block.again" 546 163 3 297 552
def c6G:Obj:=kF "again" "Block.again" (a0j (top 26) 2) m6 302
def c1l (P:Params):Obj:=kQ [kE P "__module__" 527 (.str "mostwise.rules" 308),⟨Yk P "__firstlineno__",(.str "__firstlineno__" 531),(.int (155) 530)⟩,kE P "word" 538 (.ref 289),kE P "speaks" 545 (.ref 296),kE P "again" 554 (.ref 303),kE P "__static_attributes__" 555 (.ref 304),kE P "__doc__" 556 .none] 2
def c2H:Obj:=⟨(.type "type"),none,(.cls ⟨"Block",[(.ref 165)],[(.ref 306),(.ref 165),(.type "object")],305,"Block",true,[],[],false,none,false⟩),#[(some (.ref 276)),none,(some (.str "Block" 520)),(some (.str "Block" 528)),(some (.builtin "object.__new__")),(some (.bool true))]⟩
def c5v:Obj:=⟨(.type "super"),none,(.fields #[(.ref 306),(.ref 306),(.ref 306)]),#[]⟩
def c4q:Obj:=⟨(.type "builtin_function_or_method"),none,(.fields #[(.builtin "object.__init_subclass__"),(.ref 306)]),#[]⟩
def c4v:Obj:=⟨(.type "builtin_function_or_method"),none,(.fields #[(.builtin "type.__prepare__"),(.type "type")]),#[]⟩
def c4T (P:Params):Obj:=kQ [kE P "__module__" 568 (.str "mostwise.ground" 559),kE P "__qualname__" 570 (.str "Ground" 569),⟨Yk P "__firstlineno__",(.str "__firstlineno__" 572),(.int (166) 571)⟩,kE P "__init__" 583 (.ref 322),kE P "rules" 590 (.ref 329),kE P "ruling" 598 (.ref 336),kE P "speaking" 604 (.ref 341),kE P "against" 612 (.ref 348),kE P "beats" 621 (.ref 355),kE P "statements" 631 (.ref 362),kE P "part" 639 (.ref 369),kE P "__static_attributes__" 643 (.ref 370)] 12
def c6O:Obj:=kL [(168,4,321),(177,4,328),(180,4,335),(183,4,340),(186,4,347),(189,4,354),(192,4,361),(200,4,368)]
def c5c:Obj:=⟨(.type "code"),none,(.fields #[(.str "Ground" 563),(.str "Ground" 564),(.str "/claim/cut.py" 565),(.int (166) 0),(.int (0) 0),(.int (0) 0),(.int (0) 0),(.int (0) 0),(.ref 312),(.bool false),(.int (181) 0),(.ref 313),.none,.none,.none,.none,(.int (566) 0),(.int (166) 0),(.str "/claim/cut.py" 567)]),#[]⟩
def c6y:Obj:=⟨(.type "frame"),none,.plain,#[(some (.ref 314)),(some (.ref 3)),(some (.ref 311)),none,(some (.str "mostwise.ground" 559)),none,(some (.ref 0))]⟩
def c2v:Obj:=kT 576 ["self","rules","pairs","rule","pair"]
def c5i:Obj:=kC "__init__" "Ground.__init__" b1k
def c1K:Obj:=kD1 "__init__" "Ground.__init__" 573 168 3 316 581
def c4m:Obj:=kF "__init__" "Ground.__init__" b1k m7 321
def c1U:Obj:=kT 587 ["self"]
def c5u:Obj:=kC "rules" "Ground.rules" b0c
def c1N:Obj:=kD1 "rules" "Ground.rules" 584 177 1 323 588
def c1n:Obj:=kF "rules" "Ground.rules" b0c m7 328
def c2G:Obj:=kT 594 ["self","statement"]
def c6r:Obj:=kC "ruling" "Ground.ruling" a9i
def c1f:Obj:=kD1 "ruling" "Ground.ruling" 591 180 2 330 596
def c2p:Obj:=kF "ruling" "Ground.ruling" a9i m7 335
def c6v:Obj:=kC "speaking" "Ground.speaking" a7M
def c1x:Obj:=kD2 "speaking" "Ground.speaking" 599 183 2 337 602
def c3n:Obj:=kF "speaking" "Ground.speaking" a7M m7 340
def c1W:Obj:=kT 608 ["self","statement"]
def c5p:Obj:=kC "against" "Ground.against" b0f
def c3R:Obj:=kD1 "against" "Ground.against" 605 186 2 342 610
def c1H:Obj:=kF "against" "Ground.against" b0f m7 347
def c3u:Obj:=kT 616 ["self","one","other"]
def c6s:Obj:=kC "beats" "Ground.beats" b0k
def c3y:Obj:=kD1 "beats" "Ground.beats" 613 189 3 349 619
def c2l:Obj:=kF "beats" "Ground.beats" b0k m7 354
def c2w:Obj:=kT 625 ["self","told","rule","statement"]
def c6z:Obj:=kC "statements" "Ground.statements" (a0j (top 28) 6)
def c0Y:Obj:=kD1 "statements" "Ground.statements" 622 192 1 356 629
def c4R:Obj:=kF "statements" "Ground.statements" (a0j (top 28) 6) m7 361
def c2V:Obj:=kT 635 ["self","some"]
def c5x:Obj:=kC "part" "Ground.part" (a0j (top 28) 7)
def c3P:Obj:=kD1 "part" "Ground.part" 632 200 2 363 637
def c6h:Obj:=kF "part" "Ground.part" (a0j (top 28) 7) m7 368
def c4g:Obj:=kT 640 ["by_head","in_order","pairs"]
def c2z (P:Params):Obj:=kQ [kE P "__module__" 568 (.str "mostwise.ground" 559),⟨Yk P "__firstlineno__",(.str "__firstlineno__" 572),(.int (166) 571)⟩,kE P "__init__" 583 (.ref 322),kE P "rules" 590 (.ref 329),kE P "ruling" 598 (.ref 336),kE P "speaking" 604 (.ref 341),kE P "against" 612 (.ref 348),kE P "beats" 621 (.ref 355),kE P "statements" 631 (.ref 362),kE P "part" 639 (.ref 369),kE P "__static_attributes__" 643 (.ref 370),kE P "__dict__" 645 (.ref 373),kE P "__weakref__" 647 (.ref 374),kE P "__doc__" 648 .none] 4
def c3w:Obj:=⟨(.type "type"),none,(.cls ⟨"Ground",[(.type "object")],[(.ref 372),(.type "object")],371,"Ground",true,[],[],false,none,false⟩),#[none,none,(some (.str "Ground" 561)),(some (.str "Ground" 569)),(some (.builtin "object.__new__")),(some (.bool true))]⟩
def c4f:Obj:=⟨(.type "getset_descriptor"),none,(.fields #[(.str "__dict__" 644),(.ref 372),(.builtin "function.__dict__"),(.builtin "function.__dict__#set")]),#[]⟩
def c3C:Obj:=⟨(.type "getset_descriptor"),none,(.fields #[(.str "__weakref__" 646),(.ref 372),(.builtin "ExceptionGroup.__weakref__"),.none]),#[]⟩
def c5a:Obj:=⟨(.type "super"),none,(.fields #[(.ref 372),(.ref 372),(.ref 372)]),#[]⟩
def c4p:Obj:=⟨(.type "builtin_function_or_method"),none,(.fields #[(.builtin "object.__init_subclass__"),(.ref 372)]),#[]⟩
def c2S:Obj:=kT 656 ["_law_script","_law_k"]
def c5b:Obj:=kC "_law_cell_at" "_law_cell_at" a8I
def c2E:Obj:=kD1 "_law_cell_at" "_law_cell_at" 653 203 2 377 658
def c3t:Obj:=kF "_law_cell_at" "_law_cell_at" a8I m8 382
def c2h:Obj:=kT 664 ["_law_found"]
def c6A:Obj:=kC "_law_whole" "_law_whole" a8C
def c1y:Obj:=kD1 "_law_whole" "_law_whole" 661 207 1 384 665
def c1M:Obj:=kF "_law_whole" "_law_whole" a8C m8 389
def c1G:Obj:=kT 671 ["_law_cell","_law_k","_law_number"]
def c4G:Obj:=kC "_law_mix" "_law_mix" a9D
def c3Y:Obj:=kD1 "_law_mix" "_law_mix" 668 209 2 391 674
def c2Y:Obj:=kF "_law_mix" "_law_mix" a9D m8 396
def c1B:Obj:=kT 680 ["_law_cell","_law_k","_law_signs","_law_size","_law_at","_law_word_here","_law_j","_law_step"]
def c6B:Obj:=kC "_law_word" "_law_word" b1d
def c1Y:Obj:=kD1 "_law_word" "_law_word" 677 213 3 398 688
def c3s:Obj:=kF "_law_word" "_law_word" b1d m8 403
def c6w:Obj:=kC "_law_pool" "_law_pool" a8v
def c2N:Obj:=kD2 "_law_pool" "_law_pool" 691 223 1 405 694
def c1S:Obj:=kF "_law_pool" "_law_pool" a8v m8 408
def c6x:Obj:=kC "_law_row" "_law_row" a6j
def c3B:Obj:=kD2 "_law_row" "_law_row" 697 231 5 410 700
def c3p:Obj:=kF "_law_row" "_law_row" a6j m8 413
def c3E:Obj:=kT 706 ["_law_row_here","_law_sort","_law_label","_law_head","_law_body"]
def c6p:Obj:=kC "_law_made" "_law_made" a9A
def c1Q:Obj:=kD1 "_law_made" "_law_made" 703 243 1 415 711
def c1z:Obj:=kF "_law_made" "_law_made" a9A m8 420
def c4Y:Obj:=kC "_law_labels" "_law_labels" a8f
def c4d:Obj:=kD2 "_law_labels" "_law_labels" 714 252 1 422 717
def c1Z:Obj:=kF "_law_labels" "_law_labels" a8f m8 425
def c3j:Obj:=kT 723 ["_law_cell","_law_pool_here","_law_labels_here","_law_size","_law_sort","_law_label","_law_head","_law_many","_law_rest","_law_body","_law_j"]
def c5q:Obj:=kC "_law_row_by_digits" "_law_row_by_digits" b0x
def c3v:Obj:=kD1 "_law_row_by_digits" "_law_row_by_digits" 720 254 3 427 734
def c1m:Obj:=kF "_law_row_by_digits" "_law_row_by_digits" b0x m8 432
def c5X:Obj:=kC "_law_rows" "_law_rows" a6h
def c1I:Obj:=kD2 "_law_rows" "_law_rows" 737 268 2 434 740
def c1F:Obj:=kF "_law_rows" "_law_rows" a6h m8 437
def c1k:Obj:=kT 746 ["_law_cell","_law_many","_law_labels_here","_law_pairs_here","_law_k","_law_number","_law_one","_law_other_here"]
def c4I:Obj:=kC "_law_pairs" "_law_pairs" a9x
def c1r:Obj:=kD1 "_law_pairs" "_law_pairs" 743 276 2 439 754
def c3o:Obj:=kF "_law_pairs" "_law_pairs" a9x m8 444
def c3O:Obj:=kT 760 ["_law_script","_law_labels_here","_law_cell","_law_pairs_here","_law_one","_law_other_here"]
def c4E:Obj:=kC "_law_pairs_by_digits" "_law_pairs_by_digits" a8P
def c3g:Obj:=kD1 "_law_pairs_by_digits" "_law_pairs_by_digits" 757 286 1 446 766
def c3T:Obj:=kF "_law_pairs_by_digits" "_law_pairs_by_digits" a8P m8 451
def c4h:Obj:=kT 772 ["_law_q"]
def c5L:Obj:=kC "_law_other" "_law_other" a9F
def c1b:Obj:=kD1 "_law_other" "_law_other" 769 298 1 453 773
def c2k:Obj:=kF "_law_other" "_law_other" a9F m8 458
def c2P:Obj:=kT 779 ["_law_rows_here","_law_by_here","_law_row_here"]
def c6k:Obj:=kC "_law_by" "_law_by" a9j
def c1u:Obj:=kD1 "_law_by" "_law_by" 776 302 1 460 782
def c4k:Obj:=kF "_law_by" "_law_by" a9j m8 465
def c5Z:Obj:=kC "_law_stands" "_law_stands" a7T
def c1v:Obj:=kD2 "_law_stands" "_law_stands" 785 307 2 467 788
def c2f:Obj:=kF "_law_stands" "_law_stands" a7T m8 470
def c4B:Obj:=kC "_law_falls" "_law_falls" a7I
def c2Q:Obj:=kD2 "_law_falls" "_law_falls" 791 309 2 472 794
def c2O:Obj:=kF "_law_falls" "_law_falls" a7I m8 475
def c4J:Obj:=kC "_law_beaten" "_law_beaten" a7Q
def c1p:Obj:=kD2 "_law_beaten" "_law_beaten" 797 311 3 477 800
def c1O:Obj:=kF "_law_beaten" "_law_beaten" a7Q m8 480
def c4r:Obj:=kC "_law_held" "_law_held" a5j
def c2K:Obj:=kD2 "_law_held" "_law_held" 803 313 6 482 806
def c2b:Obj:=kF "_law_held" "_law_held" a5j m8 485
def c6K:Obj:=kC "_law_refused" "_law_refused" a5m
def c0T:Obj:=kD2 "_law_refused" "_law_refused" 809 321 6 487 812
def c2s:Obj:=kF "_law_refused" "_law_refused" a5m m8 490
def c4a:Obj:=kT 818 ["_law_rows_here","_law_pairs_here","_law_firm","_law_some","_law_known_here","_law_by_here","_law_up","_law_down","_law_q","_law_word_here","_law_ranks","_law_rank","_law_fresh"]
def c6d:Obj:=kC "_law_fixed" "_law_fixed" a9d
def c1V:Obj:=kD1 "_law_fixed" "_law_fixed" 815 329 5 492 831
def c2q:Obj:=kF "_law_fixed" "_law_fixed" a9d m8 497
def c2y:Obj:=kT 837 ["_law_cell","_law_some","_law_known_here","_law_k","_law_q","_law_way"]
def c4N:Obj:=kC "_law_known" "_law_known" a9y
def c2o:Obj:=kD1 "_law_known" "_law_known" 834 356 2 499 843
def c2C:Obj:=kF "_law_known" "_law_known" a9y m8 504
def c5T:Obj:=kC "law" "law" a2e
def c2W:Obj:=kD2 "law" "law" 846 363 1 506 849
def c1P:Obj:=kF "law" "law" a2e m8 509
def p3 (P:Params):Obj:=kQ [kE P "__name__" 165 (.str "__main__" 164),kE P "__doc__" 166 .none,kE P "__package__" 167 .none,kE P "__loader__" 168 (.builtin "__main__.__loader__#opaque"),kE P "__spec__" 169 .none,kE P "__annotations__" 170 (.ref 6),kE P "__builtins__" 171 (.ref 4),kE P "__file__" 173 (.str "/claim/cut.py" 172),kE P "__cached__" 174 .none] 9
def H0 (P:Params):Heap:=⟨⟨o0 P::o1 P::o2::p3 P::o4::o5::o6::kU::kN::o9::o10::[]⟩,{}⟩
noncomputable abbrev S0 (P:Params):List Obj:=o4::o5::o6::kU::kN::o9::o10::kU::[]
noncomputable abbrev S1 (P:Params):List Obj:=o13::o14::kU::kN::o17::kU::o19::o20::o21::kU::kN::o24::kU::o26::o27::o28::kU::kN::o31::o32::o33::kU::kN::o36::o37::o38::kU::kN::o41::kU::o43::o44::o45::kU::kN::o48::kU::o50::o51::o52::o53::kU::kN::o56::o57::o58::kU::kN::o61::o62::o63::o64::o65::kU::kN::o68::o69::o70::kU::kN::o73::o74::o75::kU::kN::o78::o79::o80::kU::kN::o83::kU::o85::o86::o87::kU::kN::o90::kU::o92::o93::o94::kU::kN::o97::o98::o99::kU::c4y::c5M P::kU::c5d::c6N::c6i::kU::kN::c1w::kU::c5H::c3i::c1d::kU::kN::c2A::kU::c6n::c3N::c5Y::kU::kN::c3U::kU::c5w::c1t::c0R::kU::kN::c3M::kU::c4L::c0Z::c3K::kU::kN::c2D::kU::c4Z::c1J::c5j::kU::kN::c1X::kU::c4K::c4n::c5k::kU::kN::c3m::kU::c5h::c3l::c5S::kU::kN::c3Z::kU::c5e::c1g::c4D::c4c::c3Q P::[]
noncomputable abbrev S2 (P:Params):List Obj:=c2e::c2I::c5F::c5R::c1s::c4z::c5P P::kU::c5f::c4C::c4O::kU::kN::c4j::kU::c5o::c2i::c2n::kU::kN::c0U::kU::c5Q::c2g::c5E::kU::kN::c1A::kU::c5m::c0X::c2J::kU::kN::c3X::kU::c5t::c2U::c5O::kU::kN::c2T::kU::c5W::c2B::c4u::kU::c3J P::c2u::c6m::c5y::c1E::c6u::c5D P::kU::c5G::c5s::c6b::kU::kN::c4b::kU::c6M::c1c::c6F::kU::kN::c2c::kU::c6J::c0S::c4e::kU::kN::c3x::kU::c6D::c3e::c4S::kU::c2x P::c2F::c5J::c5K::c1h::c5r::c6c P::kU::c4H::c5n::c6o::kU::kN::c3L::kU::c4w::c1L::c5V::kU::kN::c2r::kU::c4P::c4l::c4U::kU::c3r P::c3f::c6L::c5C::[]
noncomputable abbrev S3 (P:Params):List Obj:=c3z::c6q::c4x P::kU::c5A::c4A::c5N::kU::kN::c1C::kU::c6t::c1e::c4Q::kU::kN::c3a::kU::c6C::c3W::c3D::kU::kN::c2m::kU::c6a::c1q::c6G::kU::c1l P::c2H::c5v::c4q::kU::c4v::c4T P::kU::c6O::c5c::c6y::kU::kN::c2v::kU::c5i::c1K::c4m::kU::kN::c1U::kU::c5u::c1N::c1n::kU::kN::c2G::kU::c6r::c1f::c2p::kU::kN::c6v::c1x::c3n::kU::kN::c1W::kU::c5p::c3R::c1H::kU::kN::c3u::kU::c6s::c3y::c2l::kU::kN::c2w::kU::c6z::c0Y::c4R::kU::kN::c2V::kU::c5x::c3P::c6h::c4g::c2z P::c3w::c4f::c3C::c5a::c4p::kU::kN::c2S::kU::c5b::c2E::c3t::kU::kN::c2h::kU::c6A::c1y::c1M::kU::kN::c1G::kU::c4G::c3Y::c2Y::kU::kN::c1B::kU::c6B::c1Y::c3s::kU::kN::c6w::c2N::c1S::kU::kN::c6x::c3B::c3p::kU::kN::c3E::kU::c6p::c1Q::c1z::kU::kN::c4Y::c4d::c1Z::kU::kN::c3j::kU::c5q::c3v::c1m::kU::kN::c5X::c1I::c1F::kU::kN::c1k::kU::c4I::c1r::c3o::kU::kN::c3O::kU::c4E::c3g::c3T::kU::kN::c4h::kU::c5L::c1b::c2k::kU::kN::c2P::kU::c6k::c1u::c4k::kU::kN::c5Z::c1v::c2f::kU::kN::c4B::c2Q::c2O::kU::kN::c4J::c1p::c1O::kU::kN::c4r::c2K::c2b::kU::kN::c6K::c0T::c2s::kU::kN::c4a::kU::c6d::c1V::c2q::kU::kN::c2y::kU::c4N::c2o::c2C::kU::kN::c5T::c2W::c1P::[]
def H1 (P:Params):Heap:=⟨⟨[o0 P,o1 P,o2,o3 P]++S0 P++[o12]++S1 P++[c3c]++S2 P++S3 P⟩,{}⟩
def b2P:Params→Qd:=fun P=>
(nat_lit 2,o2)::(nat_lit 3,o3 P)::(nat_lit 4,o4)::(nat_lit 15,kU)::(nat_lit 17,o17)::(nat_lit 18,kU)::(nat_lit 20,o20)::(nat_lit 22,kU)::(nat_lit 24,o24)::(nat_lit 25,kU)::(nat_lit 27,o27)::(nat_lit 28,o28)::(nat_lit 29,kU)::(nat_lit 32,o32)::(nat_lit 33,o33)::(nat_lit 34,kU)::(nat_lit 37,o37)::(nat_lit 38,o38)::(nat_lit 39,kU)::(nat_lit 41,o41)::(nat_lit 42,kU)::(nat_lit 44,o44)::(nat_lit 45,o45)::(nat_lit 46,kU)::(nat_lit 48,o48)::(nat_lit 49,kU)::(nat_lit 51,o51)::(nat_lit 52,o52)::(nat_lit 53,o53)::(nat_lit 54,kU)::(nat_lit 57,o57)::(nat_lit 58,o58)::(nat_lit 59,kU)::(nat_lit 61,o61)::(nat_lit 62,o62)::(nat_lit 64,o64)::(nat_lit 65,o65)::(nat_lit 66,kU)::(nat_lit 69,o69)::(nat_lit 70,o70)::(nat_lit 71,kU)::(nat_lit 74,o74)::(nat_lit 75,o75)::(nat_lit 76,kU)::(nat_lit 79,o79)::(nat_lit 80,o80)::(nat_lit 81,kU)::(nat_lit 83,o83)::(nat_lit 84,kU)::(nat_lit 86,o86)::(nat_lit 87,o87)::(nat_lit 88,kU)::(nat_lit 90,o90)::(nat_lit 91,kU)::(nat_lit 93,o93)::(nat_lit 94,o94)::(nat_lit 95,kU)::(nat_lit 98,o98)::(nat_lit 99,o99)::(nat_lit 107,kU)::(nat_lit 109,c1w)::(nat_lit 110,kU)::(nat_lit 112,c3i)::(nat_lit 113,c1d)::(nat_lit 114,kU)::(nat_lit 116,c2A)::(nat_lit 117,kU)::(nat_lit 119,c3N)::(nat_lit 121,kU)::(nat_lit 123,c3U)::(nat_lit 124,kU)::(nat_lit 126,c1t)::(nat_lit 127,c0R)::(nat_lit 128,kU)::(nat_lit 130,c3M)::(nat_lit 131,kU)::(nat_lit 133,c0Z)::(nat_lit 134,c3K)::(nat_lit 135,kU)::(nat_lit 137,c2D)::(nat_lit 138,kU)::(nat_lit 140,c1J)::(nat_lit 142,kU)::(nat_lit 144,c1X)::(nat_lit 145,kU)::(nat_lit 147,c4n)::(nat_lit 149,kU)::(nat_lit 151,c3m)::(nat_lit 152,kU)::(nat_lit 154,c3l)::(nat_lit 156,kU)::(nat_lit 158,c3Z)::(nat_lit 159,kU)::(nat_lit 161,c1g)::(nat_lit 163,c4c)::(nat_lit 164,c3Q P)::(nat_lit 165,c3c)::(nat_lit 166,c2e)::(nat_lit 167,c2I)::(nat_lit 170,c1s)::(nat_lit 177,kU)::(nat_lit 179,c4j)::(nat_lit 180,kU)::(nat_lit 182,c2i)::(nat_lit 183,c2n)::(nat_lit 184,kU)::(nat_lit 186,c0U)::(nat_lit 187,kU)::(nat_lit 189,c2g)::(nat_lit 191,kU)::(nat_lit 193,c1A)::(nat_lit 194,kU)::(nat_lit 196,c0X)::(nat_lit 197,c2J)::(nat_lit 198,kU)::(nat_lit 200,c3X)::(nat_lit 201,kU)::(nat_lit 203,c2U)::(nat_lit 205,kU)::(nat_lit 207,c2T)::(nat_lit 208,kU)::(nat_lit 210,c2B)::(nat_lit 212,kU)::(nat_lit 213,c3J P)::(nat_lit 214,c2u)::(nat_lit 217,c1E)::(nat_lit 224,kU)::(nat_lit 226,c4b)::(nat_lit 227,kU)::(nat_lit 229,c1c)::(nat_lit 231,kU)::(nat_lit 233,c2c)::(nat_lit 234,kU)::(nat_lit 236,c0S)::(nat_lit 237,c4e)::(nat_lit 238,kU)::(nat_lit 240,c3x)::(nat_lit 241,kU)::(nat_lit 243,c3e)::(nat_lit 245,kU)::(nat_lit 246,c2x P)::(nat_lit 247,c2F)::(nat_lit 250,c1h)::(nat_lit 257,kU)::(nat_lit 259,c3L)::(nat_lit 260,kU)::(nat_lit 262,c1L)::(nat_lit 264,kU)::(nat_lit 266,c2r)::(nat_lit 267,kU)::(nat_lit 269,c4l)::(nat_lit 271,kU)::(nat_lit 272,c3r P)::(nat_lit 273,c3f)::(nat_lit 276,c3z)::(nat_lit 283,kU)::(nat_lit 285,c1C)::(nat_lit 286,kU)::(nat_lit 288,c1e)::(nat_lit 290,kU)::(nat_lit 292,c3a)::(nat_lit 293,kU)::(nat_lit 295,c3W)::(nat_lit 296,c3D)::(nat_lit 297,kU)::(nat_lit 299,c2m)::(nat_lit 300,kU)::(nat_lit 302,c1q)::(nat_lit 304,kU)::(nat_lit 305,c1l P)::(nat_lit 306,c2H)::(nat_lit 316,kU)::(nat_lit 318,c2v)::(nat_lit 319,kU)::(nat_lit 321,c1K)::(nat_lit 322,c4m)::(nat_lit 323,kU)::(nat_lit 325,c1U)::(nat_lit 326,kU)::(nat_lit 328,c1N)::(nat_lit 329,c1n)::(nat_lit 330,kU)::(nat_lit 332,c2G)::(nat_lit 333,kU)::(nat_lit 335,c1f)::(nat_lit 336,c2p)::(nat_lit 337,kU)::(nat_lit 340,c1x)::(nat_lit 341,c3n)::(nat_lit 342,kU)::(nat_lit 344,c1W)::(nat_lit 345,kU)::(nat_lit 347,c3R)::(nat_lit 348,c1H)::(nat_lit 349,kU)::(nat_lit 351,c3u)::(nat_lit 352,kU)::(nat_lit 354,c3y)::(nat_lit 355,c2l)::(nat_lit 356,kU)::(nat_lit 358,c2w)::(nat_lit 359,kU)::(nat_lit 361,c0Y)::(nat_lit 363,kU)::(nat_lit 365,c2V)::(nat_lit 366,kU)::(nat_lit 368,c3P)::(nat_lit 370,c4g)::(nat_lit 371,c2z P)::(nat_lit 372,c3w)::(nat_lit 373,c4f)::(nat_lit 374,c3C)::(nat_lit 377,kU)::(nat_lit 379,c2S)::(nat_lit 380,kU)::(nat_lit 382,c2E)::(nat_lit 383,c3t)::(nat_lit 384,kU)::(nat_lit 386,c2h)::(nat_lit 387,kU)::(nat_lit 389,c1y)::(nat_lit 390,c1M)::(nat_lit 391,kU)::(nat_lit 393,c1G)::(nat_lit 394,kU)::(nat_lit 396,c3Y)::(nat_lit 397,c2Y)::(nat_lit 398,kU)::(nat_lit 400,c1B)::(nat_lit 401,kU)::(nat_lit 403,c1Y)::(nat_lit 404,c3s)::(nat_lit 405,kU)::(nat_lit 408,c2N)::(nat_lit 409,c1S)::(nat_lit 410,kU)::(nat_lit 413,c3B)::(nat_lit 414,c3p)::(nat_lit 415,kU)::(nat_lit 417,c3E)::(nat_lit 418,kU)::(nat_lit 420,c1Q)::(nat_lit 421,c1z)::(nat_lit 422,kU)::(nat_lit 425,c4d)::(nat_lit 426,c1Z)::(nat_lit 427,kU)::(nat_lit 429,c3j)::(nat_lit 430,kU)::(nat_lit 432,c3v)::(nat_lit 433,c1m)::(nat_lit 434,kU)::(nat_lit 437,c1I)::(nat_lit 438,c1F)::(nat_lit 439,kU)::(nat_lit 441,c1k)::(nat_lit 442,kU)::(nat_lit 444,c1r)::(nat_lit 445,c3o)::(nat_lit 446,kU)::(nat_lit 448,c3O)::(nat_lit 449,kU)::(nat_lit 451,c3g)::(nat_lit 452,c3T)::(nat_lit 453,kU)::(nat_lit 455,c4h)::(nat_lit 456,kU)::(nat_lit 458,c1b)::(nat_lit 459,c2k)::(nat_lit 460,kU)::(nat_lit 462,c2P)::(nat_lit 463,kU)::(nat_lit 465,c1u)::(nat_lit 466,c4k)::(nat_lit 467,kU)::(nat_lit 470,c1v)::(nat_lit 471,c2f)::(nat_lit 472,kU)::(nat_lit 475,c2Q)::(nat_lit 476,c2O)::(nat_lit 477,kU)::(nat_lit 480,c1p)::(nat_lit 481,c1O)::(nat_lit 482,kU)::(nat_lit 485,c2K)::(nat_lit 486,c2b)::(nat_lit 487,kU)::(nat_lit 490,c0T)::(nat_lit 491,c2s)::(nat_lit 492,kU)::(nat_lit 494,c4a)::(nat_lit 495,kU)::(nat_lit 497,c1V)::(nat_lit 498,c2q)::(nat_lit 499,kU)::(nat_lit 501,c2y)::(nat_lit 502,kU)::(nat_lit 504,c2o)::(nat_lit 505,c2C)::(nat_lit 506,kU)::(nat_lit 509,c2W)::(nat_lit 510,c1P)::[]
abbrev c0P:List Addr:=[2,3,4,15,17,18,20,22,24,25,27,28,29,32,33,34,37,38,39,41,42,44,45,46,48,49,51,52,53,54,57,58,59,61,62,64,65,66,69,70,71,74,75,76,79,80,81,83,84,86,87,88,90,91,93,94,95,98,99,107,109,110,112,113,114,116,117,119,121,123,124,126,127,128,130,131,133,134,135,137,138,140,142,144,145,147,149,151,152,154,156,158,159,161,163,164,165,166,167,170,177,179,180,182,183,184,186,187,189,191,193,194,196,197,198,200,201,203,205,207,208,210,212,213,214,217,224,226,227,229,231,233,234,236,237,238,240,241,243,245,246,247,250,257,259,260,262,264,266,267,269,271,272,273,276,283,285,286,288,290,292,293,295,296,297,299,300,302,304,305,306,316,318,319,321,322,323,325,326,328,329,330,332,333,335,336,337,340,341,342,344,345,347,348,349,351,352,354,355,356,358,359,361,363,365,366,368,370,371,372,373,374,377,379,380,382,383,384,386,387,389,390,391,393,394,396,397,398,400,401,403,404,405,408,409,410,413,414,415,417,418,420,421,422,425,426,427,429,430,432,433,434,437,438,439,441,442,444,445,446,448,449,451,452,453,455,456,458,459,460,462,463,465,466,467,470,471,472,475,476,477,480,481,482,485,486,487,490,491,492,494,495,497,498,499,501,502,504,505,506,509,510]
def a4u:Params→Qd:=fun P=>(nat_lit 60,kN)::b2P P
abbrev a4C:List Addr:=60::c0P
theorem a5y:∀P,a4C=(a4u P).map (·.1):=fun _=>by kernel_rfl
def b4S:Program:=PySem.W.view PySem.Challenge.pw_mostwise_k42_round_by_round [0,2,3,4,6,8,11,13,14,15,16,17,18,19,20,22,23,24,25,26,28,30,31,32,33,34,35,36,37,38,39,40,41,42,43,44,45,46,47,48,49,50,51]
theorem b6x:∀w:World,(fencedOpening treeTable PySem.Challenge.pw_mostwise_k42_round_by_round w 6746).map (fun s=>(s.heap,s.gens,s.drawn,s.toks))=some (H0 w.params,#[],{},181):=fun w=>by kernel_rfl
theorem a8d {tb:String→Option Builtin} {p:Program} {w:World} {n₀:Nat} {ann:Option Value} {env:Env} {q:Pos} {n N a l:Nat} {s s' r:Shared} {b:List Stmt} {c:Code} {pos p':Pos} (h:segRun tb p w n₀ ann 1 n s (piecesOf ((b.drop a).take l) env c pos [topFrame q])=some (.next,s',c,p'))
  (k:topRun tb p w n₀ ann N s' (restOf (b.drop (a+l)) env c p' [topFrame q])=some r):topRun tb p w n₀ ann (n+N) s (restOf (b.drop a) env c pos [topFrame q])=some r:=by
 have e:=piece_app h k
 rwa [←List.drop_drop,List.take_append_drop] at e
def b9P (P:Params):Heap:=⟨⟨o0 P::o1 P::o2::p3 P::o4::o5::o6::kU::kN::o9::o10::kU::kN::o13::o14::[]⟩,{}⟩
def a8D (P:Params):Heap:=⟨⟨o0 P::o1 P::o2::p3 P::o4::o5::o6::kU::kN::o9::o10::kU::kN::o13::o14::[]⟩,{}⟩
def b9Z:Env:={scope:=PySem.Challenge.pw_mostwise_k42_round_by_round.main.scope,locals:=mainNs,globals:=mainNs,cells:=[],code:=(.ref 13),frame:=some 14}
def a6s:Code:=.body (behindTheImports PySem.Challenge.pw_mostwise_k42_round_by_round) b9Z
abbrev tFr:List Frame:=[topFrame ⟨0,0,0,0⟩]
abbrev c0D (i:Nat) (q:Pos):Thread:=restOf ((behindTheImports PySem.Challenge.pw_mostwise_k42_round_by_round).drop i) b9Z a6s q tFr
theorem c0I:∀(w:World) (os:OsState),topGo treeTable PySem.Challenge.pw_mostwise_k42_round_by_round w 11 (some (.ref 6)) 12 ⟨H0 w.params,#[],{},181,os⟩ (topStub PySem.Challenge.pw_mostwise_k42_round_by_round)=some (⟨b9P w.params,#[],{},187,os⟩,⟨denote treeTable a6s,a6s,⟨0,0,0,0⟩,tFr⟩):=fun w os=>by kernel_rfl
theorem b5x:∀(w:World) (os:OsState),segRun treeTable PySem.Challenge.pw_mostwise_k42_round_by_round w 11 (some (.ref 6)) 1 1 ⟨b9P w.params,#[],{},187,os⟩ (blockOf (behindTheImports PySem.Challenge.pw_mostwise_k42_round_by_round) b9Z a6s ⟨0,0,0,0⟩ tFr)=some (.next,⟨a8D w.params,#[],{},187,os⟩,a6s,⟨0,0,0,0⟩):=fun w os=>by kernel_rfl
def g13 (P:Params):Obj:=kQ [kE P "__name__" 165 (.str "mostwise.rules" 308),kE P "__doc__" 166 .none,kE P "__package__" 167 .none,kE P "__loader__" 168 (.builtin "__main__.__loader__#opaque"),kE P "__spec__" 169 .none,kE P "__annotations__" 170 (.ref 6),kE P "__builtins__" 171 (.ref 4),kE P "__file__" 173 (.str "/claim/cut.py" 172),kE P "__cached__" 174 .none,kE P "_wall" 193 (.ref 21),kE P "keyed" 204 (.ref 28),kE P "all_among" 210 (.ref 33),kE P "any_among" 216 (.ref 38),kE P "opposite" 225 (.ref 45),kE P "heads_by_premise" 237 (.ref 52),kE P "sure_rounds" 245 (.ref 58),kE P "sure_steps" 253 (.ref 65),kE P "HELD" 257 (.str "held" 256),kE P "REFUSED" 259 (.str "refused" 258),kE P "is_beaten" 265 (.ref 70),kE P "holds_by" 271 (.ref 75),kE P "refused_by" 277 (.ref 80),kE P "words_now" 290 (.ref 87),kE P "touched" 301 (.ref 94),kE P "most_rounds" 307 (.ref 99),kE P "Rule" 394 (.ref 165),kE P "Fact" 448 (.ref 214),kE P "Sure" 487 (.ref 247),kE P "Most" 519 (.ref 273)] 29
def c6E:Obj:=kL [(1,0,20),(5,0,27),(10,0,32),(12,0,37),(15,0,44),(18,0,51),(25,0,57),(39,0,64),(45,0,69),(47,0,74),(54,0,79),(61,0,86),(69,0,93),(76,0,98),(95,0,105),(122,0,175),(138,0,222),(148,0,255)]
def c0q:Obj:=⟨(.type "type"),none,(.cls ⟨"Rule",[(.type "object")],[(.ref 165),(.type "object")],164,"Rule",true,[],[(.ref 214),(.ref 247),(.ref 273)],false,none,false⟩),#[none,none,(some (.str "Rule" 310)),(some (.str "Rule" 318)),(some (.builtin "object.__new__")),(some (.bool true))]⟩
def c1j (P:Params):Heap:=⟨⟨[o0 P,o1 P,o2,g13 P]++S0 P++[c6E]++S1 P++[c0q]++S2 P⟩,{}⟩
theorem c4W:∀(w:World) (os:OsState),segRun treeTable PySem.Challenge.pw_mostwise_k42_round_by_round w 11 (some (.ref 6)) 1 1874 ⟨a8D w.params,#[],{},187,os⟩ (piecesOf (((behindTheImports PySem.Challenge.pw_mostwise_k42_round_by_round).drop 0).take 26) b9Z a6s ⟨0,0,0,0⟩ tFr)=some (.next,⟨c1j w.params,#[],{},520,os⟩,a6s,⟨148,0,154,17⟩):=fun w os=>by kernel_rfl
theorem c0m:∀(w:World) (os:OsState),topRun treeTable PySem.Challenge.pw_mostwise_k42_round_by_round w 11 (some (.ref 6)) 1440 ⟨c1j w.params,#[],{},520,os⟩ (c0D 26 ⟨148,0,154,17⟩)=some ⟨H1 w.params,#[],{},852,os⟩:=fun w os=>by kernel_rfl
theorem c0o:∀(w:World) (os:OsState),topRun treeTable PySem.Challenge.pw_mostwise_k42_round_by_round w 11 (some (.ref 6)) 3327 ⟨H0 w.params,#[],{},181,os⟩ (topStub PySem.Challenge.pw_mostwise_k42_round_by_round)=some ⟨H1 w.params,#[],{},852,os⟩:=fun w os=>go_top (n:=12) (c0I w os) (piece_block (n:=1) (b5x w os) (a8d (c4W w os) (c0m w os)))
end
end K42
namespace K42
open PySem PySem.W L2
def adr:Adr:=⟨28,kG "keyed" "keyed" a9e m1 27,33,kG "all_among" "all_among" a7N m1 32,38,kG "any_among" "any_among" a8j m1 37,45,kG "opposite" "opposite" a8H m2 44,52,kG "heads_by_premise" "heads_by_premise" b0l m3 51,58,Yw "sure_rounds" "sure_rounds" (a1H a2t) (a1f a2t) (a0b a2t) (.ref 53) .none .none m4 none (.ref 57) .none,53,65,kG "sure_steps" "sure_steps" a7O m4 64,70,kG "is_beaten" "is_beaten" a8a m5 69,75,kG "holds_by" "holds_by" a6l m5 74,80,kG "refused_by" "refused_by" a6u m5 79,87,kG "words_now" "words_now" b0s m5 86,94,kG "touched" "touched" b1e m5 93,99,kG "most_rounds" "most_rounds" a3Z m5 98,113,kG "__init__" "Rule.__init__" b0X m6 112,127,kG "speaks" "Rule.speaks" a9J m6 126,134,kG "is_sure" "Rule.is_sure" a8L m6 133,183,kG "__init__" "Fact.__init__" b1t m6 182,197,kG "is_sure" "Fact.is_sure" b0S m6 196,237,kG "is_sure" "Sure.is_sure" b0O m6 236,296,kG "speaks" "Block.speaks" b0K m6 295,322,kG "__init__" "Ground.__init__" b1k m7 321,329,kG "rules" "Ground.rules" b0c m7 328,336,kG "ruling" "Ground.ruling" a9i m7 335,341,kG "speaking" "Ground.speaking" a7M m7 340,348,kG "against" "Ground.against" b0f m7 347,355,kG "beats" "Ground.beats" b0k m7 354,383,kG "_law_cell_at" "_law_cell_at" a8I m8 382,390,kG "_law_whole" "_law_whole" a8C m8 389,397,kG "_law_mix" "_law_mix" a9D m8 396,404,kG "_law_word" "_law_word" b1d m8 403,409,kG "_law_pool" "_law_pool" a8v m8 408,414,kG "_law_row" "_law_row" a6j m8 413,421,kG "_law_made" "_law_made" a9A m8 420,426,kG "_law_labels" "_law_labels" a8f m8 425,433,kG "_law_row_by_digits" "_law_row_by_digits" b0x m8 432,438,kG "_law_rows" "_law_rows" a6h m8 437,445,kG "_law_pairs" "_law_pairs" a9x m8 444,452,kG "_law_pairs_by_digits" "_law_pairs_by_digits" a8P m8 451,459,kG "_law_other" "_law_other" a9F m8 458,466,kG "_law_by" "_law_by" a9j m8 465,471,kG "_law_stands" "_law_stands" a7T m8 470,476,kG "_law_falls" "_law_falls" a7I m8 475,481,kG "_law_beaten" "_law_beaten" a7Q m8 480,486,kG "_law_held" "_law_held" a5j m8 485,491,kG "_law_refused" "_law_refused" a5m m8 490,498,kG "_law_fixed" "_law_fixed" a9d m8 497,505,kG "_law_known" "_law_known" a9y m8 504,510,kG "law" "law" a2e m8 509,165,214,247,273,306,372,60⟩
theorem b7y {K:Qd} {n q:String} {s:Stmt} {m:Value} {f c:Nat} (l:K.lookup f=some (kF n q s m c)) (e:Jj K (.ref c) q=true) (k:Zf K (.ref f)=true):Fun K n q s f (kG n q s m c):=b8h l e k
theorem txt (P:Params) {h:Heap} {mg:Str→Option Value} (X:(b2P P).In h) (G:h.Ns mainGlobals mg):Txt (b2P P) mg adr:=by
 constructor
 case F_z0e=>exact (a6K (f:=58) (st:=a2t) (ds:=[Value.none]) (oc:=.type "function") (od:=none) (osl:=#[]) (oT:=⟨.type "tuple",none,.seq #[.none] 0,#[]⟩) (nT:=0) (by kernel_rfl) (by kernel_rfl) (by kernel_rfl) (by kernel_rfl) rfl)
 case b_z0e=>exact b3f.binds (x:="sure_rounds") (qual:="sure_rounds") (ps:=["rules","known"]) [] (a6K (f:=58) (st:=a2t) (ds:=[Value.none]) (oc:=.type "function") (od:=none) (osl:=#[]) (oT:=⟨.type "tuple",none,.seq #[.none] 0,#[]⟩) (nT:=0) (by kernel_rfl) (by kernel_rfl) (by kernel_rfl) (by kernel_rfl) rfl) fun _ _ _ _ _ _ us hl=>match us,hl with | [_,_],_=>⟨_,rfl,rfl⟩
 case bd_z0e=>exact b3f.binds (x:="sure_rounds") (qual:="sure_rounds") (ps:=["rules","known"]) [Value.none] (a6K (f:=58) (st:=a2t) (ds:=[Value.none]) (oc:=.type "function") (od:=none) (osl:=#[]) (oT:=⟨.type "tuple",none,.seq #[.none] 0,#[]⟩) (nT:=0) (by kernel_rfl) (by kernel_rfl) (by kernel_rfl) (by kernel_rfl) rfl) fun _ _ _ _ _ _ us hl=>match us,(show us.length=1 from by rw [Xq] at hl;exact Nat.succ.inj hl) with | [_],_=>⟨_,rfl,rfl⟩
 case k_HELD=>exact ⟨256,Va X G (by kernel_rfl)⟩
 case k_REFUSED=>exact ⟨258,Va X G (by kernel_rfl)⟩
 all_goals first
  | exact b7y (by kernel_rfl) (by kernel_rfl) (by kernel_rfl)
  | exact .all fun us hl=>match us,hl with | [_],_=>rfl
  | exact .all fun us hl=>match us,hl with | [_,_],_=>rfl
  | exact .all fun us hl=>match us,hl with | [_,_,_],_=>rfl
  | exact .all fun us hl=>match us,hl with | [_,_,_,_],_=>rfl
  | exact .all fun us hl=>match us,hl with | [_,_,_,_,_],_=>rfl
  | exact .all fun us hl=>match us,hl with | [_,_,_,_,_,_],_=>rfl
  | exact Va X G (by kernel_rfl)
  | exact PySem.W.mg_none_of X G (by kernel_rfl)
  | kernel_rfl
  | exact ⟨by kernel_rfl,by kernel_rfl,by kernel_rfl⟩
  | exact ⟨by kernel_rfl,by kernel_rfl,by kernel_rfl,by kernel_rfl⟩
  | exact (by kernel_rfl:Yo _ _ _=_)
  | exact b9L (by k_is) (by kernel_rfl) (by kernel_rfl) (by kernel_rfl)
  | exact b5a (bm:=4) (Va X G (by kernel_rfl)) (by kernel_rfl)
end K42
theorem K42.said0 : PySem.Challenge.rw_mostwise_k42_round_by_round.wellSaid = true := by kernel_rfl
set_option maxRecDepth 100000 in
set_option maxHeartbeats 0 in
theorem PySem.Challenge.cw_mostwise_k42_round_by_round_holds : PySem.Challenge.rw_mostwise_k42_round_by_round.Holds := by
 w_on;refine PySem.W.holds_law K42.said0 fun said=>?_
 refine PySem.W.holds_open (q:=K42.b4S) (loose:=[("sure_rounds":PySem.Str)]) (Xt:=fun s=>PySem.W.xlAt K42.b4S [] s && PySem.W.recOk (PySem.W.RowW.records (PySem.W.OpenRow.toRowW PySem.Challenge.rw_mostwise_k42_round_by_round.row)) s) (XP:=PySem.W.XL K42.b4S []) (Yf:=Ul.obs (Ub K42.a4u K42.a4C K42.a5y)) (Ya:=Ul.val (Ub K42.a4u K42.a4C K42.a5y)) (YP:=Ul.says (Ub K42.a4u K42.a4C K42.a5y)) (N:=6746) ?hl (Ul.of (Ub K42.a4u K42.a4C K42.a5y)) (Ul.keeps (Ub K42.a4u K42.a4C K42.a5y)) (fun s e=>PySem.W.xl_of s (Jp.mp e).1) PySem.W.XL.keeps (by rfl) (by rfl) (by rfl) (fun s e=>PySem.W.recFacts_of (Jp.mp e).2) (by rfl) (by first | assumption | decide+kernel) (by decide+kernel) ⟨rfl,rfl,rfl,rfl,rfl,by decide+kernel⟩ ?hw ?hc
 (case hl=>refine PySem.W.LeftO.of_pieces (H₀:=K42.H0) (H₁:=K42.H1) (gs₀:=#[]) (gs₁:=#[]) (d₀:={}) (d₁:={}) (k₀:=181) (k₁:=852) (m₀:=11) (ann:=(some (.ref 6))) (M:=3327) K42.b6x ?_ K42.c0o rfl ?_<;>(intro w;kernel_rfl))
 (case hw=>w_witness2)
 refine L2.a9G (l:=PySem.Challenge.rw_mostwise_k42_round_by_round) (n:=63) (k:=10) (x:="_law_script") (CX:=L2.CX0) (K:=K42.b2P) (sp:=K42.b5Q 60) 60 64 rfl (by decide) rfl ⟨rfl,by decide,by decide⟩ (fun w h Y=>L2.b5g (PySem.W.kIn_of Y) (by kernel_rfl)) (fun w=>by kernel_rfl) (fun w=>by kernel_rfl) ?F (fun K H a ns hl hO hS=>K42.b2O hl hO hS) (fun _ _ _ _ z=>z)
 case F=>
  intro w mg fa h KX G hmg
  have T:K42.Txt (L2.KOf KX) mg K42.adr:=K42.txt w.params KX G
  obtain ⟨_,_,_,_,_,_,_,_,_,e2,_,_⟩:=T.F_d_law.ex
  have e0:=hmg.symm.trans T.g_d_law
  cases e0
  exact ⟨K42.adr.fd_d_law,fun s u=>by rw [e2];exact .of_eq rfl,fun base kb nb=>K42.b2x T⟩
