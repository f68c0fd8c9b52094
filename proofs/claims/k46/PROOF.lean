import PyProof.Rows.All
import Wide.All
import OpenK.AllK
import Wide.FinOn
import Lean
import PyProof.EqAt
import PyProof.EqKinds
import PyProof.TupleCall
import PyProof.StrLawsChain
import PyProof.StrLawsIn
import PyProof.Rows.StrNews2
import PyProof.StrBlockL
import PyProof.Rows.StrClose3
import PyProof.Rows.StrClose5
import PyProof.Rows.StrFirst
import PyProof.WalkInts
import PyProof.StrOps
import PyProof.WalksEnum
import PyProof.EnumMake
import PyProof.NeKinds
import KE.KEqDict
import KE.KRevIter
import PyProof.DictWalks
import PyProof.DictValues
import PyProof.ListRange
import PyProof.CollectIter
import PyProof.ZipIter
import PyProof.Rows.ZipGen
import PyProof.FString5
import KE.KDictLaws
import KE.KDictSum
import KE.KSortTup
import PyProof.Rows.SortStr
import PyProof.DictItems
import KE.KPairComp
import KE.KUnpack
import PyProof.P3Eq
import PyProof.Rows.SetFrom
import PySem.Challenge.RW_mostwise_k46_whole_leaners_alone
set_option Elab.async false
set_option linter.all false
set_option maxRecDepth 100000
set_option maxHeartbeats 4000000
open List renaming getElem?_cons_zero → Qa, getElem?_cons_succ → Qb, length_map → Qd, getElem?_eq_getElem → Qe, mem_map → Qf, append_nil → Qg, set_cons_succ → Qi, set_cons_zero → Qj, size_toArray → Qm, mem_cons_self → Qn, getElem?_map → Qo, mem_cons_of_mem → Qp, mem_append → Qq, getElem?_eq_some_iff → Qr, length_cons → Qs, mem_append_right → Qt, mem_filter → Qv, mem_cons → Qw, map_map → Qy, mem_singleton → Qz, length_filter_le → Xa, take_succ_eq_append_getElem → Xb, map_append → Xf, map_cons → Xg, getElem_mem → Xi, getD_eq_getElem?_getD → Xj, length_nil → Xk, mem_append_left → Xl, length_append → Xn, Nodup → Xo, range → Xr, toArray → Xu, lookup_cons → Xy, take_length → Xz, length_take → Yb, filter_cons → Yc, getElem?_append_right → Yg, getElem?_append_left → Yi, getElem?_eq_none → Yk, length → Yp, nodup_cons → Yv, find?_cons → Yw, filterMap_cons → Yy, mem_flatMap → Za, length_range → Zf, nodup_append → Zg, nodup_nil → Zj, any_eq_true → Zk, not_mem_nil → Zl, filter_append → Zm, pairwise_cons → Zn, append_assoc → Zo, foldl_append → Zp, mem_of_mem_take → Zq, lookup → Zr, mem_range → Zs, getElem_inj → Zt, all_eq_true → Zu, any_cons → Zw, mem_filterMap → Zx, filter_map → Zz, length_drop → Je, cons_append → Jf, getElem_map → Ji, getElem_of_mem → Jm, range_succ → Jn, foldl_cons → Jo, map_nil → Jq, length_eq_zero_iff → Jt, filter_congr → Jv, length_singleton → Ua, nil_append → Ue, eq_nil_iff_forall_not_mem → Ug, any_map → Uh, map_congr_left → Uk, flatMap_append → Ul, filter_eq_self → Um, take_zero → Uq, find?_eq_none → Us, all_cons → Uw, ext_getElem? → Vb, pairwise_map → Vc, getElem_take → Vd, pairwise_iff_getElem → Ve, mem_of_find?_eq_some → Vf, exists_mem_of_ne_nil → Vg, ext_getElem → Vp, of_mem_zip → Vw, getElem?_set_self → Vx, length_pos_of_mem → We, filter_eq_nil_iff → Wf, filterMap_append → Wj, getElem?_set_ne → Wk, mem_of_getElem? → Wl, getElem?_append → Wm, length_take_le' → Wo, Pairwise → Wp, getElem?_range → Wr, filter_sublist → Wt, filter_filter → Wx, all_map → Wy
open PySem.W renaming Frag → Qc, kitOne → Yh, findIn → Yo, emptyDict → Yq, fnOf → Yr, keepIn → Zb, instObj → Zd, codeIn → Jb, callWith_K → Jp, kHook → Jx, plainGet → Jy, methodCall_KW → Jz, Hook → Ui, plainGet_of → Uj, lookIn → Uo, mg_of → Ux, methodObj → Uy, hasDictIn → Uz, takerIn → Vv, cellsFrom_some → Vy, typeIn → Wh, subIn → Wq, isFn → Wv, plainOver → Wz, specialIn → Ga, handedIn → Gb, makesIn → Gd
open Nat renaming le_trans → Qh, le_refl → Qk, lt_of_lt_of_le → Xc, ne_of_lt → Xe, zero_le → Xm, lt_of_le_of_lt → Xp, lt_succ_of_lt → Ze, lt_irrefl → Zh, le_succ → Jl, ne_of_gt → Uc, le_of_lt → Vh, le_of_eq → Vj, lt_succ_self → Vk, sub_self → Vo
open PySem.Heap renaming get?_push_of_some → Ql, lt_size → Qx, get?_push_size → Xd, get?_update_ne → Zi, get?_push_ne → Ja, SameBut → Vi, size_update → Vq, size_push → Wi
open Bool renaming false_ne_true → Qu, and_eq_true → Xh, not_eq_true' → Yj, eq_iff_iff → Yl, false_eq_true → Zc, and_eq_true_iff → Jg, true_and → Jk, false_and → Js, or_eq_true_iff → Ws
open PySem.PyData renaming eqv → Xq, keyHash → Xx, str → Ym, strOk → Yt, canLay0 → Yu, eqvAll → Jj, canLayAll0 → Ju, depth → Ww
open Option renaming getD_some → Xs, map_some → Zy, map_eq_some_iff → Jw, toList_none → Uv, isSome_map → Va, isSome_iff_exists → Vl, map_eq_none_iff → Wd, getD_none → Gc
open PySem.F renaming plainAttrs_list → Xv, slot_list_append → Yd, type_list_append → Ye, plainAttrs_dict → Zv, slot_dict_update → Jr, slot_dict_get → Ub, slot_dict_setdefault → Up, slot_str_startswith → Ut, type_str_startswith → Uu, args_tuple_add_2 → Vm, type_dict_update → Vs, entry_tuple_add → Vt, args_dict_get_3 → Vu, slot_tuple_add → Vz, entry_dict_get → Wb, plainAttrs_str → Wg
open PySem.SeqAt renaming EqAt → Xw, shaped → Yn, canLay_of_shaped → Wc
open Int renaming emod_lt_of_pos → Ys, emod_nonneg → Yx
open Array renaming length_toList → Yz, getElem?_toList → Jc, getD → Jh, toList_inj → Vr, Perm → Wn, append_assoc → Wu
open PySem.Txt renaming startswith → Jd, slice → Ur, slice_le → Vn
open PySem.Str renaming ofString → Ud
namespace L2
open PySem PySem.Spec PyProof.Rows
abbrev Key:=Sum Int Str
def a7D:Key→Value→Bool
 | .inl k,v=>Value.isInt k v
 | .inr x,v=>Value.isStrOf x v
def c6e (w:World):Key→Int
 | .inl k=>hashInt k
 | .inr x=>hashStr w x
theorem a0F:∀{k:Key} {v:Value},a7D k v=true→(∃i t,k=Sum.inl i∧v=Value.int i t)∨(∃x t,k=Sum.inr x∧v=Value.str x t)
 | .inl i,v,h=>by
  obtain ⟨t,e⟩:=Value.isInt_shape (k:=i) (v:=v) h
  exact .inl ⟨i,t,rfl,e⟩
 | .inr x,v,h=>by
  obtain ⟨t,e⟩:=Value.isStrOf_shape (x:=x) (v:=v) h
  exact .inr ⟨x,t,rfl,e⟩
theorem a9k (i:Int) (t:Tok):a7D (.inl i) (.int i t)=true:=by simp [a7D,Value.isInt]
theorem b0s (x:Str) (t:Tok):a7D (.inr x) (.str x t)=true:=by simp [a7D,Value.isStrOf]
theorem b9n (a b:Int):decide ((Sum.inl a:Key)=Sum.inl b)=(a == b):=by
 by_cases e:a=b
 ·subst e;simp
 ·have h:¬(Sum.inl a:Key)=Sum.inl b:=fun q=>e (Sum.inl.inj q)
  rw [decide_eq_false h]
  exact (beq_eq_false_iff_ne.mpr e).symm
theorem b7J (a b:Str):decide ((Sum.inr a:Key)=Sum.inr b)=decide (a=b):=by
 by_cases e:a=b
 ·subst e;simp
 ·have h:¬(Sum.inr a:Key)=Sum.inr b:=fun q=>e (Sum.inr.inj q)
  rw [decide_eq_false h,decide_eq_false e]
theorem b7X (a:Int) (b:Str):decide ((Sum.inl a:Key)=Sum.inr b)=false:=decide_eq_false (fun q=>nomatch q)
theorem b8N (a:Str) (b:Int):decide ((Sum.inr a:Key)=Sum.inl b)=false:=decide_eq_false (fun q=>nomatch q)
def a0m (prog:Program) (w:World):PySem.KeyKind prog w Key where
 is:=a7D
 hash:=c6e w
 inj:=fun v a b ha hb=>by
  rcases a0F ha with ⟨i,t,rfl,rfl⟩ | ⟨x,t,rfl,rfl⟩
  ·rcases a0F hb with ⟨j,u,rfl,e⟩ | ⟨y,u,rfl,e⟩
   ·injection e with e1 _;rw [e1]
   ·exact nomatch e
  ·rcases a0F hb with ⟨j,u,rfl,e⟩ | ⟨y,u,rfl,e⟩
   ·exact nomatch e
   ·injection e with e1 _;rw [e1]
 byValue:=fun k v h=>by
  rcases a0F h with ⟨i,t,rfl,rfl⟩ | ⟨x,t,rfl,rfl⟩<;>rfl
 pyHash:=fun hv h=>by
  rcases a0F hv with ⟨i,t,rfl,rfl⟩ | ⟨x,t,rfl,rfl⟩
  ·exact wpAny_pyHash_int h
  ·exact wpAny_pyHash_str h
 eqBool:=fun hu hv h=>by
  rcases a0F hu with ⟨i,t,rfl,rfl⟩ | ⟨x,t,rfl,rfl⟩
  ·rcases a0F hv with ⟨j,u,rfl,rfl⟩ | ⟨y,u,rfl,rfl⟩
   ·rw [b9n] at h;exact wpAny_eqBool_int h
   ·rw [b7X] at h;exact Xw.int_str i t y u _ _ _ _ h
  ·rcases a0F hv with ⟨j,u,rfl,rfl⟩ | ⟨y,u,rfl,rfl⟩
   ·rw [b8N] at h;exact Xw.str_int x t j u _ _ _ _ h
   ·rw [b7J] at h;exact wpAny_eqBool_str h
 «strs»:=fun k x t v h=>by
  rcases a0F h with ⟨i,u,rfl,e⟩ | ⟨y,u,rfl,e⟩
  ·exact nomatch e
  ·injection e with e1 _
   subst e1
   cases v<;>rfl
theorem a6A (prog:Program) (w:World) (i:Int) (t:Tok):(a0m prog w).is (.inl i) (.int i t)=true:=a9k i t
theorem a6E (prog:Program) (w:World) (x:Str) (t:Tok):(a0m prog w).is (.inr x) (.str x t)=true:=b0s x t
end L2
namespace L2
open PySem PySem.Spec PyProof.Rows
inductive V where
 | non | bl (b:Bool) | int (i:Int) | str (x:Str) | byt (b:Array UInt8) | flt (b:UInt64) | ref (a:Addr) | ty (n:String)
 deriving DecidableEq
def a0N:V→Value→Prop
 | .non,u=>u=Value.none
 | .bl b,u=>u=Value.bool b
 | .int i,u=>∃t,u=Value.int i t
 | .str x,u=>∃t,u=Value.str x t
 | .byt b,u=>∃t,u=Value.bytes b t
 | .flt b,u=>∃t,u=Value.float b t
 | .ref a,u=>u=Value.ref a
 | .ty n,u=>u=Value.type n
abbrev a0H:List V→List Value→Prop:=Paired a0N
theorem a0H.length {xs:List V} {us:List Value} (r:a0H xs us):xs.length=us.length:=Paired.length r
theorem a0H.get:∀{xs:List V} {us:List Value} {i:Nat} {x:V},a0H xs us→xs[i]?=some x→∃u,us[i]?=some u∧a0N x u
 | _,_,_,_,.nil,e=>by simp at e
 | _,_,0,_,.cons r _,e=>by simp at e;subst e;exact ⟨_,rfl,r⟩
 | _,_,i+1,x,.cons _ t,e=>by
  obtain ⟨u,h1,h2⟩:=a0H.get (i:=i) (x:=x) t (by simpa using e)
  exact ⟨u,by simpa using h1,h2⟩
theorem a0H.append:∀{xs ys:List V} {us ws:List Value},a0H xs us→a0H ys ws→a0H (xs++ys) (us++ws)
 | _,_,_,_,.nil,s=>s
 | _,_,_,_,.cons r t,s=>.cons r (a0H.append t s)
theorem a0H.take:∀{xs:List V} {us:List Value} (n:Nat),a0H xs us→a0H (xs.take n) (us.take n)
 | _,_,0,_=>.nil
 | _,_,_+1,.nil=>.nil
 | _,_,n+1,.cons r t=>.cons r (a0H.take n t)
theorem a0H.drop:∀{xs:List V} {us:List Value} (n:Nat),a0H xs us→a0H (xs.drop n) (us.drop n)
 | _,_,0,r=>r
 | _,_,_+1,.nil=>.nil
 | _,_,n+1,.cons _ t=>a0H.drop n t
def a3Z:Option V→Option Value→Prop
 | some v,some u=>a0N v u
 | none,none=>True
 | _,_=>False
def KV {κ:Type}:List (κ×V)→List (κ×Value)→Prop:=Paired fun (p:κ×V) (q:κ×Value)=>p.1=q.1∧a0N p.2 q.2
def kV:Key→V
 | .inl i=>.int i
 | .inr x=>.str x
inductive HO where
 | lst (xs:List V)
 | tup (xs:List V)
 | dK (kvs:List (Key×V)) | dT (kvs:List (List Key×V))
 | set (S:Int→Bool) (n:Nat)
 | ins (C dx:Addr) (fs:List (Str×V))
 | own (x:Addr)
 | xd (fs:List (Str×V))
 | met (f x:Addr)
 | rng (lo hi:Int)
 | frz (o:Obj) (u:HO)
 | tbl (ps:Array Value)
 | ext (φ:Heap→Prop)
abbrev Hp:=Addr→Option HO
def upd (H:Hp) (a:Addr) (o:HO):Hp:=fun b=>if b=a then some o else H b
theorem a0d {H:Hp} {a:Addr} {o:HO}:upd H a o a=some o:=by unfold upd;rw [if_pos rfl]
theorem a0a {H:Hp} {a b:Addr} {o:HO} (h:b≠a):upd H a o b=H b:=by unfold upd;rw [if_neg h]
theorem b3S {H:Hp} {a:Addr} {o u:HO}:upd (upd H a o) a u=upd H a u:=by
 funext b;unfold upd;split<;>rfl
theorem a0B {H:Hp} {a b:Addr} {o u:HO} (h:H a=some o) (h':H b=some u) (d:o≠u):a≠b:=by
 intro e;subst e;rw [h] at h';exact d (Option.some.inj h')
theorem a0b {H:Hp} {a b:Addr} {o:HO} (h:H a=some o) (h':H b=none):a≠b:=by
 intro e;subst e;rw [h] at h';cases h'
section
variable (P:Program) (w:World)
def a1e (H:Hp) (h:Heap) (a:Addr):HO→Prop
 | .lst xs=>xs.length≤sizeLine∧∃(its:List Value) (n:Nat),a0H xs its∧h.get? a=some {cls:=.type "list",data:=.seq its.toArray n}
 | .tup xs=>xs.length≤sizeLine∧∃its:List Value,a0H xs its∧IsTup h a its.toArray
 | .dK kvs=>kvs.length≤sizeLine∧(a == sysModules)=false∧∃vs,KV kvs vs∧h.DictOf (a0m P w) a vs
 | .dT kvs=>kvs.length≤sizeLine∧(a == sysModules)=false∧∃xs:List (List Key×Addr×Value),
   Paired (fun (p:List Key×V) (q:List Key×Addr×Value)=>p.1=q.1∧H q.2.1=some (.tup (p.1.map kV))∧a0N p.2 q.2.2) kvs xs∧
   ∃o es ep,h.get? a=some o∧o.ExactDict∧o.data=.dict es ep∧es.toList=xs.map (entryOfKey (tupleKind (a0m P w)))∧(xs.map (·.1)).Nodup
 | .set S n=>h.SetOf (intKind P w) a S n
 | .ins C dx fs=>H dx=some (.own a)∧fs.length≤1000∧dx≠a∧h.get? a=some (Zd C dx)∧
   ∃mA,h.Ns1 dx mA∧(∀f,a3Z (fs.lookup f) (mA f))∧PySem.Within mA (fs.map (·.1))
 | .own _=>∃o,h.get? a=some o
 | .xd fs=>∃mA,h.Ns1 a mA∧∀f,a3Z (fs.lookup f) (mA f)
 | .rng lo hi=>∃t u v,h.get? a=some {cls:=.type "range",data:=.fields #[.int lo t,.int hi u,.int 1 v]}
 | .frz o u=>h.get? a=some o∧a1e H h a u
 | .tbl ps=>h.get? a=some {cls:=.none,data:=.fields ps}
 | .met f x=>h.get? a=some (Uy (.ref f) (.ref x))
 | .ext φ=>φ h∧(∃o,h.get? a=some o)∧∀h1 h2:Heap,φ h1→(∀o,h1.get? a=some o→h2.get? a=some o)→φ h2
def HOk (H:Hp) (h:Heap):Prop:=∀a o,H a=some o→a1e P w H h a o
end
section
variable {P:Program} {w:World} {H H':Hp} {h h':Heap} {a:Addr} {o:HO}
theorem a1e.lt (x:a1e P w H h a o):a < h.objs.size:=by
 cases o with
 | lst xs=>obtain ⟨_,_,_,_,e⟩:=x;exact Qx e
 | tup xs=>obtain ⟨_,_,_,p⟩:=x;exact p.lt
 | dK kvs=>obtain ⟨_,_,_,_,o,_,_,e,_⟩:=x;exact Qx e
 | dT kvs=>obtain ⟨_,_,_,_,o,_,_,e,_⟩:=x;exact Qx e
 | set S n=>obtain ⟨o,_,_,_,e,_⟩:=x;exact Qx e
 | ins C dx fs=>obtain ⟨_,_,_,e,_⟩:=x;exact Qx e
 | own y=>obtain ⟨_,e⟩:=x;exact Qx e
 | xd fs=>obtain ⟨_,⟨_,_,_,e,_⟩,_⟩:=x;exact Qx e
 | rng lo hi=>obtain ⟨_,_,_,e⟩:=x;exact Qx e
 | frz ob u=>obtain ⟨e,_⟩:=x;exact Qx e
 | tbl ps=>exact Qx (show h.get? a=some _ from x)
 | met f y=>exact Qx (show h.get? a=some _ from x)
 | ext φ=>obtain ⟨_,⟨_,e⟩,_⟩:=x;exact Qx e
theorem Paired.mapP {α β:Type} {F G:α→β→Prop}:∀{l₁:List α} {l₂:List β},Paired F l₁ l₂→(∀a b,F a b→G a b)→Paired G l₁ l₂
 | _,_,.nil,_=>.nil
 | _,_,.cons r t,f=>.cons (f _ _ r) (Paired.mapP t f)
theorem a1e.stay (x:a1e P w H h a o) (k:∀b u,(b=a∨H b=some (.own a))→h.get? b=some u→h'.get? b=some u)
  (ho:∀b,H b=some (.own a)→H' b=some (.own a)) (ht:∀b xs,H b=some (.tup xs)→H' b=some (.tup xs)):a1e P w H' h' a o:=by
 induction o with
 | lst xs=>obtain ⟨z,its,n,r,e⟩:=x;exact ⟨z,its,n,r,k _ _ (.inl rfl) e⟩
 | tup xs=>obtain ⟨z,its,r,ob,e,c⟩:=x;exact ⟨z,its,r,ob,k _ _ (.inl rfl) e,c⟩
 | dK kvs=>obtain ⟨z,y,vs,r,ob,es,ep,e,c⟩:=x;exact ⟨z,y,vs,r,ob,es,ep,k _ _ (.inl rfl) e,c⟩
 | dT kvs=>
  obtain ⟨z,y,xs,r,ob,es,ep,e,c⟩:=x
  exact ⟨z,y,xs,Paired.mapP r fun p q z=>⟨z.1,ht _ _ z.2.1,z.2.2⟩,ob,es,ep,k _ _ (.inl rfl) e,c⟩
 | set S n=>obtain ⟨ob,es,ep,t,e,c⟩:=x;exact ⟨ob,es,ep,t,k _ _ (.inl rfl) e,c⟩
 | ins C dx fs=>
  obtain ⟨d,z,ne,e,mA,⟨od,es,ep,e2,c⟩,r⟩:=x
  exact ⟨ho _ d,z,ne,k _ _ (.inl rfl) e,mA,⟨od,es,ep,k _ _ (.inr d) e2,c⟩,r⟩
 | own y=>obtain ⟨ob,e⟩:=x;exact ⟨ob,k _ _ (.inl rfl) e⟩
 | xd fs=>obtain ⟨mA,⟨od,es,ep,e,c⟩,r⟩:=x;exact ⟨mA,⟨od,es,ep,k _ _ (.inl rfl) e,c⟩,r⟩
 | rng lo hi=>obtain ⟨t,u,v,e⟩:=x;exact ⟨t,u,v,k _ _ (.inl rfl) e⟩
 | frz ob u ih=>obtain ⟨e,q⟩:=x;exact ⟨k _ _ (.inl rfl) e,ih q⟩
 | tbl ps=>
  have e:h.get? a=some {cls:=.none,data:=.fields ps}:=x
  show h'.get? a=some {cls:=.none,data:=.fields ps}
  exact k a _ (.inl rfl) e
 | met f y=>
  have e:h.get? a=some (Uy (.ref f) (.ref y)):=x
  show h'.get? a=some (Uy (.ref f) (.ref y))
  exact k a _ (.inl rfl) e
 | ext φ=>obtain ⟨p,⟨o,e⟩,st⟩:=x;exact ⟨st _ _ p fun o q=>k _ _ (.inl rfl) q,⟨o,k _ _ (.inl rfl) e⟩,st⟩
theorem HOk.lt (x:HOk P w H h) (e:H a=some o):a < h.objs.size:=(x a o e).lt
theorem HOk.fresh (x:HOk P w H h) (e:h.objs.size≤a):H a=none:=by
 cases q:H a with
 | none=>rfl
 | some u=>exact absurd (Xc (x.lt q) e) (Zh _)
theorem HOk.kept (x:HOk P w H h) (k:∀b u,h.get? b=some u→h'.get? b=some u):HOk P w H h':=fun a o e=>
 (x a o e).stay (fun b u _ q=>k b u q) (fun _ q=>q) fun _ _ q=>q
theorem HOk.laid (x:HOk P w H h) (k:∀b u,h.get? b=some u→h'.get? b=some u) (hp:h.objs.size≤a) (new:a1e P w (upd H a o) h' a o):HOk P w (upd H a o) h':=fun b u e=>by
 have hn:=x.fresh hp
 by_cases hb:b=a
 ·subst hb;rw [a0d] at e;cases e;exact new
 ·rw [a0a hb] at e
  exact (x b u e).stay (fun c v _ q=>k c v q) (fun c q=>by rw [a0a (a0b q hn)];exact q) fun c xs q=>by rw [a0a (a0b q hn)];exact q
end
def Rd (H:Hp) (a:Addr) (u:HO):Prop:=H a=some u∨∃o,H a=some (.frz o u)
theorem Rd.of {H:Hp} {a:Addr} {u:HO} (h:H a=some u):Rd H a u:=.inl h
theorem Rd.ok {P:Program} {w:World} {H:Hp} {h:Heap} {a:Addr} {u:HO} (r:Rd H a u) (x:HOk P w H h):a1e P w H h a u:=by
 rcases r with r | ⟨o,r⟩
 ·exact x a u r
 ·obtain ⟨_,q⟩:=x a _ r
  exact q
def Mut:Option HO→Prop
 | some (.lst _)=>True
 | some (.dK _)=>True
 | some (.dT _)=>True
 | some (.set _ _)=>True
 | some (.ins _ _ _)=>True
 | some (.ext _)=>True
 | _=>False
section
variable {P:Program} {w:World} {H:Hp} {h h':Heap} {x e:Addr} {o':HO}
theorem HOk.write (ok:HOk P w H h) (mu:Mut (H x)) (he:e=x∨H e=some (.own x)) (k:∀b u,b≠e→h.get? b=some u→h'.get? b=some u) (heo:∃u,h'.get? e=some u)
  (new:a1e P w (upd H x o') h' x o'):HOk P w (upd H x o') h':=fun b u q=>by
 have nown:∀c y,H c=some (.own y)→c≠x:=fun c y r z=>by subst z;rw [r] at mu;exact mu
 have ntup:∀c xs,H c=some (.tup xs)→c≠x:=fun c xs r z=>by subst z;rw [r] at mu;exact mu
 by_cases hb:b=x
 ·subst hb;rw [a0d] at q;cases q;exact new
 ·rw [a0a hb] at q
  by_cases hbe:b=e
  ·have q':H b=some (.own x):=by
    rcases he with z | z
    ·exact absurd (hbe.trans z) hb
    ·rw [hbe];exact z
   rw [q] at q';cases q'
   obtain ⟨v,hv⟩:=heo
   exact ⟨v,by rw [hbe];exact hv⟩
  ·refine (ok b u q).stay (fun c v hc r=>k c v ?_ r) (fun c r=>by rw [a0a (nown c b r)];exact r) fun c xs r=>by rw [a0a (ntup c xs r)];exact r
   rcases hc with rfl | hc
   ·exact hbe
   ·rintro rfl
    rcases he with z | z
    ·exact nown c b hc z
    ·rw [hc] at z;cases z;exact hb rfl
end
structure Un (fs ex:List Addr) (H H':Hp) (h h':Heap):Prop where
 keep:∀b o,h.get? b=some o→H b=none→b∉fs→b∉ex→h'.get? b=some o
 slot:∀b o,h.get? b=some o→H b=none→b∈fs→b∉ex→∃sl,h'.get? b=some {o with slots:=sl}
 free:∀b o,h.get? b=some o→H b=none→b∉ex→H' b=none
 there:∀b o,h.get? b=some o→b∉ex→∃o',h'.get? b=some o'
 tups:∀b xs,H b=some (.tup xs)→H' b=some (.tup xs)
 frzs:∀b o u,H b=some (.frz o u)→H' b=some (.frz o u)
 tbls:∀b ps,H b=some (.tbl ps)→∃more,H' b=some (.tbl (ps++more))
section
variable {fs fs' ex ex':List Addr} {H H1 H2:Hp} {h h1 h2 h':Heap} {a x e:Addr} {o:HO}
theorem Un.any (u:Un fs ex H H1 h h1) {b:Addr} {ob:Obj} (q:h.get? b=some ob) (n:H b=none) (hx:b∉ex):∃sl,h1.get? b=some {ob with slots:=sl}:=by
 by_cases hb:b∈fs
 ·exact u.slot b ob q n hb hx
 ·exact ⟨ob.slots,u.keep b ob q n hb hx⟩
theorem Un.trans (a:Un fs ex H H1 h h1) (b:Un fs ex H1 H2 h1 h2):Un fs ex H H2 h h2 where
 keep:=fun c ob q n hc hx=>b.keep c ob (a.keep c ob q n hc hx) (a.free c ob q n hx) hc hx
 slot:=fun c ob q n hc hx=>by
  obtain ⟨sl,e1⟩:=a.slot c ob q n hc hx
  obtain ⟨sl',e2⟩:=b.slot c _ e1 (a.free c ob q n hx) hc hx
  exact ⟨sl',e2⟩
 free:=fun c ob q n hx=>by
  obtain ⟨o',e1⟩:=a.there c ob q hx
  exact b.free c o' e1 (a.free c ob q n hx) hx
 there:=fun c ob q hx=>by
  obtain ⟨o',e1⟩:=a.there c ob q hx
  exact b.there c o' e1 hx
 tups:=fun c xs q=>b.tups c xs (a.tups c xs q)
 frzs:=fun c ob xs q=>b.frzs c ob xs (a.frzs c ob xs q)
 tbls:=fun c ps q=>by
  obtain ⟨m1,e1⟩:=a.tbls c ps q
  obtain ⟨m2,e2⟩:=b.tbls c _ e1
  exact ⟨m1++m2,by rw [e2,Wu]⟩
theorem Un.kept (k:∀b u,h.get? b=some u→h'.get? b=some u):Un fs ex H H h h':=
 ⟨fun b ob q _ _ _=>k b ob q,fun b ob q _ _ _=>⟨ob.slots,k b ob q⟩,fun _ _ _ n _=>n,fun b ob q _=>⟨ob,k b ob q⟩,fun _ _ q=>q,fun _ _ _ q=>q,fun _ ps q=>⟨#[],by rw [q];simp⟩⟩
theorem Un.refl:Un fs ex H H h h:=Un.kept fun _ _ q=>q
theorem Un.laid (k:∀b u,h.get? b=some u→h'.get? b=some u) (hp:h.objs.size≤a) (hn:H a=none):Un fs ex H (upd H a o) h h' where
 keep:=fun b u q _ _ _=>k b u q
 slot:=fun b u q _ _ _=>⟨u.slots,k b u q⟩
 free:=fun b u q n _=>by rw [a0a (Xe (Xc (Qx q) hp))];exact n
 there:=fun b u q _=>⟨u,k b u q⟩
 tups:=fun b xs q=>by rw [a0a (a0b q hn)];exact q
 frzs:=fun b u xs q=>by rw [a0a (a0b q hn)];exact q
 tbls:=fun b ps q=>⟨#[],by rw [a0a (a0b q hn),q];simp⟩
theorem Un.write (mu:Mut (H x)) (he:e=x∨H e=some (.own x)) (k:∀b u,b≠e→h.get? b=some u→h'.get? b=some u) (heo:∃u,h'.get? e=some u):Un fs ex H (upd H x o) h h':=by
 have hx:∀b,H b=none→b≠x:=fun b n z=>by subst z;rw [n] at mu;exact mu
 have hb:∀b,H b=none→b≠e:=fun b n z=>by
  subst z
  rcases he with r | r
  ·exact hx b n r
  ·rw [n] at r;cases r
 have hm:∀b u,H b=some u→¬Mut (some u)→b≠x:=fun b u q nm z=>by subst z;rw [q] at mu;exact nm mu
 refine ⟨fun b u q n _ _=>k b u (hb b n) q,fun b u q n _ _=>⟨u.slots,k b u (hb b n) q⟩,fun b u q n _=>by rw [a0a (hx b n)];exact n,fun b u q _=>?_,
  fun b xs q=>by rw [a0a (hm b _ q fun z=>z)];exact q,fun b u xs q=>by rw [a0a (hm b _ q fun z=>z)];exact q,fun b ps q=>⟨#[],by rw [a0a (hm b _ q fun z=>z),q];simp⟩⟩
 by_cases hbe:b=e
 ·subst hbe;exact heo
 ·exact ⟨u,k b u hbe q⟩
end
def trk (h:Heap) (H:Hp):List Addr:=(Xr h.objs.size).filter fun a=>(H a).isSome
def b1z (h:Heap) (H:Hp):Heap:=PySem.W.hideAll h (trk h H)
theorem a9d (h:Heap) (H:Hp):(b1z h H).objs.size=h.objs.size:=PySem.W.hideAll_size _ _
theorem b2I {h:Heap} {H:Hp} {b:Addr} {o:Obj} (e:h.get? b=some o) (n:H b=none):(b1z h H).get? b=some o:=
 PySem.W.hideAll_get _ e fun hm=>by
  have q:(H b).isSome=true:=(Qv.mp hm).2
  rw [n] at q;simp at q
theorem b4j {h:Heap} {H:Hp} {b:Addr} {o:Obj} (e:(b1z h H).get? b=some o):h.get? b=some o∧H b=none:=by
 have e':h.get? b=some o:=PySem.W.of_hideAll (trk h H) e
 refine ⟨e',?_⟩
 cases q:H b with
 | none=>rfl
 | some x=>
  have hm:b∈trk h H:=Qv.mpr ⟨Zs.mpr (Qx e'),by simp [q]⟩
  have z:(b1z h H).get? b=none:=PySem.W.hideAll_none (trk h H) hm
  rw [z] at e;cases e
def b3Q (g h:Heap) (L:Addr):List (Addr×Obj):=(Xr h.objs.size).filterMap fun a=>if a=L∨(g.get? a).isSome=true then none else (h.get? a).map fun o=>(a,o)
def a5L (g h:Heap) (L d:Addr):List (Addr×Obj):=(b3Q g h L).filter fun p=>decide (p.1≠d)
end L2
namespace L2
open PySem PySem.Spec PyProof.Rows
structure Mod (K:Qc) (mg:Str→Option Value) (base:Heap):Prop where
 kin:K.In base
 glob:base.Ns mainGlobals mg
 blt:∃mb,base.Ns builtinsNs mb∧∀x:Str,x≠"__name__"→mb x=bootBuiltins x
 nolimit:base.NoLimit
structure Cx where
 prog:Program
 w:World
 K:Qc
 mg:Str→Option Value
 base:Heap
 A:Around
 N:List Str
 s₀:Shared
 H₀:Hp
 env:Env
 outer:List Env
 stack:List Env
 ex:List Addr
 fn:Str→Bool
 calm:Bool
 pn:List (Addr×Obj)
 xe:Value→Shared→Prop
def frs (l:List Env):List Addr:=l.filterMap (·.frame)
abbrev Cx.fs (X:Cx):List Addr:=frs X.outer
def Vis (sc:Scope) (x:Str):Prop:=sc.names.lookup x=some .local∨sc.names.lookup x=some .cell∨sc.names.lookup x=some .free
def Loc (sc:Scope) (x:Str):Prop:=sc.names.lookup x=some .local∨sc.names.lookup x=some .cell
def c6q (env:Env) (h:Heap) (m:Str→Option Value) (x:Str) (u:Value):Prop:=
 (env.kindOf x=some .local∧m x=some u)∨((env.kindOf x=some .cell∨env.kindOf x=some .free)∧∃c,env.cells.lookup x=some c∧h.IsCell c (some u))
structure Cx.Ok (X:Cx):Prop where
 mod:Mod X.K X.mg X.base
 kind:X.env.scope.kind=.function
 glob:X.env.globals=mainGlobals
 blt:X.env.builtins=builtinsNs
 above:X.s₀.heap.objs.size≤X.env.locals
 inj:∀x y c,X.env.cells.lookup x=some c→X.env.cells.lookup y=some c→x=y
 has:∀x,(X.env.kindOf x=some .cell∨X.env.kindOf x=some .free)→∃c,X.env.cells.lookup x=some c
 cab:∀x c,X.fn x=true→X.env.cells.lookup x=some c→X.s₀.heap.objs.size≤c
 hd:X.calm=true→X.A.handled=none
 frames:X.A.frames=some X.stack
 stk:X.stack=X.outer∨(X.stack=X.env::X.outer∧X.env.frame=some X.env.locals)
 exf:∀b∈X.ex,b≠X.env.locals∧∀x c,X.env.cells.lookup x=some c→c≠b
 bs:∀b o,X.base.get? b=some o→X.s₀.heap.get? b=some o∧X.H₀ b=none
 bsz:X.base.objs.size≤X.s₀.heap.objs.size
 noex:∀b o,X.base.get? b=some o→b∉X.ex
 exfs:∀b∈X.ex,b∉X.fs
 funs:X.s₀.heap.FunFrames X.base X.outer
 frf:∀b∈X.fs,X.H₀ b=none
structure Inv (X:Cx) (pins:List (Addr×Obj)) (σ:List (Option V)) (H:Hp) (s:Shared):Prop where
 ok:X.Ok
 os:s.os=X.s₀.os
 bare:AllBare s.gens
 base:Un X.fs X.ex X.H₀ H X.s₀.heap s.heap
 loc:∃m,s.heap.Ns X.env.locals m∧∀(i:Nat) (x:Str) (v:V),X.N[i]?=some x→σ[i]?=some (some v)→Vis X.env.scope x→∃u,a0N v u∧c6q X.env s.heap m x u
 cell:∀x c,X.env.cells.lookup x=some c→∃v,s.heap.IsCell c v
 free:H X.env.locals=none
 freeC:∀x c,X.env.cells.lookup x=some c→H c=none
 pin:∀p∈X.pn++pins,s.heap.get? p.1=some p.2∧H p.1=none∧p.1≠X.env.locals∧p.1∉X.fs∧∀v,p.2.data≠.cell v
 hok:HOk X.prog X.w H s.heap
 len:σ.length=X.N.length
section
variable {X:Cx} {pins:List (Addr×Obj)} {σ:List (Option V)} {H H':Hp} {s:Shared} {h':Heap}
theorem Cx.Ok.nofr (ok:X.Ok) {b:Addr} {o:Obj} (e:X.base.get? b=some o):b∉X.fs:=fun hb=>by
 have:=(ok.funs.mem hb).1
 rw [e] at this;cases this
theorem Inv.bs (I:Inv X pins σ H s):∀b o,X.base.get? b=some o→s.heap.get? b=some o∧H b=none:=fun b o e=>
 ⟨I.base.keep b o (I.ok.bs b o e).1 (I.ok.bs b o e).2 (I.ok.nofr e) (I.ok.noex b o e),I.base.free b o (I.ok.bs b o e).1 (I.ok.bs b o e).2 (I.ok.noex b o e)⟩
theorem Inv.bk (I:Inv X pins σ H s):∀b o,X.base.get? b=some o→s.heap.get? b=some o:=fun b o e=>(I.bs b o e).1
theorem Inv.mod (I:Inv X pins σ H s):Mod X.K X.mg X.base:=I.ok.mod
theorem Inv.kIn (I:Inv X pins σ H s):X.K.In s.heap:=I.ok.mod.kin.keeps I.bk
theorem Inv.nolimit (I:Inv X pins σ H s):s.heap.NoLimit:=I.ok.mod.nolimit.keeps I.bk
theorem Inv.lt (I:Inv X pins σ H s):X.env.locals < s.heap.objs.size:=let ⟨_,hn,_⟩:=I.loc;hn.lt
theorem Inv.sz (I:Inv X pins σ H s):X.s₀.heap.objs.size≤s.heap.objs.size:=Qh I.ok.above (Vh I.lt)
theorem Inv.nofs (I:Inv X pins σ H s) {a:Addr} (h:s.heap.objs.size≤a):a∉X.fs:=fun hb=>by
 obtain ⟨_,o,ho,_⟩:=I.ok.funs.mem hb
 exact absurd (Xc (Qx ho) (Qh I.sz h)) (Zh _)
theorem Inv.cne (I:Inv X pins σ H s):∀x c,X.env.cells.lookup x=some c→c≠X.env.locals:=fun x c e z=>by
 obtain ⟨v,o,ho,hd⟩:=I.cell x c e
 obtain ⟨m,⟨o',es,ep,ho',hd',_⟩,_⟩:=I.loc
 rw [z,ho'] at ho;cases ho;rw [hd'] at hd;cases hd
theorem Inv.funs (I:Inv X pins σ H s):s.heap.FunFrames X.base X.outer:=by
 have all:∀(l:List Env),(∀b∈frs l,b∈X.fs)→X.s₀.heap.FunFrames X.base l→s.heap.FunFrames X.base l:=by
  intro l
  induction l with
  | nil=>intro _ _;trivial
  | cons env r ih=>
   intro hs hl
   obtain ⟨hk,⟨L,o,hf,hn,ho,hd⟩,hr⟩:=hl
   have hL:L∈X.fs:=hs L (by unfold frs;rw [Yy,hf];exact Qn)
   obtain ⟨sl,e⟩:=I.base.slot L o ho (I.ok.frf L hL) hL fun z=>I.ok.exfs L z hL
   exact ⟨hk,⟨L,_,hf,hn,e,hd⟩,ih (fun b hb=>hs b (by unfold frs;rw [Yy,hf];exact Qp _ hb)) hr⟩
 exact all X.outer (fun _ hb=>hb) I.ok.funs
theorem Inv.stack (I:Inv X pins σ H s):s.heap.FunFrames X.base X.stack:=by
 rcases I.ok.stk with e | ⟨e,hf⟩
 ·rw [e];exact I.funs
 ·rw [e]
  obtain ⟨m,hn,_⟩:=I.loc
  refine .cons (by rw [I.ok.kind];decide) hf hn ?_ I.funs
  exact Heap.get?_none_of_le (Qh I.ok.bsz I.ok.above)
theorem Inv.stkSub (I:Inv X pins σ H s):∀b∈frs X.stack,b∈X.env.locals::X.fs:=fun b hb=>by
 rcases I.ok.stk with e | ⟨e,hf⟩
 ·rw [e] at hb;exact Qp _ hb
 ·rw [e] at hb
  unfold frs at hb
  rw [Yy,hf] at hb
  exact hb
theorem Inv.stkFree (I:Inv X pins σ H s):∀b∈frs X.stack,H b=none:=fun b hb=>by
 rcases Qw.mp (I.stkSub b hb) with e | hb
 ·rw [e];exact I.free
 ·obtain ⟨_,o,ho,_⟩:=I.ok.funs.mem hb
  exact I.base.free b o ho (I.ok.frf b hb) fun z=>I.ok.exfs b z hb
theorem Inv.step {g':Array GenState} {t':Nat} {d':Drawn} {ch:List Addr} (I:Inv X pins σ H s)
  (hch:∀b∈ch,(b∈X.ex∨X.s₀.heap.objs.size≤b)∧b≠X.env.locals∧(∀x c,X.env.cells.lookup x=some c→c≠b)∧∀p∈X.pn++pins,p.1≠b)
  (keep:∀b o,b≠X.env.locals→b∉X.fs→b∉ch→s.heap.get? b=some o→H b=none→h'.get? b=some o)
  (slot:∀b o,b≠X.env.locals→b∈X.fs→b∉ch→s.heap.get? b=some o→H b=none→∃sl,h'.get? b=some {o with slots:=sl}) (free:∀b o,b∉ch→s.heap.get? b=some o→H b=none→H' b=none)
  (there:∀b o,b∉ch→s.heap.get? b=some o→∃o',h'.get? b=some o')
  (tups:∀b xs,H b=some (.tup xs)→H' b=some (.tup xs)) (frzs:∀b o u,H b=some (.frz o u)→H' b=some (.frz o u)) (tbls:∀b ps,H b=some (.tbl ps)→∃more,H' b=some (.tbl (ps++more)))
  (ns:∀m,s.heap.Ns X.env.locals m→h'.Ns X.env.locals m) (hok:HOk X.prog X.w H' h') (hg:AllBare g'):
  Inv X pins σ H' {s with heap:=h',gens:=g',drawn:=d',toks:=t'}:=by
 have neL:∀b o,X.s₀.heap.get? b=some o→b≠X.env.locals:=fun b o e=>Xe (Xc (Qx e) I.ok.above)
 have neC:∀b o,X.s₀.heap.get? b=some o→b∉X.ex→b∉ch:=fun b o e hx hb=>by
  rcases (hch b hb).1 with z | z
  ·exact hx z
  ·exact absurd (Xc (Qx e) z) (Zh _)
 have cellK:∀x c,X.env.cells.lookup x=some c→∀v,s.heap.IsCell c v→h'.IsCell c v:=fun x c e v ⟨o,ho,hd⟩=>by
  have nch:c∉ch:=fun z=>(hch c z).2.2.1 x c e rfl
  by_cases hc:c∈X.fs
  ·obtain ⟨sl,q⟩:=slot c o (I.cne x c e) hc nch ho (I.freeC x c e)
   exact ⟨_,q,hd⟩
  ·exact ⟨o,keep c o (I.cne x c e) hc nch ho (I.freeC x c e),hd⟩
 refine ⟨I.ok,I.os,hg,⟨fun b o e n hb hx=>?_,fun b o e n hb hx=>?_,fun b o e n hx=>?_,fun b o e hx=>?_,fun b xs e=>tups b xs (I.base.tups b xs e),fun b o xs e=>frzs b o xs (I.base.frzs b o xs e),fun b ps e=>?_⟩,?_,fun x c e=>?_,?_,fun x c e=>?_,fun p hp=>?_,hok,I.len⟩
 ·exact keep b o (neL b o e) hb (neC b o e hx) (I.base.keep b o e n hb hx) (I.base.free b o e n hx)
 ·obtain ⟨sl,e1⟩:=I.base.slot b o e n hb hx
  obtain ⟨sl',e2⟩:=slot b _ (neL b o e) hb (neC b o e hx) e1 (I.base.free b o e n hx)
  exact ⟨sl',e2⟩
 ·obtain ⟨o',e1⟩:=I.base.there b o e hx
  exact free b o' (neC b o e hx) e1 (I.base.free b o e n hx)
 ·obtain ⟨o',e1⟩:=I.base.there b o e hx
  exact there b o' (neC b o e hx) e1
 ·obtain ⟨m1,e1⟩:=I.base.tbls b ps e
  obtain ⟨m2,e2⟩:=tbls b _ e1
  exact ⟨m1++m2,by rw [e2,Wu]⟩
 ·obtain ⟨m,hn,hl⟩:=I.loc
  refine ⟨m,ns m hn,fun i x v e1 e2 e3=>?_⟩
  obtain ⟨u,r,l⟩:=hl i x v e1 e2 e3
  refine ⟨u,r,?_⟩
  rcases l with l | ⟨k,c,e,z⟩
  ·exact .inl l
  ·exact .inr ⟨k,c,e,cellK x c e _ z⟩
 ·obtain ⟨v,z⟩:=I.cell x c e
  exact ⟨v,cellK x c e v z⟩
 ·obtain ⟨m,⟨o,_,_,ho,_⟩,_⟩:=I.loc
  exact free _ o (fun z=>(hch _ z).2.1 rfl) ho I.free
 ·obtain ⟨v,o,ho,hd⟩:=I.cell x c e
  exact free c o (fun z=>(hch c z).2.2.1 x c e rfl) ho (I.freeC x c e)
 ·obtain ⟨e,n,ne,nf,d⟩:=I.pin p hp
  have nch:p.1∉ch:=fun z=>(hch p.1 z).2.2.2 p hp rfl
  exact ⟨keep p.1 p.2 ne nf nch e n,free p.1 p.2 nch e n,ne,nf,d⟩
theorem Inv.un {t':Nat} (I:Inv X pins σ H s) (u:Un X.fs [] H H' s.heap h') (hok:HOk X.prog X.w H' h'):Inv X pins σ H' {s with heap:=h',toks:=t'}:=by
 obtain ⟨m,⟨o,es,ep,ho,r⟩,_⟩:=id I.loc
 obtain ⟨sl,hL⟩:=u.any ho I.free (by simp)
 exact I.step (g':=s.gens) (d':=s.drawn) (ch:=[]) (fun _ z=>nomatch z) (fun b o _ hb _ e n=>u.keep b o e n hb (by simp)) (fun b o _ hb _ e n=>u.slot b o e n hb (by simp)) (fun b o _ e n=>u.free b o e n (by simp)) (fun b o _ e=>u.there b o e (by simp)) u.tups u.frzs u.tbls (fun m' hm=>by
  obtain ⟨o',es',ep',ho',r'⟩:=hm
  rw [ho] at ho';cases ho'
  exact ⟨_,es',ep',hL,r'⟩) hok I.bare
theorem Inv.call {g':Array GenState} {t':Nat} {d':Drawn} {ch:List Addr} (I:Inv X pins σ H s) (u:Un (frs X.stack) ch H H' s.heap h') (hok:HOk X.prog X.w H' h') (hg:AllBare g')
  (hch:∀b∈ch,(b∈X.ex∨X.s₀.heap.objs.size≤b)∧b≠X.env.locals∧(∀x c,X.env.cells.lookup x=some c→c≠b)∧∀p∈X.pn++pins,p.1≠b):
  Inv X pins σ H' {s with heap:=h',gens:=g',drawn:=d',toks:=t'}:=by
 obtain ⟨m,⟨o,es,ep,ho,r⟩,_⟩:=id I.loc
 obtain ⟨sl,hL⟩:=u.any ho I.free fun z=>(hch _ z).2.1 rfl
 exact I.step (ch:=ch) hch (fun b o hL hb hc e n=>u.keep b o e n (fun z=>(Qw.mp (I.stkSub b z)).elim hL hb) hc) (fun b o _ _ hc e n=>u.any e n hc) (fun b o hc e n=>u.free b o e n hc) (fun b o hc e=>u.there b o e hc) u.tups u.frzs u.tbls (fun m' hm=>by
  obtain ⟨o',es',ep',ho',r'⟩:=hm
  rw [ho] at ho';cases ho'
  exact ⟨_,es',ep',hL,r'⟩) hok hg
theorem Inv.turned {t':Nat} {it:Addr} (I:Inv X pins σ H s) (k:∀b o,b≠it→s.heap.get? b=some o→h'.get? b=some o) (hn:H it=none) (hL:it≠X.env.locals)
  (h1:it∈X.ex∨X.s₀.heap.objs.size≤it) (h2:∀x c,X.env.cells.lookup x=some c→c≠it) (h3:∀p∈X.pn++pins,p.1≠it):Inv X pins σ H {s with heap:=h',toks:=t'}:=by
 have nit:∀b u,H b=some u→b≠it:=fun b u e z=>by rw [z,hn] at e;cases e
 refine I.step (g':=s.gens) (d':=s.drawn) (ch:=[it]) (fun b hb=>?_) (fun b o _ _ hc e _=>k b o (fun z=>hc (by simp [z])) e) (fun b o _ _ hc e _=>⟨o.slots,k b o (fun z=>hc (by simp [z])) e⟩) (fun _ _ _ _ n=>n)
  (fun b o hc e=>⟨o,k b o (fun z=>hc (by simp [z])) e⟩) (fun _ _ e=>e) (fun _ _ _ e=>e) (fun b ps e=>⟨#[],by rw [e];simp⟩) (fun m hm=>?_) (fun b u e=>?_) I.bare
 ·have e:b=it:=by simpa using hb
  subst e
  exact ⟨h1,hL,h2,h3⟩
 ·obtain ⟨o,es,ep,ho,r⟩:=hm
  exact ⟨o,es,ep,k _ o (Ne.symm hL) ho,r⟩
 ·refine (I.hok b u e).stay (fun c v hc q=>k c v ?_ q) (fun _ q=>q) fun _ _ q=>q
  rcases hc with z | z
  ·rw [z];exact nit b u e
  ·exact nit c _ z
theorem Inv.tok (I:Inv X pins σ H s) (t:Nat):Inv X pins σ H {s with toks:=t}:=I.un (h':=s.heap) (t':=t) Un.refl I.hok
theorem Inv.kept {t':Nat} (I:Inv X pins σ H s) (k:∀b u,s.heap.get? b=some u→h'.get? b=some u):Inv X pins σ H {s with heap:=h',toks:=t'}:=I.un (Un.kept k) (I.hok.kept k)
theorem Inv.laid {a:Addr} {o:HO} {t':Nat} (I:Inv X pins σ H s) (k:∀b u,s.heap.get? b=some u→h'.get? b=some u) (hp:s.heap.objs.size≤a) (new:a1e X.prog X.w (upd H a o) h' a o):
  Inv X pins σ (upd H a o) {s with heap:=h',toks:=t'}:=I.un (Un.laid k hp (I.hok.fresh hp)) (I.hok.laid k hp new)
theorem Inv.write {x e:Addr} {o:HO} {t':Nat} (I:Inv X pins σ H s) (mu:Mut (H x)) (he:e=x∨H e=some (.own x)) (k:∀b u,b≠e→s.heap.get? b=some u→h'.get? b=some u) (heo:∃u,h'.get? e=some u)
  (new:a1e X.prog X.w (upd H x o) h' x o):Inv X pins σ (upd H x o) {s with heap:=h',toks:=t'}:=I.un (Un.write mu he k heo) (I.hok.write mu he k heo new)
theorem Inv.pins_of {pins':List (Addr×Obj)} (I:Inv X pins σ H s) (h:∀p∈pins',s.heap.get? p.1=some p.2∧H p.1=none∧p.1≠X.env.locals∧p.1∉X.fs∧∀v,p.2.data≠.cell v):Inv X pins' σ H s:=
 ⟨I.ok,I.os,I.bare,I.base,I.loc,I.cell,I.free,I.freeC,fun p hp=>(Qq.mp hp).elim (fun z=>I.pin p (Xl _ z)) (h p),I.hok,I.len⟩
theorem a6S {N:List Str} (hN:N.Nodup) {i j:Nat} {x:Str} (a:N[i]?=some x) (b:N[j]?=some x):i=j:=by
 obtain ⟨h1,e1⟩:=Qr.mp a
 obtain ⟨h2,e2⟩:=Qr.mp b
 exact (Zt hN).mp (e1.trans e2.symm)
theorem a5f {M:Model} {A:Around} {E:Value→Shared→Prop} {i:Nat} {x:Str} {v:V} {u:Value} {Q:Unit→Shared→Prop} (I:Inv X pins σ H s) (hN:X.N.Nodup) (hi:X.N[i]?=some x) (hx:Loc X.env.scope x) (r:a0N v u)
  (h:∀s',Inv X pins (σ.set i (some v)) H s'→(∃a,Vi a s.heap s'.heap∧(a=X.env.locals∨X.env.cells.lookup x=some a))→Q () s') (hf:X.fn x=true∨X.env.scope.names.lookup x=some .local:=by first | exact .inl rfl | exact .inr rfl | assumption):wpAny M A (storeName X.env x u) Q E s:=by
 obtain ⟨m,hn,hl⟩:=id I.loc
 have hcls:(X.env.scope.kind == .class || (X.env.scope.kind == .module && X.env.locals != X.env.globals))=false:=by rw [I.ok.kind];rfl
 have hiσ:i < σ.length:=by rw [I.len];exact (Qr.mp hi).1
 have cne:=I.cne
 have tracked:∀{a:Addr} {h':Heap},(∃o,s.heap.get? a=some o∧H a=none)→Vi a s.heap h'→HOk X.prog X.w H h':=fun {a h'} ha hs b ob e=>by
  obtain ⟨_,_,hfree⟩:=ha
  refine (I.hok b ob e).stay (fun c w' hc q=>(hs.2 c ?_).trans q) (fun _ q=>q) fun _ _ q=>q
  rintro rfl
  rcases hc with rfl | hc
  ·rw [hfree] at e;cases e
  ·rw [hfree] at hc;cases hc
 rcases hx with hk | hk
 ·refine wpAny_storeName_local hk hn (fun h' hn' hs=>?_) hcls
  obtain ⟨oL,_,_,hoL,_⟩:=id hn
  refine h _ ⟨I.ok,I.os,I.bare,⟨fun b o e n hb hx=>?_,fun b o e n hb hx=>?_,I.base.free,fun b o e hx=>?_,I.base.tups,I.base.frzs,I.base.tbls⟩,⟨_,hn',fun j y v' e1 e2 e3=>?_⟩,fun y c e=>?_,I.free,I.freeC,fun p hp=>?_,tracked ⟨oL,hoL,I.free⟩ hs,by simpa using I.len⟩ ⟨_,hs,.inl rfl⟩
  ·exact (hs.2 b (Xe (Xc (Qx e) I.ok.above))).trans (I.base.keep b o e n hb hx)
  ·obtain ⟨sl,e1⟩:=I.base.slot b o e n hb hx
   exact ⟨sl,(hs.2 b (Xe (Xc (Qx e) I.ok.above))).trans e1⟩
  ·obtain ⟨o',e1⟩:=I.base.there b o e hx
   exact ⟨o',(hs.2 b (Xe (Xc (Qx e) I.ok.above))).trans e1⟩
  ·by_cases hj:j=i
   ·subst hj
    rw [hi] at e1;cases e1
    rw [Vx hiσ] at e2
    cases e2
    exact ⟨u,r,.inl ⟨hk,by simp⟩⟩
   ·rw [Wk (Ne.symm hj)] at e2
    obtain ⟨u',r',q⟩:=hl j y v' e1 e2 e3
    refine ⟨u',r',?_⟩
    rcases q with ⟨k,e⟩ | ⟨k,c,e,z⟩
    ·refine .inl ⟨k,?_⟩
     have:y≠x:=fun e=>hj (a6S hN e1 (e ▸ hi))
     simp [this,e]
    ·exact .inr ⟨k,c,e,z.sameBut hs (cne y c e)⟩
  ·obtain ⟨w',z⟩:=I.cell y c e
   exact ⟨w',z.sameBut hs (cne y c e)⟩
  ·obtain ⟨e,n,ne,nf,d⟩:=I.pin p hp
   exact ⟨(hs.2 p.1 ne).trans e,n,ne,nf,d⟩
 ·have hfn:X.fn x=true:=by
   rcases hf with z | z
   ·exact z
   ·rw [z] at hk;cases hk
  obtain ⟨c,hc⟩:=I.ok.has x (.inl hk)
  obtain ⟨w',z⟩:=I.cell x c hc
  refine wpAny_storeName_cell I.ok.kind hk hc z (fun h' hc' hs=>?_)
  obtain ⟨oc,hoc,hocd⟩:=id z
  refine h {s with heap:=h'} ⟨I.ok,I.os,I.bare,⟨fun b o e n hb hx=>?_,fun b o e n hb hx=>?_,I.base.free,fun b o e hx=>?_,I.base.tups,I.base.frzs,I.base.tbls⟩,⟨m,hn.sameBut hs (Ne.symm (cne x c hc)),fun j y v' e1 e2 e3=>?_⟩,fun y c' e=>?_,I.free,I.freeC,fun p hp=>?_,tracked ⟨oc,hoc,I.freeC x c hc⟩ hs,by simpa using I.len⟩ ⟨c,hs,.inr hc⟩
  ·exact (hs.2 b (Xe (Xc (Qx e) (I.ok.cab x c hfn hc)))).trans (I.base.keep b o e n hb hx)
  ·obtain ⟨sl,e1⟩:=I.base.slot b o e n hb hx
   exact ⟨sl,(hs.2 b (Xe (Xc (Qx e) (I.ok.cab x c hfn hc)))).trans e1⟩
  ·obtain ⟨o',e1⟩:=I.base.there b o e hx
   exact ⟨o',(hs.2 b (Xe (Xc (Qx e) (I.ok.cab x c hfn hc)))).trans e1⟩
  ·by_cases hj:j=i
   ·subst hj
    rw [hi] at e1;cases e1
    rw [Vx hiσ] at e2
    cases e2
    exact ⟨u,r,.inr ⟨.inl hk,c,hc,hc'⟩⟩
   ·rw [Wk (Ne.symm hj)] at e2
    obtain ⟨u',r',q⟩:=hl j y v' e1 e2 e3
    refine ⟨u',r',?_⟩
    rcases q with q | ⟨k,c',e,z'⟩
    ·exact .inl q
    ·refine .inr ⟨k,c',e,z'.sameBut hs ?_⟩
     rintro rfl
     exact hj (a6S hN e1 (I.ok.inj _ _ _ e hc ▸ hi))
  ·by_cases hcc:c'=c
   ·subst hcc;exact ⟨_,hc'⟩
   ·obtain ⟨w2,z2⟩:=I.cell y c' e
    exact ⟨w2,z2.sameBut hs hcc⟩
  ·obtain ⟨e,n,ne,nf,d⟩:=I.pin p hp
   refine ⟨(hs.2 p.1 ?_).trans e,n,ne,nf,d⟩
   intro q
   rw [q,hoc] at e
   have q':oc=p.2:=Option.some.inj e
   exact d w' (by rw [←q'];exact hocd)
theorem a6W {M:Model} {A:Around} {E:Value→Shared→Prop} {i:Nat} {x:Str} {v:V} {u:Value} {Q:Unit→Shared→Prop} (I:Inv X pins σ H s) (hN:X.N.Nodup) (hi:X.N[i]?=some x) (hx:Loc X.env.scope x) (r:a0N v u)
  (h:∀s',Inv X pins (σ.set i (some v)) H s'→Q () s') (hf:X.fn x=true∨X.env.scope.names.lookup x=some .local:=by first | exact .inl rfl | exact .inr rfl | assumption):wpAny M A (storeName X.env x u) Q E s:=
 a5f I hN hi hx r (fun s' I' _=>h s' I') hf
theorem Inv.call' {s':Shared} {ch:List Addr} (I:Inv X pins σ H s) (ho:s'.os=s.os) (u:Un (frs X.stack) ch H H' s.heap s'.heap) (hok:HOk X.prog X.w H' s'.heap) (hg:AllBare s'.gens)
  (hch:∀b∈ch,(b∈X.ex∨X.s₀.heap.objs.size≤b)∧b≠X.env.locals∧(∀x c,X.env.cells.lookup x=some c→c≠b)∧∀p∈X.pn++pins,p.1≠b):Inv X pins σ H' s':=by
 obtain ⟨h',g',d',t',o'⟩:=s'
 have e:o'=s.os:=ho
 subst e
 exact I.call (g':=g') (t':=t') (d':=d') u hok hg hch
end
abbrev XK:=Value→Option Addr→Hp→Prop
abbrev St:=List (Option V)
abbrev VK:=V→Hp→Prop
abbrev TE:=St→Hp→VK→Prop
abbrev TT:=St→Hp→(Bool→Hp→Prop)→Prop
abbrev TA:=St→Hp→(List V→Hp→Prop)→Prop
structure a7M where
 nx:St→Hp→Prop
 rt:VK
 bk:St→Hp→Prop:=fun _ _=>False
 ct:St→Hp→Prop:=fun _ _=>False
abbrev TS:=a7M→St→Hp→Prop
def EP (X:Cx) (pins:List (Addr×Obj)) (σ:St) (Q:VK) (u:Value) (s':Shared):Prop:=∃v H',Inv X pins σ H' s'∧a0N v u∧Q v H'
def TP (X:Cx) (pins:List (Addr×Obj)) (σ:St) (Q:Bool→Hp→Prop) (b:Bool) (s':Shared):Prop:=∃H',Inv X pins σ H' s'∧Q b H'
def AP (X:Cx) (pins:List (Addr×Obj)) (σ:St) (Q:List V→Hp→Prop) (us:List Value) (s':Shared):Prop:=∃vs H',Inv X pins σ H' s'∧a0H vs us∧Q vs H'
def SP (X:Cx) (pins:List (Addr×Obj)) (D:a7M) (f:Flow) (s':Shared):Prop:=
 match f with
 | .next=>∃σ' H',Inv X pins σ' H' s'∧D.nx σ' H'
 | .brk=>∃σ' H',Inv X pins σ' H' s'∧D.bk σ' H'
 | .cont=>∃σ' H',Inv X pins σ' H' s'∧D.ct σ' H'
 | .ret u=>∃v σ' H',Inv X pins σ' H' s'∧a0N v u∧D.rt v H'
def PE (X:Cx) (e:Expr) (t:TE):Prop:=
 ∀(pins:List (Addr×Obj)) (s:Shared) (σ:St) (H:Hp) (Q:VK),Inv X pins σ H s→t σ H Q→wpAny (model X.prog X.w) X.A (eval e X.env) (EP X pins σ Q) X.xe s
def PT (X:Cx) (e:Expr) (t:TT):Prop:=
 ∀(pins:List (Addr×Obj)) (s:Shared) (σ:St) (H:Hp) (Q:Bool→Hp→Prop),Inv X pins σ H s→t σ H Q→wpAny (model X.prog X.w) X.A (isTrue e X.env (eval e X.env)) (TP X pins σ Q) X.xe s
def PW (X:Cx) (e:Expr) (t:TT):Prop:=
 ∀(whole:Sem Value) (pins:List (Addr×Obj)) (s:Shared) (σ:St) (H:Hp) (Q:Bool→Hp→Prop),Inv X pins σ H s→t σ H Q→wpAny (model X.prog X.w) X.A (isTrue e X.env whole) (TP X pins σ Q) X.xe s
theorem PW.pt {X:Cx} {e:Expr} {t:TT} (h:PW X e t):PT X e t:=h _
def PA (X:Cx) (es:List Expr) (t:TA):Prop:=
 ∀(pos:Pos) (pins:List (Addr×Obj)) (s:Shared) (σ:St) (H:Hp) (Q:List V→Hp→Prop),Inv X pins σ H s→t σ H Q→wpAny (model X.prog X.w) X.A (spliced (backTo pos (starEach es X.env))) (AP X pins σ Q) X.xe s
def PS (X:Cx) (st:Stmt) (t:TS):Prop:=
 ∀(pins:List (Addr×Obj)) (s:Shared) (σ:St) (H:Hp) (D:a7M),Inv X pins σ H s→t D σ H→wpAny (model X.prog X.w) X.A (exec st X.env) (SP X pins D) X.xe s
def PSs (X:Cx) (st:List Stmt) (t:TS):Prop:=
 ∀(pins:List (Addr×Obj)) (s:Shared) (σ:St) (H:Hp) (D:a7M),Inv X pins σ H s→t D σ H→wpAny (model X.prog X.w) X.A (execs st X.env) (SP X pins D) X.xe s
theorem thn {α:Type} {t:Sem α} {Q Q':α→Shared→Prop} {M:Model} {A:Around} {E:Value→Shared→Prop} {s:Shared} (h:wpAny M A t Q E s) (hQ:∀a s,Q a s→Q' a s):wpAny M A t Q' E s:=wpAny_mono h hQ fun _ _ x=>x
end L2
namespace L2
open PySem PySem.Spec PyProof.Rows
section
variable {X:Cx}
theorem bin {a b:Expr} {ta tb:TE} (ha:PE X a ta) (hb:PE X b tb) {pins:List (Addr×Obj)} {s:Shared} {σ:St} {H:Hp} {R:V→V→Hp→Prop} (I:Inv X pins σ H s) (h:ta σ H fun x H1=>tb σ H1 fun y H2=>R x y H2)
  {α:Type} {Q:α→Shared→Prop} {f:Value→Value→Sem α}
  (hf:∀v u s2 x y H2,Inv X pins σ H2 s2→a0N x v→a0N y u→R x y H2→wpAny (model X.prog X.w) X.A (f v u) Q X.xe s2):
  wpAny (model X.prog X.w) X.A (eval a X.env) (fun v s₁=>wpAny (model X.prog X.w) X.A (eval b X.env) (fun u s₂=>wpAny (model X.prog X.w) X.A (f v u) Q X.xe s₂) X.xe s₁) X.xe s:=by
 refine thn (ha pins s σ H _ I h) fun v s1 ⟨x,H1,I1,r1,q1⟩=>?_
 refine thn (hb pins s1 σ H1 _ I1 q1) fun u s2 ⟨y,H2,I2,r2,q2⟩=>?_
 exact hf v u s2 x y H2 I2 r1 r2 q2
def a0k (i:Nat):TE:=fun σ H Q=>∃v,σ[i]?=some (some v)∧Q v H
def tC (v:V):TE:=fun _ H Q=>Q v H
theorem b8W {i:Nat} {x:Str} {pos:Pos} (hN:X.N[i]?=some x) (hv:Vis X.env.scope x) (hd:(x == ("__debug__":Str))=false:=by decide) (hcd:(x == ("__classdict__":Str))=false:=by decide):PE X (.Name x pos) (a0k i):=by
 intro pins s σ H Q I h
 obtain ⟨v,e,h⟩:=h
 obtain ⟨m,hn,hl⟩:=I.loc
 obtain ⟨u,r,l⟩:=hl i x v hN e hv
 have fin:EP X pins σ Q u s:=⟨v,H,I,r,h⟩
 rcases l with ⟨hk,hm⟩ | ⟨hk,c,hc,hcell⟩
 ·exact wpAny_Name (wpAny_loadName_local I.ok.kind hk hn hm fin) hd
 ·rcases hk with hk | hk
  ·exact wpAny_Name (wpAny_loadName_cell I.ok.kind hk hc hcell fin) hd
  ·exact wpAny_Name (wpAny_loadName_free I.ok.kind hk hc hcell fin hcd) hd
theorem b8b {i j pos}:PE X (.Constant (.int i) j pos) (tC (.int i)):=fun _ _ _ H _ I h=>wpAny_Constant_int ⟨.int i,H,I.tok _,⟨_,rfl⟩,h⟩
theorem c0o {b j pos}:PE X (.Constant (.bool b) j pos) (tC (.bl b)):=fun _ _ _ H _ I h=>Constant_bool ⟨.bl b,H,I,rfl,h⟩
theorem b8e {j pos}:PE X (.Constant .none j pos) (tC .non):=fun _ _ _ H _ I h=>Constant_none ⟨.non,H,I,rfl,h⟩
theorem b7i {x j pos}:PE X (.Constant (.str x) j pos) (tC (.str x)):=fun _ _ _ H _ I h=>Calls.Constant_str ⟨.str x,H,I.tok _,⟨_,rfl⟩,h⟩
def Gl (X:Cx) (x:Str):Prop:=X.env.kindOf x=some .globalImplicit
theorem a6F {E:Value→Shared→Prop} {pins:List (Addr×Obj)} {s:Shared} {σ:St} {H:Hp} {x:Str} {u:Value} {pos:Pos} {Q:Value→Shared→Prop} (I:Inv X pins σ H s) (hg:Gl X x) (hm:X.mg x=some u) (h:Q u s)
  (hd:(x == ("__debug__":Str))=false:=by decide):wpAny (model X.prog X.w) X.A (eval (.Name x pos) X.env) Q E s:=
 Calls.Name_function_global I.ok.kind hg (Calls.loadGlobal_global (by rw [I.ok.glob];exact I.mod.glob.keeps I.bk) hm h) hd
theorem a4n {E:Value→Shared→Prop} {pins:List (Addr×Obj)} {s:Shared} {σ:St} {H:Hp} {x:Str} {u:Value} {pos:Pos} {Q:Value→Shared→Prop} (I:Inv X pins σ H s) (hg:Gl X x) (hm:X.mg x=none) (hv:bootBuiltins x=some u) (h:Q u s)
  (hn:x≠"__name__":=by decide) (hd:(x == ("__debug__":Str))=false:=by decide):wpAny (model X.prog X.w) X.A (eval (.Name x pos) X.env) Q E s:=by
 obtain ⟨mb,h1,h2⟩:=I.mod.blt
 exact Calls.Name_function_global I.ok.kind hg (Calls.loadGlobal_builtin (by rw [I.ok.glob];exact I.mod.glob.keeps I.bk) hm (by rw [I.ok.blt];exact h1.keeps I.bk) ((h2 x hn).trans hv) h) hd
theorem b5d {x:Str} {v:V} {u:Value} {pos:Pos} (hg:Gl X x) (hm:X.mg x=some u) (r:a0N v u) (hd:(x == ("__debug__":Str))=false:=by decide):PE X (.Name x pos) (tC v):=
 fun _ _ _ H _ I h=>a6F I hg hm ⟨v,H,I,r,h⟩ hd
variable {a b:Expr} {ta tb:TE} {pos:Pos}
def PC (X:Cx) (op:CmpOp) (a b:Expr) (t:TE):Prop:=
 ∀(pins:List (Addr×Obj)) (s:Shared) (σ:St) (H:Hp) (Q:VK),Inv X pins σ H s→t σ H Q→
  wpAny (model X.prog X.w) X.A (eval a X.env) (fun v s₁=>wpAny (model X.prog X.w) X.A (eval b X.env) (fun u s₂=>wpAny (model X.prog X.w) X.A (compareOp op v u) (EP X pins σ Q) X.xe s₂) X.xe s₁) X.xe s
theorem a7h (b:Expr) {op:CmpOp} (h:op≠.In) (h2:op≠.NotIn):behindInMarks op b=false:=by
 have e1:(op == CmpOp.In)=false:=by cases op<;>first | rfl | exact absurd rfl h
 have e2:(op == CmpOp.NotIn)=false:=by cases op<;>first | rfl | exact absurd rfl h2
 cases b<;>simp [behindInMarks,e1,e2]
def tB (t:TE):TT:=fun σ H Q=>t σ H fun x H1=>∃c,x=.bl c∧Q c H1
theorem b9s {op:CmpOp} {t:TE} (h:PC X op a b t) (h1:behindInMarks op b=false:=by first | exact a7h _ (by decide) (by decide) | rfl):PE X (.Compare a [op] [b] pos) t:=fun pins s σ H Q I hw=>wpAny_Compare1 (h pins s σ H Q I hw) h1
theorem b8k {op:CmpOp} {t:TE} (h:PC X op a b t) (h1:behindInMarks op b=false:=by first | exact a7h _ (by decide) (by decide) | rfl):PT X (.Compare a [op] [b] pos) (tB t):=by
 intro pins s σ H Q I hw
 refine wpAny_isTrue_Compare1 (thn (h pins s σ H _ I hw) fun v s1 h1=>thn h1 fun u s2 h2=>thn h2 fun c s3 ⟨x,H1,I1,r1,q1⟩=>?_) h1
 obtain ⟨d,rfl,q⟩:=q1
 cases r1
 exact wpAny_truthy_bool ⟨H1,I1,q⟩
theorem b7l {e:Expr} {t:TE} (h:PE X e t) (he:∀whole,isTrue e X.env whole=(do let v ←whole;standAt e.pos;holding [v] (truthy v)):=by intro _;rfl):PT X e (tB t):=by
 intro pins s σ H Q I hw
 refine isTrue_plain (thn (h pins s σ H _ I hw) fun v s1 ⟨x,H1,I1,r1,q1⟩=>?_) (he _)
 obtain ⟨d,rfl,q⟩:=q1
 cases r1
 exact wpAny_truthy_bool ⟨H1,I1,q⟩
variable {tA tB':TT} {a5L:List Expr}
def b9N (t u:TT):TT:=fun σ H Q=>t σ H fun c H1=>if c=true then u σ H1 Q else Q false H1
def tOr (t u:TT):TT:=fun σ H Q=>t σ H fun c H1=>if c=true then Q true H1 else u σ H1 Q
def c3H (t:TT):TT:=fun σ H Q=>t σ H fun c H1=>Q (!c) H1
theorem b5D (ha:PT X a tA):PW X (.BoolOp .And [a] pos) tA:=by
 intro wh pins s σ H Q I h
 refine isTrue_and (thn (ha pins s σ H Q I h) fun c s1 e=>?_)
 cases c with
 | true=>exact isTrue_and_nil e
 | false=>exact e
theorem b6g (ha:PT X a tA):PW X (.BoolOp .Or [a] pos) tA:=by
 intro wh pins s σ H Q I h
 refine isTrue_or (thn (ha pins s σ H Q I h) fun c s1 e=>?_)
 cases c with
 | false=>exact isTrue_or_nil e
 | true=>exact e
theorem b8O (ha:PT X a tA) (hb:PW X (.BoolOp .And (b::a5L) pos) tB'):PW X (.BoolOp .And (a::b::a5L) pos) (b9N tA tB'):=by
 intro wh pins s σ H Q I h
 refine isTrue_and (thn (ha pins s σ H _ I h) fun c s1 ⟨H1,I1,q1⟩=>?_)
 cases c with
 | true=>exact hb wh pins s1 σ H1 Q I1 q1
 | false=>exact ⟨H1,I1,q1⟩
theorem c0k (ha:PT X a tA) (hb:PW X (.BoolOp .Or (b::a5L) pos) tB'):PW X (.BoolOp .Or (a::b::a5L) pos) (tOr tA tB'):=by
 intro wh pins s σ H Q I h
 refine isTrue_or (thn (ha pins s σ H _ I h) fun c s1 ⟨H1,I1,q1⟩=>?_)
 cases c with
 | true=>exact ⟨H1,I1,q1⟩
 | false=>exact hb wh pins s1 σ H1 Q I1 q1
theorem b8s (ha:PT X a tA):PT X (.UnaryOp .Not a pos) (c3H tA):=by
 intro pins s σ H Q I h
 exact isTrue_not (ha pins s σ H (fun c H1=>Q (!c) H1) I h)
def b6P (ta tb:TE):TE:=fun σ H Q=>ta σ H fun x H1=>∃c,x=.bl c∧if c=true then tb σ H1 Q else Q (.bl false) H1
def c2X (ta tb:TE):TE:=fun σ H Q=>ta σ H fun x H1=>∃c,x=.bl c∧if c=true then Q (.bl true) H1 else tb σ H1 Q
def b8z (ta:TE):TE:=fun σ H Q=>ta σ H fun x H1=>∃c,x=.bl c∧Q (.bl (!c)) H1
theorem b9o {op} {t:TE} (h:PE X a t):PE X (.BoolOp op [a] pos) t:=fun pins s σ H Q I hw=>BoolOp_one (h pins s σ H Q I hw)
theorem b8p (ha:PE X a ta) (hb:PE X (.BoolOp .And (b::a5L) pos) tb):PE X (.BoolOp .And (a::b::a5L) pos) (b6P ta tb):=by
 intro pins s σ H Q I h
 refine BoolOp_and (thn (ha pins s σ H _ I h) fun v s1 ⟨x,H1,I1,r1,q1⟩=>?_)
 obtain ⟨c,rfl,q1⟩:=q1
 cases r1
 refine wpAny_truthy_bool ?_
 cases c with
 | true=>exact hb pins s1 σ H1 Q I1 q1
 | false=>exact ⟨.bl false,H1,I1,rfl,q1⟩
theorem c0w (ha:PE X a ta) (hb:PE X (.BoolOp .Or (b::a5L) pos) tb):PE X (.BoolOp .Or (a::b::a5L) pos) (c2X ta tb):=by
 intro pins s σ H Q I h
 refine BoolOp_or (thn (ha pins s σ H _ I h) fun v s1 ⟨x,H1,I1,r1,q1⟩=>?_)
 obtain ⟨c,rfl,q1⟩:=q1
 cases r1
 refine wpAny_truthy_bool ?_
 cases c with
 | false=>exact hb pins s1 σ H1 Q I1 q1
 | true=>exact ⟨.bl true,H1,I1,rfl,q1⟩
theorem b5X (ha:PE X a ta):PE X (.UnaryOp .Not a pos) (b8z ta):=by
 intro pins s σ H Q I h
 refine UnaryOp_ (thn (ha pins s σ H _ I h) fun v s1 ⟨x,H1,I1,r1,q1⟩=>?_)
 obtain ⟨c,rfl,q1⟩:=q1
 cases r1
 exact not_of (wpAny_truthy_bool ⟨.bl (!c),H1,I1,rfl,q1⟩)
def tIf (t:TT) (ta tb:TE):TE:=fun σ H Q=>t σ H fun c H1=>if c=true then ta σ H1 Q else tb σ H1 Q
theorem b1Q {c:Expr} (hc:PT X c tA) (ha:PE X a ta) (hb:PE X b tb):PE X (.IfExp c a b pos) (tIf tA ta tb):=by
 intro pins s σ H Q I h
 refine wpAny_IfExp (thn (hc pins s σ H _ I h) fun d s1 ⟨H1,I1,q1⟩=>?_)
 cases d with
 | true=>exact ha pins s1 σ H1 Q I1 q1
 | false=>exact hb pins s1 σ H1 Q I1 q1
end
end L2
namespace L2
open PySem PySem.Spec PyProof.Rows
def SqL (K:Qc) (H:Hp) (a:Addr) (xs:List V):Prop:=
 Rd H a (.lst xs)∨
  ∃(o:Obj) (its:Array Value) (n:Nat),K.lookup a=some o∧o.cls=.type "list"∧o.dict=none∧o.data=.seq its n∧its.size≤sizeLine∧a0H xs its.toList
def SqT (K:Qc) (H:Hp) (a:Addr) (xs:List V):Prop:=
 Rd H a (.tup xs)∨
  ∃(o:Obj) (its:Array Value) (n:Nat),K.lookup a=some o∧o.cls=.type "tuple"∧o.data=.seq its n∧its.size≤sizeLine∧a0H xs its.toList
def c5W:Value→Option V
 | .none=>some .non
 | .bool b=>some (.bl b)
 | .int i _=>some (.int i)
 | .str x _=>some (.str x)
 | .bytes b _=>some (.byt b)
 | .float b _=>some (.flt b)
 | .ref a=>some (.ref a)
 | .type n=>some (.ty n)
 | _=>none
theorem a0N.abs {x:V} {u:Value} (r:a0N x u):c5W u=some x:=by
 cases x with
 | non=>cases r;rfl
 | bl _=>cases r;rfl
 | int _=>obtain ⟨t,rfl⟩:=r;rfl
 | str _=>obtain ⟨t,rfl⟩:=r;rfl
 | byt _=>obtain ⟨t,rfl⟩:=r;rfl
 | flt _=>obtain ⟨t,rfl⟩:=r;rfl
 | ref _=>cases r;rfl
 | ty _=>cases r;rfl
theorem a0N.inj {x y:V} {u:Value} (r:a0N x u) (q:a0N y u):x=y:=Option.some.inj (r.abs.symm.trans q.abs)
theorem a0H.inj:∀{xs ys:List V} {us:List Value},a0H xs us→a0H ys us→xs=ys
 | _,_,_,.nil,.nil=>rfl
 | _,_,_,.cons r t,.cons r' t'=>by rw [r.inj r',a0H.inj t t']
section
variable {X:Cx} {pins:List (Addr×Obj)} {σ:St} {H:Hp} {s:Shared} {a:Addr} {xs ys:List V}
theorem SqL.of {K:Qc} (h:H a=some (.lst xs)):SqL K H a xs:=.inl (.inl h)
theorem SqT.of {K:Qc} (h:H a=some (.tup xs)):SqT K H a xs:=.inl (.inl h)
theorem Inv.list (I:Inv X pins σ H s) (h:SqL X.K H a xs):∃its:List Value,a0H xs its∧PlainL s.heap a its.toArray∧xs.length≤sizeLine:=by
 rcases h with h | ⟨o,its,n,hk,hc,hd,hs,hz,r⟩
 ·obtain ⟨z,its,n,r,e⟩:=h.ok I.hok
  exact ⟨its,r,⟨_,n,e,rfl,rfl,rfl⟩,z⟩
 ·refine ⟨its.toList,r,⟨o,n,I.kIn a o hk,hc,hd,by simpa using hs⟩,?_⟩
  have e:=r.length
  simp only [Yz] at e
  omega
theorem Inv.tuple (I:Inv X pins σ H s) (h:SqT X.K H a xs):∃its:List Value,a0H xs its∧IsTup s.heap a its.toArray∧xs.length≤sizeLine:=by
 rcases h with h | ⟨o,its,n,hk,hc,hs,hz,r⟩
 ·obtain ⟨z,its,r,p⟩:=h.ok I.hok
  exact ⟨its,r,p,z⟩
 ·refine ⟨its.toList,r,⟨o,I.kIn a o hk,hc,n,by simpa using hs⟩,?_⟩
  have e:=r.length
  simp only [Yz] at e
  omega
theorem Inv.list_inj (I:Inv X pins σ H s) (h:SqL X.K H a xs) (h':SqL X.K H a ys):xs=ys:=by
 obtain ⟨its,r,⟨o,n,e,_,_,d⟩,_⟩:=I.list h
 obtain ⟨its',r',⟨o',n',e',_,_,d'⟩,_⟩:=I.list h'
 rw [e] at e';cases e'
 rw [d] at d'
 injection d' with d1 _
 have:its=its':=by simpa using congrArg Array.toList d1
 subst this
 exact r.inj r'
theorem Inv.tuple_inj (I:Inv X pins σ H s) (h:SqT X.K H a xs) (h':SqT X.K H a ys):xs=ys:=by
 obtain ⟨its,r,⟨o,e,_,n,d⟩,_⟩:=I.tuple h
 obtain ⟨its',r',⟨o',e',_,n',d'⟩,_⟩:=I.tuple h'
 rw [e] at e';cases e'
 rw [d] at d'
 injection d' with d1 _
 have:its=its':=by simpa using congrArg Array.toList d1
 subst this
 exact r.inj r'
end
abbrev Cx.wish (X:Cx) (E:Value→Shared→Prop):Cx:={X with xe:=E}
abbrev Cx.nox (X:Cx):Cx:=X.wish fun _ _=>False
theorem Cx.Ok.wish {X:Cx} (ok:X.Ok) (E:Value→Shared→Prop):(X.wish E).Ok:=
 ⟨ok.mod,ok.kind,ok.glob,ok.blt,ok.above,ok.inj,ok.has,ok.cab,ok.hd,ok.frames,ok.stk,ok.exf,ok.bs,ok.bsz,ok.noex,ok.exfs,ok.funs,ok.frf⟩
theorem Cx.Ok.unwish {X:Cx} {E:Value→Shared→Prop} (ok:(X.wish E).Ok):X.Ok:=
 ⟨ok.mod,ok.kind,ok.glob,ok.blt,ok.above,ok.inj,ok.has,ok.cab,ok.hd,ok.frames,ok.stk,ok.exf,ok.bs,ok.bsz,ok.noex,ok.exfs,ok.funs,ok.frf⟩
section
variable {X:Cx} {pins:List (Addr×Obj)} {σ:St} {H:Hp} {s:Shared} {E:Value→Shared→Prop}
theorem Inv.wish (I:Inv X pins σ H s) (E:Value→Shared→Prop):Inv (X.wish E) pins σ H s:=⟨I.ok.wish E,I.os,I.bare,I.base,I.loc,I.cell,I.free,I.freeC,I.pin,I.hok,I.len⟩
theorem Inv.unwish (I:Inv (X.wish E) pins σ H s):Inv X pins σ H s:=⟨I.ok.unwish,I.os,I.bare,I.base,I.loc,I.cell,I.free,I.freeC,I.pin,I.hok,I.len⟩
theorem SP.unwish {D:a7M} {f:Flow} {s':Shared} (h:SP (X.wish E) pins D f s'):SP X pins D f s':=by
 cases f with
 | next=>obtain ⟨σ',H',I,q⟩:=h;exact ⟨σ',H',I.unwish,q⟩
 | brk=>obtain ⟨σ',H',I,q⟩:=h;exact ⟨σ',H',I.unwish,q⟩
 | cont=>obtain ⟨σ',H',I,q⟩:=h;exact ⟨σ',H',I.unwish,q⟩
 | ret u=>obtain ⟨v,σ',H',I,r,q⟩:=h;exact ⟨v,σ',H',I.unwish,r,q⟩
theorem PSs.nox {st:List Stmt} {t:TS} (h:PSs X.nox st t):PSs X st t:=fun pins s σ H D I hw=>
 wpAny_mono (h pins s σ H D (I.wish _) hw) (fun _ _ q=>q.unwish) fun _ _ z=>False.elim z
end
section
variable {X:Cx} {st:Stmt} {a5L:List Stmt} {t u:TS} {e:Expr} {te:TE} {pos:Pos}
def a1F:TS:=fun D σ H=>D.nx σ H
def a1u (t u:TS):TS:=fun D σ H=>t {D with nx:=u D} σ H
theorem b4N:PSs X [] a1F:=fun _ _ σ H _ I h=>wpAny_execs_nil ⟨σ,H,I,h⟩
theorem b2y (h1:PS X st t) (h2:PSs X a5L u):PSs X (st::a5L) (a1u t u):=by
 intro pins s σ H D I h
 refine wpAny_execs_cons (thn (h1 pins s σ H {D with nx:=u D} I h) fun f s1 q=>?_)
 cases f with
 | next=>
  obtain ⟨σ',H',I',q⟩:=q
  exact h2 pins s1 σ' H' D I' q
 | ret v=>exact q
 | brk=>exact q
 | cont=>exact q
theorem b5M (h1:PS X st t):PSs X [st] t:=by
 intro pins s σ H D I h
 refine wpAny_execs_cons (thn (h1 pins s σ H D I h) fun f s1 q=>?_)
 cases f with
 | next=>exact wpAny_execs_nil q
 | ret v=>exact q
 | brk=>exact q
 | cont=>exact q
theorem Inv.quiet {pins:List (Addr×Obj)} {σ:St} {H:Hp} {s:Shared} (I:Inv X pins σ H s):interactive X.env=false:=by simp [interactive,I.ok.kind]
def a3Y (te:TE):TS:=fun D σ H=>te σ H fun _ H1=>D.nx σ H1
theorem b5F (he:PE X e te) (hs:swapsWith e none pos.line X.env=pure false:=by rfl):PS X (.Expr e pos) (a3Y te):=by
 intro pins s σ H D I h
 exact wpAny_Expr_any (thn (he pins s σ H _ I h) fun v s1 ⟨x,H1,I1,r1,q1⟩=>⟨σ,H1,I1,q1⟩) I.quiet hs
def a1o (te:TE):TS:=fun D σ H=>te σ H D.rt
theorem b6j (he:PE X e te):PS X (.Return (some e) pos) (a1o te):=by
 intro pins s σ H D I h
 exact wpAny_Return_some (thn (he pins s σ H _ I h) fun v s1 ⟨x,H1,I1,r1,q1⟩=>⟨x,σ,H1,I1,r1,q1⟩)
def a3D (c:TT) (t u:TS):TS:=fun D σ H=>c σ H fun b H1=>if b=true then t D σ H1 else u D σ H1
theorem c0p {c:Expr} {a b:List Stmt} {tc:TT} (hc:PT X c tc) (ha:PSs X a t) (hb:PSs X b u):PS X (.If c a b pos) (a3D tc t u):=by
 intro pins s σ H D I h
 refine wpAny_If (thn (hc pins s σ H _ I h) fun d s1 ⟨H1,I1,q1⟩=>?_)
 cases d with
 | true=>exact ha pins s1 σ H1 D I1 q1
 | false=>exact hb pins s1 σ H1 D I1 q1
end
abbrev TG:=V→St→Hp→(St→Hp→Prop)→Prop
abbrev TGs:=List V→St→Hp→(St→Hp→Prop)→Prop
def PG (X:Cx) (target:Expr) (t:TG):Prop:=
 ∀(pins:List (Addr×Obj)) (s:Shared) (σ:St) (H:Hp) (v:V) (u:Value) (Q:St→Hp→Prop),Inv X pins σ H s→a0N v u→t v σ H Q→
  wpAny (model X.prog X.w) X.A (assign target X.env u) (fun _ s'=>∃σ' H',Inv X pins σ' H' s'∧Q σ' H') X.xe s
def PGs (X:Cx) (ts:List Expr) (t:TGs):Prop:=
 ∀(pins:List (Addr×Obj)) (s:Shared) (σ:St) (H:Hp) (vs:List V) (us:List Value) (Q:St→Hp→Prop),Inv X pins σ H s→a0H vs us→t vs σ H Q→
  wpAny (model X.prog X.w) X.A (assignInOrder ((assignEach ts X.env).map (·.2)) us) (fun _ s'=>∃σ' H',Inv X pins σ' H' s'∧Q σ' H') X.xe s
section
variable {X:Cx} {pos:Pos}
def a0l (i:Nat):TG:=fun v σ H Q=>Q (σ.set i (some v)) H
theorem b3Y {i:Nat} {x:Str} (hN:X.N.Nodup) (hi:X.N[i]?=some x) (hx:Loc X.env.scope x) (hf:X.fn x=true∨X.env.scope.names.lookup x=some .local:=by first | exact .inl rfl | exact .inr rfl | assumption):PG X (.Name x pos) (a0l i):=by
 intro pins s σ H v u Q I r h
 exact wpAny_assign_Name (a6W I hN hi hx r (fun s' I'=>⟨_,H,I',h⟩) hf)
def c0i:TGs:=fun vs σ H Q=>vs=[]∧Q σ H
def b2u (t:TG) (u:TGs):TGs:=fun vs σ H Q=>∃v r,vs=v::r∧t v σ H fun σ' H'=>u r σ' H' Q
theorem b3X:PGs X [] c0i:=by
 intro pins s σ H vs us Q I r h
 obtain ⟨e,h⟩:=h
 subst e
 cases r
 exact assignInOrder_nil ⟨σ,H,I,h⟩
theorem b1U {e:Expr} {es:List Expr} {t:TG} {u:TGs} (h1:PG X e t) (h2:PGs X es u)
  (hs:(assignEach (e::es) X.env).map (·.2)=assign e X.env::(assignEach es X.env).map (·.2):=by rfl):PGs X (e::es) (b2u t u):=by
 intro pins s σ H vs us Q I r h
 obtain ⟨v,vr,e1,h⟩:=h
 subst e1
 cases r with
 | cons r rr=>
  rw [hs]
  refine assignInOrder_cons (thn (h1 pins s σ H _ _ _ I r h) fun _ s1 ⟨σ1,H1,I1,q1⟩=>?_)
  exact h2 pins s1 σ1 H1 _ _ Q I1 rr q1
def b9J (K:Qc) (n:Nat) (t:TGs):TG:=fun v σ H Q=>∃a xs,v=.ref a∧SqT K H a xs∧xs.length=n∧t xs σ H Q
theorem b3M {es:List Expr} {k:Nat} {t:TGs} {n:Nat} (hc:X.calm=true) (h:PGs X es t)
  (hn:(assignEach es X.env).length=n:=by rfl) (hst:(assignEach es X.env).findIdx? (·.1)=none:=by rfl):PG X (.Tuple es k pos) (b9J X.K n t):=by
 intro pins s σ H v u Q I r hw
 obtain ⟨a,xs,e1,hq,hl,hw⟩:=hw
 subst e1
 cases r
 obtain ⟨its,rv,ht,hz⟩:=I.tuple hq
 refine assign_Tuple_tuple (I.ok.hd hc) ht (by simp [hn,←hl,rv.length]) hst fun h' hx=>?_
 have I1:Inv X pins σ H {s with heap:=h'}:=I.kept (t':=s.toks) fun b o e=>hx b o (Xe (Qx e)) e
 exact h pins _ σ H xs _ Q I1 (by simpa using rv) hw
def a2b (te:TE) (g:TG):TS:=fun D σ H=>te σ H fun x H1=>g x σ H1 D.nx
theorem b7R {tg e:Expr} {te:TE} {g:TG} (he:PE X e te) (hg:PG X tg g) (hs:swapsWithSole [tg] e pos.line X.env=pure false:=by rfl) (hw:swappedStores [tg] e X.env=pure none:=by rfl)
  (h1:(assignEach [tg] X.env).map (·.2)=[assign tg X.env]:=by rfl):PS X (.Assign [tg] e pos) (a2b te g):=by
 intro pins s σ H D I h
 refine wpAny_Assign_stores (thn (he pins s σ H _ I h) fun v s1 ⟨x,H1,I1,r1,q1⟩=>?_) hs hw
 rw [h1]
 exact thn (hg pins s1 σ H1 x v _ I1 r1 q1) fun _ s2 q=>q
theorem b8V {i:Nat} {x:Str} {e:Expr} {te:TE} {pos':Pos} (hN:X.N.Nodup) (hi:X.N[i]?=some x) (hx:Loc X.env.scope x) (he:PE X e te) (hs:swapsWith e (some (.Name x pos')) pos.line X.env=pure false:=by rfl) (hf:X.fn x=true∨X.env.scope.names.lookup x=some .local:=by first | exact .inl rfl | exact .inr rfl | assumption):
  PS X (.Assign [.Name x pos'] e pos) (a2b te (a0l i)):=by
 intro pins s σ H D I h
 refine wpAny_Assign_Name (thn (he pins s σ H _ I h) fun v s1 ⟨y,H1,I1,r1,q1⟩=>?_) hs
 exact a6W I1 hN hi hx r1 (fun s2 I2=>⟨_,H1,I2,q1⟩) hf
end
section
variable {X:Cx} {pos:Pos}
def b3b (c:TT) (tb:TS):TS:=fun D σ H=>∃W:Nat→St→Hp→Prop,(∃m,W m σ H)∧∀m σ H,W m σ H→
 c σ H fun b H1=>if b=true then ∃N:St→Hp→Prop,(∀σ' H',N σ' H'→∃m',m' < m∧W m' σ' H')∧tb {D with nx:=N,ct:=N,bk:=D.nx} σ H1 else D.nx σ H1
theorem b1G {c:Expr} {body:List Stmt} {tc:TT} {tb:TS} (hp:PassesOwn (model X.prog X.w) X.A X.env X.xe) (hc:PT X c tc) (hb:PSs X body tb):PS X (.While c body [] pos) (b3b tc tb):=by
 intro pins s σ H D I h
 obtain ⟨W,⟨m0,w0⟩,turn⟩:=h
 refine wpAny_While (codeAny_whileLoop (fun n s'=>∃σ' H',Inv X pins σ' H' s'∧W n σ' H') ?_ m0 ⟨σ,H,I,w0⟩)
 rintro n s1 ⟨σ1,H1,I1,w1⟩
 refine wpAny_passesOwn hp (thn (hc pins s1 σ1 H1 _ I1 (turn n σ1 H1 w1)) fun b s2 ⟨H2,I2,q2⟩=>?_)
 cases b with
 | true=>
  obtain ⟨N,hN,q2⟩:=q2
  rw [if_pos rfl]
  refine wpAny_passesOwn hp (thn (hb pins s2 σ1 H2 _ I2 q2) fun f s3 q3=>?_)
  cases f with
  | next=>
   obtain ⟨σ3,H3,I3,n3⟩:=q3
   obtain ⟨m',hm,w3⟩:=hN σ3 H3 n3
   exact ⟨m',hm,σ3,H3,I3,w3⟩
  | cont=>
   obtain ⟨σ3,H3,I3,n3⟩:=q3
   obtain ⟨m',hm,w3⟩:=hN σ3 H3 n3
   exact ⟨m',hm,σ3,H3,I3,w3⟩
  | brk=>exact q3
  | ret v=>exact q3
 | false=>
  rw [if_neg Qu]
  exact wpAny_execs_nil ⟨σ1,H2,I2,q2⟩
end
structure It where
 go:Nat→Hp→Prop
 yld:Nat→Hp→V→Hp→Prop
 stop:Nat→Hp→Prop
def a7S (X:Cx) (pins:List (Addr×Obj)) (H:Hp) (b:Addr):Prop:=
 H b=none∧b≠X.env.locals∧b∉X.fs∧(b∈X.ex∨X.s₀.heap.objs.size≤b)∧(∀x c,X.env.cells.lookup x=some c→c≠b)∧∀p∈X.pn++pins,p.1≠b
theorem Inv.fpOk {X:Cx} {pins:List (Addr×Obj)} {σ:St} {H H':Hp} {s:Shared} {b:Addr} (I:Inv X pins σ H s) (hb:s.heap.objs.size≤b) (hn:H' b=none):a7S X pins H' b:=by
 refine ⟨hn,Uc (Xc I.lt hb),I.nofs hb,.inr (Qh I.sz hb),fun x c e z=>?_,fun p hp z=>?_⟩
 ·obtain ⟨v,q⟩:=I.cell x c e
  exact absurd (Xc q.lt (by rw [z];exact hb)) (Zh _)
 ·exact absurd (Xc (Qx (I.pin p hp).1) (by rw [z];exact hb)) (Zh _)
structure b4F (P:Program) (w:World) (K:Qc) (tg:Expr) (J:It) (fp:List Addr) (it:Addr) (tn:Nat→Heap→Prop):Prop where
 mem:it∈fp
 obj:∀i h,tn i h→∀b∈fp,∃o,h.get? b=some o∧∀v,o.data≠.cell v
 keep:∀i h h',tn i h→(∀b∈fp,∀o,h.get? b=some o→h'.get? b=some o)→tn i h'
 item:∀(X:Cx),X.prog=P→X.w=w→X.K=K→X.calm=true→∀(i:Nat) (pins:List (Addr×Obj)) (s:Shared) (σ:St) (H:Hp) (E:Value→Shared→Prop),Inv X pins σ H s→(∀b∈fp,a7S X pins H b)→tn i s.heap→J.go i H→
  wpAny (model P w) X.A (pyNext (.ref it)) (fun r s1=>∃u,r=some u∧
   wpAny (model P w) X.A (letOwnedTupleGo tg (.ref it) u) (fun _ s2=>∃x H',Inv X pins σ H' s2∧a0N x u∧J.yld i H x H'∧tn (i+1) s2.heap∧∀b∈fp,H' b=none) E s1) E s
 done:∀(X:Cx),X.prog=P→X.w=w→X.K=K→X.calm=true→∀(i:Nat) (pins:List (Addr×Obj)) (s:Shared) (σ:St) (H:Hp) (E:Value→Shared→Prop),Inv X pins σ H s→(∀b∈fp,a7S X pins H b)→tn i s.heap→J.stop i H→
  wpAny (model P w) X.A (pyNext (.ref it)) (fun r s1=>r=none∧Inv X pins σ H s1) E s
 self:∀(A:Around) (i:Nat) (s:Shared) (Q:Value→Shared→Prop) (E:Value→Shared→Prop),tn i s.heap→Q (.ref it) s→wpAny (model P w) A (pyIter (.ref it)) Q E s
abbrev TI:=St→Hp→(It→Hp→Prop)→Prop
def PIE (X:Cx) (pins:List (Addr×Obj)) (σ:St) (tg:Expr) (R:It→Hp→Prop) (itv:Value) (s2:Shared):Prop:=
 ∃(it:Addr) (fp:List Addr) (tn:Nat→Heap→Prop) (J:It) (H':Hp),itv=.ref it∧Inv X pins σ H' s2∧b4F X.prog X.w X.K tg J fp it tn∧tn 0 s2.heap∧(∀b∈fp,a7S X pins H' b)∧R J H'
def PI (X:Cx) (tg iter:Expr) (wi:TI):Prop:=
 ∀(pins:List (Addr×Obj)) (s:Shared) (σ:St) (H:Hp) (R:It→Hp→Prop),Inv X pins σ H s→wi σ H R→
  wpAny (model X.prog X.w) X.A (eval iter X.env) (fun v s1=>wpAny (model X.prog X.w) X.A (pyIter v) (PIE X pins σ tg R) X.xe s1) X.xe s
theorem b1m {M:Model} {A:Around} {E:Value→Shared→Prop} {s:Shared} {tg:Expr} {it:Addr} {u:Value} {o:Obj} {n:String} {vs:Array Value} {Q:Unit→Shared→Prop} (ho:s.heap.get? it=some o) (hc:o.cls=.type n) (hd:o.data=.fields vs)
  (hn:["enumerate","zip","dict_itemiterator","dict_reverseitemiterator","odict_iterator","itertools.zip_longest","itertools.pairwise"].contains n=false) (hQ:Q () s):wpAny M A (letOwnedTupleGo tg (.ref it) u) Q E s:=by
 unfold letOwnedTupleGo
 cases tg<;>first
  | exact wpAny_pure hQ
  | (cases u<;>first
    | exact wpAny_pure hQ
    | (refine wpAny_bind (wpAny_load ho ?_);rw [hc,hd];show wpAny M A (if (["enumerate","zip","dict_itemiterator","dict_reverseitemiterator","odict_iterator","itertools.zip_longest","itertools.pairwise"].contains n && vs[0]? == some (rawInt _))=true then _ else _) Q E s;rw [if_neg (by intro h;rw [hn,Js] at h;cases h)];exact wpAny_pure hQ))
def Itl (K:Qc) (a:Addr):It:=
 ⟨fun i H=>∃xs x,SqL K H a xs∧xs[i]?=some x,fun i H x H'=>H'=H∧∀xs,SqL K H a xs→xs[i]?=some x,fun i H=>∃xs,SqL K H a xs∧xs.length≤i⟩
def Itt (K:Qc) (a:Addr):It:=
 ⟨fun i H=>∃xs x,SqT K H a xs∧xs[i]?=some x,fun i H x H'=>H'=H∧∀xs,SqT K H a xs→xs[i]?=some x,fun i H=>∃xs,SqT K H a xs∧xs.length≤i⟩
def Itr (lo:Int) (n:Nat):It:=⟨fun i _=>i < n,fun i H x H'=>H'=H∧x=.int (lo+i),fun i _=>n≤i⟩
theorem a8R {P:Program} {w:World} {K:Qc} {tg:Expr} (a it:Addr):b4F P w K tg (Itl K a) [it] it (fun i h=>h.IsListIter it a i) where
 mem:=by simp
 obj:=fun i h st b hb=>by
  have e:b=it:=by simpa using hb
  subst e
  obtain ⟨o,e,c,d⟩:=st
  exact ⟨o,e,fun v z=>by rw [d] at z;cases z⟩
 keep:=fun i h h' st k=>st.at fun o e=>k it (by simp) o e
 item:=by
  intro X hP hw hK hc i pins s σ H E I hf st hg
  subst hP hw hK
  obtain ⟨xs,x,hq,hx⟩:=hg
  obtain ⟨its,rv,p,hz⟩:=I.list hq
  obtain ⟨u,hu,ru⟩:=rv.get hx
  obtain ⟨f0,f1,f2,f3,f4,f5⟩:=hf it (by simp)
  refine wpAny_pyNext_list_item st p.isList (x:=u) (by simpa using hu) fun h' st' sb=>?_
  have I1:Inv X pins σ H {s with heap:=h'}:=I.turned (t':=s.toks) (fun b o hb e=>(sb.2 b hb).trans e) f0 f1 f3 f4 f5
  obtain ⟨o,e,c,d⟩:=id st'
  exact ⟨u,rfl,b1m (s:={s with heap:=h'}) e c d (by decide) ⟨x,H,I1,ru,⟨rfl,fun ys hy=>by rw [I.list_inj hy hq];exact hx⟩,st',fun b hb=>(hf b hb).1⟩⟩
 done:=by
  intro X hP hw hK hc i pins s σ H E I hf st hg
  subst hP hw hK
  obtain ⟨xs,hq,hx⟩:=hg
  obtain ⟨its,rv,p,hz⟩:=I.list hq
  obtain ⟨f0,f1,f2,f3,f4,f5⟩:=hf it (by simp)
  have hl:=rv.length
  exact wpAny_pyNext_list_end (I.ok.hd hc) st p.isList (by simp;omega) fun h' eb=>⟨rfl,I.turned (t':=s.toks) (fun b o hb e=>eb b o hb e) f0 f1 f3 f4 f5⟩
 self:=fun _ _ _ _ _ st h=>wpAny_pyIter_listiter st h
theorem a8c {P:Program} {w:World} {K:Qc} {tg:Expr} (a it:Addr):b4F P w K tg (Itt K a) [it] it (fun i h=>h.IsTupleIter it a i) where
 mem:=by simp
 obj:=fun i h st b hb=>by
  have e:b=it:=by simpa using hb
  subst e
  obtain ⟨o,e,c,d⟩:=st
  exact ⟨o,e,fun v z=>by rw [d] at z;cases z⟩
 keep:=fun i h h' st k=>st.at fun o e=>k it (by simp) o e
 item:=by
  intro X hP hw hK hc i pins s σ H E I hf st hg
  subst hP hw hK
  obtain ⟨xs,x,hq,hx⟩:=hg
  obtain ⟨its,rv,p,hz⟩:=I.tuple hq
  obtain ⟨u,hu,ru⟩:=rv.get hx
  obtain ⟨f0,f1,f2,f3,f4,f5⟩:=hf it (by simp)
  refine wpAny_pyNext_tuple_item st (show s.heap.IsTuple a its.toArray from p) (x:=u) (by simpa using hu) fun h' st' sb=>?_
  have I1:Inv X pins σ H {s with heap:=h'}:=I.turned (t':=s.toks) (fun b o hb e=>(sb.2 b hb).trans e) f0 f1 f3 f4 f5
  obtain ⟨o,e,c,d⟩:=id st'
  exact ⟨u,rfl,b1m (s:={s with heap:=h'}) e c d (by decide) ⟨x,H,I1,ru,⟨rfl,fun ys hy=>by rw [I.tuple_inj hy hq];exact hx⟩,st',fun b hb=>(hf b hb).1⟩⟩
 done:=by
  intro X hP hw hK hc i pins s σ H E I hf st hg
  subst hP hw hK
  obtain ⟨xs,hq,hx⟩:=hg
  obtain ⟨its,rv,p,hz⟩:=I.tuple hq
  obtain ⟨f0,f1,f2,f3,f4,f5⟩:=hf it (by simp)
  have hl:=rv.length
  exact wpAny_pyNext_tuple_end (I.ok.hd hc) st (show s.heap.IsTuple a its.toArray from p) (by simp;omega) fun h' eb=>⟨rfl,I.turned (t':=s.toks) (fun b o hb e=>eb b o hb e) f0 f1 f3 f4 f5⟩
 self:=fun _ _ _ _ _ st h=>wpAny_pyIter_tupleiter st h
theorem a8g {P:Program} {w:World} {K:Qc} {tg:Expr} (it:Addr) (lo:Int) (n:Nat):b4F P w K tg (Itr lo n) [it] it (fun i h=>IsRangeIter h it (lo+(i:Nat) * 1) ((n:Int) - (i:Nat)) 1) where
 mem:=by simp
 obj:=fun i h st b hb=>by
  have e:b=it:=by simpa using hb
  subst e
  exact ⟨_,st,fun v z=>by
   have z':Data.fields _=Data.cell v:=z
   cases z'⟩
 keep:=fun i h h' st k=>k it (by simp) _ st
 item:=by
  intro X hP hw hK hc i pins s σ H E I hf st hg
  subst hP hw hK
  obtain ⟨f0,f1,f2,f3,f4,f5⟩:=hf it (by simp)
  have W:=Walks.range (prog:=X.prog) (w:=X.w) (I.ok.hd hc) it lo 1 n
  refine W.item i s _ _ hg st fun v h' tk hv st' kk=>?_
  obtain ⟨t,rfl⟩:=hv
  have I1:Inv X pins σ H {s with heap:=h',toks:=tk}:=I.turned (fun b o hb e=>kk b o (by simpa using hb) e) f0 f1 f3 f4 f5
  refine ⟨_,rfl,b1m (s:={s with heap:=h',toks:=tk}) (n:="range_iterator") st' rfl rfl (by decide) ⟨.int (lo+i),H,I1,⟨t,?_⟩,⟨rfl,rfl⟩,st',fun b hb=>(hf b hb).1⟩⟩
  rw [Int.mul_one]
 done:=by
  intro X hP hw hK hc i pins s σ H E I hf st hg
  subst hP hw hK
  obtain ⟨f0,f1,f2,f3,f4,f5⟩:=hf it (by simp)
  exact wpAny_pyNext_range_end (I.ok.hd hc) st (by have:n≤i:=hg;omega) fun h' eb=>⟨rfl,I.turned (t':=s.toks) (fun b o hb e=>eb b o hb e) f0 f1 f3 f4 f5⟩
 self:=fun _ _ _ _ _ st h=>wpAny_pyIter_rangeiter st h
end L2
namespace L2
open PySem PySem.Spec PyProof.Rows
section
variable {X:Cx} {tg:Expr}
def a2E (K:Qc) (tl:TE):TI:=fun σ H R=>tl σ H fun x H1=>∃a,x=.ref a∧(∃xs,SqL K H1 a xs)∧R (Itl K a) H1
def b5n (K:Qc) (tl:TE):TI:=fun σ H R=>tl σ H fun x H1=>∃a,x=.ref a∧(∃xs,SqT K H1 a xs)∧R (Itt K a) H1
theorem b4O {l:Expr} {tl:TE} (hl:PE X l tl):PI X tg l (a2E X.K tl):=by
 intro pins s σ H R I h
 refine thn (hl pins s σ H _ I h) fun v s1 ⟨x,H1,I1,r1,q1⟩=>?_
 obtain ⟨a,e,⟨xs,hq⟩,q⟩:=q1
 subst e
 cases r1
 obtain ⟨its,rv,p,hz⟩:=I1.list hq
 refine wpAny_pyIter_list p.isList ?_
 refine ⟨s1.heap.objs.size,[s1.heap.objs.size],_,_,H1,rfl,I1.kept (t':=s1.toks) fun b o e=>Ql _ e,a8R a _,⟨_,Xd _ rfl,rfl,rfl⟩,fun b hb=>?_,q⟩
 have e:b=s1.heap.objs.size:=by simpa using hb
 subst e
 exact I1.fpOk (Qk _) (I1.hok.fresh (Qk _))
theorem b6m {l:Expr} {tl:TE} (hl:PE X l tl):PI X tg l (b5n X.K tl):=by
 intro pins s σ H R I h
 refine thn (hl pins s σ H _ I h) fun v s1 ⟨x,H1,I1,r1,q1⟩=>?_
 obtain ⟨a,e,⟨xs,hq⟩,q⟩:=q1
 subst e
 cases r1
 obtain ⟨its,rv,p,hz⟩:=I1.tuple hq
 refine wpAny_pyIter_tuple (show s1.heap.IsTuple a its.toArray from p) ?_
 refine ⟨s1.heap.objs.size,[s1.heap.objs.size],_,_,H1,rfl,I1.kept (t':=s1.toks) fun b o e=>Ql _ e,a8c a _,⟨_,Xd _ rfl,rfl,rfl⟩,fun b hb=>?_,q⟩
 have e:b=s1.heap.objs.size:=by simpa using hb
 subst e
 exact I1.fpOk (Qk _) (I1.hok.fresh (Qk _))
theorem a7n {pins:List (Addr×Obj)} {σ:St} {H:Hp} {s:Shared} {R:It→Hp→Prop} {E:Value→Shared→Prop} {lo hi:Int} {t u v:Tok} {tk:Nat} (I:Inv X pins σ H s) (h1:-(2 ^ 62)≤lo) (h2:lo < 2 ^ 62) (h3:-(2 ^ 62)≤hi) (h4:hi < 2 ^ 62)
  (q:R (Itr lo (hi - lo).toNat) H):wpAny (model X.prog X.w) X.A (pyIter (.ref s.heap.objs.size)) (PIE X pins σ tg R) E {s with heap:=s.heap.push {cls:=.type "range",data:=.fields #[.int lo t,.int hi u,.int 1 v]},toks:=tk}:=by
 refine wpAny_pyIter_range (IsRange.new ..) (small_one h1 h2 h3 h4) ?_
 have I1:Inv X pins σ H {s with heap:=s.heap.push {cls:=.type "range",data:=.fields #[.int lo t,.int hi u,.int 1 v]},toks:=tk}:=I.kept fun b o e=>Ql _ e
 refine ⟨(s.heap.push {cls:=.type "range",data:=.fields #[.int lo t,.int hi u,.int 1 v]}).objs.size,[(s.heap.push {cls:=.type "range",data:=.fields #[.int lo t,.int hi u,.int 1 v]}).objs.size],_,_,H,rfl,
  I1.kept (t':=tk) fun b o e=>Ql _ e,a8g _ lo (hi - lo).toNat,?_,fun b hb=>?_,q⟩
 ·have e1:lo+((0:Nat):Int) * 1=lo:=by simp
  have e2:(((hi - lo).toNat:Nat):Int) - ((0:Nat):Int)=Builtin.Range.rangeSize lo hi 1:=by rw [rangeSize_one];split<;>omega
  show IsRangeIter _ _ (lo+((0:Nat):Int) * 1) ((((hi - lo).toNat:Nat):Int) - ((0:Nat):Int)) 1
  rw [e1,e2]
  exact Xd _ rfl
 ·have e:b=(s.heap.push {cls:=.type "range",data:=.fields #[.int lo t,.int hi u,.int 1 v]}).objs.size:=by simpa using hb
  subst e
  exact I1.fpOk (Qk _) (I1.hok.fresh (Qk _))
def a4V (ta:TA):TI:=fun σ H R=>ta σ H fun vs H1=>∃j:Int,vs=[.int j]∧-(2 ^ 62)≤j∧j < 2 ^ 62∧R (Itr 0 j.toNat) H1
def b7H (ta:TA):TI:=fun σ H R=>ta σ H fun vs H1=>∃i j:Int,vs=[.int i,.int j]∧(-(2 ^ 62)≤i∧i < 2 ^ 62∧-(2 ^ 62)≤j∧j < 2 ^ 62)∧R (Itr i (j - i).toNat) H1
theorem a9Z {a:Expr} {ta:TA} {p pos:Pos} (hg:Gl X "range") (hm:X.mg "range"=none) (ha:PA X [a] ta) (hs:starEach [a] X.env=[(false,eval a X.env)]:=by rfl):PI X tg (.Call (.Name "range" p) [a] [] pos) (a4V ta):=by
 intro pins s σ H R I h
 refine Call_ (a4n I hg hm boot_range (PyProof.Rows.callWith_type1 (thn (ha pos pins s σ H _ I h) fun us s1 ⟨vs,H1,I1,r1,q1⟩=>?_) hs rfl))
 obtain ⟨j,e,q1,q2,q⟩:=q1
 subst e
 cases r1 with
 | cons r rr=>
  cases rr
  obtain ⟨t,rfl⟩:=r
  exact call_range_1 (a7n I1 (by omega) (by omega) q1 q2 (by simpa using q))
theorem a8H {a b:Expr} {ta:TA} {p pos:Pos} (hg:Gl X "range") (hm:X.mg "range"=none) (ha:PA X [a,b] ta) (hs:starEach [a,b] X.env=[(false,eval a X.env),(false,eval b X.env)]:=by rfl) (hs2:starEach [b] X.env=[(false,eval b X.env)]:=by rfl):
  PI X tg (.Call (.Name "range" p) [a,b] [] pos) (b7H ta):=by
 intro pins s σ H R I h
 refine Call_ (a4n I hg hm boot_range (PyProof.Rows.callWith_type1 (thn (ha pos pins s σ H _ I h) fun us s1 ⟨vs,H1,I1,r1,q1⟩=>?_) (by rw [hs,hs2]) (by rw [hs2];rfl)))
 obtain ⟨i,j,e,⟨q1,q2,q3,q4⟩,q⟩:=q1
 subst e
 cases r1 with
 | cons r rr=>
  cases rr with
  | cons r' rr=>
   cases rr
   obtain ⟨t,rfl⟩:=r
   obtain ⟨t',rfl⟩:=r'
   exact call_range_2 (a7n I1 q1 q2 q3 q4 q)
def b9l (wi:TI) (g:TG) (tb:TS):TS:=fun D σ H=>wi σ H fun J H1=>∃W:Nat→Nat→St→Hp→Prop,(∃m,W 0 m σ H1)∧∀i m σ H,W i m σ H→
 (J.stop i H∧D.nx σ H)∨(J.go i H∧∃N:St→Hp→Prop,(∀σ' H',N σ' H'→∃m',m' < m∧W (i+1) m' σ' H')∧∀x H',J.yld i H x H'→g x σ H' fun σ2 H2=>tb {D with nx:=N,ct:=N,bk:=D.nx} σ2 H2)
def a5v (fp:List Addr) (h:Heap):List (Addr×Obj):=fp.filterMap fun b=>(h.get? b).map fun o=>(b,o)
theorem a2A {fp:List Addr} {h:Heap} {b:Addr} {o:Obj} (hb:b∈fp) (e:h.get? b=some o):(b,o)∈a5v fp h:=Zx.mpr ⟨b,hb,by rw [e];rfl⟩
theorem b0E {fp:List Addr} {h:Heap} {p:Addr×Obj} (hp:p∈a5v fp h):p.1∈fp∧h.get? p.1=some p.2:=by
 obtain ⟨b,hb,e⟩:=Zx.mp hp
 cases q:h.get? b with
 | none=>rw [q] at e;cases e
 | some o=>
  rw [q] at e
  have e':(b,o)=p:=Option.some.inj e
  subst e'
  exact ⟨hb,q⟩
theorem Inv.pinned {pins:List (Addr×Obj)} {σ:St} {H:Hp} {s:Shared} {fp:List Addr} (I:Inv X pins σ H s) (hf:∀b∈fp,a7S X pins H b) (ho:∀b∈fp,∃o,s.heap.get? b=some o∧∀v,o.data≠.cell v):Inv X (pins++a5v fp s.heap) σ H s:=
 I.pins_of fun p hp=>(Qq.mp hp).elim (fun z=>I.pin p (Qt _ z)) fun z=>by
  obtain ⟨hb,e⟩:=b0E z
  obtain ⟨f0,f1,f2,_⟩:=hf p.1 hb
  obtain ⟨o,e',d⟩:=ho p.1 hb
  rw [e] at e';cases e'
  exact ⟨e,f0,f1,f2,d⟩
theorem Inv.unpinned {pins pl:List (Addr×Obj)} {σ:St} {H:Hp} {s:Shared} (I:Inv X (pins++pl) σ H s):Inv X pins σ H s:=I.pins_of fun p hp=>I.pin p (Qt _ (Xl _ hp))
theorem b5Z {iter:Expr} {body:List Stmt} {wi:TI} {g:TG} {tb:TS} {pos:Pos} (hp:PassesOwn (model X.prog X.w) X.A X.env X.xe) (hc:X.calm=true) (hi:PI X tg iter wi) (hg:PG X tg g) (hb:PSs X body tb)
  (hs:∀x,foldedSetIterable iter X.env x=pure x:=by intro _;rfl):PS X (.For tg iter body [] pos) (b9l wi g tb):=by
 intro pins s σ H D I h
 refine wpAny_For (thn (hi pins s σ H _ I h) fun v s1 h1=>thn h1 fun itv s2 h2=>?_) hs
 obtain ⟨it,fp,tn,J,H2,e,I2,T,st2,f2,W,⟨m0,w0⟩,turn⟩:=h2
 subst e
 have stat:∀{H':Hp},(∀b∈fp,H' b=none)→∀b∈fp,a7S X pins H' b:=fun hn b hb=>⟨hn b hb,(f2 b hb).2⟩
 refine codeAny_forLoop_any (fun n s'=>∃i σ' H',Inv X pins σ' H' s'∧tn i s'.heap∧(∀b∈fp,H' b=none)∧W i n σ' H') ?_ m0 ⟨0,σ,H2,I2,st2,fun b hb=>(f2 b hb).1,w0⟩
 rintro n s3 ⟨i,σ3,H3,I3,st3,fr3,w3⟩
 rcases turn i n σ3 H3 w3 with ⟨stop,qn⟩ | ⟨go,N,hN,step⟩
 ·refine wpAny_passesOwn hp (thn (T.done X rfl rfl rfl hc i pins s3 σ3 H3 X.xe I3 (stat fr3) st3 stop) fun r s4 ⟨hr,I4⟩=>?_)
  subst hr
  exact wpAny_execs_nil ⟨σ3,H3,I4,qn⟩
 ·refine wpAny_passesOwn hp (thn (T.item X rfl rfl rfl hc i pins s3 σ3 H3 X.xe I3 (stat fr3) st3 go) fun r s4 ⟨u,hr,h4⟩=>?_)
  subst hr
  refine wpAny_passesOwn hp (thn h4 fun _ s5 ⟨x,H5,I5,r5,y5,st5,fr5⟩=>?_)
  have I5':=I5.pinned (stat fr5) (T.obj _ _ st5)
  refine wpAny_passesOwn hp (thn (hg _ s5 σ3 H5 x u _ I5' r5 (step x H5 y5)) fun _ s6 ⟨σ6,H6,I6,q6⟩=>?_)
  refine wpAny_passesOwn hp (thn (hb _ s6 σ6 H6 _ I6 q6) fun f s7 q7=>?_)
  have again:∀{σ7:St} {H7:Hp},Inv X (pins++a5v fp s5.heap) σ7 H7 s7→N σ7 H7→∃m,m < n∧∃i σ' H',Inv X pins σ' H' s7∧tn i s7.heap∧(∀b∈fp,H' b=none)∧W i m σ' H':=fun {σ7 H7} I7 n7=>by
   obtain ⟨m',hm,w7⟩:=hN σ7 H7 n7
   refine ⟨m',hm,i+1,σ7,H7,I7.unpinned,T.keep _ _ _ st5 fun b hb o e=>(I7.pin (b,o) (Qt _ (Qt _ (a2A hb e)))).1,fun b hb=>?_,w7⟩
   obtain ⟨o,e,d⟩:=T.obj _ _ st5 b hb
   exact (I7.pin (b,o) (Qt _ (Qt _ (a2A hb e)))).2.1
  cases f with
  | next=>obtain ⟨σ7,H7,I7,n7⟩:=q7;exact again I7 n7
  | cont=>obtain ⟨σ7,H7,I7,n7⟩:=q7;exact again I7 n7
  | brk=>obtain ⟨σ7,H7,I7,q7⟩:=q7;exact ⟨σ7,H7,I7.unpinned,q7⟩
  | ret v=>obtain ⟨x7,σ7,H7,I7,r7,q7⟩:=q7;exact ⟨x7,σ7,H7,I7.unpinned,r7,q7⟩
end
theorem a2w {K:Qc} {a:Addr} {xs:List V} {g:TG} {tb:TS} {D:a7M} {σ:St} {H:Hp} (Pv:Nat→St→Hp→Prop) (h0:Pv 0 σ H) (hl:∀i σ H,i≤xs.length→Pv i σ H→SqL K H a xs)
  (hs:∀i x σ H,xs[i]?=some x→Pv i σ H→g x σ H fun σ2 H2=>tb {D with nx:=Pv (i+1),ct:=Pv (i+1),bk:=D.nx} σ2 H2) (hd:∀σ H,Pv xs.length σ H→D.nx σ H):
  ∃W:Nat→Nat→St→Hp→Prop,(∃m,W 0 m σ H)∧∀i m σ H,W i m σ H→
   ((Itl K a).stop i H∧D.nx σ H)∨((Itl K a).go i H∧∃N:St→Hp→Prop,(∀σ' H',N σ' H'→∃m',m' < m∧W (i+1) m' σ' H')∧∀x H',(Itl K a).yld i H x H'→g x σ H' fun σ2 H2=>tb {D with nx:=N,ct:=N,bk:=D.nx} σ2 H2):=by
 refine ⟨fun i m σ H=>m=xs.length - i∧i≤xs.length∧Pv i σ H,⟨xs.length,by simp,Xm _,h0⟩,?_⟩
 rintro i m σ H ⟨rfl,hi,p⟩
 have q:=hl i σ H hi p
 by_cases hlt:i < xs.length
 ·refine .inr ⟨⟨xs,xs[i],q,by simp [hlt]⟩,Pv (i+1),fun σ' H' p'=>⟨xs.length - (i+1),by omega,rfl,hlt,p'⟩,fun x H' y=>?_⟩
  obtain ⟨e,y⟩:=y
  subst e
  exact hs i x σ _ (y xs q) p
 ·have e:i=xs.length:=by omega
  subst e
  exact .inl ⟨⟨xs,q,Qk _⟩,hd σ H p⟩
theorem a4z {K:Qc} {a:Addr} {xs:List V} {g:TG} {tb:TS} {D:a7M} {σ:St} {H:Hp} (Pv:Nat→St→Hp→Prop) (h0:Pv 0 σ H) (hl:∀i σ H,i≤xs.length→Pv i σ H→SqT K H a xs)
  (hs:∀i x σ H,xs[i]?=some x→Pv i σ H→g x σ H fun σ2 H2=>tb {D with nx:=Pv (i+1),ct:=Pv (i+1),bk:=D.nx} σ2 H2) (hd:∀σ H,Pv xs.length σ H→D.nx σ H):
  ∃W:Nat→Nat→St→Hp→Prop,(∃m,W 0 m σ H)∧∀i m σ H,W i m σ H→
   ((Itt K a).stop i H∧D.nx σ H)∨((Itt K a).go i H∧∃N:St→Hp→Prop,(∀σ' H',N σ' H'→∃m',m' < m∧W (i+1) m' σ' H')∧∀x H',(Itt K a).yld i H x H'→g x σ H' fun σ2 H2=>tb {D with nx:=N,ct:=N,bk:=D.nx} σ2 H2):=by
 refine ⟨fun i m σ H=>m=xs.length - i∧i≤xs.length∧Pv i σ H,⟨xs.length,by simp,Xm _,h0⟩,?_⟩
 rintro i m σ H ⟨rfl,hi,p⟩
 have q:=hl i σ H hi p
 by_cases hlt:i < xs.length
 ·refine .inr ⟨⟨xs,xs[i],q,by simp [hlt]⟩,Pv (i+1),fun σ' H' p'=>⟨xs.length - (i+1),by omega,rfl,hlt,p'⟩,fun x H' y=>?_⟩
  obtain ⟨e,y⟩:=y
  subst e
  exact hs i x σ _ (y xs q) p
 ·have e:i=xs.length:=by omega
  subst e
  exact .inl ⟨⟨xs,q,Qk _⟩,hd σ H p⟩
theorem a1S {lo:Int} {n:Nat} {g:TG} {tb:TS} {D:a7M} {σ:St} {H:Hp} (Pv:Nat→St→Hp→Prop) (h0:Pv 0 σ H)
  (hs:∀i σ H,i < n→Pv i σ H→g (.int (lo+i)) σ H fun σ2 H2=>tb {D with nx:=Pv (i+1),ct:=Pv (i+1),bk:=D.nx} σ2 H2) (hd:∀σ H,Pv n σ H→D.nx σ H):
  ∃W:Nat→Nat→St→Hp→Prop,(∃m,W 0 m σ H)∧∀i m σ H,W i m σ H→
   ((Itr lo n).stop i H∧D.nx σ H)∨((Itr lo n).go i H∧∃N:St→Hp→Prop,(∀σ' H',N σ' H'→∃m',m' < m∧W (i+1) m' σ' H')∧∀x H',(Itr lo n).yld i H x H'→g x σ H' fun σ2 H2=>tb {D with nx:=N,ct:=N,bk:=D.nx} σ2 H2):=by
 refine ⟨fun i m σ H=>m=n - i∧i≤n∧Pv i σ H,⟨n,by simp,Xm _,h0⟩,?_⟩
 rintro i m σ H ⟨rfl,hi,p⟩
 by_cases hlt:i < n
 ·refine .inr ⟨hlt,Pv (i+1),fun σ' H' p'=>⟨n - (i+1),by omega,rfl,hlt,p'⟩,fun x H' y=>?_⟩
  obtain ⟨e,y⟩:=y
  subst e y
  exact hs i σ _ hlt p
 ·have e:i=n:=by omega
  subst e
  exact .inl ⟨Qk _,hd σ H p⟩
end L2
namespace L2
open PySem PySem.Spec PyProof.Rows
abbrev R2:=V→V→Hp→VK→Prop
def OpR (X:Cx) (f:Value→Value→Sem Value) (r:R2):Prop:=
 ∀(pins:List (Addr×Obj)) (s:Shared) (σ:St) (H:Hp) (x y:V) (v u:Value) (Q:VK),Inv X pins σ H s→a0N x v→a0N y u→r x y H Q→
  wpAny (model X.prog X.w) X.A (f v u) (EP X pins σ Q) X.xe s
def a1m (X:Cx) (f:Value) (r:List V→Hp→VK→Prop):Prop:=
 ∀(pins:List (Addr×Obj)) (s:Shared) (σ:St) (H:Hp) (xs:List V) (us:List Value) (Q:VK),Inv X pins σ H s→a0H xs us→r xs H Q→
  wpAny (model X.prog X.w) X.A (call f us) (EP X pins σ Q) X.xe s
def tOp (r:R2) (ta tb:TE):TE:=fun σ H Q=>ta σ H fun x H1=>tb σ H1 fun y H2=>r x y H2 Q
def rI (C:Int→Int→Prop) (g:Int→Int→V):R2:=fun x y H Q=>∃i j,x=.int i∧y=.int j∧C i j∧Q (g i j) H
def rI0 (g:Int→Int→V):R2:=fun x y H Q=>∃i j,x=.int i∧y=.int j∧Q (g i j) H
section
variable {X:Cx} {a b c:Expr} {ta tb tc:TE} {pos:Pos}
theorem c0u (ha:PE X a ta) (hb:PE X b tb) {pins:List (Addr×Obj)} {s:Shared} {σ:St} {H:Hp} {R:V→V→Hp→Prop} (I:Inv X pins σ H s)
  (h:ta σ H fun x H1=>tb σ H1 fun y H2=>R x y H2) {Q:Value→Shared→Prop} {f:Value→Value→Sem Value}
  (hf:∀v u s2 x y H2,Inv X pins σ H2 s2→a0N x v→a0N y u→R x y H2→wpAny (model X.prog X.w) X.A (f v u) Q X.xe s2):
  wpAny (model X.prog X.w) X.A (eval a X.env) (fun v s₁=>wpAny (model X.prog X.w) X.A (eval b X.env) (fun u s₂=>wpAny (model X.prog X.w) X.A (f v u) Q X.xe s₂) X.xe s₁) X.xe s:=by
 refine thn (ha pins s σ H _ I h) fun v s1 ⟨x,H1,I1,r1,q1⟩=>?_
 refine thn (hb pins s1 σ H1 _ I1 q1) fun u s2 ⟨y,H2,I2,r2,q2⟩=>?_
 exact hf v u s2 x y H2 I2 r1 r2 q2
theorem c0v {op:Operator} {r:R2} (ho:OpR X (binaryOp op) r) (ha:PE X a ta) (hb:PE X b tb):PE X (.BinOp a op b pos) (tOp r ta tb):=by
 intro pins s σ H Q I h
 exact wpAny_BinOp (c0u ha hb I h fun v u s2 x y H2 I2 rx ry q=>ho pins s2 σ H2 x y v u Q I2 rx ry q)
theorem opI {f:Value→Value→Sem Value} {C:Int→Int→Prop} {g:Int→Int→Int}
  (rule:∀(i j:Int) (t u:Tok) (s:Shared) (Q:Value→Shared→Prop) (E:Value→Shared→Prop),C i j→Q (.int (g i j) s.toks) {s with toks:=s.toks+1}→wpAny (model X.prog X.w) X.A (f (.int i t) (.int j u)) Q E s):
  OpR X f (rI C fun i j=>.int (g i j)):=by
 intro pins s σ H x y v u Q I rx ry h
 obtain ⟨i,j,rfl,rfl,hc,q⟩:=h
 obtain ⟨t,rfl⟩:=rx
 obtain ⟨t',rfl⟩:=ry
 exact rule i j t t' s _ _ hc ⟨.int (g i j),H,I.tok _,⟨_,rfl⟩,q⟩
theorem c1M {f:Value→Value→Sem Value} {g:Int→Int→Int}
  (rule:∀(i j:Int) (t u:Tok) (s:Shared) (Q:Value→Shared→Prop) (E:Value→Shared→Prop),Q (.int (g i j) s.toks) {s with toks:=s.toks+1}→wpAny (model X.prog X.w) X.A (f (.int i t) (.int j u)) Q E s):
  OpR X f (rI0 fun i j=>.int (g i j)):=by
 intro pins s σ H x y v u Q I rx ry h
 obtain ⟨i,j,rfl,rfl,q⟩:=h
 obtain ⟨t,rfl⟩:=rx
 obtain ⟨t',rfl⟩:=ry
 exact rule i j t t' s _ _ ⟨.int (g i j),H,I.tok _,⟨_,rfl⟩,q⟩
theorem c2g {f:Value→Value→Sem Value} {g:Int→Int→Bool}
  (rule:∀(i j:Int) (t u:Tok) (s:Shared) (Q:Value→Shared→Prop) (E:Value→Shared→Prop),Q (.bool (g i j)) s→wpAny (model X.prog X.w) X.A (f (.int i t) (.int j u)) Q E s):
  OpR X f (rI0 fun i j=>.bl (g i j)):=by
 intro pins s σ H x y v u Q I rx ry h
 obtain ⟨i,j,rfl,rfl,q⟩:=h
 obtain ⟨t,rfl⟩:=rx
 obtain ⟨t',rfl⟩:=ry
 exact rule i j t t' s _ _ ⟨.bl (g i j),H,I,rfl,q⟩
def a7t (i j:Int):Prop:=0 < j∧j < 1073741824
def b2Q (i j:Int):Prop:=(-(2 ^ 64) < i∧i < 2 ^ 64)∨(-(2 ^ 64) < j∧j < 2 ^ 64)
theorem b2Q.ok {i j:Int} (h:b2Q i j):IntMulOk i j:=by
 rcases h with ⟨h1,h2⟩ | ⟨h1,h2⟩
 ·exact .of_left (intBits_le_64 h1 h2)
 ·exact .of_right (intBits_le_64 h1 h2)
theorem b9f:OpR X (binaryOp .Add) (rI0 fun i j=>.int (i+j)):=c1M fun _ _ _ _ _ _ _ q=>add_int q
theorem b3g:OpR X (binaryOp .Sub) (rI0 fun i j=>.int (i - j)):=c1M fun _ _ _ _ _ _ _ q=>sub_int q
theorem a3c:OpR X (binaryOp .Mult) (rI b2Q fun i j=>.int (i * j)):=opI fun _ _ _ _ _ _ _ hc q=>mul_int q hc.ok
theorem a0I:OpR X (binaryOp .FloorDiv) (rI a7t fun i j=>.int (i / j)):=opI fun i j _ _ _ _ _ hc q=>by
 have h1:(0:Int) < j:=hc.1
 have h2:j < 1073741824:=hc.2
 exact floordiv_int (by omega) (by rw [Int.fdiv_eq_ediv_of_nonneg i (by omega)];exact q) (.inl (PyProof.noPylong_small (by omega)))
theorem a0r:OpR X (binaryOp .Mod) (rI (fun _ j=>0 < j) fun i j=>.int (i % j)):=opI fun i j _ _ _ _ _ hc q=>by
 have h1:(0:Int) < j:=hc
 exact mod_int' (by omega) (by rw [Int.fmod_eq_emod_of_nonneg i (by omega)];exact q)
end
def c0H:V→V→Bool
 | .non,.non=>true | .non,.int _=>true | .int _,.non=>true | .non,.bl _=>true | .bl _,.non=>true | .non,.str _=>true | .str _,.non=>true
 | .int _,.int _=>true | .bl _,.bl _=>true | .str _,.str _=>true | .byt _,.byt _=>true
 | .int _,.str _=>true | .str _,.int _=>true | .bl _,.str _=>true | .str _,.bl _=>true
 | _,_=>false
def rEq:R2:=fun x y H Q=>c0H x y=true∧Q (.bl (decide (x=y))) H
def rNe:R2:=fun x y H Q=>c0H x y=true∧Q (.bl (!decide (x=y))) H
theorem b0K {i j:Int}:decide (V.int i=V.int j)=(i == j):=by
 rw [Yl]
 simp
theorem b2V {i j:Bool}:decide (V.bl i=V.bl j)=(i == j):=by
 rw [Yl]
 simp
theorem a8V {i j:Str}:decide (V.str i=V.str j)=(i == j):=by
 rw [Yl]
 simp
theorem a9f {i j:Array UInt8}:decide (V.byt i=V.byt j)=(i.toList == j.toList):=by
 rw [Yl]
 cases i
 cases j
 simp
section
variable {X:Cx} {a b c:Expr} {ta tb tc:TE} {pos:Pos}
theorem a0q {pins:List (Addr×Obj)} {σ:St} {H:Hp} {s:Shared} {Q:VK} {k k':Bool} (I:Inv X pins σ H s) (q:Q (.bl k) H) (e:k=k'):EP X pins σ Q (.bool k') s:=by
 subst e
 exact ⟨.bl k,H,I,rfl,q⟩
theorem b9Z:OpR X (compareOp .Eq) rEq:=by
 intro pins s σ H x y v u Q I rx ry h
 obtain ⟨hs,q⟩:=h
 cases x with
 | non=>
  cases rx
  cases y with
  | non=>cases ry;exact PySem.EqNone.eq_none_none (a0q I q (by simp))
  | bl j=>cases ry;exact PySem.EqNone.eq_none_bool (a0q I q (by simp))
  | int j=>obtain ⟨t',rfl⟩:=ry;exact PySem.EqNone.eq_none_int (a0q I q (by simp))
  | str j=>obtain ⟨t',rfl⟩:=ry;exact PySem.EqNone.eq_none_str (a0q I q (by simp))
  | _=>exact absurd (show false=true from hs) Qu
 | bl i=>
  cases rx
  cases y with
  | non=>cases ry;exact PySem.EqNone.eq_bool_none (a0q I q (by simp))
  | bl j=>cases ry;exact eq_bool (a0q I q b2V)
  | str j=>obtain ⟨t',rfl⟩:=ry;exact PySem.EqMixed.eq_bool_str (a0q I q (by simp))
  | _=>exact absurd (show false=true from hs) Qu
 | int i=>
  obtain ⟨t,rfl⟩:=rx
  cases y with
  | non=>cases ry;exact PySem.EqNone.eq_int_none (a0q I q (by simp))
  | int j=>obtain ⟨t',rfl⟩:=ry;exact eq_int (a0q I q b0K)
  | str j=>obtain ⟨t',rfl⟩:=ry;exact PySem.EqMixed.eq_int_str (a0q I q (by simp))
  | _=>exact absurd (show false=true from hs) Qu
 | str i=>
  obtain ⟨t,rfl⟩:=rx
  cases y with
  | non=>cases ry;exact PySem.EqNone.eq_str_none (a0q I q (by simp))
  | bl j=>cases ry;exact PySem.EqMixed.eq_str_bool (a0q I q (by simp))
  | int j=>obtain ⟨t',rfl⟩:=ry;exact PySem.EqMixed.eq_str_int (a0q I q (by simp))
  | str j=>obtain ⟨t',rfl⟩:=ry;exact eq_str (a0q I q a8V)
  | _=>exact absurd (show false=true from hs) Qu
 | byt i=>
  obtain ⟨t,rfl⟩:=rx
  cases y with
  | byt j=>obtain ⟨t',rfl⟩:=ry;exact PySem.W.eq_bytes (a0q I q a9f)
  | _=>exact absurd (show false=true from hs) Qu
 | _=>cases y<;>exact absurd (show false=true from hs) Qu
theorem c0g:OpR X (compareOp .NotEq) rNe:=by
 intro pins s σ H x y v u Q I rx ry h
 obtain ⟨hs,q⟩:=h
 cases x with
 | non=>
  cases rx
  cases y with
  | non=>cases ry;exact PySem.EqNone.ne_none_none (a0q I q (by simp))
  | bl j=>cases ry;exact PySem.EqNone.ne_none_bool (a0q I q (by simp))
  | int j=>obtain ⟨t',rfl⟩:=ry;exact PySem.EqNone.ne_none_int (a0q I q (by simp))
  | str j=>obtain ⟨t',rfl⟩:=ry;exact PySem.EqNone.ne_none_str (a0q I q (by simp))
  | _=>exact absurd (show false=true from hs) Qu
 | bl i=>
  cases rx
  cases y with
  | non=>cases ry;exact PySem.EqNone.ne_bool_none (a0q I q (by simp))
  | bl j=>cases ry;exact ne_bool (a0q I q (congrArg not b2V))
  | str j=>obtain ⟨t',rfl⟩:=ry;exact PySem.EqMixed.ne_bool_str (a0q I q (by simp))
  | _=>exact absurd (show false=true from hs) Qu
 | int i=>
  obtain ⟨t,rfl⟩:=rx
  cases y with
  | non=>cases ry;exact PySem.EqNone.ne_int_none (a0q I q (by simp))
  | int j=>obtain ⟨t',rfl⟩:=ry;exact ne_int (a0q I q (congrArg not b0K))
  | str j=>obtain ⟨t',rfl⟩:=ry;exact PySem.EqMixed.ne_int_str (a0q I q (by simp))
  | _=>exact absurd (show false=true from hs) Qu
 | str i=>
  obtain ⟨t,rfl⟩:=rx
  cases y with
  | non=>cases ry;exact PySem.EqNone.ne_str_none (a0q I q (by simp))
  | bl j=>cases ry;exact PySem.EqMixed.ne_str_bool (a0q I q (by simp))
  | int j=>obtain ⟨t',rfl⟩:=ry;exact PySem.EqMixed.ne_str_int (a0q I q (by simp))
  | str j=>obtain ⟨t',rfl⟩:=ry;exact ne_str (a0q I q (congrArg not a8V))
  | _=>exact absurd (show false=true from hs) Qu
 | byt i=>
  obtain ⟨t,rfl⟩:=rx
  cases y with
  | byt j=>obtain ⟨t',rfl⟩:=ry;exact PySem.W.ne_bytes (a0q I q (congrArg not a9f))
  | _=>exact absurd (show false=true from hs) Qu
 | _=>cases y<;>exact absurd (show false=true from hs) Qu
theorem c0y:OpR X (compareOp .Lt) (rI0 fun i j=>.bl (decide (i < j))):=c2g fun _ _ _ _ _ _ _ q=>lt_int q
theorem b4x:OpR X (compareOp .Gt) (rI0 fun i j=>.bl (decide (j < i))):=c2g fun _ _ _ _ _ _ _ q=>gt_int q
theorem b1d:OpR X (compareOp .Lt) (fun x y H Q=>∃i j,x=.str i∧y=.str j∧Q (.bl (decide (i.cps.toList < j.cps.toList))) H):=by
 intro pins s σ H x y v u Q I rx ry h
 obtain ⟨i,j,rfl,rfl,q⟩:=h
 obtain ⟨t,rfl⟩:=rx
 obtain ⟨t',rfl⟩:=ry
 exact lt_str (a0q I q rfl)
theorem a9o:OpR X (compareOp .In) (fun x y H Q=>∃i j,x=.str i∧y=.str j∧Q (.bl (!(Builtin.Str.occurrences j i 0 j.length 1).isEmpty)) H):=by
 intro pins s σ H x y v u Q I rx ry h
 obtain ⟨i,j,rfl,rfl,q⟩:=h
 obtain ⟨t,rfl⟩:=rx
 obtain ⟨t',rfl⟩:=ry
 exact in_str (a0q I q rfl)
theorem b8y:OpR X (compareOp .Is) (fun x y H Q=>y=.non∧Q (.bl (decide (x=.non))) H):=by
 intro pins s σ H x y v u Q I rx ry h
 obtain ⟨rfl,q⟩:=h
 cases ry
 refine is_none_gen (a0q I q ?_)
 cases x<;>first
  | (cases rx;rfl)
  | (obtain ⟨t,rfl⟩:=rx;rfl)
theorem OpR.or {f:Value→Value→Sem Value} {r r':R2} (h:OpR X f r) (h':OpR X f r'):OpR X f (fun x y H Q=>r x y H Q∨r' x y H Q):=by
 intro pins s σ H x y v u Q I rx ry q
 rcases q with q | q
 ·exact h pins s σ H x y v u Q I rx ry q
 ·exact h' pins s σ H x y v u Q I rx ry q
theorem a0v (b:Expr) {op:CmpOp} (h:op≠.In:=by decide) (h2:op≠.NotIn:=by decide):behindInMarks op b=false:=by
 have e1:(op == CmpOp.In)=false:=by cases op<;>first | rfl | exact absurd rfl h
 have e2:(op == CmpOp.NotIn)=false:=by cases op<;>first | rfl | exact absurd rfl h2
 cases b<;>simp [behindInMarks,e1,e2]
theorem b5o {op:CmpOp} {r:R2} (ho:OpR X (compareOp op) r) (ha:PE X a ta) (hb:PE X b tb) (hm:behindInMarks op b=false):PE X (.Compare a [op] [b] pos) (tOp r ta tb):=by
 intro pins s σ H Q I h
 exact wpAny_Compare1 (c0u ha hb I h fun v u s2 x y H2 I2 rx ry q=>ho pins s2 σ H2 x y v u Q I2 rx ry q) hm
def a1q (t:TE):TT:=fun σ H Q=>t σ H fun x H'=>∃k,x=.bl k∧Q k H'
theorem b5E {op:CmpOp} {r:R2} (ho:OpR X (compareOp op) r) (ha:PE X a ta) (hb:PE X b tb) (hm:behindInMarks op b=false):PT X (.Compare a [op] [b] pos) (a1q (tOp r ta tb)):=by
 intro pins s σ H Q I h
 refine wpAny_isTrue_Compare1 (thn (ha pins s σ H _ I h) fun v s1 ⟨x,H1,I1,r1,q1⟩=>thn (hb pins s1 σ H1 _ I1 q1) fun u s2 ⟨y,H2,I2,r2,q2⟩=>
  thn (ho pins s2 σ H2 x y v u _ I2 r1 r2 q2) fun c s3 ⟨z,H3,I3,r3,k,e,q3⟩=>?_) hm
 subst e
 cases r3
 exact wpAny_truthy_bool ⟨H3,I3,q3⟩
theorem a7v:(sizeLine:Nat) < 2 ^ 63:=by rw [sizeLine_eq];decide
theorem a8o:OpR X (binaryOp .Add) (fun x y H Q=>∃i j,x=.str i∧y=.str j∧i.length+j.length≤sizeLine∧Q (.str (i++j)) H):=by
 intro pins s σ H x y v u Q I rx ry h
 obtain ⟨i,j,rfl,rfl,hz,q⟩:=h
 obtain ⟨t,rfl⟩:=rx
 obtain ⟨t',rfl⟩:=ry
 exact add_str (fun t' tk=>⟨.str (i++j),H,I.tok _,⟨_,rfl⟩,q⟩) hz
theorem a2V {x:V} {us:List Value} (r:a0H [x] us):∃u,us=[u]∧a0N x u:=by
 cases r with
 | cons r1 r2=>cases r2;exact ⟨_,rfl,r1⟩
theorem b8Q {x y:V} {us:List Value} (r:a0H [x,y] us):∃u w',us=[u,w']∧a0N x u∧a0N y w':=by
 cases r with
 | cons r1 r2=>
  cases r2 with
  | cons r3 r4=>cases r4;exact ⟨_,_,rfl,r1,r3⟩
theorem b0m (hc:X.calm=true):a1m X (.builtin "max") (fun xs H Q=>∃i j,xs=[.int i,.int j]∧Q (.int (if j > i then j else i)) H):=by
 intro pins s σ H xs us Q I r h
 obtain ⟨i,j,rfl,q⟩:=h
 obtain ⟨u,w',rfl,⟨t,rfl⟩,⟨t',rfl⟩⟩:=b8Q r
 refine max_two_ints (I.ok.hd hc) fun h' tk k=>⟨_,H,I.kept k,?_,q⟩
 by_cases hj:j > i
 ·rw [if_pos hj,if_pos hj];exact ⟨_,rfl⟩
 ·rw [if_neg hj,if_neg hj];exact ⟨_,rfl⟩
theorem a9w (hc:X.calm=true):a1m X (.builtin "min") (fun xs H Q=>∃i j,xs=[.int i,.int j]∧Q (.int (if j < i then j else i)) H):=by
 intro pins s σ H xs us Q I r h
 obtain ⟨i,j,rfl,q⟩:=h
 obtain ⟨u,w',rfl,⟨t,rfl⟩,⟨t',rfl⟩⟩:=b8Q r
 refine min_two_ints (I.ok.hd hc) fun h' tk k=>⟨_,H,I.kept k,?_,q⟩
 by_cases hj:j < i
 ·rw [if_pos hj,if_pos hj];exact ⟨_,rfl⟩
 ·rw [if_neg hj,if_neg hj];exact ⟨_,rfl⟩
def c3Q (K:Qc) (x:V) (H:Hp) (n:Nat):Prop:=
 match x with
 | .str y=>y.length≤sizeLine∧n=y.length
 | .byt y=>y.size≤sizeLine∧n=y.size
 | .ref p=>(∃xs,SqL K H p xs∧n=xs.length)∨∃xs,SqT K H p xs∧n=xs.length
 | _=>False
theorem b2w:a1m X (.builtin "len") (fun xs H Q=>∃x n,xs=[x]∧c3Q X.K x H n∧Q (.int n) H):=by
 intro pins s σ H xs us Q I r h
 obtain ⟨x,n,rfl,e,q⟩:=h
 obtain ⟨u,rfl,rx⟩:=a2V r
 have hl:=a7v
 have hs:sizeLine=16777216:=sizeLine_eq
 cases x with
 | str y=>
  obtain ⟨t,rfl⟩:=rx
  obtain ⟨hy,e'⟩:y.length≤sizeLine∧n=y.length:=e
  subst e'
  exact len_str (by omega) ⟨.int _,H,I.tok _,⟨_,rfl⟩,q⟩
 | byt y=>
  obtain ⟨t,rfl⟩:=rx
  obtain ⟨hy,e'⟩:y.size≤sizeLine∧n=y.size:=e
  subst e'
  exact PySem.W.len_bytes (by omega) ⟨.int _,H,I.tok _,⟨_,rfl⟩,q⟩
 | ref p=>
  cases rx
  have e':(∃xs,SqL X.K H p xs∧n=xs.length)∨∃xs,SqT X.K H p xs∧n=xs.length:=e
  rcases e' with ⟨xs,hx,e'⟩ | ⟨xs,hx,e'⟩
  ·subst e'
   obtain ⟨its,r',pl,hz⟩:=I.list hx
   have hlen:=r'.length
   exact Calls.call_len_list pl.isList (by simp only [Qm];omega) ⟨.int xs.length,H,I.tok _,⟨_,by simp only [Qm];rw [hlen]⟩,q⟩
  ·subst e'
   obtain ⟨its,r',pl,hz⟩:=I.tuple hx
   have hlen:=r'.length
   exact len_tuple pl (by simp only [Qm];omega) ⟨.int xs.length,H,I.tok _,⟨_,by simp only [Qm];rw [hlen]⟩,q⟩
 | _=>exact (show False from e).elim
end
end L2
namespace L2
open PySem PySem.Spec PyProof.Rows
structure b4z (h:Heap) (x dx C:Addr) (mA:Str→Option Value):Prop where
 obj:h.get? x=some (Zd C dx)
 ns:h.Ns1 dx mA
 ne:dx≠x
theorem b0n {h:Heap} {dx:Addr} {mA:Str→Option Value} (n:h.Ns1 dx mA):∃od,h.get? dx=some od∧∀name,Uo name od=some (mA name):=by
 obtain ⟨o,es,ep,ho,hd,hk,_,hm⟩:=n
 refine ⟨o,ho,fun name=>?_⟩
 have e:=hm name
 unfold nsFind findBy at e
 rw [←Array.find?_toList] at e
 unfold Uo
 rw [hd]
 dsimp only
 split
 ·rename_i y q
  rw [q] at e
  exact congrArg some e
 ·rename_i q
  rw [q] at e
  have a:es.toList.any (·.refKey)=false:=by
   rw [List.any_eq_false]
   intro y hy
   obtain ⟨z,t,hkey⟩:=hk y (Array.mem_toList_iff.mp hy)
   simp [DictEntry.refKey,hkey]
  have a':¬es.toList.any (·.refKey)=true:=by rw [a];exact Qu
  rw [if_neg a']
  exact congrArg some e
theorem b4z.look {h:Heap} {x dx C:Addr} {mA:Str→Option Value} (I:b4z h x dx C mA):∃od,PySem.W.InstAt h x (Zd C dx) C (some od)∧∀name,Uo name od=some (mA name):=
 let ⟨od,ho,hl⟩:=b0n I.ns
 ⟨od,⟨I.obj,rfl,rfl,ho⟩,hl⟩
section
variable {prog:Program} {w:World} {A:Around} {E:Value→Shared→Prop} {s:Shared} {K:Qc} {x dx C f:Addr} {mA:Str→Option Value} {name:Str} {v:Value}
theorem b5J {expr:Bool} {Q:Value→Shared→Prop} (X:K.In s.heap) (I:b4z s.heap x dx C mA) (hg:Jy K C name=true) (hh:Uz K C=true)
  (ha:Yo K (.ref C) name=some none) (hv:mA name=some v) (hv':Gb v=true) (h:Q v {s with toks:=s.toks+1}):
  wpAny (model prog w) A (getAttr (.ref x) name expr) Q E s:=by
 obtain ⟨od,J,hl⟩:=I.look
 exact PySem.W.get_value X J (Uj hg).1 (PySem.W.findObj_own hh ha rfl (by rw [hl,hv])) hv' h
theorem b1w {pl:Sem Bool} {Q:Value×List Value→Shared→Prop} (X:K.In s.heap) (I:b4z s.heap x dx C mA) (hg:Jy K C name=true)
  (hf:Yo K (.ref C) name=some (some (.ref f))) (ht:Wv K (.ref f)=true) (hv:mA name=none) (h:Q (.ref f,[.ref x]) s):
  wpAny (model prog w) A (getMethod (.ref x) name pl) Q E s:=by
 obtain ⟨od,J,hl⟩:=I.look
 exact PySem.W.method_fn X J (Uj hg).1 (Uj hg).2 hf (beq_iff_eq.mp ht) (by show (Uo name od).map (·.isSome)=some false;rw [hl,hv];rfl) h
theorem b4J {ns:List Str} {Q:Unit→Shared→Prop} (X:K.In s.heap) (I:b4z s.heap x dx C mA)
  (hs:Yo K (.ref C) "__setattr__"=some (some (.builtin "object.__setattr__"))) (hp:Wz K C=true) (ht:Vv K C name=some none) (hh:Uz K C=true)
  (hw:PySem.Within mA ns) (hsz:ns.length≤sizeLine)
  (h:∀h',b4z h' x dx C (fun y=>if y=name then some v else mA y)→Vi dx s.heap h'→Q () {s with heap:=h',toks:=s.toks+2}):
  wpAny (model prog w) A (setAttr (.ref x) name v) Q E s:=by
 obtain ⟨od,J,hl⟩:=I.look
 refine PySem.W.set_plain X J hs (PySem.W.osa_open (s:={s with toks:=s.toks+1}) (r:=none) X J hp ht fun b=>?_)
 obtain ⟨cd,hc,hd'⟩:=PySem.W.any_some hh
 have hx:s.heap.get? x=some ⟨.ref C,some dx,.plain,#[]⟩:=I.obj
 refine wpAny_bind (wpAny_pure (wpAny_bind (wpAny_bind (wpAny_loadPart hx (wpAny_bind (PySem.W.Looks.here (s:={s with toks:=s.toks+1}) (PySem.W.looks_clsIn X hc) ?_))))))
 rw [hd']
 refine wpAny_pure (a:=some dx) (wpAny_bind (wpAny_pure (wpAny_bind ?_)))
 refine wpAny_nsSet1 (s:={s with toks:=s.toks+1}) I.ns fun h' hn2 hs2=>?_
 obtain ⟨oD,esD,epD,hoD,hdD,hcD⟩:=hn2.count (PySem.Within.cons name v hw)
 refine wpAny_bind (wpAny_lookBehind hoD (by rw [hdD];exact pastItsLine_dict (Qh hcD (by rw [Qs];omega))) ?_)
 exact wpAny_pure (h _ ⟨(hs2.2 _ (Ne.symm I.ne)).trans I.obj,hn2,I.ne⟩ hs2)
theorem b2t {R:Result→Shared→Prop} {vs:List Value} {kw:List (Str×Value)} (X:K.In s.heap) (hm:Gd K C=true)
  (hi:Yo K (.ref C) "__init__"=some (some (.ref f))) (hf:Wh K (.ref f)=some (.type "function"))
  (h:codeAny (model prog w) (A.under (.builtin "type.__call__" ⟨.ref C::vs,kw⟩)) (.call (.ref f) ⟨.ref (s.heap.objs.size+1)::vs,kw⟩) (PySem.W.InitBack (s.heap.objs.size+1) R)
   {s with heap:=(s.heap.push Yq).push (Zd C s.heap.objs.size)}):
  codeAny (model prog w) A (.call (.ref C) ⟨vs,kw⟩) R s:=by
 obtain ⟨hh,g,d,t,os⟩:=s
 exact PySem.W.make_core (PySem.W.makes_of X hm) (PySem.W.looks_findIn X hi) (fun self=>PySem.W.bind_fn X self hf) (.inl rfl) h
end
def a1j (f:Str) (v:V):List (Str×V)→List (Str×V)
 | []=>[(f,v)]
 | (g,x)::r=>if g=f then (g,v)::r else (g,x)::a1j f v r
theorem a0f (f g:Str) (v:V):∀fs:List (Str×V),(a1j f v fs).lookup g=if g=f then some v else fs.lookup g
 | []=>by
  show Zr g [(f,v)]=_
  by_cases h:g=f
  ·have hb:(g == f)=true:=beq_iff_eq.mpr h
   simp only [Zr,hb,if_pos h]
  ·have hb:(g == f)=false:=beq_eq_false_iff_ne.mpr h
   simp only [Zr,hb,if_neg h]
 | (k,x)::r=>by
  have ih:=a0f f g v r
  rw [show a1j f v ((k,x)::r)=(if k=f then (k,v)::r else (k,x)::a1j f v r) from rfl]
  by_cases hk:k=f
  ·rw [if_pos hk]
   by_cases h:g=k
   ·have hb:(g == k)=true:=beq_iff_eq.mpr h
    simp only [Zr,hb,if_pos (h.trans hk)]
   ·have hb:(g == k)=false:=beq_eq_false_iff_ne.mpr h
    simp only [Zr,hb,if_neg (fun e:g=f=>h (e.trans hk.symm))]
  ·rw [if_neg hk]
   by_cases h:g=k
   ·have hb:(g == k)=true:=beq_iff_eq.mpr h
    simp only [Zr,hb,if_neg (fun e:g=f=>hk (h.symm.trans e))]
   ·have hb:(g == k)=false:=beq_eq_false_iff_ne.mpr h
    simp only [Zr,hb]
    exact ih
theorem a3N (f:Str) (v:V):∀fs:List (Str×V),f∈(a1j f v fs).map (·.1)∧∀g,g∈fs.map (·.1)→g∈(a1j f v fs).map (·.1)
 | []=>⟨by simp [a1j],fun g h=>by simp at h⟩
 | (k,x)::r=>by
  obtain ⟨i1,i2⟩:=a3N f v r
  rw [show a1j f v ((k,x)::r)=(if k=f then (k,v)::r else (k,x)::a1j f v r) from rfl]
  by_cases hk:k=f
  ·rw [if_pos hk]
   subst hk
   exact ⟨by simp,fun g h=>by simpa using h⟩
  ·rw [if_neg hk]
   refine ⟨?_,fun g h=>?_⟩
   ·rw [Xg]
    exact Qp _ i1
   ·rw [Xg] at h ⊢
    rcases Qw.mp h with e | e
    ·exact Qw.mpr (.inl e)
    ·exact Qp _ (i2 g e)
theorem a3I (f:Str) (v:V):∀fs:List (Str×V),(a1j f v fs).length≤fs.length+1
 | []=>by simp [a1j]
 | (k,x)::r=>by
  have ih:=a3I f v r
  rw [show a1j f v ((k,x)::r)=(if k=f then (k,v)::r else (k,x)::a1j f v r) from rfl]
  by_cases hk:k=f
  ·rw [if_pos hk,Qs,Qs];omega
  ·rw [if_neg hk,Qs,Qs];omega
theorem a3Z.some_of {v:V} {o:Option Value} (r:a3Z (some v) o):∃u,o=some u∧a0N v u:=by
 cases o with
 | none=>exact (show False from r).elim
 | some u=>exact ⟨u,rfl,r⟩
theorem a3Z.none_of {o:Option Value} (r:a3Z none o):o=none:=by
 cases o with
 | none=>rfl
 | some u=>exact (show False from r).elim
theorem a9g {v:V} {u:Value} (r:a0N v u):Gb u=true:=by
 cases v with
 | non=>cases (show u=Value.none from r);rfl
 | bl b=>cases (show u=Value.bool b from r);rfl
 | int i=>obtain ⟨t,e⟩:=(show ∃t,u=Value.int i t from r);cases e;rfl
 | str x=>obtain ⟨t,e⟩:=(show ∃t,u=Value.str x t from r);cases e;rfl
 | byt b=>obtain ⟨t,e⟩:=(show ∃t,u=Value.bytes b t from r);cases e;rfl
 | flt b=>obtain ⟨t,e⟩:=(show ∃t,u=Value.float b t from r);cases e;rfl
 | ref a=>cases (show u=Value.ref a from r);rfl
 | ty n=>cases (show u=Value.type n from r);rfl
section
variable {P:Program} {w:World} {H H':Hp} {h h':Heap} {a C dx:Addr} {fs fs':List (Str×V)}
theorem a6m (hok:HOk P w H h) (e:H a=some (.ins C dx fs)):∃mA,b4z h a dx C mA∧(∀f,a3Z (fs.lookup f) (mA f))∧PySem.Within mA (fs.map (·.1))∧fs.length≤1000∧H dx=some (.own a):=by
 obtain ⟨d,z,ne,ob,mA,n,r,q⟩:=(show a1e P w H h a (.ins C dx fs) from hok a _ e)
 exact ⟨mA,⟨ob,n,ne⟩,r,q,z,d⟩
end
structure Cls (K:Qc) (C:Addr):Prop where
 pg:Jy K C Str.empty=true
 hd:Uz K C=true
 po:Wz K C=true
 sa:Yo K (.ref C) "__setattr__"=some (some (.builtin "object.__setattr__"))
theorem Cls.get {K:Qc} {C:Addr} (c:Cls K C) (f:Str):Jy K C f=true:=c.pg
def a0A (K:Qc) (C:Addr) (f:Str):Prop:=Yo K (.ref C) f=some none
theorem a0A.taker {K:Qc} {C:Addr} {f:Str} (n:a0A K C f):Vv K C f=some none:=by
 unfold Vv
 rw [show Yo K (.ref C) f=some none from n]
 rfl
structure a3F (K:Qc) (C:Addr) (m:Str) (f:Addr):Prop where
 at_:Yo K (.ref C) m=some (some (.ref f))
 fn:Wv K (.ref f)=true
 kp:Zb K (.ref f)=true
section
variable {X:Cx} {pins:List (Addr×Obj)} {σ:St} {H:Hp} {s:Shared} {a C dx:Addr} {fs:List (Str×V)} {f:Str} {v:V} {A:Around} {E:Value→Shared→Prop}
theorem a7G {b:Bool} {Q:Value→Shared→Prop} (I:Inv X pins σ H s) (e:H a=some (.ins C dx fs)) (c:Cls X.K C) (n:a0A X.K C f) (l:fs.lookup f=some v)
  (h:∀u s',Inv X pins σ H s'→a0N v u→Q u s'):wpAny (model X.prog X.w) A (getAttr (.ref a) f b) Q E s:=by
 obtain ⟨mA,O,r,_,_,_⟩:=a6m I.hok e
 obtain ⟨u,hu,ru⟩:=a3Z.some_of (v:=v) (o:=mA f) (by rw [←l];exact r f)
 exact b5J I.kIn O (c.get f) c.hd n hu (a9g ru) (h u _ (I.tok _) ru)
theorem a4o {m:Str} {g:Addr} {pl:Sem Bool} {Q:Value×List Value→Shared→Prop} (I:Inv X pins σ H s) (e:H a=some (.ins C dx fs)) (c:Cls X.K C) (k:a3F X.K C m g) (l:fs.lookup m=none)
  (h:Q (.ref g,[.ref a]) s):wpAny (model X.prog X.w) A (getMethod (.ref a) m pl) Q E s:=by
 obtain ⟨mA,O,r,_,_,_⟩:=a6m I.hok e
 have hn:mA m=none:=a3Z.none_of (by rw [←l];exact r m)
 exact b1w I.kIn O (c.get m) k.at_ k.fn hn h
theorem a8k {y:V} {u:Value} {Q:Unit→Shared→Prop} (I:Inv X pins σ H s) (e:H a=some (.ins C dx fs)) (c:Cls X.K C) (n:a0A X.K C f) (hl:fs.length < 1000) (ry:a0N y u)
  (h:∀s',Inv X pins σ (upd H a (.ins C dx (a1j f y fs))) s'→Q () s'):wpAny (model X.prog X.w) A (setAttr (.ref a) f u) Q E s:=by
 obtain ⟨mA,O,r,wi,_,ho⟩:=a6m I.hok e
 have hz:(fs.map (·.1)).length≤sizeLine:=by rw [Qd,sizeLine_eq];omega
 refine b4J I.kIn O c.sa c.po n.taker c.hd wi hz fun h' O' sb=>h _ ?_
 have hd:∃o,h'.get? dx=some o:=let ⟨o,_,_,e',_⟩:=O'.ns;⟨o,e'⟩
 refine I.write (x:=a) (e:=dx) (by rw [e];exact True.intro) (.inr ho) (fun b q hb z=>(sb.2 b hb).trans z) hd ?_
 refine ⟨by rw [a0a O.ne];exact ho,?_,O.ne,O'.obj,_,O'.ns,fun g=>?_,fun g hg=>?_⟩
 ·have:=a3I f y fs;omega
 ·show a3Z ((a1j f y fs).lookup g) (if g=f then some u else mA g)
  rw [a0f]
  by_cases q:g=f
  ·rw [if_pos q,if_pos q];exact ry
  ·rw [if_neg q,if_neg q];exact r g
 ·by_cases q:g=f
  ·rw [q];exact (a3N f y fs).1
  ·refine (a3N f y fs).2 g (wi g fun z=>hg ?_)
   show (if g=f then some u else mA g)=none
   rw [if_neg q];exact z
theorem Inv.made (I:Inv X pins σ H s):Inv X pins σ (upd (upd H s.heap.objs.size (.own (s.heap.objs.size+1))) (s.heap.objs.size+1) (.ins C s.heap.objs.size []))
  {s with heap:=(s.heap.push Yq).push (Zd C s.heap.objs.size)}:=by
 have e1:(s.heap.push Yq).get? s.heap.objs.size=some Yq:=Xd s.heap rfl
 have e2:((s.heap.push Yq).push (Zd C s.heap.objs.size)).get? (s.heap.objs.size+1)=some (Zd C s.heap.objs.size):=by
  have:=Xd (s.heap.push Yq) (o:=Zd C s.heap.objs.size) rfl
  rwa [Wi] at this
 have e3:(s.heap.push Yq).Ns s.heap.objs.size (fun _=>none):=⟨Yq,#[],_,e1,rfl,(fun e he=>absurd he (by simp)),fun _=>rfl⟩
 have I1:=I.laid (a:=s.heap.objs.size) (o:=.own (s.heap.objs.size+1)) (h':=s.heap.push Yq) (t':=s.toks) (fun b u q=>Ql _ q) (Qk _) ⟨_,e1⟩
 refine I1.laid (a:=s.heap.objs.size+1) (o:=.ins C s.heap.objs.size []) (t':=s.toks) (fun b u q=>Ql _ q) (Vj (Wi _ _)) ?_
 have ne:s.heap.objs.size≠s.heap.objs.size+1:=Xe (Vk _)
 refine ⟨by rw [a0a ne,a0d],Xm _,ne,e2,fun _=>none,(Heap.Ns1.of_empty e3).at fun o q=>Ql _ q,fun _=>True.intro,fun y hy=>absurd rfl hy⟩
theorem b5y {prog:Program} {w:World} {env:Env} {e:Expr} {f:Str} {pos:Pos} {s:Shared} {Q:Value→Shared→Prop} (hb:attributeBase e f env (eval e env)=eval e env)
  (h:wpAny (model prog w) A (eval e env) (fun o s₁=>wpAny (model prog w) A (getAttr o f true) Q E s₁) E s):wpAny (model prog w) A (eval (.Attribute e f pos) env) Q E s:=
 Attribute_any_ h (by rw [arm_eval_Attribute,hb])
end
def a3l (K:Qc) (ta:TE) (f:Str):TE:=fun σ H Q=>ta σ H fun x H1=>∃a C dx fs v,x=.ref a∧H1 a=some (.ins C dx fs)∧Cls K C∧a0A K C f∧fs.lookup f=some v∧Q v H1
def b6E (K:Qc) (ta tv:TE) (f:Str):TS:=fun D σ H=>tv σ H fun y H1=>ta σ H1 fun x H2=>∃a C dx fs,x=.ref a∧H2 a=some (.ins C dx fs)∧Cls K C∧a0A K C f∧fs.length < 1000∧
 D.nx σ (upd H2 a (.ins C dx (a1j f y fs)))
section
variable {X:Cx} {o e value:Expr} {f:Str} {pos pos' tpos:Pos} {ta tv:TE}
theorem b3J (he:PE X e ta) (hb:attributeBase e f X.env (eval e X.env)=eval e X.env):PE X (.Attribute e f pos) (a3l X.K ta f):=by
 intro pins s σ H Q I h
 refine b5y hb (thn (he pins s σ H _ I h) fun u s1 ⟨x,H1,I1,rx,a,C,dx,fs,v,ex,ea,c,n,l,q⟩=>?_)
 subst ex
 obtain rfl:u=Value.ref a:=rx
 exact a7G I1 ea c n l fun u' s2 I2 ru=>⟨v,H1,I2,ru,q⟩
theorem b6i (ha:PE X o ta) (hv:PE X value tv) (hs:swapsWith value (some (.Attribute o f pos')) pos.line X.env=pure false):PS X (.Assign [.Attribute o f pos'] value pos) (b6E X.K ta tv f):=by
 intro pins s σ H D I h
 refine plainObj_wpAny_Assign_Attribute (thn (hv pins s σ H _ I h) fun u s1 ⟨y,H1,I1,ry,q⟩=>thn (ha pins s1 σ H1 _ I1 q) fun ov s2 ⟨x,H2,I2,rx,a,C,dx,fs,ex,ea,c,n,l,q2⟩=>?_) hs
 subst ex
 obtain rfl:ov=Value.ref a:=rx
 exact a8k I2 ea c n l ry fun s3 I3=>⟨σ,_,I3,q2⟩
end
end L2
namespace L2
open PySem PySem.Spec PyProof.Rows
structure a2h (k:Nat) (A:Around):Prop where
 hd:A.handled=none
 dp:A.depth+3 * k+5 < recursionLimit
 un:A.units+16 * k+200 < cLine
theorem a2h.mono {j k:Nat} {A:Around} (r:a2h k A) (h:j≤k):a2h j A:=⟨r.hd,by have:=r.dp;omega,by have:=r.un;omega⟩
theorem a2h.deeper {k:Nat} {A:Around} (r:a2h (k+1) A) (env:Env):a2h k (A.deeper env):=
 ⟨r.hd,by have:=r.dp;show A.depth+1+3 * k+5 < _;omega,by have:=r.un;show A.units+3+16 * k+200 < _;omega⟩
theorem a2h.in1 {k:Nat} {A:Around} (r:a2h (k+1) A):a2h k A.in1:=
 ⟨r.hd,by have:=r.dp;show A.depth+3 * k+5 < _;omega,by have:=r.un;show A.units+1+16 * k+200 < _;omega⟩
theorem a8a {A:Around} {C:Addr} {us:List Value} {kw:List (Str×Value)}:(A.under (.builtin "type.__call__" ⟨.ref C::us,kw⟩)).depth=A.depth+1:=by
 first | rfl | simp [Around.under,Code.weight,Code.isCreation,Code.isGuard,Code.isCaller,Code.frames,Code.isFrame,guardIds]
theorem a8p {A:Around} {C:Addr} {us:List Value} {kw:List (Str×Value)}:(A.under (.builtin "type.__call__" ⟨.ref C::us,kw⟩)).units=A.units+1:=by
 first | rfl | simp [Around.under,Code.cUnits,Code.frames,Code.isFrame]
theorem a2h.make {k:Nat} {A:Around} (r:a2h (k+1) A) (C:Addr) (us:List Value) (kw:List (Str×Value)):a2h k (A.under (.builtin "type.__call__" ⟨.ref C::us,kw⟩)):=
 ⟨r.hd,by have:=r.dp;rw [a8a];omega,by have:=r.un;rw [a8p];omega⟩
theorem a2h.depth {k:Nat} {A:Around} (r:a2h k A):A.depth < recursionLimit:=by have:=r.dp;omega
theorem a2h.units {k:Nat} {A:Around} (r:a2h k A):A.units+64 < cLine:=by have:=r.un;omega
def a0u:TA:=fun _ H Q=>Q [] H
def a0i (ta:TE) (tr:TA):TA:=fun σ H Q=>ta σ H fun x H1=>tr σ H1 fun xs H2=>Q (x::xs) H2
section
variable {X:Cx} {e:Expr} {es:List Expr} {te:TE} {t:TA} {pos:Pos}
theorem b3B:PA X [] a0u:=fun _ _ _ _ H Q I h=>Calls.spliced_nil ⟨[],H,I,.nil,h⟩
theorem a9m (ha:PE X e te) (hr:PA X es t) (hs:starEach (e::es) X.env=(false,eval e X.env)::starEach es X.env:=by rfl):PA X (e::es) (a0i te t):=by
 intro pos pins s σ H Q I h
 rw [hs]
 show wpAny _ _ (spliced ((false,eval e X.env)::backTo pos (starEach es X.env))) _ _ s
 refine Calls.spliced_cons (thn (ha pins s σ H _ I h) fun u s1 ⟨x,H1,I1,r1,q1⟩=>?_)
 exact thn (hr pos pins s1 σ H1 _ I1 q1) fun us s2 ⟨xs,H2,I2,r2,q2⟩=>⟨x::xs,H2,I2,.cons r1 r2,q2⟩
def a8b (t:TA):TE:=fun σ H Q=>t σ H fun xs H1=>xs.length≤sizeLine∧∀p,H1 p=none→Q (.ref p) (upd H1 p (.tup xs))
def a5Z (t:TA):TE:=fun σ H Q=>t σ H fun xs H1=>xs.length≤sizeLine∧∀p,H1 p=none→Q (.ref p) (upd H1 p (.lst xs))
theorem b8Y {x1} (h:PA X es t):PE X (.Tuple es x1 pos) (a8b t):=by
 intro pins s σ H Q I hq
 refine wpAny_Tuple_spliced (thn (h pos pins s σ H _ I hq) fun us s1 ⟨xs,H1,I1,r,z,q⟩=>⟨by rw [←r.length];exact z,?_⟩)
 have hf:H1 s1.heap.objs.size=none:=I1.hok.fresh (Qk _)
 refine ⟨.ref s1.heap.objs.size,upd H1 s1.heap.objs.size (.tup xs),I1.laid (t':=s1.toks) (fun b u e=>Ql _ e) (Qk _) ?_,rfl,q _ hf⟩
 exact ⟨z,us,r,⟨_,Xd _ rfl,rfl,_,rfl⟩⟩
theorem b6p (h:PA X es t):PE X (.List es pos) (a5Z t):=by
 intro pins s σ H Q I hq
 refine wpAny_List_spliced (thn (h pos pins s σ H _ I hq) fun us s1 ⟨xs,H1,I1,r,z,q⟩=>⟨by rw [←r.length];exact z,?_⟩)
 have hf:H1 s1.heap.objs.size=none:=I1.hok.fresh (Qk _)
 refine ⟨.ref s1.heap.objs.size,upd H1 s1.heap.objs.size (.lst xs),I1.laid (t':=s1.toks) (fun b u e=>Ql _ e) (Qk _) ?_,rfl,q _ hf⟩
 exact ⟨z,us,0,r,Xd _ rfl⟩
end
abbrev Sp:=List V→Hp→VK→XK→Prop
abbrev CXT:=List Env→Hp→Shared→XK→Value→Shared→Prop
structure b5k (P:Program) (w:World) (K:Qc) (mg:Str→Option Value) (base:Heap) (A:Around) (outer:List Env) (s:Shared) (H:Hp):Prop where
 frames:A.frames=some outer
 mod:Mod K mg base
 bs:∀b o,base.get? b=some o→s.heap.get? b=some o∧H b=none
 bsz:base.objs.size≤s.heap.objs.size
 funs:s.heap.FunFrames base outer
 frf:∀b∈frs outer,H b=none
 hok:HOk P w H s.heap
 bare:AllBare s.gens
def CE (outer:List Env) (P:Program) (w:World) (H:Hp) (s:Shared) (Q:VK) (u:Value) (s':Shared):Prop:=
 ∃v H',s'.os=s.os∧AllBare s'.gens∧Un (frs outer) [] H H' s.heap s'.heap∧HOk P w H' s'.heap∧a0N v u∧Q v H'
def CR (CX:CXT) (outer:List Env) (P:Program) (w:World) (H:Hp) (s:Shared) (Q:VK) (E:XK) (r:Result) (s':Shared):Prop:=
 match r with
 | .ok (.ret u)=>CE outer P w H s Q u s'
 | .ok _=>False
 | .error e=>CX outer H s E e s'
structure a0W (P:Program) (w:World) (K:Qc) (mg:Str→Option Value) (base:Heap) (CX:CXT) (k:Nat) (f:Addr) (fd:FuncData) (ps:List Str) (sp:Sp):Prop where
 len:∀vs H Q E,sp vs H Q E→vs.length=ps.length
 run:∀(A:Around) (outer:List Env) (s:Shared) (H:Hp) (args:Args) (us:List Value) (vs:List V) (Q:VK) (E:XK),a2h k A→b5k P w K mg base A outer s H→BindsTo s fd args (ps.zip us)→a0H vs us→sp vs H Q E→
  codeAny (model P w) A (.call (.ref f) args) (CR CX outer P w H s Q E) s
theorem a0W.imp {P:Program} {w:World} {K:Qc} {mg:Str→Option Value} {base:Heap} {CX:CXT} {k:Nat} {f:Addr} {fd:FuncData} {ps:List Str} {sp sp':Sp} (F:a0W P w K mg base CX k f fd ps sp)
  (h:∀vs H Q E,sp' vs H Q E→sp vs H Q E):a0W P w K mg base CX k f fd ps sp':=
 ⟨fun vs H Q E q=>F.len vs H Q E (h _ _ _ _ q),fun A outer s H args us vs Q E hr he hb hv hs=>F.run A outer s H args us vs Q E hr he hb hv (h _ _ _ _ hs)⟩
theorem b5k.make {P:Program} {w:World} {K:Qc} {mg:Str→Option Value} {base:Heap} {A:Around} {outer:List Env} {s:Shared} {H:Hp} (e:b5k P w K mg base A outer s H) (C:Addr) (us:List Value) (kw:List (Str×Value)):
  b5k P w K mg base (A.under (.builtin "type.__call__" ⟨.ref C::us,kw⟩)) outer s H:=⟨by first | exact e.frames | (simpa [Around.under,Code.envs,Code.isFrame,pushEnvs] using e.frames),e.mod,e.bs,e.bsz,e.funs,e.frf,e.hok,e.bare⟩
section
variable {X:Cx} {pins:List (Addr×Obj)} {σ:St} {H:Hp} {s s':Shared}
theorem Inv.env0 (I:Inv X pins σ H s):b5k X.prog X.w X.K X.mg X.base X.A X.stack s H:=
 ⟨I.ok.frames,I.ok.mod,I.bs,Qh I.ok.bsz I.sz,I.stack,I.stkFree,I.hok,I.bare⟩
theorem Inv.after {Q:VK} {u:Value} (I:Inv X pins σ H s) (h:CE X.stack X.prog X.w H s Q u s'):EP X pins σ Q u s':=by
 obtain ⟨v,H',os,bare,un,hok,r,q⟩:=h
 obtain ⟨hh,g,d,t,os'⟩:=s'
 obtain rfl:os'=s.os:=os
 exact ⟨v,H',I.call (h':=hh) (g':=g) (d':=d) (t':=t) (ch:=[]) un hok bare (fun b z=>absurd z (by simp)),r,q⟩
end
def a0K (sp:Sp) (dvs:List V) (E:XK) (t:TA):TE:=fun σ H Q=>t σ H fun vs H1=>sp (vs++dvs) H1 Q E
def a1G (C:Addr) (m:Str) (sp:Sp) (dvs:List V) (E:XK) (ta:TE) (t:TA):TE:=fun σ H Q=>ta σ H fun x H1=>∃a dx fs,x=.ref a∧H1 a=some (.ins C dx fs)∧fs.lookup m=none∧
 t σ H1 fun vs H2=>sp (x::(vs++dvs)) H2 Q E
def b4E (C:Addr) (sp:Sp) (dvs:List V) (E:XK) (t:TA):TE:=fun σ H Q=>t σ H fun vs H1=>∀x dx,H1 x=none→H1 dx=none→dx≠x→
 sp (.ref x::(vs++dvs)) (upd (upd H1 dx (.own x)) x (.ins C dx [])) (fun v H2=>v=.non∧Q (.ref x) H2) E
def a0n (K:Qc) (fd:FuncData) (ps:List Str) (ds:List Value):Prop:=
 ∀(s:Shared) (us:List Value),K.In s.heap→(us++ds).length=ps.length→BindsTo s fd ⟨us,[]⟩ (ps.zip (us++ds))
theorem a0n.all {K:Qc} {fd:FuncData} {ps:List Str} (h:∀us:List Value,us.length=ps.length→bindArgs fd ⟨us,[]⟩=pure (ps.zip us)):a0n K fd ps []:=fun s us _ hl=>by
 rw [Qg] at hl ⊢
 exact .of_eq (h us hl)
def a3i (CX:CXT) (X:Cx) (E:XK):Prop:=∀(pins:List (Addr×Obj)) (σ:St) (H:Hp) (s:Shared) (e:Value) (s':Shared),Inv X pins σ H s→CX X.stack H s E e s'→X.xe e s'
section
variable {X:Cx} {CX:CXT} {k:Nat} {f C:Addr} {fd:FuncData} {ps:List Str} {sp:Sp} {dvs:List V} {ds:List Value} {E:XK} {x m:Str} {p pos apos:Pos} {e o:Expr} {es:List Expr} {ta:TE} {t:TA}
theorem a7i {pins:List (Addr×Obj)} {σ:St} {H:Hp} {s:Shared} {Q:VK} {us:List Value} {vs:List V} (F:a0W X.prog X.w X.K X.mg X.base CX k f fd ps sp) (hr:a2h k X.A) (hb:a0n X.K fd ps ds) (hd:a0H dvs ds) (hx:a3i CX X E)
  (I:Inv X pins σ H s) (r:a0H vs us) (h:sp (vs++dvs) H Q E):wpAny (model X.prog X.w) X.A (call (.ref f) us) (EP X pins σ Q) X.xe s:=by
 have r2:a0H (vs++dvs) (us++ds):=r.append hd
 have hl:(us++ds).length=ps.length:=by rw [←r2.length];exact F.len _ _ _ _ h
 refine wpAny_call (codeAny_mono (F.run X.A X.stack s H ⟨us,[]⟩ (us++ds) (vs++dvs) Q E hr I.env0 (hb s us I.kIn hl) r2 h) fun r s' hq=>?_)
 cases r with
 | error e=>exact hx pins σ H s e s' I hq
 | ok fl=>
  cases fl with
  | ret u=>exact I.after hq
  | next=>exact False.elim hq
  | brk=>exact False.elim hq
  | cont=>exact False.elim hq
theorem b4M (F:a0W X.prog X.w X.K X.mg X.base CX k f fd ps sp) (hr:a2h k X.A) (hg:Gl X x) (hm:X.mg x=some (.ref f)) (hk:Zb X.K (.ref f)=true) (hb:a0n X.K fd ps ds) (hd:a0H dvs ds) (hx:a3i CX X E)
  (ha:PA X (e::es) t) (hdb:(x == ("__debug__":Str))=false:=by decide) (he:starEach (e::es) X.env=(false,eval e X.env)::starEach es X.env:=by rfl) (hpl:(backTo pos (starEach es X.env)).any (·.1)=false:=by rfl):
  PE X (.Call (.Name x p) (e::es) [] pos) (a0K sp dvs E t):=by
 intro pins s σ H Q I h
 refine wpAny_Call_Name_kw (a6F I hg hm ?_ hdb)
 refine Jp (h₀:=X.base) I.ok.mod.kin hk (thn (ha pos pins s σ H _ I h) fun us s1 ⟨vs,H1,I1,r,q⟩=>⟨I1.kIn,?_⟩) he hpl
 exact a7i F hr hb hd hx I1 r q
theorem b4o {pl:Sem Bool} (he:PE X o ta) (c:Cls X.K C) (hm:a3F X.K C m f) (F:a0W X.prog X.w X.K X.mg X.base CX k f fd ps sp) (hr:a2h k X.A) (hb:a0n X.K fd ps ds) (hd:a0H dvs ds) (hx:a3i CX X E) (ha:PA X (e::es) t)
  (hst:starEach (e::es) X.env=(false,eval e X.env)::starEach es X.env:=by rfl) (hpl:(backTo pos (starEach es X.env)).any (·.1)=false:=by rfl)
  (ht:eval (.Call (.Attribute o m apos) (e::es) [] pos) X.env=(do
   let ov ←eval o X.env
   standAt apos.atName
   let (f,first) ←holding [ov] (getMethod ov m pl)
   callWith pos f first (backTo pos (starEach (e::es) X.env)) (backToKw pos (keywordEach [] X.env))):=by rfl):
  PE X (.Call (.Attribute o m apos) (e::es) [] pos) (a1G C m sp dvs E ta t):=by
 intro pins s σ H Q I h
 refine Jz (pl:=pl) (thn (he pins s σ H _ I h) fun u s1 ⟨x,H1,I1,rx,a,dx,fs,ex,ea,l,q⟩=>?_) ht
 subst ex
 obtain rfl:u=Value.ref a:=rx
 refine a4o I1 ea c hm l ?_
 refine Jp (first:=[.ref a]) (h₀:=X.base) I.ok.mod.kin hm.kp (thn (ha pos pins s1 σ H1 _ I1 q) fun us s2 ⟨vs,H2,I2,r,q2⟩=>⟨I2.kIn,?_⟩) hst hpl
 exact a7i (us:=.ref a::us) (vs:=.ref a::vs) F hr hb hd hx I2 (.cons rfl r) q2
theorem b1u {pl:Sem Bool} (he:PE X o ta) (c:Cls X.K C) (hm:a3F X.K C m f) (F:a0W X.prog X.w X.K X.mg X.base CX k f fd ps sp) (hr:a2h k X.A) (hb:a0n X.K fd ps ds) (hd:a0H dvs ds) (hx:a3i CX X E)
  (ht:eval (.Call (.Attribute o m apos) [] [] pos) X.env=(do
   let ov ←eval o X.env
   standAt apos.atName
   let (f,first) ←holding [ov] (getMethod ov m pl)
   callWith pos f first (backTo pos (starEach [] X.env)) (backToKw pos (keywordEach [] X.env))):=by rfl):
  PE X (.Call (.Attribute o m apos) [] [] pos) (a1G C m sp dvs E ta a0u):=by
 intro pins s σ H Q I h
 refine Jz (pl:=pl) (thn (he pins s σ H _ I h) fun u s1 ⟨x,H1,I1,rx,a,dx,fs,ex,ea,l,q⟩=>?_) ht
 subst ex
 obtain rfl:u=Value.ref a:=rx
 refine a4o I1 ea c hm l ?_
 exact PySem.W.callWith_K0 (first:=[.ref a]) I1.kIn hm.kp (a7i (us:=[.ref a]) (vs:=[.ref a]) F hr hb hd hx I1 (.cons rfl .nil) q)
structure Mk (K:Qc) (C f:Addr):Prop where
 makes:Gd K C=true
 init:Yo K (.ref C) "__init__"=some (some (.ref f))
 fn:Wv K (.ref f)=true
 kp:Zb K (.ref C)=true
theorem b2r {pins:List (Addr×Obj)} {σ:St} {H:Hp} {s:Shared} {Q:VK} {us:List Value} {vs:List V} (M:Mk X.K C f) (F:a0W X.prog X.w X.K X.mg X.base CX k f fd ps sp) (hr:a2h (k+1) X.A) (hb:a0n X.K fd ps ds) (hd:a0H dvs ds)
  (hx:a3i CX X E) (I:Inv X pins σ H s) (r:a0H vs us)
  (h:∀x dx,H x=none→H dx=none→dx≠x→sp (.ref x::(vs++dvs)) (upd (upd H dx (.own x)) x (.ins C dx [])) (fun v H2=>v=.non∧Q (.ref x) H2) E):
  wpAny (model X.prog X.w) X.A (call (.ref C) us) (EP X pins σ Q) X.xe s:=by
 have hq:=h (s.heap.objs.size+1) s.heap.objs.size (I.hok.fresh (Jl _)) (I.hok.fresh (Qk _)) (Xe (Vk _))
 have I2:=Inv.made (C:=C) I
 have r2:a0H (V.ref (s.heap.objs.size+1)::(vs++dvs)) (Value.ref (s.heap.objs.size+1)::(us++ds)):=.cons rfl (r.append hd)
 have hl:(Value.ref (s.heap.objs.size+1)::us++ds).length=ps.length:=by
  have e:=r2.length
  rw [F.len _ _ _ _ hq] at e
  exact e.symm
 refine wpAny_call (b2t (f:=f) I.kIn M.makes M.init (beq_iff_eq.mp M.fn) (codeAny_mono (F.run _ X.stack _ _ ⟨Value.ref (s.heap.objs.size+1)::us,[]⟩ (Value.ref (s.heap.objs.size+1)::(us++ds)) _ _ E (hr.make C us [])
  (I2.env0.make C us []) (hb _ (Value.ref (s.heap.objs.size+1)::us) I2.kIn hl) r2 hq) fun r s' hq'=>?_))
 cases r with
 | error e=>exact hx pins σ _ _ e s' I2 hq'
 | ok fl=>
  cases fl with
  | ret u=>
   obtain ⟨v,H',I3,rv,ev,q3⟩:=I2.after hq'
   subst ev
   exact ⟨rv,⟨V.ref (s.heap.objs.size+1),H',I3,rfl,q3⟩⟩
  | next=>exact False.elim hq'
  | brk=>exact False.elim hq'
  | cont=>exact False.elim hq'
theorem b3V (M:Mk X.K C f) (F:a0W X.prog X.w X.K X.mg X.base CX k f fd ps sp) (hr:a2h (k+1) X.A) (hg:Gl X x) (hm:X.mg x=some (.ref C)) (hb:a0n X.K fd ps ds) (hd:a0H dvs ds) (hx:a3i CX X E)
  (ha:PA X (e::es) t) (hdb:(x == ("__debug__":Str))=false:=by decide) (he:starEach (e::es) X.env=(false,eval e X.env)::starEach es X.env:=by rfl) (hpl:(backTo pos (starEach es X.env)).any (·.1)=false:=by rfl):
  PE X (.Call (.Name x p) (e::es) [] pos) (b4E C sp dvs E t):=by
 intro pins s σ H Q I h
 refine wpAny_Call_Name_kw (a6F I hg hm ?_ hdb)
 refine Jp (h₀:=X.base) I.ok.mod.kin M.kp (thn (ha pos pins s σ H _ I h) fun us s1 ⟨vs,H1,I1,r,q⟩=>⟨I1.kIn,?_⟩) he hpl
 exact b2r M F hr hb hd hx I1 r q
end
structure a0h (N P:List Str) (sc:Scope):Prop where
 kind:sc.kind=.function
 co:sc.isCoroutine=false
 gen:sc.isGenerator=false
 nd:N.Nodup
 pre:N.take P.length=P
 par:∀x∈P,sc.names.lookup x=some .local∨sc.names.lookup x=some .cell
 nofree:∀y∈sc.names,y.2≠.free
theorem a5K {kindOf:Str→Option NameKind} {x:Str}:∀{binds:List (Str×Value)} {m:Str→Option Value},(∀v,(x,v)∉binds)→bindL kindOf binds m x=m x
 | [],_,_=>rfl
 | (n,v)::r,m,h=>by
  unfold bindL
  rw [a5K fun w hw=>h w (Qp _ hw)]
  split
  ·have:x≠n:=by rintro rfl;exact h v Qn
   simp [this]
  ·rfl
theorem a5X {kindOf:Str→Option NameKind} {x:Str}:∀{binds:List (Str×Value)} {m:Str→Option Value},(∀v,(x,v)∉binds)→bindC kindOf binds m x=m x
 | [],_,_=>rfl
 | (n,v)::r,m,h=>by
  unfold bindC
  rw [a5X fun w hw=>h w (Qp _ hw)]
  split
  ·rfl
  ·have:x≠n:=by rintro rfl;exact h v Qn
   simp [this]
theorem a5x {kindOf:Str→Option NameKind} {x:Str} {v:Value}:∀{P:List Str} {vs:List Value} {i:Nat} {m:Str→Option Value},P.Nodup→P[i]?=some x→vs[i]?=some v→kindOf x=some .local→
  bindL kindOf (P.zip vs) m x=some v
 | [],_,_,_,_,h,_,_=>by simp at h
 | _::_,[],_,_,_,_,h,_=>by simp at h
 | p::P,w::vs,0,m,nd,h1,h2,hk=>by
  simp at h1 h2;subst h1;subst h2
  show bindL kindOf ((p,w)::P.zip vs) m p=_
  unfold bindL
  rw [a5K fun v hv=>(Yv.mp nd).1 (Vw hv).1,if_pos hk]
  simp
 | p::P,w::vs,i+1,m,nd,h1,h2,hk=>by
  show bindL kindOf ((p,w)::P.zip vs) m x=_
  unfold bindL
  exact a5x (i:=i) (Yv.mp nd).2 (by simpa using h1) (by simpa using h2) hk
theorem a5J {kindOf:Str→Option NameKind} {x:Str} {v:Value}:∀{P:List Str} {vs:List Value} {i:Nat} {m:Str→Option Value},P.Nodup→P[i]?=some x→vs[i]?=some v→kindOf x≠some .local→
  bindC kindOf (P.zip vs) m x=some v
 | [],_,_,_,_,h,_,_=>by simp at h
 | _::_,[],_,_,_,_,h,_=>by simp at h
 | p::P,w::vs,0,m,nd,h1,h2,hk=>by
  simp at h1 h2;subst h1;subst h2
  show bindC kindOf ((p,w)::P.zip vs) m p=_
  unfold bindC
  rw [a5X fun v hv=>(Yv.mp nd).1 (Vw hv).1,if_neg hk]
  simp
 | p::P,w::vs,i+1,m,nd,h1,h2,hk=>by
  show bindC kindOf ((p,w)::P.zip vs) m x=_
  unfold bindC
  exact a5J (i:=i) (Yv.mp nd).2 (by simpa using h1) (by simpa using h2) hk
def start (N:List Str) (vs:List V):St:=vs.map some++List.replicate (N.length - vs.length) none
def b2X (CX:CXT) (P:Program) (w:World) (K:Qc) (mg:Str→Option Value) (base:Heap) (N:List Str) (qual:Str) (scope:Scope) (f:Addr) (cd:Value) (A:Around) (outer:List Env) (s:Shared) (H:Hp) (E:XK):Cx where
 prog:=P
 w:=w
 K:=K
 mg:=mg
 base:=base
 A:=A.deeper (envOfC qual scope s.heap.objs.size f cd)
 N:=N
 s₀:=s
 H₀:=H
 env:=envOfC qual scope s.heap.objs.size f cd
 outer:=outer
 stack:=envOfC qual scope s.heap.objs.size f cd::outer
 ex:=[]
 calm:=true
 fn:=fun _=>true
 pn:=[]
 xe:=fun e s'=>wpAny (model P w) (A.deeper (envOfC qual scope s.heap.objs.size f cd)) (leaving (envOfC qual scope s.heap.objs.size f cd) e) (fun _ s''=>CX outer H s E e s'') (fun e' s''=>CX outer H s E e' s'') s'
theorem a7u {sc:Scope} {n:Nat} {x:Str} (h:sc.names.lookup x=some .cell):∃c,(cellsFrom n sc.names []).lookup x=some c:=by
 have q:=Vy sc.names n [] (.inl h)
 exact Vl.mp q
theorem a8s {CX:CXT} {P:Program} {w:World} {K:Qc} {mg:Str→Option Value} {base:Heap} {N ps:List Str} {qual:Str} {scope:Scope} {f:Addr} {cd:Value} {A:Around} {outer:List Env} {s s1:Shared} {H:Hp} {E:XK} {us:List Value} {vs:List V}
  (S:a0h N ps scope) (hd:A.handled=none) (e0:b5k P w K mg base A outer s H) (hl:vs.length=ps.length) (r:a0H vs us)
  (x:InCallC s s.heap.objs.size (bindL (envOfC qual scope s.heap.objs.size f cd).kindOf (ps.zip us) fun _=>none) (cellsFrom (s.heap.objs.size+1) scope.names []) (bindC (envOfC qual scope s.heap.objs.size f cd).kindOf (ps.zip us) fun _=>none) s1):
  Inv (b2X CX P w K mg base N qual scope f cd A outer s H E) [] (start N vs) H s1:=by
 have hpl:ps.length≤N.length:=by have:=congrArg Yp S.pre;rw [Yb] at this;omega
 obtain ⟨h1,tk,rfl,hk⟩:=x.done
 have noA:∀b:Addr,b∉(b2X CX P w K mg base N qual scope f cd A outer s H E).ex:=fun b z=>absurd (show b∈([]:List Addr) from z) (by simp)
 refine ⟨⟨e0.mod,S.kind,rfl,rfl,Qk _,fun y z c h1 h2=>?_,fun y hy=>?_,fun y c _ h=>?_,fun _=>hd,Around.frames_deeper e0.frames,.inr ⟨rfl,rfl⟩,fun b z=>absurd z (noA b),e0.bs,e0.bsz,fun b _ _=>noA b,fun b z=>absurd z (noA b),e0.funs,e0.frf⟩,
  rfl,e0.bare,Un.kept hk,⟨_,x.toInCall.ns,fun i y v h1 h2 h3=>?_⟩,fun y c h=>⟨_,x.cell y c h⟩,e0.hok.fresh (Qk _),fun y c h=>?_,fun p hp=>absurd (show p∈([]:List (Addr×Obj)) from hp) (by simp),e0.hok.kept hk,?_⟩
 ·exact name_of_addr x.apart (PySem.mem_of_lookup h1) (PySem.mem_of_lookup h2)
 ·have hy:scope.names.lookup y=some .cell∨scope.names.lookup y=some .free:=hy
  rcases hy with hy | hy
  ·exact a7u hy
  ·exact absurd rfl (S.nofree _ (PySem.mem_of_lookup hy))
 ·exact Vh (x.above y c (PySem.mem_of_lookup h))
 ·have hi:i < vs.length:=by
   unfold start at h2
   by_cases hi:i < vs.length
   ·exact hi
   ·rw [Yg (by simpa using hi)] at h2
    rw [List.getElem?_replicate] at h2
    split at h2<;>cases h2
  have ha:vs[i]?=some v:=by
   unfold start at h2
   rw [Yi (by simpa using hi),Qo] at h2
   cases e:vs[i]? with
   | none=>rw [e] at h2;cases h2
   | some a=>rw [e] at h2;cases h2;rfl
  obtain ⟨u,hu,rv⟩:=r.get ha
  have hp:ps[i]?=some y:=by
   rw [←S.pre,List.getElem?_take_of_lt (by omega)];exact h1
  have ndP:ps.Nodup:=by rw [←S.pre];exact S.nd.sublist (List.take_sublist _ _)
  refine ⟨u,rv,?_⟩
  rcases S.par y (Wl hp) with k | k
  ·exact .inl ⟨k,a5x ndP hp hu k⟩
  ·obtain ⟨c,e⟩:=a7u (n:=s.heap.objs.size+1) k
   refine .inr ⟨.inl k,c,e,?_⟩
   have q:=x.cell y c e
   rw [a5J ndP hp hu (by show scope.names.lookup y≠_;rw [k];decide)] at q
   exact q
 ·exact e0.hok.fresh (Vh (x.above y c (PySem.mem_of_lookup h)))
 ·unfold start
  show _=N.length
  rw [Xn,Qd,List.length_replicate]
  omega
theorem b5I {CX:CXT} {P:Program} {w:World} {K:Qc} {mg:Str→Option Value} {base:Heap} {k:Nat} {f:Addr} {name qual:Str} {params:Arguments} {body:List Stmt} {scope:Scope} {dV kV doc pm cdv ct oc:Value} {an od:Option Addr}
  {osl:Array (Option Value)} {N ps:List Str} {sp:Sp} (lk:K.lookup f=some ⟨oc,od,.func (Yr name qual params body scope dV kV doc pm an cdv ct),osl⟩) (hcd:Jb K cdv qual=true) (S:a0h N ps scope)
  (len:∀vs H Q E,sp vs H Q E→vs.length=ps.length)
  (hbody:∀(A:Around) (outer:List Env) (s:Shared) (H:Hp) (vs:List V) (Q:VK) (E:XK),a2h k (A.deeper (envOfC qual scope s.heap.objs.size f cdv))→sp vs H Q E→
   ∃t,PSs (b2X CX P w K mg base N qual scope f cdv A outer s H E) body t∧t {nx:=fun _ H'=>Q .non H',rt:=Q} (start N vs) H):
  a0W P w K mg base CX (k+1) f (Yr name qual params body scope dV kV doc pm an cdv ct) ps sp:=by
 refine ⟨len,fun A outer s H args us vs Q E hr e0 hb r hsp=>?_⟩
 have hl:=len _ _ _ _ hsp
 have KX:K.In s.heap:=e0.mod.kin.keeps fun b o e=>(e0.bs b o e).1
 have lim:s.heap.NoLimit:=e0.mod.nolimit.keeps fun b o e=>(e0.bs b o e).1
 have hkind:∀y∈ps.zip us,scope.names.lookup y.1=some .local∨(scope.names.lookup y.1=some .cell∧((cellsFrom (s.heap.objs.size+1) scope.names []).lookup y.1).isSome=true):=fun ⟨n,v⟩ hy=>by
  rcases S.par n (Vw hy).1 with q | q
  ·exact .inl q
  ·exact .inr ⟨q,Vy _ _ _ (.inl q)⟩
 refine codeAny_call_function hr.depth (KX _ _ lk) rfl S.co S.gen rfl (PySem.W.codeRec_of KX hcd) (hb _ _ _ _ ?_)
 refine wpAny_newFunctionEnv_cells S.kind hkind fun env he s1 x=>?_
 subst he
 refine ⟨lim.keeps x.toInCall.keep,codeAny_func ?_⟩
 obtain ⟨t,ht,hq⟩:=hbody A outer s H vs Q E (hr.deeper _) hsp
 have I:Inv (b2X CX P w K mg base N qual scope f cdv A outer s H E) [] (start N vs) H s1:=a8s S hr.hd e0 hl r x
 refine wpAny_mono (ht [] s1 (start N vs) H _ I hq) (fun fl s' hs=>?_) fun e s' hs=>hs
 have fin:∀{σ':St} {H':Hp} {v:V} {u:Value},Inv (b2X CX P w K mg base N qual scope f cdv A outer s H E) [] σ' H' s'→a0N v u→Q v H'→CE outer P w H s Q u s':=
  fun {σ' H' v u} J rv q=>⟨v,H',J.os,J.bare,J.base,J.hok,rv,q⟩
 cases fl with
 | ret u=>
  obtain ⟨v,σ',H',J,rv,q⟩:=hs
  exact fin J rv q
 | next=>
  obtain ⟨σ',H',J,q⟩:=hs
  exact fin (v:=V.non) (u:=Value.none) J rfl q
 | brk=>
  obtain ⟨_,_,_,q⟩:=hs
  exact False.elim q
 | cont=>
  obtain ⟨_,_,_,q⟩:=hs
  exact False.elim q
end L2
namespace L2
open PySem PySem.Spec PyProof.Rows
section
variable {X:Cx} {x:Str} {p pos:Pos} {e:Expr} {es:List Expr} {t:TA} {id T:String} {r:List V→Hp→VK→Prop}
def tCB (r:List V→Hp→VK→Prop) (t:TA):TE:=fun σ H Q=>t σ H fun vs H1=>r vs H1 Q
theorem b1L (hc:a1m X (.builtin id) r) (hg:Gl X x) (hm:X.mg x=none) (hv:bootBuiltins x=some (.builtin id)) (ha:PA X (e::es) t) (hn:x≠"__name__":=by decide) (hdb:(x == ("__debug__":Str))=false:=by decide)
  (he:starEach (e::es) X.env=(false,eval e X.env)::starEach es X.env:=by rfl) (hpl:(backTo pos (starEach es X.env)).any (·.1)=false:=by rfl):PE X (.Call (.Name x p) (e::es) [] pos) (tCB r t):=by
 intro pins s σ H Q I h
 refine wpAny_Call_Name_kw (a4n I hg hm hv ?_ hn hdb)
 exact PyProof.Rows.callWith_builtin1 (thn (ha pos pins s σ H _ I h) fun us s1 ⟨vs,H1,I1,r1,q1⟩=>hc pins s1 σ H1 vs us Q I1 r1 q1) he hpl
theorem a9n (hc:a1m X (.type T) r) (hg:Gl X x) (hm:X.mg x=none) (hv:bootBuiltins x=some (.type T)) (ha:PA X (e::es) t) (hn:x≠"__name__":=by decide) (hdb:(x == ("__debug__":Str))=false:=by decide)
  (he:starEach (e::es) X.env=(false,eval e X.env)::starEach es X.env:=by rfl) (hpl:(backTo pos (starEach es X.env)).any (·.1)=false:=by rfl):PE X (.Call (.Name x p) (e::es) [] pos) (tCB r t):=by
 intro pins s σ H Q I h
 refine wpAny_Call_Name_kw (a4n I hg hm hv ?_ hn hdb)
 exact PyProof.Rows.callWith_type1 (thn (ha pos pins s σ H _ I h) fun us s1 ⟨vs,H1,I1,r1,q1⟩=>hc pins s1 σ H1 vs us Q I1 r1 q1) he hpl
end
end L2
namespace HT
open PySem PyProof.Rows
section
variable {prog:Program} {w:World} {A:Around} {E:Value→Shared→Prop} {s:Shared}
theorem cat_tup {t b:Addr} {vs ws:List Value} {Q:Value→Shared→Prop} (ht:IsTup s.heap t vs.toArray) (hb:IsTup s.heap b ws.toArray) (hv:vs≠[])
  (h1:ws=[]→Q (.ref t) s) (h2:ws≠[]→Q (.ref s.heap.objs.size) {s with heap:=s.heap.push {cls:=.type "tuple",data:=.seq (vs++ws).toArray}})
  (hsz:vs.length+ws.length≤sizeLine):wpAny (model prog w) A (binaryOp .Add (.ref t) (.ref b)) Q E s:=by
 obtain ⟨⟨cls,dd,data,sl⟩,ho,hc,n,hd⟩:=id ht
 obtain ⟨⟨cls2,dd2,data2,sl2⟩,ho2,hc2,n2,hd2⟩:=id hb
 simp only at hc hd hc2 hd2
 subst hc hd hc2 hd2
 have e:vs.toArray++ws.toArray=(vs++ws).toArray:=by simp
 by_cases hw:ws=[]
 ·exact concat_meets ⟨_,ho,rfl⟩ ⟨_,ho2,rfl⟩ noFill_tuple_add seq_tuple_add Vz Vt (Vm _ _)
   (tuple_addW1 t b vs.toArray ws.toArray n n2 dd dd2 sl sl2 (by simpa using hv) (by simp [hw])) ⟨ho,ho2,h1 hw⟩
 ·refine concat_meets ⟨_,ho,rfl⟩ ⟨_,ho2,rfl⟩ noFill_tuple_add seq_tuple_add Vz Vt (Vm _ _)
   (tuple_addW2 t b vs.toArray ws.toArray n n2 dd dd2 sl sl2 (by simpa using hv) (by simpa using hw) (by rw [Qm,Qm];exact hsz)) ⟨ho,ho2,?_⟩
  rw [e]
  exact h2 hw
def sIx (n d:Nat):Option Int→Nat
 | none=>d
 | some v=>if v < 0 then (v+(n:Int)).toNat else min v.toNat n
theorem b7Z (n d:Nat) (hd:d≤n) (o:Option Int):sIx n d o≤n:=by
 cases o with
 | none=>exact hd
 | some v=>
  show (if v < 0 then (v+(n:Int)).toNat else min v.toNat n)≤n
  by_cases hv:v < 0
  ·rw [if_pos hv];omega
  ·rw [if_neg hv];exact Nat.min_le_right _ _
theorem b0O (v:Int) (n d:Nat):(if v < 0 then max (v+(n:Int)) 0 else min v (n:Int))=((sIx n d (some v):Nat):Int):=by
 show (if v < 0 then max (v+(n:Int)) 0 else min v (n:Int))=(((if v < 0 then (v+(n:Int)).toNat else min v.toNat n):Nat):Int)
 by_cases hv:v < 0
 ·simp only [if_pos hv];omega
 ·simp only [if_neg hv];omega
theorem a7V (lo hi:Option Int) (n:Nat):Builtin.Slice.sliceAdjust lo hi 1 (n:Int)=(((sIx n 0 lo:Nat):Int),((sIx n n hi:Nat):Int)):=by
 have h1:¬((1:Int) < 0):=by omega
 unfold Builtin.Slice.sliceAdjust
 simp only [h1,if_false]
 refine Prod.ext ?_ ?_
 ·cases lo with
  | none=>rfl
  | some v=>exact b0O v n 0
 ·cases hi with
  | none=>rfl
  | some v=>exact b0O v n n
theorem a7R (i j:Nat):Builtin.Slice.slicePlaces (i:Int) (j:Int) 1=j - i:=by
 unfold Builtin.Slice.slicePlaces
 have h1:(1:Int) > 0:=by omega
 simp only [h1,if_true,Int.ediv_one]
 split<;>omega
theorem a4j {v:Value} {o:Option Int} {Q:Option Int→Shared→Prop} (p:IsPart v o) (h:Q o s):wpAny (model prog w) A (Builtin.Slice.slicePartIndex v) Q E s:=by
 cases p with
 | none=>exact slicePart_none h
 | int i t=>exact slicePart_int h
theorem a3k {sl:Addr} {vl vu:Value} {lo hi:Option Int} {n:Nat} {Q:Int×Int×Nat→Shared→Prop} (hs:s.heap.IsSliceOf sl vl vu .none) (pl:IsPart vl lo) (pu:IsPart vu hi)
  (h:Q (((sIx n 0 lo:Nat):Int),1,sIx n n hi - sIx n 0 lo) s):wpAny (model prog w) A (Builtin.Slice.sliceApplied (.ref sl) (pure (n:Int))) Q E s:=by
 obtain ⟨os,hos,hcs,hds⟩:=id hs
 unfold Builtin.Slice.sliceApplied Builtin.Slice.sliceFields
 refine wpAny_bind (wpAny_bind (wpAny_field hos hds (x:=vl) rfl (wpAny_bind (wpAny_field hos hds (x:=vu) rfl (wpAny_bind (wpAny_field hos hds (x:=.none) rfl (wpAny_pure ?_)))))))
 refine wpAny_bind (slicePart_none ?_)
 show wpAny _ _ (if ((1:Int) == 0)=true then _ else _) _ _ s
 rw [if_neg (by decide)]
 refine wpAny_bind (a4j pl (wpAny_bind (a4j pu (wpAny_bind (wpAny_pure ?_)))))
 show wpAny _ _ (match Builtin.Slice.sliceAdjust lo hi 1 (n:Int) with | (lo,hi)=>pure (lo,(1:Int),Builtin.Slice.slicePlaces lo hi 1)) _ _ s
 rw [a7V lo hi n]
 show wpAny _ _ (pure (((sIx n 0 lo:Nat):Int),(1:Int),Builtin.Slice.slicePlaces ((sIx n 0 lo:Nat):Int) ((sIx n n hi:Nat):Int) 1)) _ _ s
 rw [a7R]
 exact wpAny_pure h
theorem b1P (xs:Array Value) (i k:Nat):((Xr k).filterMap fun (m:Nat)=>xs[((i:Int)+(m:Int) * 1).toNat]?).toArray=((xs.toList.drop i).take k).toArray:=by
 have e:(fun (m:Nat)=>xs[((i:Int)+(m:Int) * 1).toNat]?)=fun m=>xs[i+m]?:=by
  funext m
  have:((i:Int)+(m:Int) * 1).toNat=i+m:=by omega
  rw [this]
 rw [e]
 have:=pick_run xs i k
 rw [List.filterMap_map] at this
 have e2:((fun x=>xs[x]?)∘fun x=>i+x)=fun m=>xs[i+m]?:=rfl
 rw [e2] at this
 rw [this]
theorem getItem_tuple_cut {t sl:Addr} {items:Array Value} {vl vu:Value} {lo hi:Option Int} {Q:Value→Shared→Prop} (ht:IsTup s.heap t items) (hs:s.heap.IsSliceOf sl vl vu .none) (pl:IsPart vl lo) (pu:IsPart vu hi)
  (hw:¬(sIx items.size 0 lo=0∧sIx items.size items.size hi=items.size))
  (h:Q (.ref s.heap.objs.size) {s with heap:=s.heap.push {cls:=.type "tuple",data:=.seq ((items.toList.drop (sIx items.size 0 lo)).take (sIx items.size items.size hi - sIx items.size 0 lo)).toArray}})
  (hsz:items.size≤sizeLine):wpAny (model prog w) A (getItem (.ref t) (.ref sl)) Q E s:=by
 have htake:sizeOk (.seq ((items.toList.drop (sIx items.size 0 lo)).take (sIx items.size items.size hi - sIx items.size 0 lo)).toArray):=by
  show ((items.toList.drop (sIx items.size 0 lo)).take (sIx items.size items.size hi - sIx items.size 0 lo)).toArray.size≤sizeLine
  rw [Qm,Yb,Je,Yz]
  omega
 have hj:sIx items.size items.size hi≤items.size:=b7Z _ _ (Qk _) hi
 obtain ⟨os,hos,hcs,hds⟩:=id hs
 have hTs:s.TypeIs (.ref sl) "slice":=⟨os,hos,hcs⟩
 unfold getItem
 try with_reducible refine wpAny_holding ?_
 first | refine wpAny_bind (wpAny_pure ?_) | skip
 refine wpAny_bind (wpAny_sequenceKey ht.typeIs (by decide) ?_)
 refine wpAny_bind (wpAny_callSpecial?_slot (name:=Ud "__getitem__") ht.typeIs PyProof.Rows.slot_tuple_getitem
  (wpAny_call_entry PyProof.Rows.slot_tuple_getitem ht.typeIs entry_tuple_getitem ?_ (args_tuple_getitem _ _)))
 show wpAny _ _ (Builtin.Tuple.tupleItemsOf (.ref t) >>= _) _ _ s
 refine wpAny_bind (tupleItemsOf_ ht ?_)
 refine wpAny_bind (wpAny_typeOf hTs ?_)
 rw [if_pos (by decide)]
 refine wpAny_bind (a3k hs pl pu ?_)
 have hno:¬((((sIx items.size 0 lo:Nat):Int) == 0 && (1:Int) == 1 && (sIx items.size items.size hi - sIx items.size 0 lo) == items.size)=true):=by
  intro q
  rw [Xh,Xh] at q
  have q1:((sIx items.size 0 lo:Nat):Int)=0:=eq_of_beq q.1.1
  have q2:sIx items.size items.size hi - sIx items.size 0 lo=items.size:=eq_of_beq q.2
  exact hw ⟨by omega,by omega⟩
 show wpAny _ _ (if (((sIx items.size 0 lo:Nat):Int) == 0 && (1:Int) == 1 && (sIx items.size items.size hi - sIx items.size 0 lo) == items.size)=true then _ else _) _ _ s
 rw [if_neg hno,b1P]
 first
  | exact wpAny_bind (m:=Builtin.Tuple.tupleExact _) (wpAny_newObj_type (wpAny_pure ⟨_,rfl,wpAny_pure h⟩) htake)
  | exact wpAny_bind (m:=Builtin.Tuple.tupleExact _) (wpAny_newObj_type (wpAny_bind (wpAny_pure (wpAny_pure ⟨_,rfl,wpAny_pure h⟩))) htake)
  | exact wpAny_bind (wpAny_bind (m:=Builtin.Tuple.tupleExact _) (wpAny_newObj_type (wpAny_pure (wpAny_pure ⟨_,rfl,wpAny_pure h⟩)) htake))
  | exact wpAny_bind (wpAny_bind (m:=Builtin.Tuple.tupleExact _) (wpAny_newObj_type (wpAny_pure ⟨_,rfl,wpAny_pure h⟩) htake))
end
end HT
namespace L2
open PySem PySem.Spec PyProof.Rows
abbrev TO:=St→Hp→(Option Int→Hp→Prop)→Prop
def PO (X:Cx) (e:Option Expr) (t:TO):Prop:=
 ∀(pins:List (Addr×Obj)) (s:Shared) (σ:St) (H:Hp) (Q:Option Int→Hp→Prop),Inv X pins σ H s→t σ H Q→
  wpAny (model X.prog X.w) X.A (evalPart e X.env) (fun u s'=>∃o H',Inv X pins σ H' s'∧IsPart u o∧Q o H') X.xe s
def a6x:TO:=fun _ H Q=>Q none H
def b1v (t:TE):TO:=fun σ H Q=>t σ H fun x H1=>∃i,x=.int i∧Q (some i) H1
section
variable {X:Cx} {e:Expr} {te:TE} {lo hi:Option Expr} {tl th:TO} {pos p2:Pos}
theorem b4q:PO X none a6x:=by
 intro pins s σ H Q I h
 rw [evalPart_none]
 exact wpAny_pure ⟨none,H,I,.none,h⟩
theorem b5m (h:PE X e te):PO X (some e) (b1v te):=by
 intro pins s σ H Q I hw
 rw [evalPart_some]
 refine thn (h pins s σ H _ I hw) fun u s1 ⟨x,H1,I1,r1,q1⟩=>?_
 obtain ⟨i,rfl,q⟩:=q1
 obtain ⟨t,rfl⟩:=r1
 exact ⟨some i,H1,I1,.int i t,q⟩
def SlR (X:Cx) (r:V→Option Int→Option Int→Hp→VK→Prop):Prop:=
 ∀(pins:List (Addr×Obj)) (s:Shared) (σ:St) (H:Hp) (x:V) (v vl vu:Value) (lo hi:Option Int) (sl:Addr) (Q:VK),Inv X pins σ H s→a0N x v→s.heap.IsSliceOf sl vl vu .none→IsPart vl lo→IsPart vu hi→r x lo hi H Q→
  ∃T id,typeLookup (.type T) "__getitem__"=pure (some (.builtin id))∧s.TypeIs v T∧wpAny (model X.prog X.w) X.A (getItem v (.ref sl)) (EP X pins σ Q) X.xe s
theorem SlR.or {r r':V→Option Int→Option Int→Hp→VK→Prop} (h:SlR X r) (h':SlR X r'):SlR X (fun x lo hi H Q=>r x lo hi H Q∨r' x lo hi H Q):=by
 intro pins s σ H x v vl vu lo hi sl Q I rx hs pl pu q
 rcases q with q | q
 ·exact h pins s σ H x v vl vu lo hi sl Q I rx hs pl pu q
 ·exact h' pins s σ H x v vl vu lo hi sl Q I rx hs pl pu q
def tSl (r:V→Option Int→Option Int→Hp→VK→Prop) (te:TE) (tl th:TO):TE:=fun σ H Q=>te σ H fun x H1=>tl σ H1 fun l H2=>th σ H2 fun u H3=>r x l u H3 Q
theorem b1r {r:V→Option Int→Option Int→Hp→VK→Prop} (hr:SlR X r) (he:PE X e te) (hl:PO X lo tl) (hu:PO X hi th):PE X (.Subscript e (.Slice lo hi none p2) pos) (tSl r te tl th):=by
 intro pins s σ H Q I h
 refine Subscript_ (thn (he pins s σ H _ I h) fun v s1 ⟨x,H1,I1,r1,q1⟩=>?_)
 refine wpAny_Slice (thn (hl pins s1 σ H1 _ I1 q1) fun vl s2 ⟨l,H2,I2,pl,q2⟩=>thn (hu pins s2 σ H2 _ I2 q2) fun vu s3 ⟨u,H3,I3,pu,q3⟩=>?_)
 rw [evalPart_none]
 refine wpAny_pure ?_
 have I4:Inv X pins σ H3 {s3 with heap:=s3.heap.push {cls:=.type "slice",data:=.fields #[vl,vu,.none]}}:=I3.kept (t':=s3.toks) fun b ob q=>Ql _ q
 obtain ⟨T,id,hT,ht,hg⟩:=hr pins {s3 with heap:=s3.heap.push {cls:=.type "slice",data:=.fields #[vl,vu,.none]}} σ H3 x v vl vu l u s3.heap.objs.size Q I4 r1 (Heap.IsSliceOf.new ..) pl pu q3
 show wpAny (model X.prog X.w) X.A (subscriptTail e (.Slice lo hi none p2) v (.ref s3.heap.objs.size)) (EP X pins σ Q) X.xe {s3 with heap:=s3.heap.push {cls:=.type "slice",data:=.fields #[vl,vu,.none]}}
 exact tail_any (ops:=[.ref s3.heap.objs.size,v]) ht hT hg (by with_unfolding_all rfl)
def a8G (xs:List V) (lo hi:Option Int):List V:=(xs.drop (HT.sIx xs.length 0 lo)).take (HT.sIx xs.length xs.length hi - HT.sIx xs.length 0 lo)
theorem a3G (xs:List V) (lo hi:Option Int):(a8G xs lo hi).length≤xs.length:=by
 unfold a8G
 rw [Yb,Je]
 omega
def c2R (K:Qc):V→Option Int→Option Int→Hp→VK→Prop:=fun x lo hi H Q=>∃a xs,x=.ref a∧SqT K H a xs∧
 ¬(HT.sIx xs.length 0 lo=0∧HT.sIx xs.length xs.length hi=xs.length)∧∀p,H p=none→Q (.ref p) (upd H p (.tup (a8G xs lo hi)))
theorem b8C:SlR X (c2R X.K):=by
 intro pins s σ H x v vl vu lo hi sl Q I rx hs pl pu h
 obtain ⟨a,xs,rfl,hx,hw,q⟩:=h
 cases rx
 obtain ⟨its,r,ht,hz⟩:=I.tuple hx
 have hlen:its.toArray.size=xs.length:=by rw [Qm];exact r.length.symm
 refine ⟨"tuple",_,PyProof.Rows.slot_tuple_getitem.lookup,ht.typeIs,?_⟩
 refine HT.getItem_tuple_cut ht hs pl pu (by rw [hlen];exact hw) ?_ (by rw [hlen];exact hz)
 rw [hlen]
 refine ⟨.ref s.heap.objs.size,_,I.laid (t':=s.toks) (o:=.tup (a8G xs lo hi)) (fun b ob q=>Ql _ q) (Qk _) ?_,rfl,q _ (I.hok.fresh (Qk _))⟩
 exact ⟨Qh (a3G xs lo hi) hz,_,(r.drop (HT.sIx xs.length 0 lo)).take (HT.sIx xs.length xs.length hi - HT.sIx xs.length 0 lo),IsTup.new _ _⟩
def b7G (K:Qc):R2:=fun x y H Q=>∃a b xs ys,x=.ref a∧y=.ref b∧SqT K H a xs∧SqT K H b ys∧xs≠[]∧xs.length+ys.length≤sizeLine∧
 (ys=[]→Q (.ref a) H)∧(ys≠[]→∀p,H p=none→Q (.ref p) (upd H p (.tup (xs++ys))))
theorem a0H.nil_iff {xs:List V} {us:List Value} (r:a0H xs us):us=[]↔xs=[]:=by
 cases r with
 | nil=>simp
 | cons _ _=>simp
theorem b4K:OpR X (binaryOp .Add) (b7G X.K):=by
 intro pins s σ H x y v u Q I rx ry h
 obtain ⟨a,b,xs,ys,rfl,rfl,ha,hb,hx,hz,q1,q2⟩:=h
 cases rx
 cases ry
 obtain ⟨its,r1,p1,_⟩:=I.tuple ha
 obtain ⟨its2,r2,p2,_⟩:=I.tuple hb
 refine HT.cat_tup p1 p2 (fun z=>hx (r1.nil_iff.mp z)) (fun z=>⟨.ref a,H,I,rfl,q1 (r2.nil_iff.mp z)⟩) (fun z=>?_) (by rw [←r1.length,←r2.length];exact hz)
 refine ⟨.ref s.heap.objs.size,_,I.laid (t':=s.toks) (o:=.tup (xs++ys)) (fun b ob q=>Ql _ q) (Qk _) ?_,rfl,q2 (fun w=>z (r2.nil_iff.mpr w)) _ (I.hok.fresh (Qk _))⟩
 exact ⟨by rw [Xn];exact hz,_,r1.append r2,IsTup.new _ _⟩
end
end L2
namespace L2
open PySem PySem.Spec PyProof.Rows
def ixN (n:Nat) (i:Int):Option Nat:=if 0≤i then (if i < n then some i.toNat else none) else if -(n:Int)≤i then some (i+n).toNat else none
def atI {α:Type} (xs:List α) (i:Int):Option α:=(ixN xs.length i).bind fun j=>xs[j]?
theorem b4d {n:Nat} {i:Int} {j:Nat} (h:ixN n i=some j):seqIndex? i n=some j∧j < n∧-(n:Int)≤i∧i < n:=by
 unfold ixN at h
 by_cases h0:0≤i
 ·rw [if_pos h0] at h
  by_cases h1:i < n
  ·rw [if_pos h1] at h
   have e:i.toNat=j:=Option.some.inj h
   exact ⟨by rw [seqIndex_of h0 h1,e],by omega,by omega,h1⟩
  ·rw [if_neg h1] at h;cases h
 ·rw [if_neg h0] at h
  by_cases h1:-(n:Int)≤i
  ·rw [if_pos h1] at h
   have e:(i+n).toNat=j:=Option.some.inj h
   exact ⟨by rw [seqIndex_neg (by omega) h1,e],by omega,h1,by omega⟩
  ·rw [if_neg h1] at h;cases h
theorem a6i {α:Type} {xs:List α} {i:Int} {v:α} (h:atI xs i=some v):∃j,seqIndex? i xs.length=some j∧xs[j]?=some v∧j < xs.length∧-(xs.length:Int)≤i∧i < xs.length:=by
 unfold atI at h
 cases e:ixN xs.length i with
 | none=>rw [e] at h;cases h
 | some j=>
  rw [e] at h
  obtain ⟨h1,h2,h3,h4⟩:=b4d e
  exact ⟨j,h1,h,h2,h3,h4⟩
def b4P (b:Expr):Prop:=∀o i,subscripted b false o i=operate [o,i] (getItem o i)
def IxR (X:Cx) (r:R2):Prop:=
 ∀(value slice:Expr) (pins:List (Addr×Obj)) (s:Shared) (σ:St) (H:Hp) (x y:V) (v u:Value) (Q:VK),Inv X pins σ H s→a0N x v→a0N y u→r x y H Q→
  subscripted slice false v u=operate [v,u] (getItem v u)→wpAny (model X.prog X.w) X.A (subscriptTail value slice v u) (EP X pins σ Q) X.xe s
def MtR (X:Cx) (id:String) (r:V→List V→Hp→VK→Prop):Prop:=
 ∀(pins:List (Addr×Obj)) (s:Shared) (σ:St) (H:Hp) (x:V) (xs:List V) (v:Value) (us:List Value) (Q:VK),Inv X pins σ H s→a0N x v→a0H xs us→r x xs H Q→
  wpAny (model X.prog X.w) X.A (call (.builtin id) (v::us)) (EP X pins σ Q) X.xe s
section
variable {X:Cx} {a b:Expr} {ta tb:TE} {pos:Pos}
theorem IxR.or {r r':R2} (h:IxR X r) (h':IxR X r'):IxR X (fun x y H Q=>r x y H Q∨r' x y H Q):=by
 intro value slice pins s σ H x y v u Q I rx ry q hs
 rcases q with q | q
 ·exact h value slice pins s σ H x y v u Q I rx ry q hs
 ·exact h' value slice pins s σ H x y v u Q I rx ry q hs
theorem b9S {r:R2} (hr:IxR X r) (ha:PE X a ta) (hb:PE X b tb) (hs:b4P b):PE X (.Subscript a b pos) (tOp r ta tb):=by
 intro pins s σ H Q I h
 exact Subscript_ (c0u ha hb I h fun v u s2 x y H2 I2 rx ry q=>hr a b pins s2 σ H2 x y v u Q I2 rx ry q (hs _ _))
def c1v (K:Qc):R2:=fun x y H Q=>∃p xs i v,x=.ref p∧y=.int i∧SqL K H p xs∧atI xs i=some v∧Q v H
def c2C (K:Qc):R2:=fun x y H Q=>∃p xs i v,x=.ref p∧y=.int i∧SqT K H p xs∧atI xs i=some v∧Q v H
def c3w:R2:=fun x y H Q=>∃z i c,x=.str z∧y=.int i∧z.length≤sizeLine∧atI z.cps.toList i=some c∧Q (.str ⟨#[c]⟩) H
theorem b4C:IxR X (c1v X.K):=by
 intro value slice pins s σ H x y v u Q I rx ry h hs
 obtain ⟨p,xs,i,z,rfl,rfl,hq,he,q⟩:=h
 cases rx
 obtain ⟨t,rfl⟩:=ry
 obtain ⟨its,r,pl,hz⟩:=I.list hq
 obtain ⟨j,h1,h2,h3,h4,h5⟩:=a6i he
 obtain ⟨w,ew,rw'⟩:=r.get h2
 have hl:=r.length
 have hn:=a7v
 have fin:EP X pins σ Q w s:=⟨z,H,I,rw',q⟩
 by_cases h0:0≤i
 ·have hj:i.toNat=j:=by
   rw [seqIndex_of h0 h5] at h1
   exact Option.some.inj h1
  exact item_listR pl.isList h0 (by omega) (by rw [hj];simpa using ew) fin hs
 ·have hj:(i+(its.toArray.size:Int)).toNat=j:=by
   rw [seqIndex_neg (by omega) h4] at h1
   rw [Qm,←hl]
   exact Option.some.inj h1
  exact subscriptTail_builtinR (x:=w) pl.isList.typeIs slot_list_getitem.lookup
   (wpAny_getItem_list_neg (Q:=fun r s'=>r=w∧EP X pins σ Q r s') pl.isList (by omega) (by rw [Qm]<;>omega) (by omega) (by rw [hj];simpa using ew) ⟨rfl,fin⟩) hs
theorem b6V:IxR X (c2C X.K):=by
 intro value slice pins s σ H x y v u Q I rx ry h hs
 obtain ⟨p,xs,i,z,rfl,rfl,hq,he,q⟩:=h
 cases rx
 obtain ⟨t,rfl⟩:=ry
 obtain ⟨its,r,pl,hz⟩:=I.tuple hq
 obtain ⟨j,h1,h2,h3,h4,h5⟩:=a6i he
 obtain ⟨w,ew,rw'⟩:=r.get h2
 have hl:=r.length
 have hn:=a7v
 have fin:EP X pins σ Q w s:=⟨z,H,I,rw',q⟩
 exact subscriptTail_builtinR (x:=w) pl.typeIs slot_tuple_getitem.lookup
  (getItem_tuple (j:=j) (Q:=fun r s'=>r=w∧EP X pins σ Q r s') pl (by omega) (by omega) (by rw [Qm,←hl];exact h1) (by simpa using ew) ⟨rfl,fin⟩) hs
theorem b7E:IxR X c3w:=by
 intro value slice pins s σ H x y v u Q I rx ry h hs
 obtain ⟨z,i,c,rfl,rfl,hz,he,q⟩:=h
 obtain ⟨t,rfl⟩:=rx
 obtain ⟨t',rfl⟩:=ry
 obtain ⟨j,h1,h2,h3,h4,h5⟩:=a6i he
 have hl:z.cps.toList.length=z.length:=by simp [Str.length]
 rw [hl] at h1 h4 h5
 have hn:=a7v
 exact tail_any (typeIs_str s z t) slot_str_getitem.lookup (getItem_str (c:=c) (by
  have e1:decide (i < -(2 ^ 63:Int))=false:=decide_eq_false (by omega)
  have e2:decide (i≥2 ^ 63)=false:=decide_eq_false (by omega)
  rw [e1,e2,Bool.or_false]) (by rw [h1];simpa using h2) ⟨.str ⟨#[c]⟩,H,I.tok _,⟨_,rfl⟩,q⟩) hs
def rIx (K:Qc):R2:=fun x y H Q=>c1v K x y H Q∨c2C K x y H Q∨c3w x y H Q
theorem a0G:IxR X (rIx X.K):=b4C.or (b6V.or b7E)
theorem Inv.lst {pins:List (Addr×Obj)} {σ:St} {H:Hp} {s:Shared} {p:Addr} {xs:List V} (I:Inv X pins σ H s) (h:H p=some (.lst xs)):
  ∃(its:List Value) (n:Nat),a0H xs its∧s.heap.get? p=some {cls:=.type "list",data:=.seq its.toArray n}∧xs.length≤sizeLine:=by
 obtain ⟨z,its,n,r,e⟩:=I.hok p _ h
 exact ⟨its,n,r,e,z⟩
theorem a5y (lo hi:Option Int) (n:Nat):(sliceBounds lo hi none n).1=((HT.sIx n 0 lo:Nat):Int)∧(sliceBounds lo hi none n).2.1=((HT.sIx n n hi:Nat):Int)∧(sliceBounds lo hi none n).2.2=1:=by
 refine ⟨?_,?_,rfl⟩
 ·cases lo with
  | none=>simp [sliceBounds,HT.sIx]
  | some i=>
   simp only [sliceBounds,HT.sIx,Gc,show (1:Int) > 0 by decide,if_true]
   by_cases h:i < 0
   ·simp only [h,if_true]<;>omega
   ·simp only [h,if_false]<;>omega
 ·cases hi with
  | none=>simp [sliceBounds,HT.sIx]
  | some i=>
   simp only [sliceBounds,HT.sIx,Gc,show (1:Int) > 0 by decide,if_true]
   by_cases h:i < 0
   ·simp only [h,if_true]<;>omega
   ·simp only [h,if_false]<;>omega
theorem a5e (its:List Value) (lo hi:Option Int):slicePick its.toArray lo hi none=((its.drop (HT.sIx its.length 0 lo)).take (HT.sIx its.length its.length hi - HT.sIx its.length 0 lo)).toArray:=by
 obtain ⟨h1,h2,h3⟩:=a5y lo hi its.toArray.size
 unfold slicePick
 rw [h1,h2,h3]
 simp only [sliceRange_one,pick_run,Qm]<;>rfl
def c0Z (K:Qc):V→Option Int→Option Int→Hp→VK→Prop:=fun x lo hi H Q=>∃a xs,x=.ref a∧SqL K H a xs∧∀p,H p=none→Q (.ref p) (upd H p (.lst (a8G xs lo hi)))
theorem b5x:SlR X (c0Z X.K):=by
 intro pins s σ H x v vl vu lo hi sl Q I rx hs pl pu h
 obtain ⟨a,xs,rfl,hx,q⟩:=h
 cases rx
 obtain ⟨its,r,ht,hz⟩:=I.list hx
 have hlen:=r.length
 refine ⟨"list",_,slot_list_getitem.lookup,ht.isList.typeIs,?_⟩
 refine wpAny_getItem_list_slice ht.isList hs pl pu .none (by simp) ?_ (by rw [Qm]<;>omega)
 rw [a5e,←hlen]
 refine ⟨.ref s.heap.objs.size,_,I.laid (t':=s.toks) (o:=.lst (a8G xs lo hi)) (fun b ob q=>Ql _ q) (Qk _) ?_,rfl,q _ (I.hok.fresh (Qk _))⟩
 exact ⟨Qh (a3G xs lo hi) hz,_,0,(r.drop (HT.sIx xs.length 0 lo)).take (HT.sIx xs.length xs.length hi - HT.sIx xs.length 0 lo),Xd _ rfl⟩
def a4S:V→Bool
 | .non=>true
 | .bl _=>true
 | .int _=>true
 | .str _=>true
 | _=>false
def eqV:V→V→Bool
 | .non,.non=>true
 | .bl a,.bl b=>a == b
 | .bl a,.int b=>(if a then 1 else 0) == b
 | .int a,.bl b=>a == (if b then 1 else 0)
 | .int a,.int b=>a == b
 | .str a,.str b=>a == b
 | _,_=>false
theorem b9D {A:Around} {s:Shared} {y x:V} {u v:Value} (ry:a0N y u) (rx:a0N x v) (fy:a4S y=true) (fx:a4S x=true):Xw A s u v (eqV y x):=by
 cases y with
 | non=>
  cases ry
  cases x with
  | non=>cases rx;exact Xw.same _
  | bl b=>cases rx;exact Xw.none_bool b
  | int b=>obtain ⟨t,rfl⟩:=rx;exact Xw.none_int b t
  | str b=>obtain ⟨t,rfl⟩:=rx;exact Xw.none_str b t
  | _=>exact absurd (show false=true from fx) Qu
 | bl a=>
  cases ry
  cases x with
  | non=>cases rx;exact Xw.bool_none a
  | bl b=>cases rx;exact Xw.bool_bool a b
  | int b=>obtain ⟨t,rfl⟩:=rx;exact Xw.bool_int a b t
  | str b=>obtain ⟨t,rfl⟩:=rx;exact Xw.bool_str a b t
  | _=>exact absurd (show false=true from fx) Qu
 | int a=>
  obtain ⟨t',rfl⟩:=ry
  cases x with
  | non=>cases rx;exact Xw.int_none a t'
  | bl b=>cases rx;exact Xw.int_bool a t' b
  | int b=>obtain ⟨t,rfl⟩:=rx;exact Xw.int_int a t' b t
  | str b=>obtain ⟨t,rfl⟩:=rx;exact Xw.int_str a t' b t
  | _=>exact absurd (show false=true from fx) Qu
 | str a=>
  obtain ⟨t',rfl⟩:=ry
  cases x with
  | non=>cases rx;exact Xw.str_none a t'
  | bl b=>cases rx;exact Xw.str_bool a t' b
  | int b=>obtain ⟨t,rfl⟩:=rx;exact Xw.str_int a t' b t
  | str b=>obtain ⟨t,rfl⟩:=rx;exact Xw.str_str a t' b t
  | _=>exact absurd (show false=true from fx) Qu
 | _=>exact absurd (show false=true from fy) Qu
def eqU (x:V) (u:Value):Bool:=match u with
 | .none=>eqV .non x
 | .bool b=>eqV (.bl b) x
 | .int i _=>eqV (.int i) x
 | .str z _=>eqV (.str z) x
 | _=>false
theorem b3l {x y:V} {u:Value} (r:a0N y u) (f:a4S y=true):eqU x u=eqV y x:=by
 cases y with
 | non=>cases r;rfl
 | bl b=>cases r;rfl
 | int i=>obtain ⟨t,rfl⟩:=r;rfl
 | str z=>obtain ⟨t,rfl⟩:=r;rfl
 | _=>exact absurd (show false=true from f) Qu
theorem a6J {x:V}:∀{xs:List V} {us:List Value},a0H xs us→xs.all a4S=true→us.any (eqU x)=xs.any fun y=>eqV y x
 | _,_,.nil,_=>rfl
 | y::xs,u::us,.cons r t,f=>by
  rw [Uw,Xh] at f
  rw [Zw,Zw,b3l r f.1,a6J t f.2]
theorem a4R {A:Around} {s:Shared} {x:V} {v:Value} (rx:a0N x v) (fx:a4S x=true):∀{xs:List V} {us:List Value},a0H xs us→xs.all a4S=true→∀u∈us,Xw A s u v (eqU x u)
 | _,_,.nil,_=>fun u hu=>by cases hu
 | y::xs,u::us,.cons r t,f=>fun u' hu=>by
  rw [Uw,Xh] at f
  rcases Qw.mp hu with rfl | hu
  ·rw [b3l r f.1];exact b9D r rx f.1 fx
  ·exact a4R rx fx t f.2 u' hu
def inV (x:V) (xs:List V):Bool:=xs.any fun y=>eqV y x
def rIn (K:Qc) (neg:Bool):R2:=fun x y H Q=>∃p xs,y=.ref p∧(SqL K H p xs∨SqT K H p xs)∧a4S x=true∧xs.all a4S=true∧Q (.bl (if neg then !inV x xs else inV x xs)) H
theorem a9O:OpR X (compareOp .In) (rIn X.K false):=by
 intro pins s σ H x y v u Q I rx ry h
 obtain ⟨p,xs,rfl,hq,fx,fs,q⟩:=h
 cases ry
 rcases hq with hq | hq
 ·obtain ⟨its,r,pl,hz⟩:=I.list hq
  refine SeqAt.in_listAt (eqU x) pl.isList (fun w hw=>a4R rx fx r fs w (by simpa using hw)) ⟨.bl _,H,I,rfl,?_⟩
  rw [show its.toArray.any (eqU x)=its.any (eqU x) by simp,a6J r fs]
  exact q
 ·obtain ⟨its,r,pl,hz⟩:=I.tuple hq
  refine SeqAt.in_tupleAt (eqU x) pl (fun w hw=>a4R rx fx r fs w (by simpa using hw)) ⟨.bl _,H,I,rfl,?_⟩
  rw [show its.toArray.any (eqU x)=its.any (eqU x) by simp,a6J r fs]
  exact q
theorem a1m.or {f:Value} {r r':List V→Hp→VK→Prop} (h:a1m X f r) (h':a1m X f r'):a1m X f (fun xs H Q=>r xs H Q∨r' xs H Q):=by
 intro pins s σ H xs us Q I rs q
 rcases q with q | q
 ·exact h pins s σ H xs us Q I rs q
 ·exact h' pins s σ H xs us Q I rs q
theorem a5n:a1m X (.type "list") (fun xs H Q=>∃p ys,xs=[.ref p]∧(SqL X.K H p ys∨SqT X.K H p ys)∧∀l,H l=none→Q (.ref l) (upd H l (.lst ys))):=by
 intro pins s σ H xs us Q I r h
 obtain ⟨p,ys,rfl,hq,q⟩:=h
 obtain ⟨u,rfl,rx⟩:=a2V r
 cases rx
 have fin:∀(its:List Value),a0H ys its→ys.length≤sizeLine→∀(h':Heap) (c':Nat),(∀b o',s.heap.get? b=some o'→h'.get? b=some o')→
   h'.get? s.heap.objs.size=some {cls:=.type "list",dict:=none,data:=.seq its.toArray c',slots:=#[]}→EP X pins σ Q (.ref s.heap.objs.size) {s with heap:=h'}:=fun its r' hz h' c' kp e=>
  ⟨.ref s.heap.objs.size,_,I.laid (t':=s.toks) kp (Qk _) (show a1e X.prog X.w _ h' _ (.lst ys) from ⟨hz,its,c',r',e⟩),rfl,q _ (I.hok.fresh (Qk _))⟩
 rcases hq with hq | hq
 ·obtain ⟨its,r',pl,hz⟩:=I.list hq
  have hlen:=r'.length
  obtain ⟨o,ho,hc,n,hd⟩:=pl.isList
  exact call_list_seq p (.inl rfl) ho hc hd (fun h' c' kp e=>fin its r' hz h' c' kp e) (by simp only [Qm]<;>omega)
 ·obtain ⟨its,r',pl,hz⟩:=I.tuple hq
  have hlen:=r'.length
  obtain ⟨o,ho,hc,n,hd⟩:=pl
  exact call_list_seq p (.inr rfl) ho hc hd (fun h' c' kp e=>fin its r' hz h' c' kp e) (by simp only [Qm]<;>omega)
theorem a5b:a1m X (.type "tuple") (fun xs H Q=>∃p ys,xs=[.ref p]∧((SqL X.K H p ys∧∀l,H l=none→Q (.ref l) (upd H l (.tup ys)))∨(SqT X.K H p ys∧Q (.ref p) H))):=by
 intro pins s σ H xs us Q I r h
 obtain ⟨p,ys,rfl,h⟩:=h
 obtain ⟨u,rfl,rx⟩:=a2V r
 cases rx
 rcases h with ⟨hq,q⟩ | ⟨hq,q⟩
 ·obtain ⟨its,r',pl,hz⟩:=I.list hq
  have hlen:=r'.length
  refine call_tuple_list pl.isList (fun h' kp=>?_) (by simp only [Qm]<;>omega)
  have I1:Inv X pins σ H {s with heap:=h'}:=I.kept (t':=s.toks) kp
  have I2:Inv X pins σ (upd H h'.objs.size (.tup ys)) {s with heap:=h'.push {cls:=.type "tuple",data:=.seq its.toArray}}:=
   I1.laid (t':=s.toks) (fun b o e=>Ql _ e) (Qk _) (show a1e X.prog X.w _ _ _ (.tup ys) from ⟨hz,its,r',IsTup.new _ _⟩)
  exact ⟨.ref h'.objs.size,_,I2,rfl,q _ (I1.hok.fresh (Qk _))⟩
 ·obtain ⟨its,r',pl,hz⟩:=I.tuple hq
  exact call_tuple_same pl ⟨.ref p,H,I,rfl,q⟩
def tyV (K:Qc) (T:String) (x:V) (H:Hp):Prop:=match x with
 | .str _=>T="str"
 | .int _=>T="int"
 | .ref p=>(T="list"∧∃xs,SqL K H p xs)∨(T="tuple"∧∃o,K.lookup p=some o∧o.cls=.type "tuple"∧o.dict=none)∨
   (T="dict"∧((∃kvs,H p=some (.dK kvs))∨∃kvs,H p=some (.dT kvs)))∨(T="set"∧∃S n,H p=some (.set S n))
 | _=>False
theorem b2N {pins:List (Addr×Obj)} {σ:St} {H:Hp} {s:Shared} {T:String} {x:V} {v:Value} (I:Inv X pins σ H s) (r:a0N x v) (ty:tyV X.K T x H):
  s.TypeIs v T∧∀a,v=.ref a→∃ob,s.heap.get? a=some ob∧ob.dict=none:=by
 cases x with
 | str z=>
  obtain ⟨t,rfl⟩:=r
  cases (show T="str" from ty)
  exact ⟨typeIs_str s z t,fun _ e=>nomatch e⟩
 | int i=>
  obtain ⟨t,rfl⟩:=r
  cases (show T="int" from ty)
  exact ⟨typeIs_int s i t,fun _ e=>nomatch e⟩
 | ref p=>
  cases r
  rcases ty with ⟨rfl,xs,hq⟩ | ⟨rfl,o,hk,hc,hd⟩ | ⟨rfl,hk⟩ | ⟨rfl,S,n,hk⟩
  ·obtain ⟨its,_,pl,_⟩:=I.list hq
   refine ⟨pl.isList.typeIs,fun a e=>?_⟩
   cases e
   obtain ⟨o,n,e,c,hd,_⟩:=pl
   exact ⟨o,e,hd⟩
  ·refine ⟨⟨o,I.kIn p o hk,hc⟩,fun a e=>?_⟩
   cases e
   exact ⟨o,I.kIn _ o hk,hd⟩
  ·have z:∃o,s.heap.get? p=some o∧o.ExactDict:=by
    rcases hk with ⟨kvs,hk⟩ | ⟨kvs,hk⟩
    ·obtain ⟨_,_,_,_,o,_,_,e,ex,_⟩:=I.hok p _ hk
     exact ⟨o,e,ex⟩
    ·obtain ⟨_,_,_,_,o,_,_,e,ex,_⟩:=I.hok p _ hk
     exact ⟨o,e,ex⟩
   obtain ⟨o,e,ex⟩:=z
   refine ⟨⟨o,e,ex.1⟩,fun a e2=>?_⟩
   cases e2
   exact ⟨o,e,ex.2.1⟩
  ·obtain ⟨o,_,_,_,e,ex,_⟩:=I.hok p _ hk
   refine ⟨⟨o,e,ex.1⟩,fun a e2=>?_⟩
   cases e2
   exact ⟨o,e,ex.2.1⟩
 | _=>exact False.elim ty
def c2E (K:Qc) (T:String) (r:V→List V→Hp→VK→Prop) (to:TE):TE:=fun σ H Q=>to σ H fun x H1=>tyV K T x H1∧r x [] H1 Q
def tBM (K:Qc) (T:String) (r:V→List V→Hp→VK→Prop) (to:TE) (t:TA):TE:=fun σ H Q=>to σ H fun x H1=>tyV K T x H1∧t σ H1 fun xs H2=>r x xs H2 Q
variable {o e:Expr} {es:List Expr} {to:TE} {t:TA} {name:Str} {apos cpos:Pos} {T id:String} {r:V→List V→Hp→VK→Prop}
theorem b7r (pa:PlainAttrs T) (slot:Slot T name id) (hty:typeOf (.builtin id)=pure (.type "method_descriptor")) (hm:MtR X id r) (ho:PE X o to)
  (hbase:attributeBase o name X.env (eval o X.env)=eval o X.env:=by rfl) (hline:(apos.endLine == cpos.line)=true:=by rfl):PE X (.Call (.Attribute o name apos) [] [] cpos) (c2E X.K T r to):=by
 intro pins s σ H Q I h
 refine wpAny_Call_method0_late hbase hline (thn (ho pins s σ H _ I h) fun v s1 ⟨x,H1,I1,r1,ty,q1⟩=>?_)
 obtain ⟨h1,h2⟩:=b2N I1 r1 ty
 exact ⟨T,id,pa,slot,hty,h1,h2,Calls.callWith_builtin rfl (PySem.evalArgs_none (hm pins s1 σ H1 x [] v [] Q I1 r1 .nil q1))⟩
theorem b9X (pa:PlainAttrs T) (slot:Slot T name id) (hty:typeOf (.builtin id)=pure (.type "method_descriptor")) (hm:MtR X id r) (ho:PE X o to) (ha:PA X (e::es) t)
  (hbase:attributeBase o name X.env (eval o X.env)=eval o X.env:=by rfl)
  (hfew:((backTo cpos (starEach (e::es) X.env)).all (fun x=>!x.1) && (backToKw cpos (keywordEach [] X.env)).all (fun x=>x.1.isSome)
   && decide ((e::es).length+([]:List Keyword).length+(if ([]:List Keyword).isEmpty then 0 else 1) < 30))=true:=by rfl)
  (hline:(apos.endLine == cpos.line)=true:=by rfl) (hs:starEach (e::es) X.env=(false,eval e X.env)::starEach es X.env:=by rfl) (hplain:(backTo cpos (starEach es X.env)).any (·.1)=false:=by rfl):
  PE X (.Call (.Attribute o name apos) (e::es) [] cpos) (tBM X.K T r to t):=by
 intro pins s σ H Q I h
 refine wpAny_Call_method_late hbase hfew hline rfl (thn (ho pins s σ H _ I h) fun v s1 ⟨x,H1,I1,r1,ty,q1⟩=>?_)
 obtain ⟨h1,h2⟩:=b2N I1 r1 ty
 refine ⟨T,id,pa,slot,hty,h1,h2,?_⟩
 have hA:=ha cpos pins s1 σ H1 _ I1 q1
 rw [hs] at hA ⊢
 refine Calls.callWith_builtin (by show (false || (backTo cpos (starEach es X.env)).any (·.1))=false;rw [hplain]<;>rfl) (Calls.evalArgs_plain ?_)
 exact thn hA fun us s2 ⟨vs,H2,I2,r2,q2⟩=>hm pins s2 σ H2 x vs v us Q I2 r1 r2 q2
end
end L2
namespace L2
open PySem PySem.Spec PyProof.Rows
def MtM (X:Cx) (id:String) (r:V→List V→Hp→VK→Prop):Prop:=
 ∀(pins:List (Addr×Obj)) (s:Shared) (σ:St) (H:Hp) (x:V) (xs:List V) (v:Value) (us:List Value) (Q:VK),Inv X pins σ H s→a0N x v→a0H xs us→r x xs H Q→
  wpAny (model X.prog X.w) X.A (call (.builtin id) (v::us)) (EP X pins σ Q) X.xe s
theorem a0H.one:∀{x:V} {us:List Value},a0H [x] us→∃u,us=[u]∧a0N x u
 | _,_,.cons r .nil=>⟨_,rfl,r⟩
theorem a0H.zero:∀{us:List Value},a0H [] us→us=[]
 | _,.nil=>rfl
theorem a0H.dropLast {xs:List V} {us:List Value} (h:a0H xs us):a0H xs.dropLast us.dropLast:=by
 induction h with
 | nil=>exact .nil
 | cons r t ih=>
  cases t with
  | nil=>exact .nil
  | cons q t'=>exact .cons r ih
theorem a7W {α:Type} (l:List α):l.eraseIdx (l.length - 1)=l.dropLast:=by
 induction l with
 | nil=>rfl
 | cons a r ih=>
  cases r with
  | nil=>rfl
  | cons b r=>
   have e:(a::b::r).length - 1=((b::r).length - 1)+1:=by
    have h1:(a::b::r).length=r.length+2:=rfl
    have h2:(b::r).length=r.length+1:=rfl
    omega
   rw [e,List.eraseIdx_cons_succ,ih]
   all_goals rfl
section
variable {X:Cx} {pins:List (Addr×Obj)} {σ:St} {H:Hp} {s:Shared} {l b:Addr} {xs ys zs:List V}
theorem Inv.lset {its its':List Value} {n:Nat} {f:Array Value→Array Value} {t':Nat} (I:Inv X pins σ H s) (hH:H l=some (.lst xs))
  (e:s.heap.get? l=some {cls:=.type "list",data:=.seq its.toArray n}) (hf:f its.toArray=its'.toArray) (hv:a0H ys its') (hz:ys.length≤sizeLine):
  Inv X pins σ (upd H l (.lst ys)) {s with heap:=s.heap.update l (Obj.mapSeq f),toks:=t'}:=by
 have q:=PySem.IsL.update e f
 rw [hf] at q
 refine I.write (x:=l) (e:=l) (by rw [hH];exact trivial) (.inl rfl) (fun b' u hb hu=>(Heap.get?_update_other s.heap (Obj.mapSeq f) (Ne.symm hb)).trans hu) ⟨_,q⟩ ?_
 exact ⟨hz,its',_,hv,q⟩
theorem Inv.lnew {its:List Value} {t':Nat} (I:Inv X pins σ H s) (hv:a0H ys its) (hz:ys.length≤sizeLine):
  Inv X pins σ (upd H s.heap.objs.size (.lst ys)) {s with heap:=s.heap.push {cls:=.type "list",data:=.seq its.toArray},toks:=t'}:=
 I.laid (fun _ _ q=>Ql _ q) (Qk _) ⟨hz,its,0,hv,Xd _ rfl⟩
theorem Inv.fresh (I:Inv X pins σ H s):H s.heap.objs.size=none:=I.hok.fresh (Qk _)
theorem Inv.lstM (I:Inv X pins σ H s) (hH:H l=some (.lst xs)):xs.length≤sizeLine∧∃(its:List Value) (n:Nat),a0H xs its∧xs.length=its.length∧s.heap.get? l=some {cls:=.type "list",data:=.seq its.toArray n}:=by
 obtain ⟨z,its,n,r,e⟩:=I.hok l _ hH
 exact ⟨z,its,n,r,r.length,e⟩
theorem b2H {n:Nat} (h:n≤sizeLine):Builtin.List.listTooLong n=false:=by
 unfold Builtin.List.listTooLong
 exact decide_eq_false (by omega)
end
section
variable {X:Cx}
def b5H:V→List V→Hp→VK→Prop:=fun x vs H Q=>∃l xs y,x=.ref l∧vs=[y]∧H l=some (.lst xs)∧xs.length < sizeLine∧Q .non (upd H l (.lst (xs++[y])))
theorem a1g:MtM X "list.append" b5H:=by
 intro pins s σ H x vs v us Q I rx rv h
 obtain ⟨l,xs,y,rfl,rfl,hH,hz,q⟩:=h
 cases rx
 obtain ⟨u,rfl,ru⟩:=rv.one
 obtain ⟨z,its,n,r,hl,e⟩:=I.lstM hH
 refine call_meets F.slot_list_append ⟨_,e,rfl⟩ F.entry_list_append (F.args_list_append_2 _ _) (PySem.list_append l its.toArray n u (by rw [Qm];omega)) ⟨e,?_⟩
 refine ⟨.non,_,I.lset (its':=its++[u]) hH e (by simp) (r.append (.cons ru .nil)) ?_,rfl,q⟩
 rw [Xn,Ua]
 omega
def b4H:V→List V→Hp→VK→Prop:=fun x vs H Q=>∃l b xs zs,x=.ref l∧vs=[.ref b]∧H l=some (.lst xs)∧H b=some (.lst zs)∧xs.length+zs.length≤sizeLine∧Q .non (upd H l (.lst (xs++zs)))
theorem a9J:MtM X "list.extend" b4H:=by
 intro pins s σ H x vs v us Q I rx rv h
 obtain ⟨l,b,xs,zs,rfl,rfl,hH,hB,hz,q⟩:=h
 cases rx
 obtain ⟨u,rfl,ru⟩:=rv.one
 cases ru
 obtain ⟨z,its,n,r,hl,e⟩:=I.lstM hH
 obtain ⟨z2,its2,n2,r2,hl2,e2⟩:=I.lstM hB
 have hsz:its.toArray.size+its2.toArray.size≤sizeLine:=by rw [Qm,Qm];omega
 have hlong:¬(!its.toArray.isEmpty && Builtin.List.listTooLong (its.toArray.size+its2.toArray.size))=true:=by
  rw [b2H hsz,Bool.and_false]
  exact Qu
 refine call_meets F.slot_list_extend ⟨_,e,rfl⟩ F.entry_list_extend (F.args_list_extend_2 _ _)
  (AutoSeq1.list_extend_list_list_0 l its.toArray n b its2.toArray n2 hlong (by rw [Qm];omega) (by omega)) ⟨e,e2,?_⟩
 refine ⟨.non,_,I.lset (its':=its++its2) hH e (by simp) (r.append r2) ?_,rfl,q⟩
 rw [Xn]
 omega
def c5p:V→List V→Hp→VK→Prop:=fun x vs H Q=>∃l xs y,x=.ref l∧vs=[]∧H l=some (.lst xs)∧xs[xs.length - 1]?=some y∧Q y (upd H l (.lst xs.dropLast))
theorem b8t:MtM X "list.pop" c5p:=by
 intro pins s σ H x vs v us Q I rx rv h
 obtain ⟨l,xs,y,rfl,rfl,hH,hy,q⟩:=h
 cases rx
 have hus:=rv.zero
 subst hus
 obtain ⟨z,its,n,r,hl,e⟩:=I.lstM hH
 obtain ⟨u,hu,ru⟩:=r.get hy
 have hy':its.toArray[its.toArray.size - 1]?=some u:=by
  show its.toArray[its.length - 1]?=some u
  rw [←Jc,←hl]
  exact hu
 refine call_meets F.slot_list_pop ⟨_,e,rfl⟩ F.entry_list_pop (F.args_list_pop_1 _) (MeetsSeq.list_pop_last l its.toArray n u hy' (by rw [Qm];omega)) ⟨e,?_⟩
 refine ⟨y,_,I.lset (its':=its.dropLast) hH e ?_ r.dropLast ?_,ru,q⟩
 ·show its.toArray.eraseIdxIfInBounds (its.toArray.size - 1)=its.dropLast.toArray
  rw [Qm,List.eraseIdxIfInBounds_toArray,a7W]
 ·rw [List.length_dropLast]
  omega
def c2V:R2:=fun x y H Q=>∃l b xs zs,x=.ref l∧y=.ref b∧H l=some (.lst xs)∧H b=some (.lst zs)∧xs.length+zs.length≤sizeLine∧∀p,H p=none→Q (.ref p) (upd H p (.lst (xs++zs)))
theorem b8m:OpR X (binaryOp .Add) c2V:=by
 intro pins s σ H x y v u Q I rx ry h
 obtain ⟨l,b,xs,zs,rfl,rfl,hH,hB,hz,q⟩:=h
 cases rx
 cases ry
 obtain ⟨z,its,n,r,hl,e⟩:=I.lstM hH
 obtain ⟨z2,its2,n2,r2,hl2,e2⟩:=I.lstM hB
 refine PySem.P.add_list e e2 ?_ (by rw [Qm,Qm];omega)
 have ea:its.toArray++its2.toArray=(its++its2).toArray:=by simp
 rw [ea]
 exact ⟨.ref _,_,I.lnew (t':=s.toks) (r.append r2) (by rw [Xn];omega),rfl,q _ I.fresh⟩
end
section
variable {prog:Program} {w:World} {A:Around} {E:Value→Shared→Prop} {s:Shared}
set_option maxRecDepth 100000 in
end
end L2
namespace L2
open PySem PySem.Spec PyProof.Rows
section
variable {κ:Type} [DecidableEq κ]
def a0R (kvs:List (κ×V)) (k:κ):Option V:=(kvs.find? fun kv=>decide (kv.1=k)).map (·.2)
def a2C (kvs:List (κ×V)) (k:κ) (v:V):List (κ×V):=
 if (kvs.any fun kv=>decide (kv.1=k))=true then kvs.map (fun kv=>if kv.1=k then (kv.1,v) else kv) else kvs++[(k,v)]
def b6e (kvs:List (κ×V)) (k:κ):List (κ×V):=kvs.filter fun kv=>decide (kv.1≠k)
theorem a0D {p:κ×V} {r:List (κ×V)} {k:κ} (e:p.1=k):a0R (p::r) k=some p.2:=by simp [a0R,Yw,e]
theorem a0t {p:κ×V} {r:List (κ×V)} {k:κ} (e:¬p.1=k):a0R (p::r) k=a0R r k:=by simp [a0R,Yw,e]
theorem a1L (k:κ):∀kvs:List (κ×V),(kvs.any fun kv=>decide (kv.1=k))=(a0R kvs k).isSome
 | []=>rfl
 | p::r=>by
  rw [Zw]
  by_cases e:p.1=k
  ·simp only [a0D e,decide_eq_true e,Bool.true_or,Option.isSome_some]
  ·rw [a0t e,decide_eq_false e,Bool.false_or];exact a1L k r
theorem a6Y (k j:κ) (y:V):∀kvs:List (κ×V),a0R (kvs.map fun kv=>if kv.1=k then (kv.1,y) else kv) j=(a0R kvs j).map fun x=>if j=k then y else x
 | []=>rfl
 | p::r=>by
  have ih:=a6Y k j y r
  rw [Xg]
  by_cases h:p.1=k
  ·rw [if_pos h]
   by_cases e:p.1=j
   ·rw [a0D (p:=(p.1,y)) e,a0D e,Zy,if_pos (e.symm.trans h)]
   ·rw [a0t (p:=(p.1,y)) e,a0t e,ih]
  ·rw [if_neg h]
   by_cases e:p.1=j
   ·rw [a0D (p:=p) e,a0D e,Zy,if_neg (fun z=>h (e.trans z))]
   ·rw [a0t (p:=p) e,a0t e,ih]
theorem a5C (k j:κ) (y:V):∀kvs:List (κ×V),a0R kvs k=none→a0R (kvs++[(k,y)]) j=if j=k then some y else a0R kvs j
 | [],_=>by
  by_cases e:k=j
  ·rw [if_pos e.symm];exact a0D (p:=(k,y)) e
  ·rw [if_neg (fun z=>e z.symm)];exact a0t (p:=(k,y)) e
 | p::r,hn=>by
  rw [Jf]
  have hk:¬p.1=k:=fun z=>by rw [a0D z] at hn;cases hn
  rw [a0t hk] at hn
  have ih:=a5C k j y r hn
  by_cases e:p.1=j
  ·rw [a0D e,a0D e,if_neg (fun z=>hk (e.trans z))]
  ·rw [a0t e,a0t e,ih]
theorem a2z (kvs:List (κ×V)) (k j:κ) (y:V):a0R (a2C kvs k y) j=if j=k then some y else a0R kvs j:=by
 unfold a2C
 by_cases a:(kvs.any fun kv=>decide (kv.1=k))=true
 ·rw [if_pos a,a6Y]
  rw [a1L] at a
  by_cases e:j=k
  ·obtain ⟨x,hx⟩:=Vl.mp a
   rw [if_pos e,e,hx,Zy,if_pos rfl]
  ·rw [if_neg e]
   cases a0R kvs j with
   | none=>rfl
   | some x=>rw [Zy,if_neg e]
 ·rw [if_neg a]
  refine a5C k j y kvs ?_
  rw [a1L] at a
  cases q:a0R kvs k with
  | none=>rfl
  | some x=>rw [q] at a;exact (a rfl).elim
theorem a0X (kvs:List (κ×V)) (k:κ) (v:V):(a2C kvs k v).length≤kvs.length+1:=by
 unfold a2C
 split
 ·rw [Qd];omega
 ·rw [Xn,Qs,Xk];omega
theorem a4X {kvs:List (κ×V)} {k:κ} (v:V) (h:a0R kvs k=none):a2C kvs k v=kvs++[(k,v)]:=by
 unfold a2C
 rw [a1L,h]
 exact if_neg (by decide)
theorem a3Z.isSome_eq {o:Option V} {u:Option Value} (r:a3Z o u):o.isSome=u.isSome:=by
 cases o with
 | none=>cases u with
  | none=>rfl
  | some _=>exact (show False from r).elim
 | some _=>cases u with
  | none=>exact (show False from r).elim
  | some _=>rfl
theorem a3Z.getD {o:Option V} {u:Option Value} {d:V} {d':Value} (r:a3Z o u) (rd:a0N d d'):a0N (o.getD d) (u.getD d'):=by
 cases o with
 | none=>cases u with
  | none=>exact rd
  | some _=>exact (show False from r).elim
 | some _=>cases u with
  | none=>exact (show False from r).elim
  | some _=>exact r
theorem KV.val {kvs:List (κ×V)} {vs:List (κ×Value)} (r:KV kvs vs) (k:κ):a3Z (a0R kvs k) (valueAt vs k):=by
 unfold KV at r
 induction r with
 | nil=>exact True.intro
 | @cons p q ps qs h t ih=>
  obtain ⟨h1,h2⟩:=h
  by_cases e:p.1=k
  ·have e':q.1=k:=h1.symm.trans e
   have b:valueAt (q::qs) k=some q.2:=by simp [valueAt,Yw,e']
   rw [a0D e,b];exact h2
  ·have e':¬q.1=k:=fun z=>e (h1.trans z)
   have b:valueAt (q::qs) k=valueAt qs k:=by simp [valueAt,Yw,e']
   rw [a0t e,b];exact ih
theorem KV.any {kvs:List (κ×V)} {vs:List (κ×Value)} (r:KV kvs vs) (k:κ):(kvs.any fun kv=>decide (kv.1=k))=vs.any fun kv=>decide (kv.1=k):=by
 unfold KV at r
 induction r with
 | nil=>rfl
 | cons h t ih=>rw [Zw,Zw,ih,h.1]
theorem KV.repl {kvs:List (κ×V)} {vs:List (κ×Value)} (r:KV kvs vs) (k:κ) {y:V} {u:Value} (ry:a0N y u):
  KV (kvs.map fun kv=>if kv.1=k then (kv.1,y) else kv) (vs.map fun kv=>if kv.1=k then (kv.1,u) else kv):=by
 unfold KV at r ⊢
 induction r with
 | nil=>exact .nil
 | @cons p q ps qs h t ih=>
  rw [Xg,Xg]
  refine .cons ?_ ih
  obtain ⟨h1,h2⟩:=h
  by_cases e:p.1=k
  ·rw [if_pos e,if_pos (h1.symm.trans e)];exact ⟨h1,ry⟩
  ·rw [if_neg e,if_neg (fun z=>e (h1.trans z))];exact ⟨h1,h2⟩
theorem KV.put {kvs:List (κ×V)} {vs:List (κ×Value)} (r:KV kvs vs) (k:κ) {y:V} {u:Value} (ry:a0N y u):KV (a2C kvs k y) (stored vs k u):=by
 unfold a2C stored
 rw [r.any k]
 by_cases e:(vs.any fun kv=>decide (kv.1=k))=true
 ·rw [if_pos e,if_pos e];exact r.repl k ry
 ·rw [if_neg e,if_neg e];exact Paired.snoc r ⟨rfl,ry⟩
theorem KV.drop {kvs:List (κ×V)} {vs:List (κ×Value)} (r:KV kvs vs) (k:κ):KV (b6e kvs k) (without vs k):=by
 unfold KV at r ⊢
 unfold b6e without
 induction r with
 | nil=>exact .nil
 | @cons p q ps qs h t ih=>
  obtain ⟨h1,h2⟩:=h
  rw [Yc,Yc]
  by_cases e:p.1=k
  ·have a:¬decide (p.1≠k)=true:=by simp [e]
   have b:¬decide (q.1≠k)=true:=by simp [h1.symm.trans e]
   rw [if_neg a,if_neg b];exact ih
  ·have e':¬q.1=k:=fun z=>e (h1.trans z)
   have a:decide (p.1≠k)=true:=by simp [e]
   have b:decide (q.1≠k)=true:=by simp [e']
   rw [if_pos a,if_pos b];exact .cons ⟨h1,h2⟩ ih
theorem KV.length {kvs:List (κ×V)} {vs:List (κ×Value)} (r:KV kvs vs):kvs.length=vs.length:=Paired.length r
end
theorem a6g {P:Program} {w:World} {k:Key} {u:Value} (r:a0N (kV k) u):(a0m P w).is k u=true:=by
 cases k with
 | inl i=>obtain ⟨t,e⟩:=(show ∃t,u=Value.int i t from r);subst e;exact a6A P w i t
 | inr x=>obtain ⟨t,e⟩:=(show ∃t,u=Value.str x t from r);subst e;exact a6E P w x t
theorem a5z {P:Program} {w:World}:∀{ks:List Key} {us:List Value},a0H (ks.map kV) us→ItemsAre (a0m P w) ks us
 | [],_,r=>by rw [Jq] at r;cases r;exact .nil
 | k::ks,_,r=>by
  rw [Xg] at r
  cases r with
  | cons h t=>exact .cons (a6g h) (a5z t)
abbrev KT (H:Hp):List (List Key×V)→List (List Key×Addr×Value)→Prop:=Paired fun p q=>p.1=q.1∧H q.2.1=some (.tup (p.1.map kV))∧a0N p.2 q.2.2
theorem KT.val {H:Hp} {kvs:List (List Key×V)} {xs:List (List Key×Addr×Value)} (r:KT H kvs xs) (k:List Key):a3Z (a0R kvs k) ((atKey xs k).map (·.2)):=by
 induction r with
 | nil=>exact True.intro
 | @cons p q ps qs h t ih=>
  obtain ⟨h1,_,h2⟩:=h
  by_cases e:p.1=k
  ·have e':q.1=k:=h1.symm.trans e
   have b:atKey (q::qs) k=some q.2:=by simp [atKey,Yw,e']
   rw [a0D e,b];exact h2
  ·have e':¬q.1=k:=fun z=>e (h1.trans z)
   have b:atKey (q::qs) k=atKey qs k:=by simp [atKey,Yw,e']
   rw [a0t e,b];exact ih
theorem KT.repl {H:Hp} {kvs:List (List Key×V)} {xs:List (List Key×Addr×Value)} (r:KT H kvs xs) (k:List Key) {y:V} {u:Value} (ry:a0N y u):
  KT H (kvs.map fun kv=>if kv.1=k then (kv.1,y) else kv) (xs.map (putAt k u)):=by
 induction r with
 | nil=>exact .nil
 | @cons p q ps qs h t ih=>
  rw [Xg,Xg]
  refine .cons ?_ ih
  obtain ⟨h1,h2,h3⟩:=h
  unfold putAt
  by_cases e:p.1=k
  ·rw [if_pos e,if_pos (h1.symm.trans e)];exact ⟨h1,h2,ry⟩
  ·rw [if_neg e,if_neg (fun z=>e (h1.trans z))];exact ⟨h1,h2,h3⟩
theorem KT.put {H:Hp} {kvs:List (List Key×V)} {xs:List (List Key×Addr×Value)} (r:KT H kvs xs) (k:List Key) {b:Addr} {y:V} {u:Value} (hb:H b=some (.tup (k.map kV))) (ry:a0N y u):
  KT H (a2C kvs k y) (storedH xs k b u):=by
 have e:(kvs.any fun kv=>decide (kv.1=k))=(atKey xs k).isSome:=by
  rw [a1L,(r.val k).isSome_eq,Va]
 unfold a2C storedH
 rw [e]
 by_cases q:(atKey xs k).isSome=true
 ·rw [if_pos q,if_pos q];exact r.repl k ry
 ·rw [if_neg q,if_neg q];exact Paired.snoc r ⟨rfl,hb,ry⟩
theorem KT.keeps {H H':Hp} {kvs:List (List Key×V)} {xs:List (List Key×Addr×Value)} (r:KT H kvs xs) (ht:∀b ys,H b=some (.tup ys)→H' b=some (.tup ys)):KT H' kvs xs:=
 Paired.mapP r fun _ _ z=>⟨z.1,ht _ _ z.2.1,z.2.2⟩
section
variable {P:Program} {w:World} {H:Hp} {h:Heap} {a:Addr}
theorem b8F {u:HO} (ok:HOk P w H h) (e:Rd H a u):a1e P w H h a u:=e.ok ok
theorem a3v {kvs:List (Key×V)} (ok:HOk P w H h) (e:Rd H a (.dK kvs)):kvs.length≤sizeLine∧(a == sysModules)=false∧∃vs,KV kvs vs∧h.DictOf (a0m P w) a vs:=
 show a1e P w H h a (.dK kvs) from b8F ok e
theorem a5T {kvs:List (Key×V)} (ok:HOk P w H h) (e:H a=some (.dK kvs)):kvs.length≤sizeLine∧(a == sysModules)=false∧∃vs,KV kvs vs∧h.DictOf (a0m P w) a vs:=a3v ok (.inl e)
theorem a4h {ks:List Key} (ok:HOk P w H h) (e:H a=some (.tup (ks.map kV))):(tupleKind (a0m P w)).is h ks a:=by
 obtain ⟨_,its,r,o,h1,h2,n,h3⟩:=(show a1e P w H h a (.tup (ks.map kV)) from ok a _ e)
 exact ⟨o,its.toArray,n,h1,h2,h3,by simpa using a5z r⟩
theorem a6l {kvs:List (List Key×V)} (ok:HOk P w H h) (e:Rd H a (.dT kvs)):kvs.length≤sizeLine∧(a == sysModules)=false∧
  ∃xs,KT H kvs xs∧h.DictOfH (tupleKind (a0m P w)) a xs:=by
 obtain ⟨z,y,xs,r,o,es,ep,h1,h2,h3,h4,h5⟩:=(show a1e P w H h a (.dT kvs) from b8F ok e)
 refine ⟨z,y,xs,r,o,es,ep,h1,h2,h3,h4,fun x hx=>?_,h5⟩
 have all:∀{l:List (List Key×V)} {m:List (List Key×Addr×Value)},KT H l m→∀x∈m,(tupleKind (a0m P w)).is h x.1 x.2.1:=by
  intro l m q
  induction q with
  | nil=>intro x hx;exact nomatch hx
  | @cons p q ps qs hq t ih=>
   intro x hx
   rcases Qw.mp hx with e | hx
   ·subst e
    exact a4h ok (by rw [←hq.1];exact hq.2.1)
   ·exact ih x hx
 exact all r x hx
theorem c0b {kvs:List (List Key×V)} (ok:HOk P w H h) (e:H a=some (.dT kvs)):kvs.length≤sizeLine∧(a == sysModules)=false∧
  ∃xs,KT H kvs xs∧h.DictOfH (tupleKind (a0m P w)) a xs:=a6l ok (.inl e)
end
def a2S (H:Hp) (a:Addr) (y:V) (r:Option V):Prop:=
 (∃kvs k,Rd H a (.dK kvs)∧y=kV k∧r=a0R kvs k)∨∃kvs k b,Rd H a (.dT kvs)∧y=.ref b∧H b=some (.tup (k.map kV))∧r=a0R kvs k
def a6a (H:Hp) (a:Addr) (y v:V) (H':Hp):Prop:=
 (∃kvs k,H a=some (.dK kvs)∧y=kV k∧kvs.length < sizeLine∧H'=upd H a (.dK (a2C kvs k v)))∨
 ∃kvs k b,H a=some (.dT kvs)∧y=.ref b∧H b=some (.tup (k.map kV))∧kvs.length < sizeLine∧H'=upd H a (.dT (a2C kvs k v))
theorem a2S.k {H:Hp} {a:Addr} {kvs:List (Key×V)} {k:Key} (e:H a=some (.dK kvs)):a2S H a (kV k) (a0R kvs k):=.inl ⟨kvs,k,.inl e,rfl,rfl⟩
theorem a2S.t {H:Hp} {a b:Addr} {kvs:List (List Key×V)} {k:List Key} (e:H a=some (.dT kvs)) (eb:H b=some (.tup (k.map kV))):a2S H a (.ref b) (a0R kvs k):=.inr ⟨kvs,k,b,.inl e,rfl,eb,rfl⟩
theorem a6a.k {H:Hp} {a:Addr} {kvs:List (Key×V)} {k:Key} {v:V} (e:H a=some (.dK kvs)) (hl:kvs.length < sizeLine):a6a H a (kV k) v (upd H a (.dK (a2C kvs k v))):=.inl ⟨kvs,k,e,rfl,hl,rfl⟩
theorem a6a.t {H:Hp} {a b:Addr} {kvs:List (List Key×V)} {k:List Key} {v:V} (e:H a=some (.dT kvs)) (eb:H b=some (.tup (k.map kV))) (hl:kvs.length < sizeLine):
  a6a H a (.ref b) v (upd H a (.dT (a2C kvs k v))):=.inr ⟨kvs,k,b,e,rfl,eb,hl,rfl⟩
section
variable {X:Cx} {pins:List (Addr×Obj)} {σ:St} {H:Hp} {s:Shared} {a:Addr} {y v:V} {u r:Value} {o:Option V} {A:Around} {E:Value→Shared→Prop}
theorem Inv.big (I:Inv X pins σ H s):sysModules < s.heap.objs.size:=by
 have h:mainGlobals < s.heap.objs.size:=(I.mod.glob.keeps I.bk).lt
 exact Nat.lt_trans (by decide) h
theorem a9i {Q:Value→Shared→Prop} (hu:A.units+1 < cLine) (I:Inv X pins σ H s) (g:a2S H a y (some v)) (ry:a0N y u) (h:∀w' s',Inv X pins σ H s'→a0N v w'→Q w' s'):
  wpAny (model X.prog X.w) A (getItem (.ref a) u) Q E s:=by
 rcases g with ⟨kvs,k,e,ey,l⟩ | ⟨kvs,k,b,e,ey,eb,l⟩
 ·subst ey
  obtain ⟨z,hd,vs,rel,dd⟩:=a3v I.hok e
  obtain ⟨w',hw,rw'⟩:=a3Z.some_of (v:=v) (o:=valueAt vs k) (by rw [l];exact rel.val k)
  exact wpAny_getItem_of (a6g ry) dd.mapOf hw (h w' _ (I.tok _) rw')
 ·subst ey
  cases (show u=Value.ref b from ry)
  obtain ⟨z,hd,xs,rel,dd⟩:=a6l I.hok e
  obtain ⟨w',hw,rw'⟩:=a3Z.some_of (v:=v) (o:=(atKey xs k).map (·.2)) (by rw [l];exact rel.val k)
  obtain ⟨p,hp,hp2⟩:=Jw.mp hw
  refine wpAny_getItem_heap (tupleKind_room_in1 hu) (a4h I.hok eb) dd hp ?_
  rw [hp2]
  exact h w' _ (I.tok _) rw'
theorem c4D {Q:Value→Shared→Prop} (hu:A.units+1 < cLine) (I:Inv X pins σ H s) (g:a2S H a y o) (ry:a0N y u) (h:∀s',Inv X pins σ H s'→Q (.bool o.isSome) s'):
  wpAny (model X.prog X.w) A (compareOp .In u (.ref a)) Q E s:=by
 rcases g with ⟨kvs,k,e,ey,l⟩ | ⟨kvs,k,b,e,ey,eb,l⟩
 ·subst ey
  obtain ⟨z,hd,vs,rel,dd⟩:=a3v I.hok e
  refine wpAny_in_of (a6g ry) hd dd.mapOf ?_
  rw [←(rel.val k).isSome_eq,←l]
  exact h _ (I.tok _)
 ·subst ey
  cases (show u=Value.ref b from ry)
  obtain ⟨z,hd,xs,rel,dd⟩:=a6l I.hok e
  refine wpAny_in_heap (tupleKind_room_in1 hu) (a4h I.hok eb) hd dd ?_
  have q:=(rel.val k).isSome_eq
  rw [Va] at q
  rw [←q,←l]
  exact h _ (I.tok _)
theorem b3U {Q:Value→Shared→Prop} (hu:A.units+1 < cLine) (I:Inv X pins σ H s) (g:a2S H a y o) (ry:a0N y u) (h:∀s',Inv X pins σ H s'→Q (.bool (!o.isSome)) s'):
  wpAny (model X.prog X.w) A (compareOp .NotIn u (.ref a)) Q E s:=by
 rcases g with ⟨kvs,k,e,ey,l⟩ | ⟨kvs,k,b,e,ey,eb,l⟩
 ·subst ey
  obtain ⟨z,hd,vs,rel,dd⟩:=a3v I.hok e
  refine wpAny_notIn_of (a6g ry) hd dd.mapOf ?_
  rw [←(rel.val k).isSome_eq,←l]
  exact h _ (I.tok _)
 ·subst ey
  cases (show u=Value.ref b from ry)
  obtain ⟨z,hd,xs,rel,dd⟩:=a6l I.hok e
  refine wpAny_notIn_heap (tupleKind_room_in1 hu) (a4h I.hok eb) hd dd ?_
  have q:=(rel.val k).isSome_eq
  rw [Va] at q
  rw [←q,←l]
  exact h _ (I.tok _)
theorem a4A {h':Heap} {t':Nat} {ob:HO} (I:Inv X pins σ H s) (mu:Mut (H a)) (hs:Vi a s.heap h') (he:∃q,h'.get? a=some q) (new:a1e X.prog X.w (upd H a ob) h' a ob):
  Inv X pins σ (upd H a ob) {s with heap:=h',toks:=t'}:=
 I.write (x:=a) (e:=a) mu (.inl rfl) (fun b q hb z=>(hs.2 b hb).trans z) he new
theorem a8v {P:Program} {w:World} {H':Hp} {h':Heap} {kvs:List (Key×V)} {vs:List (Key×Value)} (z:kvs.length≤sizeLine) (hd:(a == sysModules)=false) (rel:KV kvs vs) (dd:h'.DictOf (a0m P w) a vs):
  a1e P w H' h' a (.dK kvs):=⟨z,hd,vs,rel,dd⟩
theorem b0b {H':Hp} {Q:Unit→Shared→Prop} (hu:A.units+1 < cLine) (I:Inv X pins σ H s) (g:a6a H a y v H') (ry:a0N y u) (rv:a0N v r) (h:∀s',Inv X pins σ H' s'→Q () s'):
  wpAny (model X.prog X.w) A (setItem (.ref a) u r) Q E s:=by
 rcases g with ⟨kvs,k,e,ey,l,eH⟩ | ⟨kvs,k,b,e,ey,eb,l,eH⟩
 ·subst ey eH
  obtain ⟨z,hd,vs,rel,dd⟩:=a5T I.hok e
  have hz:vs.length≤sizeLine:=by rw [←rel.length];exact z
  have hl:(a2C kvs k v).length≤sizeLine:=by have:=a0X kvs k v;omega
  refine wpAny_setItem_pairs (hsz:=hz) (a6g ry) dd fun h' dd' hs=>h _ ?_
  have he:∃q,h'.get? a=some q:=let ⟨q,_,_,hq,_⟩:=dd';⟨q,hq⟩
  exact a4A I (by rw [e];exact True.intro) hs he (a8v hl hd (rel.put k rv) dd')
 ·subst ey eH
  cases (show u=Value.ref b from ry)
  obtain ⟨z,hd,xs,rel,dd⟩:=c0b I.hok e
  have hz:xs.length≤sizeLine:=by rw [←Paired.length rel];exact z
  have hl:(a2C kvs k v).length≤sizeLine:=by have:=a0X kvs k v;omega
  refine wpAny_setItem_heap (hsz:=hz) (tupleKind_room_in1 hu) (a4h I.hok eb) dd fun h' dd' hs=>h _ ?_
  obtain ⟨q,es,ep,hq,h2,h3,h4,_,h5⟩:=dd'
  refine a4A I (by rw [e];exact True.intro) hs ⟨q,hq⟩ ⟨hl,hd,_,(rel.put k eb rv).keeps fun c ys ec=>?_,q,es,ep,hq,h2,h3,h4,h5⟩
  rw [a0a (a0B ec e (fun z=>nomatch z))]
  exact ec
end
section
variable {X:Cx} {pins:List (Addr×Obj)} {σ:St} {H:Hp} {s:Shared} {a:Addr} {kvs:List (Key×V)} {k:Key} {u:Value} {A:Around} {E:Value→Shared→Prop}
theorem c0r {Q:Value→Shared→Prop} (I:Inv X pins σ H s) (e:Rd H a (.dK kvs)) (h:∀t s',Inv X pins σ H s'→Q (.int kvs.length t) s'):wpAny (model X.prog X.w) A (call (.builtin "len") [.ref a]) Q E s:=by
 obtain ⟨z,hd,vs,rel,dd⟩:=a3v I.hok e
 refine call_len_dict hd dd (by rw [←rel.length];rw [sizeLine_eq] at z;omega) ?_
 rw [←rel.length]
 exact h _ _ (I.tok _)
end
def c2c (i:Expr):Prop:=∀ov iv,subscripted i false ov iv=operate [ov,iv] (getItem ov iv)
theorem b5i {prog:Program} {w:World} {A:Around} {E:Value→Shared→Prop} {s:Shared} {env:Env} {value slice:Expr} {pos:Pos} {T id:String} {Q:Value→Shared→Prop}
  (hl:typeLookup (.type T) "__getitem__"=pure (some (.builtin id))) (hs:c2c slice)
  (h:wpAny (model prog w) A (eval value env) (fun o s₁=>wpAny (model prog w) A (eval slice env) (fun i s₂=>s₂.TypeIs o T∧wpAny (model prog w) A (getItem o i) Q E s₂) E s₁) E s):
  wpAny (model prog w) A (eval (.Subscript value slice pos) env) Q E s:=by
 refine Subscript_ (wpAny_mono h (fun o s₁ h₁=>wpAny_mono h₁ (fun i s₂ h₂=>?_) fun _ _ x=>x) fun _ _ x=>x)
 obtain ⟨hT,h₂⟩:=h₂
 unfold subscriptTail
 refine wpAny_bind ?_
 rw [getitemInPython_of_ne hT.not_modules]
 refine wpAny_bind (wpAny_specialOf hT hl ?_)
 have fin:wpAny (model prog w) A (subscripted slice false o i) (fun r s₃=>wpAny (model prog w) A (letTemporaryGo value o r >>= fun _=>pure r) Q E s₃) E s₂:=by
  rw [hs o i]
  exact wpAny_operating (wpAny_mono h₂ (fun r s₃ h₃=>wpAny_bind (wpAny_letTemporaryGo (wpAny_pure h₃))) fun _ _ x=>x)
 first
  | exact wpAny_pure (wpAny_bind fin)
  | exact wpAny_bind (wpAny_pure (wpAny_bind fin))
  | exact wpAny_bind fin
theorem a6I {X:Cx} {pins:List (Addr×Obj)} {σ:St} {H:Hp} {s:Shared} {a:Addr} {y:V} {o:Option V} (I:Inv X pins σ H s) (g:a2S H a y o):s.TypeIs (.ref a) "dict":=by
 rcases g with ⟨kvs,k,e,_,_⟩ | ⟨kvs,k,b,e,_,_,_⟩
 ·obtain ⟨_,_,vs,_,dd⟩:=a3v I.hok e
  exact dd.typeIs
 ·obtain ⟨_,_,xs,_,dd⟩:=a6l I.hok e
  exact dd.typeIs
def a8I (td ty:TE):TE:=fun σ H Q=>td σ H fun x H1=>ty σ H1 fun y H2=>∃a v,x=.ref a∧a2S H2 a y (some v)∧Q v H2
def b7y (ty td:TE):TE:=fun σ H Q=>ty σ H fun y H1=>td σ H1 fun x H2=>∃a o,x=.ref a∧a2S H2 a y o∧Q (.bl o.isSome) H2
def a2Y (ty td:TE):TE:=fun σ H Q=>ty σ H fun y H1=>td σ H1 fun x H2=>∃a o,x=.ref a∧a2S H2 a y o∧Q (.bl (!o.isSome)) H2
def a3b (td ty tv:TE):TS:=fun D σ H=>tv σ H fun v H1=>td σ H1 fun x H2=>ty σ H2 fun y H3=>∃a H4,x=.ref a∧a6a H3 a y v H4∧D.nx σ H4
section
variable {X:Cx} {o i e value:Expr} {pos pos' tpos:Pos} {td ty tv:TE}
theorem b4u (hu:X.A.units+1 < cLine) (ho:PE X o td) (hi:PE X i ty) (hs:c2c i):PE X (.Subscript o i pos) (a8I td ty):=by
 intro pins s σ H Q I h
 refine b5i PySem.F.slot_dict_getitem.lookup hs (thn (ho pins s σ H _ I h) fun u s1 ⟨x,H1,I1,rx,q1⟩=>thn (hi pins s1 σ H1 _ I1 q1) fun iv s2 ⟨y,H2,I2,ry,a,v,ex,g,q2⟩=>?_)
 subst ex
 obtain rfl:u=Value.ref a:=rx
 exact ⟨a6I I2 g,a9i hu I2 g ry fun w' s3 I3 rw'=>⟨v,H2,I3,rw',q2⟩⟩
theorem a3f (hu:X.A.units+1 < cLine) (hi:PE X i ty) (ho:PE X o td):PC X .In i o (b7y ty td):=by
 intro pins s σ H Q I h
 refine thn (hi pins s σ H _ I h) fun iv s1 ⟨y,H1,I1,ry,q1⟩=>thn (ho pins s1 σ H1 _ I1 q1) fun u s2 ⟨x,H2,I2,rx,a,ov,ex,g,q2⟩=>?_
 subst ex
 obtain rfl:u=Value.ref a:=rx
 exact c4D hu I2 g ry fun s3 I3=>⟨.bl ov.isSome,H2,I3,rfl,q2⟩
theorem b0j (hu:X.A.units+1 < cLine) (hi:PE X i ty) (ho:PE X o td):PC X .NotIn i o (a2Y ty td):=by
 intro pins s σ H Q I h
 refine thn (hi pins s σ H _ I h) fun iv s1 ⟨y,H1,I1,ry,q1⟩=>thn (ho pins s1 σ H1 _ I1 q1) fun u s2 ⟨x,H2,I2,rx,a,ov,ex,g,q2⟩=>?_
 subst ex
 obtain rfl:u=Value.ref a:=rx
 exact b3U hu I2 g ry fun s3 I3=>⟨.bl (!ov.isSome),H2,I3,rfl,q2⟩
theorem b4W (hu:X.A.units+1 < cLine) (ho:PE X o td) (hi:PE X i ty) (hv:PE X value tv) (hs:swapsWith value (some (.Subscript o i pos')) pos.line X.env=pure false):
  PS X (.Assign [.Subscript o i pos'] value pos) (a3b td ty tv):=by
 intro pins s σ H D I h
 refine wpAny_Assign_Subscript (thn (hv pins s σ H _ I h) fun r s1 ⟨v,H1,I1,rv,q1⟩=>thn (ho pins s1 σ H1 _ I1 q1) fun u s2 ⟨x,H2,I2,rx,q2⟩=>thn (hi pins s2 σ H2 _ I2 q2) fun iv s3 ⟨y,H3,I3,ry,a,H4,ex,g,q3⟩=>?_) hs
 subst ex
 obtain rfl:u=Value.ref a:=rx
 exact b0b hu I3 g ry rv fun s4 I4=>⟨σ,H4,I4,q3⟩
end
theorem b1n {P:Program} {w:World} {H:Hp} (h:Heap) (hb:sysModules < h.objs.size):a1e P w H (h.push {cls:=.type "dict",data:=.dict #[]}) h.objs.size (.dK []):=
 ⟨Xm _,beq_eq_false_iff_ne.mpr (Ne.symm (Xe hb)),[],.nil,Heap.DictOf.new h⟩
theorem b2F {P:Program} {w:World} {H:Hp} (h:Heap) (hb:sysModules < h.objs.size):a1e P w H (h.push {cls:=.type "dict",data:=.dict #[]}) h.objs.size (.dT []):=
 ⟨Xm _,beq_eq_false_iff_ne.mpr (Ne.symm (Xe hb)),[],.nil,_,#[],0,Xd _ rfl,⟨rfl,rfl,rfl⟩,rfl,rfl,Zj⟩
def a1T:TE:=fun _ H Q=>∀p,H p=none→Q (.ref p) (upd H p (.dK []))
def b8L:TE:=fun _ H Q=>∀p,H p=none→Q (.ref p) (upd H p (.dT []))
section
variable {X:Cx} {pos:Pos}
theorem b1y:PE X (.Dict [] [] pos) a1T:=fun pins s σ H Q I h=>
 wpAny_Dict_empty ⟨.ref s.heap.objs.size,_,I.laid (a:=s.heap.objs.size) (o:=.dK []) (t':=s.toks) (fun _ _ q=>Ql _ q) (Qk _) (b1n s.heap I.big),rfl,h _ (I.hok.fresh (Qk _))⟩
theorem b2x:PE X (.Dict [] [] pos) b8L:=fun pins s σ H Q I h=>
 wpAny_Dict_empty ⟨.ref s.heap.objs.size,_,I.laid (a:=s.heap.objs.size) (o:=.dT []) (t':=s.toks) (fun _ _ q=>Ql _ q) (Qk _) (b2F s.heap I.big),rfl,h _ (I.hok.fresh (Qk _))⟩
end
def a1B (kvs more:List (Key×V)):List (Key×V):=more.foldl (fun acc kv=>a2C acc kv.1 kv.2) kvs
theorem KV.merge:∀{more:List (Key×V)} {rs:List (Key×Value)} {kvs:List (Key×V)} {vs:List (Key×Value)},KV more rs→KV kvs vs→KV (a1B kvs more) (merged vs rs):=by
 intro more rs kvs vs r
 unfold KV at r
 induction r generalizing kvs vs with
 | nil=>intro q;exact q
 | @cons p q ps qs h t ih=>
  intro r0
  have e:KV (a2C kvs p.1 p.2) (stored vs q.1 q.2):=by
   have:=r0.put p.1 h.2
   rw [←h.1];exact this
  exact ih e
theorem a1s:∀(more kvs:List (Key×V)),(a1B kvs more).length≤kvs.length+more.length
 | [],kvs=>by show kvs.length≤kvs.length+0;omega
 | p::r,kvs=>by
  have h1:=a1s r (a2C kvs p.1 p.2)
  have h2:=a0X kvs p.1 p.2
  show (a1B (a2C kvs p.1 p.2) r).length≤_
  rw [Qs];omega
structure M2 (X:Cx) (o:Expr) (m:Str) (apos:Pos) (e f:Expr) (cpos:Pos):Prop where
 base:attributeBase o m X.env (eval o X.env)=eval o X.env
 few:((backTo cpos (starEach [e,f] X.env)).all (fun x=>!x.1) && (backToKw cpos (keywordEach [] X.env)).all (fun x=>x.1.isSome)
  && decide (([e,f]:List Expr).length+([]:List Keyword).length+(if ([]:List Keyword).isEmpty then 0 else 1) < 30))=true
 line:(apos.endLine == cpos.line)=true
 trees:backTo cpos (starEach [e,f] X.env)=[(false,eval e X.env),(false,eval f X.env)]
def IsD (H:Hp) (a:Addr):Prop:=(∃kvs,Rd H a (.dK kvs))∨∃kvs,Rd H a (.dT kvs)
theorem b3p {X:Cx} {pins:List (Addr×Obj)} {σ:St} {H:Hp} {s:Shared} {a:Addr} (I:Inv X pins σ H s) (d:IsD H a):
  s.TypeIs (.ref a) "dict"∧(∀b,Value.ref a=.ref b→∃ob,s.heap.get? b=some ob∧ob.dict=none)∧(a == sysModules)=false:=by
 rcases d with ⟨kvs,e⟩ | ⟨kvs,e⟩
 ·obtain ⟨_,hd,vs,_,dd⟩:=a3v I.hok e
  refine ⟨dd.typeIs,fun b q=>?_,hd⟩
  cases q
  obtain ⟨ob,_,_,h1,h2,_⟩:=dd
  exact ⟨ob,h1,h2.2.1⟩
 ·obtain ⟨_,hd,xs,_,dd⟩:=a6l I.hok e
  refine ⟨dd.typeIs,fun b q=>?_,hd⟩
  cases q
  obtain ⟨ob,_,_,h1,h2,_⟩:=dd
  exact ⟨ob,h1,h2.2.1⟩
section
variable {X:Cx} {pins:List (Addr×Obj)} {σ:St} {H:Hp} {s:Shared} {a:Addr} {y d:V} {u r:Value} {o:Option V} {A:Around} {E:Value→Shared→Prop}
theorem b6r {Q:Value→Shared→Prop} (hu:A.units+1 < cLine) (I:Inv X pins σ H s) (g:a2S H a y o) (ry:a0N y u) (rd:a0N d r) (h:∀w' s',Inv X pins σ H s'→a0N (o.getD d) w'→Q w' s'):
  wpAny (model X.prog X.w) A (call (.builtin "dict.get") [.ref a,u,r]) Q E s:=by
 rcases g with ⟨kvs,k,e,ey,l⟩ | ⟨kvs,k,b,e,ey,eb,l⟩
 ·subst ey
  obtain ⟨z,hd,vs,rel,dd⟩:=a3v I.hok e
  refine call_meetsIn Ub dd.typeIs Wb (Vu _ _ _) (meets_dict_get_default (a0m X.prog X.w) a (a6g ry) hd r) ⟨_,dd.mapOf,h _ _ (I.tok _) ?_⟩
  rw [l]
  exact (rel.val k).getD rd
 ·subst ey
  cases (show u=Value.ref b from ry)
  obtain ⟨z,hd,xs,rel,dd⟩:=a6l I.hok e
  refine call_meetsIn Ub dd.typeIs Wb (Vu _ _ _) (meetsH_dict_get_default (tupleKind (a0m X.prog X.w)) a b hd r) ⟨tupleKind_room_in1 hu,k,xs,a4h I.hok eb,dd,h _ _ (I.tok _) ?_⟩
  rw [l]
  exact (rel.val k).getD rd
end
def a6N (td ty tx:TE):TE:=fun σ H Q=>td σ H fun x H1=>∃a,x=.ref a∧IsD H1 a∧ty σ H1 fun y H2=>tx σ H2 fun z H3=>∃o,a2S H3 a y o∧Q (o.getD z) H3
section
variable {X:Cx} {o e f:Expr} {apos cpos:Pos} {td ty tx:TE}
theorem b2o (hu:X.A.units+1 < cLine) (ho:PE X o td) (he:PE X e ty) (hf:PE X f tx) (m:M2 X o "get" apos e f cpos):PE X (.Call (.Attribute o "get" apos) [e,f] [] cpos) (a6N td ty tx):=by
 intro pins s σ H Q I h
 refine wpAny_Call_method m.base m.few m.line Zv Ub PySem.F.type_dict_get (thn (ho pins s σ H _ I h) fun u s1 ⟨x,H1,I1,rx,a,ex,d,q1⟩=>?_)
 subst ex
 obtain rfl:u=Value.ref a:=rx
 obtain ⟨t1,t2,_⟩:=b3p I1 d
 refine ⟨t1,t2,?_⟩
 rw [m.trees]
 refine Calls.callWith_builtin rfl (Calls.evalArgs_plain (Calls.spliced_cons (thn (he pins s1 σ H1 _ I1 q1) fun iv s2 ⟨y,H2,I2,ry,q2⟩=>
  Calls.spliced_cons (thn (hf pins s2 σ H2 _ I2 q2) fun fv s3 ⟨z,H3,I3,rz,ov,g,q3⟩=>Calls.spliced_nil ?_))))
 exact b6r hu I3 g ry rz fun w' s4 I4 rw'=>⟨_,H3,I4,rw',q3⟩
end
end L2
namespace Att
open PySem PySem.W PySem.Calls PyProof.Rows
theorem a3z {P:Params} {h:Heap}:∀(ns:List Int) (vs:List Value),WellAll P h vs (ns.map WData.int)→IntsAre vs ns:=by
 intro ns
 induction ns with
 | nil=>
  intro vs w
  rw [Jq] at w
  cases w
  exact .nil
 | cons n ns ih=>
  intro vs w
  rw [Xg] at w
  cases w with
  | cons a b=>
   cases a
   exact .cons _ _ (ih _ b)
theorem a8E {l:OpenLaw} {n:Nat} (hn:l.most=some n) {P:Params} {h:Heap} {args:List WData} {vals:List Value}
  (hpre:l.row.toRowW.claim.pre args=true) (hwl:WellAll P h vals args):
  ∃a vs ns,vals=[Value.ref a]∧args=[WData.list (ns.map WData.int)]∧h.get? a=some {cls:=.type "list",data:=.seq vs.toArray}∧IntsAre vs ns∧ns.length≤n:=by
 have hsh:WShape.hasAll [] args [.list .int]=true:=(pre_splitW hpre).1
 have hc:l.pre.holds [] {args:=args}=true:=(pre_splitW hpre).2
 obtain ⟨d,r,rfl,h1,h2⟩:=hasAllW_cons hsh
 obtain rfl:=hasAllW_nil h2
 obtain ⟨xs,rfl,h3⟩:=hasW_list h1
 obtain ⟨ns,rfl⟩:=items_int h3
 have hlen:ns.length≤n:=by
  unfold OpenLaw.pre at hc
  have h4:(WTm.not (.lt (.lit (.int (n:Int))) (.len (.arg 0)))).holds [] {args:=[.list (ns.map .int)]}=true:=by
   have h4:=(holds_andW hc).1
   rw [hn] at h4
   exact h4
  have h5:=condW_of h4 (w_not (w_lt w_lit (w_len_list (w_arg rfl))))
  rw [Qd] at h5
  refine Nat.le_of_not_lt fun q=>?_
  have q':(n:Int) < ((ns.length:Nat):Int):=by omega
  first
   | (rw [decide_eq_true q'] at h5;exact absurd h5 (by decide))
   | (simp at h5;omega)
 cases hwl with
 | cons w1 w2=>
  cases w2
  cases w1 with
  | list ho hall=>exact ⟨_,_,ns,rfl,rfl,ho,a3z ns _ hall,hlen⟩
theorem a9h (l:OpenLaw) (args:List WData):l.row.toRowW.claim.post args (.bool true) args=true:=
 postW_of (r:=l.row.toRowW) (X:=(true == true))
  (show WShape.has [] (.bool true) .bool=true by first | rfl | decide | simp [WShape.has,WShape.arms,WShape.armsAll])
  (show (WTm.eq .res (.lit (.bool true))).value [] {args:=args,res:=some (.bool true),after:=args}=some (.bool (true == true)) from w_eq_bool (w_res rfl) w_lit) rfl
theorem attach_call {l:OpenLaw} {n:Nat} {q:Program} {loose:List Str} {XP:(Str→Option Value)→Heap→Prop} {YP:World→Heap→Prop} {d:DefRec}
  (hn:l.most=some n) (hdf:d.params.defaults=[])
  (call:∀(w:World) (s₀ s₁:Shared) (mg mb:Str→Option Value) (fa:Addr) (o:Obj) (pm cd doc:Value) (a:Addr) (vs:List Value) (ns:List Int),
   Ground q loose [] XP w s₀ mg mb s₁.heap→YP w s₁.heap→
   s₁.heap.get? fa=some o→o.data=.func (docDef d.name d.params d.body d.scope pm cd doc)→s₁.heap.CodeRec cd d.name→mg d.name=some (.ref fa)→
   s₁.heap.get? a=some {cls:=.type "list",data:=.seq vs.toArray}→IntsAre vs ns→ns.length≤n→s₁.gens=#[]→
   codeAny (model l.prog w) callerA (.call (.ref fa) ⟨[.ref a],[]⟩) (fun r s'=>r=.ok (.ret (.bool true))∧OldK s₁.heap s'.heap∧s'.os=s₁.os∧AllBare s'.gens) s₁):
  WalkO q loose XP YP l.row.toRowW d [] (fun f vs=>PySem.call f vs):=by
 intro w s₀ s₁ mg mb G Y fa o pm cd doc dV kV ho hd hcd hD hmg hg args vals as hpre hlay hrd hwl hlo
 obtain rfl:dV=.none:=Dflts.none hD hdf
 obtain rfl:kV=.none:=Dflts.noKw hD
 obtain ⟨a,vs,ns,rfl,rfl,hobj,hints,hlen⟩:=a8E hn hpre hwl
 refine enter_call (codeAny_mono (call w s₀ s₁ mg mb fa o pm cd doc a vs ns G Y ho (fd_plain hd) hcd hmg hobj hints hlen hg) fun r s' hq=>?_)
 obtain ⟨rfl,h2,h3,h4⟩:=hq
 exact ⟨.inl ⟨.bool true,.bool true,[],rfl,fun _=>rfl,.bool true,a9h l _,fun _=>⟨Wp.nil,fun _ hm=>(nomatch hm)⟩⟩,h2,h3,h4⟩
end Att
namespace L2
open PySem PySem.Spec PyProof.Rows
theorem a5O:∀{vs:List Value} {ns:List Int},IntsAre vs ns→a0H (ns.map V.int) vs
 | _,_,.nil=>.nil
 | _,_,.cons n t h=>.cons ⟨t,rfl⟩ (a5O h)
end L2
namespace L2
open PySem PySem.Spec PyProof.Rows
abbrev KOf {K:Qc} {h:Heap} (_:K.In h):Qc:=K
end L2
namespace L2
open PySem PySem.Spec PyProof.Rows
def a0g (s:Stmt) (j:Nat):Stmt:=match s with
 | .ClassDef _ _ _ body _ _ _ _ _ _ _=>body.getD j (.Pass ⟨0,0,0,0⟩)
 | _=>.Pass ⟨0,0,0,0⟩
def a1x (s:Stmt):Arguments:=match s with
 | .FunctionDef _ a _ _ _ _ _ _ _ _=>a
 | _=>{posonlyargs:=[],args:=[],vararg:=none,kwonlyargs:=[],kw_defaults:=[],kwarg:=none,defaults:=[]}
def a1d (s:Stmt):List Stmt:=match s with
 | .FunctionDef _ _ b _ _ _ _ _ _ _=>b
 | _=>[]
def a0c (s:Stmt):Scope:=match s with
 | .FunctionDef _ _ _ _ _ _ sc _ _ _=>sc
 | _=>{kind:=.function,names:=[],isGenerator:=false,isCoroutine:=false}
abbrev CX0:CXT:=fun _ _ _ _ _ _=>False
abbrev E0:XK:=fun _ _ _=>False
theorem a8Q {X:Cx}:a3i CX0 X E0:=fun _ _ _ _ _ _ _ h=>h.elim
structure Fun (K:Qc) (x qual:Str) (st:Stmt) (f:Addr) (fd:FuncData):Prop where
 ex:∃(oc:Value) (od:Option Addr) (kV doc pm:Value) (an:Option Addr) (cdv ct:Value) (osl:Array (Option Value)),
  fd=Yr x qual (a1x st) (a1d st) (a0c st) .none kV doc pm an cdv ct∧K.lookup f=some ⟨oc,od,.func fd,osl⟩∧Jb K cdv qual=true
 kp:Zb K (.ref f)=true
section
variable {P:Program} {w:World} {K:Qc} {mg:Str→Option Value} {base:Heap}
theorem Fun.ok {x qual:Str} {st:Stmt} {f:Addr} {fd:FuncData} {N ps:List Str} {k:Nat} {sp:Sp} (F:Fun K x qual st f fd) (S:a0h N ps (a0c st)) (len:∀vs H Q E,sp vs H Q E→vs.length=ps.length)
  (hbody:∀(cdv:Value) (A:Around) (outer:List Env) (s:Shared) (H:Hp) (vs:List V) (Q:VK) (E:XK),a2h k (A.deeper (envOfC qual (a0c st) s.heap.objs.size f cdv))→sp vs H Q E→
   ∃t,PSs (b2X CX0 P w K mg base N qual (a0c st) f cdv A outer s H E).nox (a1d st) t∧t {nx:=fun _ H'=>Q .non H',rt:=Q} (start N vs) H):a0W P w K mg base CX0 (k+1) f fd ps sp:=by
 obtain ⟨oc,od,kV,doc,pm,an,cdv,ct,osl,rfl,lk,hcd⟩:=F.ex
 refine b5I lk hcd S len fun A outer s H vs Q E hr hsp=>?_
 obtain ⟨t,h,q⟩:=hbody cdv A outer s H vs Q E hr hsp
 exact ⟨t,h.nox,q⟩
theorem b9b {x qual:Str} {st:Stmt} {f:Addr} {oc:Value} {od an:Option Addr} {osl:Array (Option Value)} {kV doc pm cdv ct:Value} (l:K.lookup f=some ⟨oc,od,.func (Yr x qual (a1x st) (a1d st) (a0c st) .none kV doc pm an cdv ct),osl⟩)
  (c:Jb K cdv qual=true) (k:Zb K (.ref f)=true):Fun K x qual st f (Yr x qual (a1x st) (a1d st) (a0c st) .none kV doc pm an cdv ct):=⟨⟨oc,od,kV,doc,pm,an,cdv,ct,osl,rfl,l,c⟩,k⟩
end
theorem a3m {A:Around} {k:Nat} (hr:a2h k A):A.units+1 < cLine:=Xp (Nat.add_le_add_left (by decide:1≤64) _) hr.units
section
variable {X:Cx}
theorem pv (i:Nat) {x:Str} {pos:Pos} (hN:X.N[i]?=some x:=by rfl) (hv:Vis X.env.scope x:=by first | exact Or.inl rfl | exact Or.inr (Or.inl rfl) | exact Or.inr (Or.inr rfl)) (hd:(x == ("__debug__":Str))=false:=by decide)
  (hcd:(x == ("__classdict__":Str))=false:=by decide):PE X (.Name x pos) (a0k i):=b8W hN hv hd hcd
end
theorem a2k {c A B:Prop} [Decidable c] (h1:c→A) (h2:¬c→B):if c then A else B:=by
 by_cases h:c
 ·rw [if_pos h]
  exact h1 h
 ·rw [if_neg h]
  exact h2 h
def a0j (H H':Hp):Prop:=∀b o,H b=some o→H' b=some o
theorem a0j.refl (H:Hp):a0j H H:=fun _ _ h=>h
theorem a0j.trans {H H1 H2:Hp} (a:a0j H H1) (b:a0j H1 H2):a0j H H2:=fun c o h=>b c o (a c o h)
theorem a0j.free {H H':Hp} (e:a0j H H') {l:Addr} (h:H' l=Option.none):H l=Option.none:=by
 cases q:H l with
 | none=>rfl
 | some o=>
  rw [e l o q] at h
  cases h
theorem a0j.seq {K:Qc} {H H':Hp} {a:Addr} {xs:List V} (e:a0j H H') (h:SqL K H a xs):SqL K H' a xs:=by
 rcases h with (h | ⟨o,h⟩) | h
 ·exact .inl (.inl (e _ _ h))
 ·exact .inl (.inr ⟨o,e _ _ h⟩)
 ·exact .inr h
section
variable {X:Cx}
theorem b0l:a1m X (.builtin "len") (fun xs H Q=>∃a kvs,xs=[V.ref a]∧H a=some (.dK kvs)∧Q (.int kvs.length) H):=by
 intro pins s σ H xs us Q I r h
 obtain ⟨a,kvs,rfl,ha,q⟩:=h
 obtain ⟨u,rfl,ru⟩:=a2V r
 cases ru
 exact c0r I (.inl ha) fun t s' I'=>⟨.int kvs.length,H,I',⟨t,rfl⟩,q⟩
end
end L2
namespace Tx
open PySem PySem.Builtin PySem.Builtin.Str PySem.StrLaws PyProof.Rows
abbrev mk (l:List Nat):Str:=⟨l.toArray⟩
theorem b9y (x:Str):mk x.cps.toList=x:=by obtain ⟨⟨l⟩⟩:=x;rfl
theorem a0x (l:List Nat):(mk l).length=l.length:=by show l.toArray.size=_;simp
theorem a2p (a b:List Nat):mk a++mk b=mk (a++b):=by
 show (⟨a.toArray++b.toArray⟩:Str)=_
 simp
theorem a5Q {a b:List Nat} (h:mk a=mk b):a=b:=by simpa [mk] using h
theorem a9q (l:List Nat) (c i:Nat):subAt (mk l) (mk [c]) i=decide (l[i]?=some c):=by
 rw [subAt_eq]
 show ((l.drop i).take 1 == [c])=_
 cases e:l[i]? with
 | none=>
  have:l.drop i=[]:=List.drop_eq_nil_of_le (by simpa using e)
  rw [this];simp
 | some d=>
  have hi:=(Qr.mp e)
  obtain ⟨h1,h2⟩:=hi
  rw [List.drop_eq_getElem_cons h1,h2]
  show (d == c && true)=decide (some d=some c)
  by_cases z:d=c
  ·subst z;simp
  ·simp [z]
theorem b7o (l:List Nat) (i j:Nat):strSub (mk l) i j=mk ((l.drop i).take (j - i)):=by
 rw [←b9y (strSub (mk l) i j),strSub_toList]
theorem a7A (c:Nat) (l:List Nat):Jd (mk l) (mk [c])=decide (l[0]?=some c):=by
 unfold Jd
 rw [a9q,a0x,a0x]
 cases l with
 | nil=>rfl
 | cons d r=>simp
theorem a7O (l:List Nat) {i:Int} (h0:0≤i) (h1:i≤l.length):Ur (mk l) (some i) none=mk (l.drop i.toNat):=by
 have:=slice_closes_fromL (x:=mk l) (b:=l.length) h0 (by rw [a0x];exact h1) (by rw [a0x])
 have e:=eq_of_beq this
 rw [e]
 simp
 rw [List.take_of_length_le]
 rw [Je];omega
end Tx
namespace L2
open PySem PySem.Spec PyProof.Rows
abbrev NoE:Value→Shared→Prop:=fun _ _=>False
section
variable {prog:Program} {w:World} {A:Around} {R:Result→Shared→Prop} {s:Shared}
theorem a5U {elt target iter:Expr} {ifs:List Expr} {scope:Scope} {pos:Pos} {it acc:Value} {env:Env} (I:Nat→Shared→Prop)
  (turn:∀n s,I n s→wpAny (model prog w) A (pyNext it) (fun r s₁=>match r with
   | none=>R (.ok .next) s₁
   | some v=>wpAny (model prog w) A (letOwnedTupleGo target it v) (fun _ s₂=>wpAny (model prog w) A (assign target env v) (fun _ s₃=>
     wpAny (model prog w) A (forIn ifs true fun c r=>if r=true then do let ok ←isTrue c env (eval c env);pure (ForInStep.yield ok) else pure (ForInStep.yield r)) (fun ok s₄=>
      if ok=true then wpAny (model prog w) A (eval elt env) (fun x s₅=>wpAny (model prog w) A (call (.builtin "list.append") [acc,x]) (fun _ s₆=>∃m,m < n∧I m s₆) NoE s₅) NoE s₄
      else ∃m,m < n∧I m s₄) NoE s₃) NoE s₂) NoE s₁) NoE s)
  (n:Nat) (h:I n s):codeAny (model prog w) A (.compLoop (.ListComp elt [⟨target,iter,ifs,0⟩] scope pos) 0 it acc env) R s:=by
 refine codeAny_loop rfl I (fun n s hI=>?_) n h
 show wpAny _ A ((compTurn (.ListComp elt [⟨target,iter,ifs,0⟩] scope pos) 0 it acc env).onRaise (fun x=>do noteFrame x env;theTreesLotGoes x)) _ _ s
 refine wpAny_noted ?_
 rw [compTurn_list]
 refine wpAny_noRaise ?_
 refine wpAny_bind (wpAny_standAt (wpAny_bind (wpAny_mono (turn n s hI) (fun r s₁ h₁=>?_) fun _ _ h'=>h')))
 cases r with
 | none=>exact wpAny_pure h₁
 | some v=>
  refine wpAny_bind (wpAny_mono h₁ (fun _ s₂ h₂=>wpAny_bind (wpAny_mono h₂ (fun _ s₃ h₃=>wpAny_bind (wpAny_mono h₃ (fun ok s₄ h₄=>?_) fun _ _ h'=>h')) fun _ _ h'=>h')) fun _ _ h'=>h')
  cases ok with
  | false=>exact wpAny_pure ⟨rfl,h₄⟩
  | true=>exact wpAny_bind (wpAny_bind (wpAny_mono h₄ (fun x s₅ h₅=>wpAny_bind (wpAny_mono h₅ (fun _ s₆ h₆=>wpAny_pure (wpAny_pure ⟨rfl,h₆⟩)) fun _ _ h'=>h')) fun _ _ h'=>h'))
end
def a2c (env:Env):List (Str×NameKind)→List (Str×Addr)→List (Str×Addr)
 | [],cs=>cs
 | (n,k)::r,cs=>a2c env r (if (k == NameKind.free)=true then (n,(env.cells.lookup n).getD 0)::cs else cs)
theorem a1J {scope:Scope} {env:Env} (h:∀y∈scope.names,y.2=NameKind.free→∃c,env.cells.lookup y.1=some c):closureFor scope env=pure (a2c env scope.names []):=by
 have all:∀(l:List (Str×NameKind)) (cs:List (Str×Addr)),(∀y∈l,y.2=NameKind.free→∃c,env.cells.lookup y.1=some c)→
   (forIn l cs fun (x:Str×NameKind) (cs:List (Str×Addr))=>(if (x.2 == NameKind.free)=true then do let a ←cellOf env x.1;pure (ForInStep.yield ((x.1,a)::cs)) else pure (ForInStep.yield cs):Sem (ForInStep (List (Str×Addr)))))=pure (a2c env l cs):=by
  intro l
  induction l with
  | nil=>intro cs _;rfl
  | cons y l ih=>
   intro cs hy
   obtain ⟨n,k⟩:=y
   rw [List.forIn_cons]
   by_cases hk:(k == NameKind.free)=true
   ·obtain ⟨c,hc⟩:=hy (n,k) Qn (by simpa using hk)
    have e1:cellOf env n=pure c:=by unfold cellOf;rw [hc]
    have e2:a2c env ((n,k)::l) cs=a2c env l ((n,c)::cs):=by
     show a2c env l (if (k == NameKind.free)=true then (n,(env.cells.lookup n).getD 0)::cs else cs)=_
     rw [if_pos hk,hc];rfl
    rw [e2,←ih ((n,c)::cs) fun z hz=>hy z (Qp _ hz)]
    simp only [hk,if_true,e1,pure_bind]
   ·have e2:a2c env ((n,k)::l) cs=a2c env l cs:=by
     show a2c env l (if (k == NameKind.free)=true then (n,(env.cells.lookup n).getD 0)::cs else cs)=_
     rw [if_neg hk]
    rw [e2,←ih cs fun z hz=>hy z (Qp _ hz)]
    have hk':(k == NameKind.free)=false:=by simpa using hk
    simp only [hk',Zc,if_false,pure_bind]
 have e:=all scope.names [] h
 unfold closureFor
 first
  | (rw [show (pure (a2c env scope.names []):Sem (List (Str×Addr)))=(pure (a2c env scope.names []) >>= fun cs=>pure cs) from rfl,←e];rfl)
  | (simp only [bind_pure];exact e)
  | (simpa using e)
theorem a3w {env:Env} {x:Str} {c:Addr}:∀{l:List (Str×NameKind)} {cs:List (Str×Addr)},(∀y∈l,y.2=NameKind.free→∃c,env.cells.lookup y.1=some c)→
  (∀y d,cs.lookup y=some d→env.cells.lookup y=some d)→(a2c env l cs).lookup x=some c→env.cells.lookup x=some c
 | [],_,_,hc,h=>hc x c h
 | (n,k)::r,cs,hy,hc,h=>by
  refine a3w (l:=r) (cs:=if (k == NameKind.free)=true then (n,(env.cells.lookup n).getD 0)::cs else cs) (fun z hz=>hy z (Qp _ hz)) (fun y d q=>?_) h
  by_cases hk:(k == NameKind.free)=true
  ·rw [if_pos hk] at q
   obtain ⟨c',hc'⟩:=hy (n,k) Qn (by simpa using hk)
   rw [hc',Xy] at q
   by_cases e:(y == n)=true
   ·rw [e] at q
    have e':y=n:=by simpa using e
    rw [e',hc'];exact q
   ·have e':(y == n)=false:=by simpa using e
    rw [e'] at q
    exact hc y d q
  ·rw [if_neg hk] at q
   exact hc y d q
theorem a2K {env:Env} {x:Str}:∀{l:List (Str×NameKind)} {cs:List (Str×Addr)},((x,NameKind.free)∈l∨∃c,cs.lookup x=some c)→∃c,(a2c env l cs).lookup x=some c
 | [],_,h=>by
  rcases h with h | h
  ·cases h
  ·exact h
 | (n,k)::r,cs,h=>by
  refine a2K (l:=r) (cs:=if (k == NameKind.free)=true then (n,(env.cells.lookup n).getD 0)::cs else cs) ?_
  rcases h with h | ⟨c,h⟩
  ·rcases Qw.mp h with e | e
   ·cases e
    refine .inr ?_
    rw [if_pos (by rfl),Xy,beq_self_eq_true]
    exact ⟨_,rfl⟩
   ·exact .inl e
  ·refine .inr ?_
   by_cases hk:(k == NameKind.free)=true
   ·rw [if_pos hk,Xy]
    by_cases e:(x == n)=true
    ·rw [e];exact ⟨_,rfl⟩
    ·have e':(x == n)=false:=by simpa using e
     rw [e'];exact ⟨c,h⟩
   ·rw [if_neg hk];exact ⟨c,h⟩
theorem a1y {env:Env}:∀{names:List (Str×NameKind)} {x:Str},names.lookup x=some .free→
  (names.map fun (n,k)=>if (k == NameKind.free && env.scope.kind == .function && env.kindOf n == some .cell) then (n,NameKind.cell) else (n,k)).lookup x=some .cell∨
  (names.map fun (n,k)=>if (k == NameKind.free && env.scope.kind == .function && env.kindOf n == some .cell) then (n,NameKind.cell) else (n,k)).lookup x=some .free
 | [],_,h=>by simp at h
 | (n,k)::r,x,h=>by
  have ih:=@a1y env r x
  rw [Xg]
  show Zr x ((if (k == NameKind.free && env.scope.kind == .function && env.kindOf n == some .cell)=true then (n,NameKind.cell) else (n,k))::_)=_∨Zr x ((if (k == NameKind.free && env.scope.kind == .function && env.kindOf n == some .cell)=true then (n,NameKind.cell) else (n,k))::_)=_
  cases hx:x == n with
  | true=>
   simp only [Xy,hx] at h
   cases h
   by_cases hc:(NameKind.free == NameKind.free && env.scope.kind == .function && env.kindOf n == some .cell)=true
   ·rw [if_pos hc];exact .inl (by simp only [Xy,hx])
   ·rw [if_neg hc];exact .inr (by simp only [Xy,hx])
  | false=>
   simp only [Xy,hx] at h
   by_cases hc:(k == NameKind.free && env.scope.kind == .function && env.kindOf n == some .cell)=true
   ·rw [if_pos hc];simp only [Xy,hx];exact ih h
   ·rw [if_neg hc];simp only [Xy,hx];exact ih h
theorem a4v {env:Env}:∀{names:List (Str×NameKind)} {x:Str},(∀y∈names,y.2≠NameKind.cell)→
  ((names.map fun (n,k)=>if (k == NameKind.free && env.scope.kind == .function && env.kindOf n == some .cell) then (n,NameKind.cell) else (n,k)).lookup x=some .cell∨
  (names.map fun (n,k)=>if (k == NameKind.free && env.scope.kind == .function && env.kindOf n == some .cell) then (n,NameKind.cell) else (n,k)).lookup x=some .free)→(x,NameKind.free)∈names
 | [],_,_,h=>by rcases h with h | h<;>simp at h
 | (n,k)::r,x,hn,h=>by
  have ih:=@a4v env r x fun y hy=>hn y (Qp _ hy)
  have hk:=hn (n,k) Qn
  rw [Xg] at h
  by_cases hc:(k == NameKind.free && env.scope.kind == .function && env.kindOf n == some .cell)=true
  ·have hk1:k=NameKind.free:=by
    rw [Xh,Xh] at hc
    simpa using hc.1.1
   simp only [hc,if_true,Xy] at h
   cases hx:x == n with
   | true=>have e:x=n:=(by simpa using hx);rw [e,hk1];exact Qn
   | false=>rw [hx] at h;exact Qp _ (ih h)
  ·have hc':(k == NameKind.free && env.scope.kind == .function && env.kindOf n == some .cell)=false:=by simpa using hc
   simp only [hc',Zc,if_false,Xy] at h
   cases hx:x == n with
   | true=>
    rw [hx] at h
    have e:x=n:=by simpa using hx
    rcases h with h | h
    ·exact absurd (Option.some.inj h) hk
    ·rw [e,Option.some.inj h];exact Qn
   | false=>rw [hx] at h;exact Qp _ (ih h)
def a1l (X:Cx) (Nc:List Str) (scope:Scope) (cl:List (Str×Addr)) (C:Addr) (s:Shared) (H:Hp) (ex:List Addr):Cx where
 prog:=X.prog
 w:=X.w
 K:=X.K
 mg:=X.mg
 base:=X.base
 A:=X.A
 N:=Nc
 s₀:=s
 H₀:=H
 env:=compEnvC scope cl C X.env
 outer:=X.stack
 stack:=X.stack
 ex:=ex
 fn:=fun _=>false
 calm:=X.calm
 pn:=[]
 xe:=NoE
def a1r (js:List (Option Nat)) (σ:St):St:=js.map fun o=>match o with
 | none=>none
 | some j=>(σ[j]?).getD none
structure a3j (X:Cx) (Nc:List Str) (js:List (Option Nat)) (scope:Scope):Prop where
 kind:scope.kind=.function
 nocell:∀y∈scope.names,y.2≠NameKind.cell
 names:∀y∈scope.names,y.2=NameKind.local→scope.names.lookup y.1=some NameKind.local
 free:∀y∈scope.names,y.2=NameKind.free→X.env.kindOf y.1=some NameKind.cell∨X.env.kindOf y.1=some NameKind.free
 len:js.length=Nc.length
 map:∀(i:Nat) (y:Str) (j:Nat),Nc[i]?=some y→js[i]?=some (some j)→X.N[j]?=some y∧scope.names.lookup y=some NameKind.free
def b6J (sc:Scope) (N Nc:List Str) (js:List (Option Nat)) (scope:Scope):Bool:=
 scope.kind == .function && scope.names.all (fun y=>y.2 != NameKind.cell) && scope.names.all (fun y=>y.2 != NameKind.local || scope.names.lookup y.1 == some NameKind.local) &&
 scope.names.all (fun y=>y.2 != NameKind.free || sc.names.lookup y.1 == some NameKind.cell || sc.names.lookup y.1 == some NameKind.free) && js.length == Nc.length &&
 (Nc.zip js).all (fun p=>match p.2 with | none=>true | some j=>N[j]? == some p.1 && scope.names.lookup p.1 == some NameKind.free)
theorem a9D {X:Cx} {sc:Scope} {N Nc:List Str} {js:List (Option Nat)} {scope:Scope} (hsc:X.env.scope=sc) (hN:X.N=N) (h:b6J sc N Nc js scope=true):a3j X Nc js scope:=by
 unfold b6J at h
 rw [Xh,Xh,Xh,Xh,Xh] at h
 obtain ⟨⟨⟨⟨⟨h1,h2⟩,h3⟩,h4⟩,h5⟩,h6⟩:=h
 rw [Zu] at h2 h3 h4 h6
 have h5':js.length=Nc.length:=by simpa using h5
 refine ⟨by simpa using h1,fun y hy=>by simpa using h2 y hy,fun y hy e=>?_,fun y hy e=>?_,h5',fun i y j e1 e2=>?_⟩
 ·have q:=h3 y hy
  rw [e] at q
  simpa using q
 ·have q:=h4 y hy
  rw [e] at q
  show X.env.scope.names.lookup y.1=_∨X.env.scope.names.lookup y.1=_
  rw [hsc]
  simpa using q
 ·have hm:(y,some j)∈Nc.zip js:=by
   refine Wl (i:=i) ?_
   rw [List.getElem?_zip_eq_some]
   exact ⟨e1,e2⟩
  have q:=h6 _ hm
  simp only [Xh,beq_iff_eq] at q
  rw [hN]
  exact q
def PTs (X:Cx) (ifs:List Expr) (t:TT):Prop:=
 ∀(pins:List (Addr×Obj)) (s:Shared) (σ:St) (H:Hp) (Q:Bool→Hp→Prop),Inv X pins σ H s→t σ H Q→
  wpAny (model X.prog X.w) X.A (forIn ifs true fun c r=>if r=true then do let ok ←isTrue c X.env (eval c X.env);pure (ForInStep.yield ok) else pure (ForInStep.yield r)) (TP X pins σ Q) X.xe s
def b6u:TT:=fun _ H Q=>Q true H
theorem b4f {X:Cx}:PTs X [] b6u:=fun pins s σ H Q I h=>wpAny_tests_nil ⟨H,I,h⟩
theorem b3P {X:Cx} {c:Expr} {t:TT} (hc:PT X c t):PTs X [c] t:=fun pins s σ H Q I h=>wpAny_tests_one (hc pins s σ H Q I h)
def b1q (js:List (Option Nat)) (wi:TI) (g:TG) (tt:TT) (te:TE):TE:=fun σ H Q=>wi σ H fun J H1=>∀D,H1 D=none→∃W:Nat→Nat→St→Hp→List V→Prop,(∃m,W 0 m (a1r js σ) (upd H1 D (.lst [])) [])∧
 ∀i m σ' H' ys,W i m σ' H' ys→H' D=some (.lst ys)∧((J.stop i H'∧Q (.ref D) H')∨(J.go i H'∧ys.length < sizeLine∧∀x H2,J.yld i H' x H2→g x σ' H2 fun σ2 H3=>tt σ2 H3 fun b H4=>
  if b=true then te σ2 H4 fun v H5=>H5 D=some (.lst ys)∧∃m',m' < m∧W (i+1) m' σ2 (upd H5 D (.lst (ys++[v]))) (ys++[v]) else ∃m',m' < m∧W (i+1) m' σ2 H4 ys))
section
variable {X:Cx} {elt target iter:Expr} {ifs:List Expr} {scope:Scope} {pos:Pos} {Nc:List Str} {js:List (Option Nat)} {wi:TI} {g:TG} {tt:TT} {te:TE}
theorem a4m {pins:List (Addr×Obj)} {σ:St} {H2:Hp} {s₂:Shared} {E:Value→Shared→Prop} {it:Addr} {fp:List Addr} {tn:Nat→Heap→Prop} {J:It} {Q:VK} {RR:Value→Addr→Result→Shared→Prop} (ok:a3j X Nc js scope) (hc:X.calm=true)
  (hg:∀C cl s H ex,PG (a1l X Nc scope cl C s H ex) target g) (ht:∀C cl s H ex,PTs (a1l X Nc scope cl C s H ex) ifs tt) (he:∀C cl s H ex,PE (a1l X Nc scope cl C s H ex) elt te)
  (I2:Inv X pins σ H2 s₂) (T:b4F X.prog X.w X.K target J fp it tn) (st2:tn 0 s₂.heap) (f2:∀b∈fp,a7S X pins H2 b)
  (h:∀D,H2 D=none→∃W:Nat→Nat→St→Hp→List V→Prop,(∃m,W 0 m (a1r js σ) (upd H2 D (.lst [])) [])∧
   ∀i m σ' H' ys,W i m σ' H' ys→H' D=some (.lst ys)∧((J.stop i H'∧Q (.ref D) H')∨(J.go i H'∧ys.length < sizeLine∧∀x H2,J.yld i H' x H2→g x σ' H2 fun σ2 H3=>tt σ2 H3 fun b H4=>
    if b=true then te σ2 H4 fun v H5=>H5 D=some (.lst ys)∧∃m',m' < m∧W (i+1) m' σ2 (upd H5 D (.lst (ys++[v]))) (ys++[v]) else ∃m',m' < m∧W (i+1) m' σ2 H4 ys)))
  (hRR:∀(D C:Addr) (s':Shared) (H':Hp) (m:Str→Option Value),Inv X pins σ H' s'→s'.heap.Ns C m→a7S X pins H' C→Q (.ref D) H'→RR (.ref D) C (.ok .next) s'):
  wpAny (model X.prog X.w) X.A (newList []) (fun acc s₃=>wpAny (model X.prog X.w) X.A (newFunctionEnv scope X.env.globals (a2c X.env scope.names []) [] X.env.qual none .none (some X.env)) (fun cenv s₄=>
   codeAny (model X.prog X.w) X.A (.compStart (.ListComp elt [⟨target,iter,ifs,0⟩] scope pos) 0 (.ref it) acc {cenv with scope:=relabel scope X.env}) (RR acc cenv.locals) s₄) E s₃) E s₂:=by
 have hfr:∀y∈scope.names,y.2=NameKind.free→∃c,X.env.cells.lookup y.1=some c:=fun y hy e=>I2.ok.has y.1 (ok.free y hy e)
 refine wpAny_newObj_type (wpAny_newFunctionEnv ok.nocell (by intro y hy;simp at hy) (fun h₁ hns₁ hsb₁=>?_) ok.kind)
 dsimp only at hns₁ hsb₁ ⊢
 generalize hHL:s₂.heap.push {cls:=.type "list",dict:=none,data:=.seq ([]:List Value).toArray}=HL at hns₁ hsb₁ ⊢
 have hC:HL.objs.size=s₂.heap.objs.size+1:=by rw [←hHL,Wi]
 have hCle:s₂.heap.objs.size≤HL.objs.size:=by rw [hC];exact Jl _
 have hDC:s₂.heap.objs.size≠HL.objs.size:=by rw [hC];exact Xe (Vk _)
 have old:∀b o,s₂.heap.get? b=some o→h₁.get? b=some o:=fun b o e=>hsb₁.extBut b o (Xe (Xc (Qx e) hCle)) (Ql _ (hHL ▸ Ql _ e))
 have hacc:h₁.get? s₂.heap.objs.size=some {cls:=.type "list",dict:=none,data:=.seq ([]:List Value).toArray}:=hsb₁.extBut _ _ hDC (Ql _ (hHL ▸ Xd _ rfl))
 have hD0:H2 s₂.heap.objs.size=none:=I2.hok.fresh (Qk _)
 have hC0:H2 HL.objs.size=none:=I2.hok.fresh hCle
 obtain ⟨W,⟨m0,w0⟩,turn⟩:=h _ hD0
 have hlook:∀x c,(a2c X.env scope.names []).lookup x=some c→X.env.cells.lookup x=some c:=fun x c e=>a3w hfr (fun y d q=>by simp at q) e
 have hlt:∀b∈fp,b < s₂.heap.objs.size:=fun b hb=>let ⟨o,e,_⟩:=T.obj 0 _ st2 b hb;Qx e
 have okc:(a1l X Nc scope (a2c X.env scope.names []) HL.objs.size s₂ H2 fp).Ok:=by
  refine ⟨I2.ok.mod,by show scope.kind=_;exact ok.kind,I2.ok.glob,I2.ok.blt,hCle,fun x y c e1 e2=>I2.ok.inj x y c (hlook x c e1) (hlook y c e2),fun x hx=>?_,fun x c z _=>absurd z Qu,I2.ok.hd,I2.ok.frames,.inl rfl,fun b hb=>⟨?_,fun x c e=>(f2 b hb).2.2.2.2.1 x c (hlook x c e)⟩,
   I2.bs,Qh I2.ok.bsz I2.sz,fun b o e hb=>?_,fun b hb z=>?_,I2.stack,I2.stkFree⟩
  ·exact a2K (.inl (a4v ok.nocell hx))
  ·exact Xe (Xc (hlt b hb) hCle)
  ·rcases (f2 b hb).2.2.2.1 with z | z
   ·exact I2.ok.noex b o e z
   ·exact absurd (Xc (Qx e) (Qh I2.ok.bsz z)) (Zh _)
  ·rcases Qw.mp (I2.stkSub b z) with e | e
   ·exact (f2 b hb).2.1 e
   ·exact (f2 b hb).2.2.1 e
 have fpc:∀{H':Hp},(∀b∈fp,H' b=none)→∀b∈fp,a7S (a1l X Nc scope (a2c X.env scope.names []) HL.objs.size s₂ H2 fp) [] H' b:=fun {H'} hn b hb=>
  ⟨hn b hb,(okc.exf b hb).1,okc.exfs b hb,.inl hb,(okc.exf b hb).2,fun p hp=>absurd (show p∈([]:List (Addr×Obj)) from hp) (by simp)⟩
 have Ic:Inv (a1l X Nc scope (a2c X.env scope.names []) HL.objs.size s₂ H2 fp) [] (a1r js σ) (upd H2 s₂.heap.objs.size (.lst [])) {s₂ with heap:=h₁,toks:=s₂.toks+([]:List (Str×Value)).length}:=by
  refine ⟨okc,rfl,I2.bare,Un.laid old (Qk _) hD0,⟨_,hns₁,fun i x v e1 e2 e3=>?_⟩,fun x c e=>?_,?_,fun x c e=>?_,fun p hp=>absurd (show p∈([]:List (Addr×Obj)) from hp) (by simp),?_,?_⟩
  ·have e1':Nc[i]?=some x:=e1
   unfold a1r at e2
   rw [Qo] at e2
   cases ej:js[i]? with
   | none=>rw [ej] at e2;simp at e2
   | some oj=>
    rw [ej] at e2
    cases oj with
    | none=>simp at e2
    | some j=>
     have e2':(σ[j]?).getD none=some v:=by simpa using e2
     have e2'':σ[j]?=some (some v):=by
      cases q:σ[j]? with
      | none=>rw [q] at e2';simp at e2'
      | some z=>rw [q] at e2';simp at e2';rw [e2']
     obtain ⟨hN,hF⟩:=ok.map i x j e1' ej
     have hmem:(x,NameKind.free)∈scope.names:=PySem.mem_of_lookup hF
     have hkX:=ok.free _ hmem rfl
     obtain ⟨m,hn,hl⟩:=I2.loc
     have hvis:Vis X.env.scope x:=by
      rcases hkX with z | z
      ·exact .inr (.inl z)
      ·exact .inr (.inr z)
     obtain ⟨u,ru,lk⟩:=hl j x v hN e2'' hvis
     refine ⟨u,ru,.inr ?_⟩
     rcases lk with ⟨k1,_⟩ | ⟨_,c,ec,ic⟩
     ·have k1':X.env.kindOf x=some NameKind.local:=k1
      rcases hkX with z | z
      ·rw [z] at k1';cases k1'
      ·rw [z] at k1';cases k1'
     ·obtain ⟨c',hc'⟩:=a2K (env:=X.env) (l:=scope.names) (cs:=[]) (x:=x) (.inl hmem)
      have e':=hlook x c' hc'
      rw [ec] at e'
      cases e'
      exact ⟨a1y hF,c,hc',ic.keeps old⟩
  ·obtain ⟨v,q⟩:=I2.cell x c (hlook x c e)
   exact ⟨v,q.keeps old⟩
  ·show upd H2 s₂.heap.objs.size (.lst []) HL.objs.size=none
   rw [a0a (Ne.symm hDC)];exact hC0
  ·obtain ⟨v,q⟩:=I2.cell x c (hlook x c e)
   rw [a0a (Xe q.lt)]
   exact I2.freeC x c (hlook x c e)
  ·exact I2.hok.laid old (Qk _) ⟨Xm _,[],_,.nil,hacc⟩
  ·show (a1r js σ).length=Nc.length
   unfold a1r
   rw [Qd];exact ok.len
 have back:∀{σ':St} {H':Hp} {s':Shared},Inv (a1l X Nc scope (a2c X.env scope.names []) HL.objs.size s₂ H2 fp) [] σ' H' s'→Inv X pins σ H' s':=fun {σ' H' s'} I4=>
  I2.call' (ch:=fp) I4.os I4.base I4.hok I4.bare fun b hb=>⟨(f2 b hb).2.2.2.1,(f2 b hb).2.1,(f2 b hb).2.2.2.2.1,(f2 b hb).2.2.2.2.2⟩
 have st1:tn 0 h₁:=T.keep 0 _ _ st2 fun b _ o e=>old b o e
 have loop:∀s₃:Shared,s₃={s₂ with heap:=h₁,toks:=s₂.toks+([]:List (Str×Value)).length}→
   codeAny (model X.prog X.w) X.A (.compLoop (.ListComp elt [⟨target,iter,ifs,0⟩] scope pos) 0 (.ref it) (.ref s₂.heap.objs.size) (compEnvC scope (a2c X.env scope.names []) HL.objs.size X.env))
    (RR (.ref s₂.heap.objs.size) HL.objs.size) s₃:=by
  rintro s₃ rfl
  refine a5U (fun n s'=>∃i σ' H' ys,Inv (a1l X Nc scope (a2c X.env scope.names []) HL.objs.size s₂ H2 fp) [] σ' H' s'∧tn i s'.heap∧(∀b∈fp,H' b=none)∧W i n σ' H' ys) ?_ m0
   ⟨0,a1r js σ,_,[],Ic,st1,fun b hb=>by rw [a0a (Xe (hlt b hb))];exact (f2 b hb).1,w0⟩
  rintro n s3 ⟨i,σ3,H3,ys,I3,st3,fr3,w3⟩
  obtain ⟨hD3,tn3⟩:=turn i n σ3 H3 ys w3
  rcases tn3 with ⟨stop,q⟩ | ⟨go,hys,step⟩
  ·refine thn (T.done (a1l X Nc scope (a2c X.env scope.names []) HL.objs.size s₂ H2 fp) rfl rfl rfl hc i [] s3 σ3 H3 NoE I3 (fpc fr3) st3 stop) fun r s4 ⟨hr,I4⟩=>?_
   subst hr
   obtain ⟨m4,n4,_⟩:=I4.loc
   exact hRR _ _ s4 H3 m4 (back I4) n4 (I2.fpOk hCle I4.free) q
  ·refine thn (T.item (a1l X Nc scope (a2c X.env scope.names []) HL.objs.size s₂ H2 fp) rfl rfl rfl hc i [] s3 σ3 H3 NoE I3 (fpc fr3) st3 go) fun r s4 ⟨u,hr,h4⟩=>?_
   subst hr
   refine thn h4 fun _ s5 ⟨x,H5,I5,r5,y5,st5,fr5⟩=>?_
   have I5':=I5.pinned (fpc fr5) (T.obj _ _ st5)
   have fin:∀{σ7:St} {H7:Hp} {s7:Shared} {zs:List V} {m':Nat},Inv (a1l X Nc scope (a2c X.env scope.names []) HL.objs.size s₂ H2 fp) ([]++a5v fp s5.heap) σ7 H7 s7→m' < n→W (i+1) m' σ7 H7 zs→
     ∃m,m < n∧∃i σ' H' ys,Inv (a1l X Nc scope (a2c X.env scope.names []) HL.objs.size s₂ H2 fp) [] σ' H' s7∧tn i s7.heap∧(∀b∈fp,H' b=none)∧W i m σ' H' ys:=fun {σ7 H7 s7 zs m'} I7 hm w7=>by
    refine ⟨m',hm,i+1,σ7,H7,zs,I7.unpinned,T.keep _ _ _ st5 fun b hb o e=>(I7.pin (b,o) (Qt _ (Qt _ (a2A hb e)))).1,fun b hb=>?_,w7⟩
    obtain ⟨o,e,d⟩:=T.obj _ _ st5 b hb
    exact (I7.pin (b,o) (Qt _ (Qt _ (a2A hb e)))).2.1
   refine thn (hg _ _ _ _ _ _ s5 σ3 H5 x u _ I5' r5 (step x H5 y5)) fun _ s6 ⟨σ6,H6,I6,q6⟩=>?_
   refine thn (ht _ _ _ _ _ _ s6 σ6 H6 _ I6 q6) fun b s7 ⟨H7,I7,q7⟩=>?_
   cases b with
   | false=>
    obtain ⟨m',hm,w7⟩:=q7
    exact fin I7 hm w7
   | true=>
    refine thn (he _ _ _ _ _ _ s7 σ6 H7 _ I7 q7) fun v s8 ⟨y,H8,I8,r8,hD8,m',hm,w8⟩=>?_
    refine thn (a1g _ s8 σ6 H8 (.ref s₂.heap.objs.size) [y] (.ref s₂.heap.objs.size) [v] (fun _ H9=>H9=upd H8 s₂.heap.objs.size (.lst (ys++[y]))) I8 rfl (.cons r8 .nil) ⟨_,ys,y,rfl,rfl,hD8,hys,rfl⟩) fun v9 s9 ⟨_,H9,I9,_,e9⟩=>?_
    subst e9
    exact fin I9 hm w8
 exact codeAny_compStart_list (loop _ rfl) (T.self X.A 0 _ _ _ st1 (loop _ rfl))
theorem b4R (ok:a3j X Nc js scope) (hc:X.calm=true) (hi:PI X target iter wi)
  (hg:∀C cl s H ex,PG (a1l X Nc scope cl C s H ex) target g) (ht:∀C cl s H ex,PTs (a1l X Nc scope cl C s H ex) ifs tt) (he:∀C cl s H ex,PE (a1l X Nc scope cl C s H ex) elt te)
  (hs:∀x,foldedSetIterable iter X.env x=pure x:=by intro _;rfl):PE X (.ListComp elt [⟨target,iter,ifs,0⟩] scope pos) (b1q js wi g tt te):=by
 intro pins s σ H Q I h
 have hfr:∀y∈scope.names,y.2=NameKind.free→∃c,X.env.cells.lookup y.1=some c:=fun y hy e=>I.ok.has y.1 (ok.free y hy e)
 rw [eval_ListComp]
 refine wpAny_comprehension_free (use:=none) rfl hs (a1J hfr) ok.kind ok.names (thn (hi pins s σ H _ I h) fun v s1 h1=>thn h1 fun itv s2 h2=>?_)
 obtain ⟨it,fp,tn,J,H2,e,I2,T,st2,f2,h⟩:=h2
 subst e
 refine a4m (RR:=fun acc C=>compPost (model X.prog X.w) X.A X.xe none (EP X pins σ Q) acc C) (Q:=Q) ok hc hg ht he I2 T st2 f2 h ?_
 intro D C s' H' m I' n' fC q
 refine ⟨m,n',fun h' sb=>⟨.ref D,H',?_,rfl,q⟩⟩
 exact I'.turned (t':=s'.toks) (fun b o hb e=>(sb.2 b hb).trans e) fC.1 fC.2.1 fC.2.2.2.1 fC.2.2.2.2.1 fC.2.2.2.2.2
theorem a7C {i:Nat} {y:Str} {py spos:Pos} (ok:a3j X Nc js scope) (hc:X.calm=true) (hi:PI X target iter wi)
  (hg:∀C cl s H ex,PG (a1l X Nc scope cl C s H ex) target g) (ht:∀C cl s H ex,PTs (a1l X Nc scope cl C s H ex) ifs tt) (he:∀C cl s H ex,PE (a1l X Nc scope cl C s H ex) elt te)
  (hN:X.N.Nodup) (hy:X.N[i]?=some y) (hx:Loc X.env.scope y) (hsw:swapsWith (.ListComp elt [⟨target,iter,ifs,0⟩] scope pos) (some (.Name y py)) spos.line X.env=pure true)
  (hs:∀x,foldedSetIterable iter X.env x=pure x:=by intro _;rfl) (hf:X.fn y=true∨X.env.scope.names.lookup y=some .local:=by first | exact .inl rfl | exact .inr rfl | assumption):
  PS X (.Assign [.Name y py] (.ListComp elt [⟨target,iter,ifs,0⟩] scope pos) spos) (fun D σ H=>b1q js wi g tt te σ H fun v H'=>D.nx (σ.set i (some v)) H'):=by
 intro pins s σ H D I h
 have hfr:∀y∈scope.names,y.2=NameKind.free→∃c,X.env.cells.lookup y.1=some c:=fun y hy e=>I.ok.has y.1 (ok.free y hy e)
 rw [exec_Assign_Name_used _ _ _ _ hsw]
 refine wpAny_bind (wpAny_standAt (wpAny_bind ?_))
 show wpAny _ X.A (do let _ ←comprehension (.ListComp elt [⟨target,iter,ifs,0⟩] scope pos) scope X.env _ (newList []) false (eval iter X.env) (some (assign (.Name y py) X.env))) _ _ s
 refine wpAny_bind (thn (wpAny_comprehension_free (use:=some (assign (.Name y py) X.env)) (Q:=fun _ s'=>SP X pins D .next s') rfl hs (a1J hfr) ok.kind ok.names
  (thn (hi pins s σ H _ I h) fun v s1 h1=>thn h1 fun itv s2 h2=>?_)) fun _ s' hq=>wpAny_pure (wpAny_pure hq))
 obtain ⟨it,fp,tn,J,H2,e,I2,T,st2,f2,h⟩:=h2
 subst e
 refine a4m (RR:=fun acc C=>compPost (model X.prog X.w) X.A X.xe (some (assign (.Name y py) X.env)) (fun _ s'=>SP X pins D .next s') acc C) (Q:=fun v H'=>D.nx (σ.set i (some v)) H') ok hc hg ht he I2 T st2 f2 h ?_
 intro Da C s' H' m I' n' fC q
 show wpAny _ X.A (assign (.Name y py) X.env (.ref Da)) _ _ _
 refine wpAny_assign_Name (a5f I' hN hy hx (show a0N (.ref Da) (.ref Da) from rfl) (fun s'' I'' hsb=>?_) hf)
 obtain ⟨a,sb,ha⟩:=hsb
 have hCa:C≠a:=by
  rcases ha with e | e
  ·rw [e];exact fC.2.1
  ·exact fun z=>fC.2.2.2.2.1 y a e z.symm
 refine ⟨m,n'.sameBut sb hCa,fun h' sb'=>⟨σ.set i (some (.ref Da)),H',?_,q⟩⟩
 exact I''.turned (t':=s''.toks) (fun b o hb e=>(sb'.2 b hb).trans e) fC.1 fC.2.1 fC.2.2.2.1 fC.2.2.2.2.1 fC.2.2.2.2.2
end
section
variable {js:List (Option Nat)} {g:TG} {tt:TT} {te:TE} {σ:St} {H:Hp} {Q:VK}
def a4C (J:It) (js:List (Option Nat)) (g:TG) (tt:TT) (te:TE) (σ:St) (H:Hp) (Q:VK):Prop:=
 ∀D,H D=none→∃W:Nat→Nat→St→Hp→List V→Prop,(∃m,W 0 m (a1r js σ) (upd H D (.lst [])) [])∧
 ∀i m σ' H' ys,W i m σ' H' ys→H' D=some (.lst ys)∧((J.stop i H'∧Q (.ref D) H')∨(J.go i H'∧ys.length < sizeLine∧∀x H2,J.yld i H' x H2→g x σ' H2 fun σ2 H3=>tt σ2 H3 fun b H4=>
  if b=true then te σ2 H4 fun v H5=>H5 D=some (.lst ys)∧∃m',m' < m∧W (i+1) m' σ2 (upd H5 D (.lst (ys++[v]))) (ys++[v]) else ∃m',m' < m∧W (i+1) m' σ2 H4 ys))
structure Src (J:It) (n:Nat) (f:Nat→V) (Ok:Hp→Prop):Prop where
 go:∀i H,i < n→Ok H→J.go i H
 yld:∀i H x H',i < n→Ok H→J.yld i H x H'→H'=H∧x=f i
 stop:∀H,Ok H→J.stop n H
theorem a3p {K:Qc} {a:Addr} {xs:List V}:Src (Itl K a) xs.length (fun i=>(xs[i]?).getD .non) (fun H=>SqL K H a xs):=
 ⟨fun i H hi h=>⟨xs,xs[i],h,by simp [hi]⟩,fun i H x H' hi h y=>⟨y.1,by rw [y.2 xs h];rfl⟩,fun H h=>⟨xs,h,Qk _⟩⟩
theorem a9b {K:Qc} {a:Addr} {xs:List V}:Src (Itt K a) xs.length (fun i=>(xs[i]?).getD .non) (fun H=>SqT K H a xs):=
 ⟨fun i H hi h=>⟨xs,xs[i],h,by simp [hi]⟩,fun i H x H' hi h y=>⟨y.1,by rw [y.2 xs h];rfl⟩,fun H h=>⟨xs,h,Qk _⟩⟩
theorem a2t {lo:Int} {n:Nat}:Src (Itr lo n) n (fun i=>.int (lo+i)) (fun _=>True):=
 ⟨fun i H hi _=>hi,fun i H x H' hi _ y=>y,fun H _=>Qk _⟩
theorem a6z {J:It} {n:Nat} {f:Nat→V} {Ok:Hp→Prop} (S:Src J n f Ok) (hn:n≤sizeLine) (Pv:Addr→Nat→St→Hp→List V→Prop) (h0:∀D,H D=none→Pv D 0 (a1r js σ) (upd H D (.lst [])) [])
  (hk:∀D i σ' H' ys,H D=none→i≤n→Pv D i σ' H' ys→Ok H'∧H' D=some (.lst ys)∧ys.length≤i)
  (hs:∀D i σ' H' ys (R:St→Hp→List V→Prop),H D=none→i < n→Pv D i σ' H' ys→(∀a b c,Pv D (i+1) a b c→R a b c)→g (f i) σ' H' fun σ2 H3=>tt σ2 H3 fun b H4=>
   if b=true then te σ2 H4 fun v H5=>H5 D=some (.lst ys)∧R σ2 (upd H5 D (.lst (ys++[v]))) (ys++[v]) else R σ2 H4 ys)
  (hd:∀D σ' H' ys,H D=none→Pv D n σ' H' ys→Q (.ref D) H'):a4C J js g tt te σ H Q:=by
 intro D hD
 refine ⟨fun i m σ' H' ys=>m=n - i∧i≤n∧Pv D i σ' H' ys,⟨n,by simp,Xm _,h0 D hD⟩,?_⟩
 rintro i m σ' H' ys ⟨rfl,hi,p⟩
 obtain ⟨q1,q2,q3⟩:=hk D i σ' H' ys hD hi p
 refine ⟨q2,?_⟩
 by_cases hlt:i < n
 ·refine .inr ⟨S.go i H' hlt q1,by omega,fun x H2 y=>?_⟩
  obtain ⟨rfl,rfl⟩:=S.yld i H' x H2 hlt q1 y
  exact hs D i σ' _ ys (fun σ2 H3 ys'=>∃m',m' < n - i∧(m'=n - (i+1)∧i+1≤n∧Pv D (i+1) σ2 H3 ys')) hD hlt p fun a b c r=>⟨n - (i+1),by omega,rfl,hlt,r⟩
 ·have e:i=n:=by omega
  subst e
  exact .inl ⟨S.stop H' q1,hd D σ' H' ys hD p⟩
end
end L2
namespace L2
open PySem PySem.Spec PyProof.Rows
section
variable {X:Cx}
theorem a6Q {bs:List Bool} {its:List Value} (r:a0H (bs.map V.bl) its) {i:Nat} {v:Value} (h:its[i]?=some v):∃b,bs[i]?=some b∧v=.bool b:=by
 have hi:i < its.length:=(Qr.mp h).1
 have hl:=r.length
 rw [Qd] at hl
 have hb:bs[i]?=some bs[i]:=Qe (by omega)
 obtain ⟨u,hu,ru⟩:=r.get (i:=i) (x:=V.bl bs[i]) (by rw [Qo,hb];rfl)
 rw [h] at hu;cases hu
 exact ⟨_,hb,ru⟩
theorem a2H (hc:X.calm=true):a1m X (.builtin "all") (fun xs H Q=>∃(p:Addr) (bs:List Bool),xs=[.ref p]∧SqL X.K H p (bs.map V.bl)∧Q (.bl (bs.all id)) H):=by
 intro pins s σ H xs us Q I r h
 obtain ⟨p,bs,rfl,hq,q⟩:=h
 obtain ⟨u,rfl,ru⟩:=a2V r
 cases ru
 obtain ⟨its,rv,pl,hz⟩:=I.list hq
 have hl:=pl.isList
 have hlt:p < s.heap.objs.size:=by obtain ⟨_,e,_⟩:=hl;exact Qx e
 refine call_all_walk (wpAny_pyIter_list hl ?_)
 refine ⟨s.heap.objs.size,[s.heap.objs.size,p],[s.heap.objs.size],its.toArray.size,_,_,fun i=>(bs[i]?).getD true,rfl,Walks.list (A:=X.A.in1) (I.ok.hd hc) _ p (Xe hlt) its.toArray,
  ⟨⟨_,Xd _ rfl,rfl,rfl⟩,hl.push _⟩,fun i v s' Q' E' hP hQ=>?_,fun h' tk hk=>?_⟩
 ·obtain ⟨b,e,rfl⟩:=a6Q rv (i:=i) (v:=v) (by simpa using hP)
  simp only [e,Xs] at hQ
  exact wpAny_truthy_bool hQ
 ·have e:((Xr its.toArray.size).all fun i=>(bs[i]?).getD true)=bs.all id:=by
   have hb:=rv.length
   rw [Qd] at hb
   rw [Qm,←hb];exact LSm.range_all bs
  rw [e]
  exact ⟨.bl (bs.all id),H,I.kept (t':=tk) (LSm.kept_iter hk),rfl,q⟩
theorem a1R (hc:X.calm=true):a1m X (.builtin "any") (fun xs H Q=>∃(p:Addr) (bs:List Bool),xs=[.ref p]∧SqL X.K H p (bs.map V.bl)∧Q (.bl (bs.any id)) H):=by
 intro pins s σ H xs us Q I r h
 obtain ⟨p,bs,rfl,hq,q⟩:=h
 obtain ⟨u,rfl,ru⟩:=a2V r
 cases ru
 obtain ⟨its,rv,pl,hz⟩:=I.list hq
 have hl:=pl.isList
 have hlt:p < s.heap.objs.size:=by obtain ⟨_,e,_⟩:=hl;exact Qx e
 refine call_any_walk (wpAny_pyIter_list hl ?_)
 refine ⟨s.heap.objs.size,[s.heap.objs.size,p],[s.heap.objs.size],its.toArray.size,_,_,fun i=>(bs[i]?).getD false,rfl,Walks.list (A:=X.A.in1) (I.ok.hd hc) _ p (Xe hlt) its.toArray,
  ⟨⟨_,Xd _ rfl,rfl,rfl⟩,hl.push _⟩,fun i v s' Q' E' hP hQ=>?_,fun h' tk hk=>?_⟩
 ·obtain ⟨b,e,rfl⟩:=a6Q rv (i:=i) (v:=v) (by simpa using hP)
  simp only [e,Xs] at hQ
  exact wpAny_truthy_bool hQ
 ·have e:((Xr its.toArray.size).any fun i=>(bs[i]?).getD false)=bs.any id:=by
   have hb:=rv.length
   rw [Qd] at hb
   rw [Qm,←hb];exact LSm.range_any bs
  rw [e]
  exact ⟨.bl (bs.any id),H,I.kept (t':=tk) (LSm.kept_iter hk),rfl,q⟩
def c2k:V→Option Int→Option Int→Hp→VK→Prop:=fun x lo hi H Q=>∃z,x=.str z∧z.length≤sizeLine∧Q (.str (Ur z lo hi)) H
theorem b8f:SlR X c2k:=by
 intro pins s σ H x v vl vu lo hi sl Q I rx hs pl pu h
 obtain ⟨z,rfl,hz,q⟩:=h
 obtain ⟨t,rfl⟩:=rx
 obtain ⟨o,ho,hc,hd⟩:=hs
 refine ⟨"str",_,PySem.F.slot_str_getitem.lookup,typeIs_str _ _ _,?_⟩
 have fin:∀(l u:Option Int) (t':Tok) (k:Nat),Q (.str (Ur z l u)) H→EP X pins σ Q (.str (Ur z l u) t') {s with toks:=k}:=fun l u t' k q=>⟨.str _,H,I.tok _,⟨_,rfl⟩,q⟩
 cases pl with
 | none=>
  cases pu with
  | none=>exact wpAny_getItem_str_slice (l:=none) (u:=none) (st:=none) ⟨o,ho,hc,hd⟩ rfl (post_val_or_str ⟨Qh (Vn z _ _) hz,fun t' k=>fin _ _ t' k q⟩)
  | int j uj=>exact wpAny_getItem_str_slice (l:=none) (u:=some (j,uj)) (st:=none) ⟨o,ho,hc,hd⟩ rfl (post_val_or_str ⟨Qh (Vn z _ _) hz,fun t' k=>fin _ _ t' k q⟩)
 | int i ui=>
  cases pu with
  | none=>exact wpAny_getItem_str_slice (l:=some (i,ui)) (u:=none) (st:=none) ⟨o,ho,hc,hd⟩ rfl (post_val_or_str ⟨Qh (Vn z _ _) hz,fun t' k=>fin _ _ t' k q⟩)
  | int j uj=>exact wpAny_getItem_str_slice (l:=some (i,ui)) (u:=some (j,uj)) (st:=none) ⟨o,ho,hc,hd⟩ rfl (post_val_or_str ⟨Qh (Vn z _ _) hz,fun t' k=>fin _ _ t' k q⟩)
theorem a4G:MtR X "str.startswith" (fun x xs H Q=>∃a b,x=.str a∧xs=[.str b]∧Q (.bl (Jd a b)) H):=by
 intro pins s σ H x xs v us Q I rx rs h
 obtain ⟨a,b,rfl,rfl,q⟩:=h
 obtain ⟨t,rfl⟩:=rx
 obtain ⟨u,rfl,t',rfl⟩:=a2V rs
 exact SC.startswith ⟨.bl _,H,I,rfl,q⟩
end
end L2
namespace L2
open PySem PySem.Spec PyProof.Rows
theorem a1c:bootBuiltins "len"=some (.builtin "len"):=by decide+kernel
theorem a5w:bootBuiltins "all"=some (.builtin "all"):=by decide+kernel
theorem a3L:bootBuiltins "any"=some (.builtin "any"):=by decide+kernel
theorem a1w:bootBuiltins "list"=some (.type "list"):=by decide+kernel
theorem a2e:bootBuiltins "tuple"=some (.type "tuple"):=by decide+kernel
section
variable {X:Cx}
def c0n:R2:=fun x y H Q=>∃i j,x=.str i∧y=.str j∧i.length+j.length≤sizeLine∧Q (.str (i++j)) H
def c0s:R2:=rI0 fun i j=>.int (i+j)
def b1x (K:Qc):R2:=fun x y H Q=>c0s x y H Q∨c0n x y H Q∨c2V x y H Q∨b7G K x y H Q
theorem a0p:OpR X (binaryOp .Add) (b1x X.K):=b9f.or (a8o.or (b8m.or b4K))
theorem a0J {K:Qc} {i j:Int} {H:Hp} {Q:VK}:b1x K (.int i) (.int j) H Q↔Q (.int (i+j)) H:=by
 constructor
 ·rintro (⟨a,b,e1,e2,q⟩ | ⟨a,b,e1,_⟩ | ⟨a,b,_,_,e1,_⟩ | ⟨a,b,_,_,e1,_⟩)
  ·cases e1;cases e2;exact q
  ·cases e1
  ·cases e1
  ·cases e1
 ·exact fun q=>.inl ⟨i,j,rfl,rfl,q⟩
theorem a1n {K:Qc} {i j:Str} {H:Hp} {Q:VK}:b1x K (.str i) (.str j) H Q↔(i.length+j.length≤sizeLine∧Q (.str (i++j)) H):=by
 constructor
 ·rintro (⟨a,b,e1,_⟩ | ⟨a,b,e1,e2,q⟩ | ⟨a,b,_,_,e1,_⟩ | ⟨a,b,_,_,e1,_⟩)
  ·cases e1
  ·cases e1;cases e2;exact q
  ·cases e1
  ·cases e1
 ·exact fun q=>.inr (.inl ⟨i,j,rfl,rfl,q⟩)
theorem b0M {i j:Int} {H:Hp} {Q:VK}:rEq (.int i) (.int j) H Q↔Q (.bl (decide (i=j))) H:=by
 unfold rEq
 have e:decide (V.int i=V.int j)=decide (i=j):=by
  by_cases h:i=j
  ·subst h;simp
  ·simp [h]
 rw [e]
 exact ⟨fun h=>h.2,fun h=>⟨rfl,h⟩⟩
theorem b1b {i j:Str} {H:Hp} {Q:VK}:rEq (.str i) (.str j) H Q↔Q (.bl (decide (i=j))) H:=by
 unfold rEq
 have e:decide (V.str i=V.str j)=decide (i=j):=by
  by_cases h:i=j
  ·subst h;simp
  ·simp [h]
 rw [e]
 exact ⟨fun h=>h.2,fun h=>⟨rfl,h⟩⟩
def inS (c s:Str):Bool:=!(Builtin.Str.occurrences s c 0 s.length 1).isEmpty
def c3h:R2:=fun x y H Q=>∃i j,x=.str i∧y=.str j∧Q (.bl (inS i j)) H
def b5O (K:Qc):R2:=fun x y H Q=>c3h x y H Q∨rIn K false x y H Q
theorem b7U:OpR X (compareOp .In) c3h:=a9o
theorem a4k:OpR X (compareOp .In) (b5O X.K):=b7U.or a9O
def b2f (K:Qc):List V→Hp→VK→Prop:=fun xs H Q=>(∃x n,xs=[x]∧c3Q K x H n∧Q (.int n) H)∨∃a kvs,xs=[V.ref a]∧H a=some (.dK kvs)∧Q (.int kvs.length) H
theorem a1a:a1m X (.builtin "len") (b2f X.K):=b2w.or b0l
theorem a9S {K:Qc} {z:Str} {H:Hp} {Q:VK}:b2f K [.str z] H Q↔(z.length≤sizeLine∧Q (.int z.length) H):=by
 constructor
 ·rintro (⟨x,n,e1,e2,q⟩ | ⟨a,kvs,e1,_⟩)
  ·cases e1
   obtain ⟨h1,rfl⟩:z.length≤sizeLine∧n=z.length:=e2
   exact ⟨h1,q⟩
  ·cases e1
 ·exact fun q=>.inl ⟨.str z,z.length,rfl,⟨q.1,rfl⟩,q.2⟩
theorem a1A {K:Qc} {a:Addr} {xs:List V} {H:Hp} {Q:VK} (h:SqL K H a xs) (q:Q (.int xs.length) H):b2f K [.ref a] H Q:=.inl ⟨.ref a,xs.length,rfl,.inl ⟨xs,h,rfl⟩,q⟩
def c3k (K:Qc):V→Option Int→Option Int→Hp→VK→Prop:=fun x lo hi H Q=>c2k x lo hi H Q∨c0Z K x lo hi H Q∨c2R K x lo hi H Q
theorem b6O:SlR X (c3k X.K):=b8f.or (b5x.or b8C)
theorem a7z {K:Qc} {z:Str} {lo hi:Option Int} {H:Hp} {Q:VK}:c3k K (.str z) lo hi H Q↔(z.length≤sizeLine∧Q (.str (Ur z lo hi)) H):=by
 constructor
 ·rintro (⟨x,e1,q⟩ | ⟨a,xs,e1,_⟩ | ⟨a,xs,e1,_⟩)
  ·cases e1;exact q
  ·cases e1
  ·cases e1
 ·exact fun q=>.inl ⟨z,rfl,q⟩
theorem b4p {K:Qc} {z:Str} {i:Int} {H:Hp} {Q:VK}:rIx K (.str z) (.int i) H Q↔(z.length≤sizeLine∧∃c,atI z.cps.toList i=some c∧Q (.str ⟨#[c]⟩) H):=by
 constructor
 ·rintro (⟨p,xs,j,v,e1,_⟩ | ⟨p,xs,j,v,e1,_⟩ | ⟨y,j,c,e1,e2,h1,h2,q⟩)
  ·cases e1
  ·cases e1
  ·cases e1;cases e2;exact ⟨h1,c,h2,q⟩
 ·rintro ⟨h1,c,h2,q⟩
  exact .inr (.inr ⟨z,i,c,rfl,rfl,h1,h2,q⟩)
theorem a0w {K:Qc} {a:Addr} {xs:List V} {i:Int} {v:V} {H:Hp} {Q:VK} (h:SqL K H a xs) (e:atI xs i=some v) (q:Q v H):rIx K (.ref a) (.int i) H Q:=.inl ⟨a,xs,i,v,rfl,rfl,h,e,q⟩
theorem a2r {K:Qc} {a:Addr} {xs:List V} {i:Int} {v:V} {H:Hp} {Q:VK} (h:SqT K H a xs) (e:atI xs i=some v) (q:Q v H):rIx K (.ref a) (.int i) H Q:=.inr (.inl ⟨a,xs,i,v,rfl,rfl,h,e,q⟩)
theorem a0L {C:Int→Int→Prop} {g:Int→Int→V} {i j:Int} {H:Hp} {Q:VK}:rI C g (.int i) (.int j) H Q↔(C i j∧Q (g i j) H):=by
 constructor
 ·rintro ⟨a,b,e1,e2,q⟩;cases e1;cases e2;exact q
 ·exact fun q=>⟨i,j,rfl,rfl,q⟩
theorem a4H {g:Int→Int→V} {i j:Int} {H:Hp} {Q:VK}:rI0 g (.int i) (.int j) H Q↔Q (g i j) H:=by
 constructor
 ·rintro ⟨a,b,e1,e2,q⟩;cases e1;cases e2;exact q
 ·exact fun q=>⟨i,j,rfl,rfl,q⟩
theorem a2i {k:Bool} {P:Bool→Prop}:(∃c,V.bl k=V.bl c∧P c)↔P k:=by
 constructor
 ·rintro ⟨c,e,q⟩;cases e;exact q
 ·exact fun q=>⟨k,rfl,q⟩
theorem b4m {k:Int} {P:Int→Prop}:(∃c,V.int k=V.int c∧P c)↔P k:=by
 constructor
 ·rintro ⟨c,e,q⟩;cases e;exact q
 ·exact fun q=>⟨k,rfl,q⟩
theorem a0e {v:V} {P:V→Prop}:(∃x,some (some v)=some (some x)∧P x)↔P v:=by
 constructor
 ·rintro ⟨c,e,q⟩;cases e;exact q
 ·exact fun q=>⟨v,rfl,q⟩
end
theorem a0j.upd {H:Hp} {a:Addr} {o:HO} (h:H a=none):a0j H (upd H a o):=fun b u e=>by rw [a0a (a0b e h)];exact e
section
variable {X:Cx} {st:Stmt} {a5L:List Stmt} {t u:TS}
def c6E (t u:TS):TS:=fun D σ H=>∃M:St→Hp→Prop,t {D with nx:=M} σ H∧∀σ' H',M σ' H'→u D σ' H'
theorem b5a (h1:PS X st t) (h2:PSs X a5L u):PSs X (st::a5L) (c6E t u):=by
 intro pins s σ H D I h
 obtain ⟨M,q1,q2⟩:=h
 refine wpAny_execs_cons (thn (h1 pins s σ H {D with nx:=M} I q1) fun f s1 q=>?_)
 cases f with
 | next=>
  obtain ⟨σ',H',I',q⟩:=q
  exact h2 pins s1 σ' H' D I' (q2 σ' H' q)
 | ret v=>exact q
 | brk=>exact q
 | cont=>exact q
end
end L2
namespace L2
open PySem PySem.Spec PyProof.Rows
theorem a1i {k:Addr} {P:Addr→Prop}:(∃c,V.ref k=V.ref c∧P c)↔P k:=by
 constructor
 ·rintro ⟨c,e,q⟩;cases e;exact q
 ·exact fun q=>⟨k,rfl,q⟩
theorem a9a {i j:Int} {H:Hp} {Q:VK}:rNe (.int i) (.int j) H Q↔Q (.bl (!decide (i=j))) H:=by
 unfold rNe
 have e:decide (V.int i=V.int j)=decide (i=j):=by
  by_cases h:i=j
  ·subst h;simp
  ·simp [h]
 rw [e]
 exact ⟨fun h=>h.2,fun h=>⟨rfl,h⟩⟩
theorem a8M {i j:Str} {H:Hp} {Q:VK}:rNe (.str i) (.str j) H Q↔Q (.bl (!decide (i=j))) H:=by
 unfold rNe
 have e:decide (V.str i=V.str j)=decide (i=j):=by
  by_cases h:i=j
  ·subst h;simp
  ·simp [h]
 rw [e]
 exact ⟨fun h=>h.2,fun h=>⟨rfl,h⟩⟩
theorem a3d {α:Type} {xs:List α} {i:Int} (h0:0≤i) (h1:i < xs.length):∃v,atI xs i=some v∧v∈xs∧xs[i.toNat]?=some v:=by
 have hk:i.toNat < xs.length:=by omega
 refine ⟨xs[i.toNat],?_,Xi hk,Qe hk⟩
 unfold atI ixN
 rw [if_pos h0,if_pos h1]
 exact Qe hk
theorem a0Z {i j:Int} (h:0 < j):0≤i % j∧i % j < j:=⟨Yx _ (by omega),Ys _ h⟩
theorem b3o {A B:Prop}:(if false=true then A else B)=B:=if_neg Qu
theorem b8u {A B:Prop}:(if true=false then A else B)=B:=if_neg (by decide)
theorem a1p {H:Hp} {p:Addr} (hp:H p=none) (o:HO):∃H',upd H p o=H'∧a0j H H'∧H' p=some o:=⟨_,rfl,a0j.upd hp,a0d⟩
def c0V (J:It) (g:TG) (tb:TS) (D:a7M) (σ:St) (H:Hp):Prop:=∃W:Nat→Nat→St→Hp→Prop,(∃m,W 0 m σ H)∧∀i m σ H,W i m σ H→
 (J.stop i H∧D.nx σ H)∨(J.go i H∧∃N:St→Hp→Prop,(∀σ' H',N σ' H'→∃m',m' < m∧W (i+1) m' σ' H')∧∀x H',J.yld i H x H'→g x σ H' fun σ2 H2=>tb {D with nx:=N,ct:=N,bk:=D.nx} σ2 H2)
theorem a0Q {wi:TI} {g:TG} {tb:TS} {D:a7M} {σ:St} {H:Hp}:b9l wi g tb D σ H=wi σ H fun J H1=>c0V J g tb D σ H1:=rfl
theorem a0C {js:List (Option Nat)} {wi:TI} {g:TG} {tt:TT} {te:TE} {σ:St} {H:Hp} {Q:VK}:b1q js wi g tt te σ H Q=wi σ H fun J H1=>a4C J js g tt te σ H1 Q:=rfl
theorem a3R {J:It} {n:Nat} {f:Nat→V} {Ok:Hp→Prop} {js:List (Option Nat)} {te:TE} {σ:St} {H:Hp} {Q:VK} (S:Src J n f Ok) (hn:n≤sizeLine) (σr:St) (hσ:a1r js σ=none::σr) (Pr:Nat→V→Prop)
  (hOk:∀H',a0j H H'→Ok H') (hs:∀i H' (R:V→Hp→Prop),i < n→a0j H H'→(∀v H'',a0j H' H''→Pr i v→R v H'')→te (some (f i)::σr) H' R)
  (hd:∀D H' ys,H D=none→a0j H H'→H' D=some (.lst ys)→ys.length=n→(∀i v,ys[i]?=some v→Pr i v)→Q (.ref D) H'):a4C J js (a0l 0) b6u te σ H Q:=by
 refine a6z S hn (fun D i σ' H' ys=>(∃a,σ'=a::σr)∧a0j H H'∧H' D=some (.lst ys)∧ys.length=i∧∀j v,ys[j]?=some v→Pr j v) ?_ ?_ ?_ ?_
 ·intro D hD
  exact ⟨⟨none,hσ⟩,a0j.upd hD,a0d,rfl,fun j v e=>by simp at e⟩
 ·rintro D i σ' H' ys hD hi ⟨_,s,h,hl,_⟩
  exact ⟨hOk _ s,h,Vj hl⟩
 ·rintro D i σ' H' ys R hD hi ⟨⟨a,rfl⟩,s,h,hl,hp⟩ hR
  show te (some (f i)::σr) H' _
  refine hs i H' _ hi s fun v H'' s2 pv=>⟨s2 _ _ h,hR _ _ _ ⟨⟨_,rfl⟩,?_,a0d,by simp [hl],fun j v' e=>?_⟩⟩
  ·intro b o e
   rw [a0a (a0b e hD)]
   exact s2 b o (s b o e)
  ·rw [Wm] at e
   split at e
   ·exact hp j v' e
   ·rename_i hj
    have e1:j=ys.length:=by
     have:=(Qr.mp e).1
     simp at this;omega
    subst e1
    simp at e
    subst e
    rw [hl];exact pv
 ·rintro D σ' H' ys hD ⟨_,s,h,hl,hp⟩
  exact hd D H' ys hD s h hl hp
end L2
namespace L2
open PySem PySem.Spec PyProof.Rows
section
variable {K:Qc} {H:Hp} {Q:VK}
def a9L:V→List V→Hp→VK→Prop:=fun x xs H Q=>∃a b,x=.str a∧xs=[.str b]∧Q (.bl (Jd a b)) H
theorem a4g {a b:Str}:a9L (.str a) [.str b] H Q↔Q (.bl (Jd a b)) H:=⟨by rintro ⟨_,_,e1,e2,q⟩;cases e1;cases e2;exact q,fun q=>⟨_,_,rfl,rfl,q⟩⟩
theorem a9W {z:Str} {P:Prop}:(tyV K "str" (.str z) H∧P)↔P:=⟨fun h=>h.2,fun h=>⟨rfl,h⟩⟩
def b5V (K:Qc):List V→Hp→VK→Prop:=fun xs H Q=>∃p ys,xs=[.ref p]∧((SqL K H p ys∧∀l,H l=none→Q (.ref l) (upd H l (.tup ys)))∨SqT K H p ys∧Q (.ref p) H)
def b0v (K:Qc):List V→Hp→VK→Prop:=fun xs H Q=>∃p ys,xs=[.ref p]∧(SqL K H p ys∨SqT K H p ys)∧∀l,H l=none→Q (.ref l) (upd H l (.lst ys))
end
def b9Q:R2:=fun x y H Q=>y=.non∧Q (.bl (decide (x=.non))) H
section
variable {H:Hp} {Q:VK}
theorem b2i {a:Addr}:b9Q (.ref a) .non H Q↔Q (.bl false) H:=⟨fun h=>h.2,fun h=>⟨rfl,h⟩⟩
theorem b1O:b9Q .non .non H Q↔Q (.bl true) H:=⟨fun h=>h.2,fun h=>⟨rfl,h⟩⟩
end
mutual
inductive Den (K:Qc) (H:Hp):V→PyData→Prop
 | non:Den K H .non .none
 | bl (b:Bool):Den K H (.bl b) (.bool b)
 | int (i:Int):Den K H (.int i) (.int i)
 | str (x:Str):Den K H (.str x) (.str x)
 | lst {a:Addr} {xs:List V} {ds:List PyData}:SqL K H a xs→DenAll K H xs ds→Den K H (.ref a) (.list ds)
 | tup {a:Addr} {xs:List V} {ds:List PyData}:SqT K H a xs→DenAll K H xs ds→Den K H (.ref a) (.tuple ds)
inductive DenAll (K:Qc) (H:Hp):List V→List PyData→Prop
 | nil:DenAll K H [] []
 | cons {x:V} {xs:List V} {d:PyData} {ds:List PyData}:Den K H x d→DenAll K H xs ds→DenAll K H (x::xs) (d::ds)
end
theorem a6B {K:Qc} {H:Hp}:∀ys:List Str,DenAll K H (ys.map V.str) (ys.map Ym)
 | []=>.nil
 | y::ys=>.cons (.str y) (a6B ys)
def c3v (K:Qc):R2:=fun x y H Q=>∃d e,Den K H x d∧Den K H y e∧Yn d=true∧Yn e=true∧Q (.bl (Xq d e)) H
def c1D (K:Qc):R2:=fun x y H Q=>∃d e,Den K H x d∧Den K H y e∧Yn d=true∧Yn e=true∧Q (.bl (!PyData.eqv d e)) H
def b8M (K:Qc):R2:=fun x y H Q=>rEq x y H Q∨c3v K x y H Q
def b6a (K:Qc):R2:=fun x y H Q=>rNe x y H Q∨c1D K x y H Q
section
variable {K:Qc} {H:Hp} {Q:VK}
theorem a2M {i j:Str}:b8M K (.str i) (.str j) H Q↔Q (.bl (decide (i=j))) H:=by
 constructor
 ·rintro (h | ⟨d,e,h1,h2,_,_,q⟩)
  ·exact b1b.mp h
  ·cases h1;cases h2
   rw [show decide (i=j)=Xq (.str i) (.str j) from by simp only [Xq];by_cases z:i=j<;>simp [z]];exact q
 ·exact fun q=>.inl (b1b.mpr q)
theorem a2y {i j:Int}:b8M K (.int i) (.int j) H Q↔Q (.bl (decide (i=j))) H:=by
 constructor
 ·rintro (h | ⟨d,e,h1,h2,_,_,q⟩)
  ·exact b0M.mp h
  ·cases h1;cases h2
   rw [show decide (i=j)=Xq (.int i) (.int j) from by simp only [Xq];by_cases z:i=j<;>simp [z]];exact q
 ·exact fun q=>.inl (b0M.mpr q)
theorem a4F {i j:Str}:b6a K (.str i) (.str j) H Q↔Q (.bl (!decide (i=j))) H:=by
 constructor
 ·rintro (h | ⟨d,e,h1,h2,_,_,q⟩)
  ·exact a8M.mp h
  ·cases h1;cases h2
   rw [show decide (i=j)=Xq (.str i) (.str j) from by simp only [Xq];by_cases z:i=j<;>simp [z]];exact q
 ·exact fun q=>.inl (a8M.mpr q)
theorem b1W {i j:Int}:b6a K (.int i) (.int j) H Q↔Q (.bl (!decide (i=j))) H:=by
 constructor
 ·rintro (h | ⟨d,e,h1,h2,_,_,q⟩)
  ·exact a9a.mp h
  ·cases h1;cases h2
   rw [show decide (i=j)=Xq (.int i) (.int j) from by simp only [Xq];by_cases z:i=j<;>simp [z]];exact q
 ·exact fun q=>.inl (a9a.mpr q)
mutual
theorem b2D:∀d:PyData,Yn d=true→Xq d d=true
 | .none,_=>rfl
 | .bool b,_=>by simp [Xq]
 | .int i,_=>by simp [Xq]
 | .str x,_=>by simp [Xq]
 | .list xs,h=>by
  simp only [Xq]
  exact eqvAll_self xs (by unfold Yn at h;simpa [Yu] using (Jg.mp h).1)
 | .tuple xs,h=>by
  simp only [Xq]
  exact eqvAll_self xs (by unfold Yn at h;simpa [Yu] using (Jg.mp h).1)
 | .dict _,h=>by unfold Yn at h;simp [Yu] at h
theorem eqvAll_self:∀ds:List PyData,Ju ds=true→Jj ds ds=true
 | [],_=>rfl
 | d::ds,h=>by
  simp only [Ju,Xh] at h
  simp only [Jj,Xh]
  exact ⟨eqv_self' d h.1,eqvAll_self ds h.2⟩
theorem eqv_self':∀d:PyData,Yu d=true→Xq d d=true
 | .none,_=>rfl
 | .bool b,_=>by simp [Xq]
 | .int i,_=>by simp [Xq]
 | .str x,_=>by simp [Xq]
 | .list xs,h=>by
  simp only [Xq]
  exact eqvAll_self xs (by simpa [Yu] using h)
 | .tuple xs,h=>by
  simp only [Xq]
  exact eqvAll_self xs (by simpa [Yu] using h)
 | .dict _,h=>by simp [Yu] at h
end
end
section
variable {X:Cx}
theorem b6l:OpR X (compareOp .Is) b9Q:=b8y
theorem a5N:MtR X "str.startswith" a9L:=a4G
theorem a2x:a1m X (.type "tuple") (b5V X.K):=by
 intro pins s σ H xs us Q I r h
 obtain ⟨p,ys,e,h⟩:=h
 exact a5b pins s σ H xs us Q I r ⟨p,ys,e,h⟩
theorem a1z:a1m X (.type "list") (b0v X.K):=a5n
mutual
theorem Den.reads {pins:List (Addr×Obj)} {σ:St} {H:Hp} {s:Shared} (I:Inv X pins σ H s):∀{x:V} {d:PyData} {u:Value},Den X.K H x d→a0N x u→∃as,Reads s.heap u d as
 | _,_,_,.non,r=>by cases r;exact ⟨_,.none⟩
 | _,_,_,.bl b,r=>by cases r;exact ⟨_,.bool b⟩
 | _,_,_,.int i,r=>by obtain ⟨t,rfl⟩:=r;exact ⟨_,.int i t⟩
 | _,_,_,.str x,r=>by obtain ⟨t,rfl⟩:=r;exact ⟨_,.str x t⟩
 | _,_,_,.lst h hs,r=>by
  cases r
  obtain ⟨its,rv,pl,_⟩:=I.list h
  obtain ⟨o,ho,hc,n,hd⟩:=pl.isList
  obtain ⟨as,ra⟩:=DenAll.reads I hs rv
  exact ⟨_,.list ho hc hd (by simpa using ra)⟩
 | _,_,_,.tup h hs,r=>by
  cases r
  obtain ⟨its,rv,pl,_⟩:=I.tuple h
  obtain ⟨o,ho,hc,n,hd⟩:=pl
  obtain ⟨as,ra⟩:=DenAll.reads I hs rv
  exact ⟨_,.tuple ho hc hd (by simpa using ra)⟩
theorem DenAll.reads {pins:List (Addr×Obj)} {σ:St} {H:Hp} {s:Shared} (I:Inv X pins σ H s):∀{xs:List V} {ds:List PyData} {us:List Value},DenAll X.K H xs ds→a0H xs us→∃as,ReadsAll s.heap us ds as
 | _,_,_,.nil,r=>by cases r;exact ⟨_,.nil⟩
 | _,_,_,.cons h hs,r=>by
  cases r with
  | cons r1 r2=>
   obtain ⟨as,ra⟩:=Den.reads I h r1
   obtain ⟨bs,rb⟩:=DenAll.reads I hs r2
   exact ⟨_,.cons ra rb⟩
end
theorem b5Y (hu:X.A.units+64 < cLine):OpR X (compareOp .Eq) (c3v X.K):=by
 intro pins s σ H x y v u Q I rx ry h
 obtain ⟨d,e,h1,h2,s1,s2,q⟩:=h
 obtain ⟨as,ra⟩:=h1.reads I rx
 obtain ⟨bs,rb⟩:=h2.reads I ry
 exact eq_dataH ra rb s1 s2 hu ⟨.bl _,H,I,rfl,q⟩
theorem b8j (hu:X.A.units+64 < cLine):OpR X (compareOp .NotEq) (c1D X.K):=by
 intro pins s σ H x y v u Q I rx ry h
 obtain ⟨d,e,h1,h2,s1,s2,q⟩:=h
 obtain ⟨as,ra⟩:=h1.reads I rx
 obtain ⟨bs,rb⟩:=h2.reads I ry
 exact ne_dataH ra rb s1 s2 hu ⟨.bl _,H,I,rfl,q⟩
theorem a1W (hu:X.A.units+64 < cLine):OpR X (compareOp .Eq) (b8M X.K):=b9Z.or (b5Y hu)
theorem a4x (hu:X.A.units+64 < cLine):OpR X (compareOp .NotEq) (b6a X.K):=c0g.or (b8j hu)
variable {K:Qc}
theorem b0L (h:X.K=K):OpR X (binaryOp .Add) (b1x K):=h ▸ a0p
theorem a9y (h:X.K=K):OpR X (compareOp .In) (b5O K):=h ▸ a4k
theorem a7s (hu:X.A.units+64 < cLine) (h:X.K=K):OpR X (compareOp .Eq) (b8M K):=h ▸ a1W hu
theorem b9E (hu:X.A.units+64 < cLine) (h:X.K=K):OpR X (compareOp .NotEq) (b6a K):=h ▸ a4x hu
theorem b0Q (h:X.K=K):a1m X (.builtin "len") (b2f K):=h ▸ a1a
theorem a2X (h:X.K=K):IxR X (rIx K):=h ▸ a0G
end
end L2
namespace L2
open PySem PySem.Spec PyProof.Rows PySem.W
end L2
namespace L2
open PySem PySem.Spec PyProof.Rows
theorem b0A {J:It} {n:Nat} {f:Nat→V} {Ok:Hp→Prop} {js:List (Option Nat)} {te:TE} {σ:St} {H:Hp} {Q:VK} (S:Src J n f Ok) (hn:n≤sizeLine) (σr:St) (hσ:a1r js σ=none::σr) (Pr:Addr→Nat→V→Hp→Prop)
  (mono:∀D i v (H1 H2:Hp),(∀b o,b≠D→H1 b=some o→H2 b=some o)→Pr D i v H1→Pr D i v H2)
  (hOk:∀H',a0j H H'→Ok H') (hs:∀D i H' (R:V→Hp→Prop),i < n→H D=none→a0j H H'→(∃ys,H' D=some (.lst ys))→(∀v H'',a0j H' H''→Pr D i v H''→R v H'')→te (some (f i)::σr) H' R)
  (hd:∀D H' ys,H D=none→a0j H H'→H' D=some (.lst ys)→ys.length=n→(∀i v,ys[i]?=some v→Pr D i v H')→Q (.ref D) H'):a4C J js (a0l 0) b6u te σ H Q:=by
 refine a6z S hn (fun D i σ' H' ys=>(∃a,σ'=a::σr)∧a0j H H'∧H' D=some (.lst ys)∧ys.length=i∧∀j v,ys[j]?=some v→Pr D j v H') ?_ ?_ ?_ ?_
 ·intro D hD
  exact ⟨⟨none,hσ⟩,a0j.upd hD,a0d,rfl,fun j v e=>by simp at e⟩
 ·rintro D i σ' H' ys hD hi ⟨_,s,h,hl,_⟩
  exact ⟨hOk _ s,h,Vj hl⟩
 ·rintro D i σ' H' ys R hD hi ⟨⟨a,rfl⟩,s,h,hl,hp⟩ hR
  show te (some (f i)::σr) H' _
  refine hs D i H' _ hi hD s ⟨_,h⟩ fun v H'' s2 pv=>⟨s2 _ _ h,hR _ _ _ ⟨⟨_,rfl⟩,?_,a0d,by simp [hl],fun j v' e=>?_⟩⟩
  ·intro b o e
   rw [a0a (a0b e hD)]
   exact s2 b o (s b o e)
  ·have up:∀b o,b≠D→H'' b=some o→upd H'' D (.lst (ys++[v])) b=some o:=fun b o hb e=>by rw [a0a hb];exact e
   rw [Wm] at e
   split at e
   ·exact mono _ _ _ _ _ (fun b o hb e=>up b o hb (s2 b o e)) (hp j v' e)
   ·have e1:j=ys.length:=by
     have:=(Qr.mp e).1
     simp at this;omega
    subst e1
    simp at e
    subst e
    rw [hl];exact mono _ _ _ _ _ up pv
 ·rintro D σ' H' ys hD ⟨_,s,h,hl,hp⟩
  exact hd D H' ys hD s h hl hp
theorem a6K {J:It} {n:Nat} {f:Nat→V} {Ok:Hp→Prop} {js:List (Option Nat)} {tt:TT} {te:TE} {σ:St} {H:Hp} {Q:VK} (S:Src J n f Ok) (hn:n≤sizeLine) (σr:St) (hσ:a1r js σ=none::σr) (keep:Nat→Bool) (val:Nat→V)
  (hOk:∀H',a0j H H'→Ok H') (hs:∀i H' (R:Bool→Hp→Prop),i < n→a0j H H'→(∀H'',a0j H' H''→R (keep i) H'')→tt (some (f i)::σr) H' R)
  (he:∀i H' (R:V→Hp→Prop),i < n→a0j H H'→(∀H'',a0j H' H''→R (val i) H'')→te (some (f i)::σr) H' R)
  (hd:∀D H',H D=none→a0j H H'→H' D=some (.lst (((Xr n).filter keep).map val))→Q (.ref D) H'):a4C J js (a0l 0) tt te σ H Q:=by
 refine a6z S hn (fun D i σ' H' ys=>(∃a,σ'=a::σr)∧a0j H H'∧H' D=some (.lst ys)∧ys=((Xr i).filter keep).map val) ?_ ?_ ?_ ?_
 ·intro D hD
  exact ⟨⟨none,hσ⟩,a0j.upd hD,a0d,rfl⟩
 ·rintro D i σ' H' ys hD hi ⟨_,s,h,rfl⟩
  refine ⟨hOk _ s,h,?_⟩
  rw [Qd]
  exact Qh (Xa _ _) (by simp)
 ·rintro D i σ' H' ys R hD hi ⟨⟨a,rfl⟩,s,h,rfl⟩ hR
  show tt (some (f i)::σr) H' _
  refine hs i H' _ hi s fun H2 s2=>?_
  cases hk:keep i with
  | false=>
   rw [if_neg Qu]
   refine hR _ _ _ ⟨⟨_,rfl⟩,s.trans s2,s2 _ _ h,?_⟩
   rw [Jn,Zm,Yc,hk];simp
  | true=>
   rw [if_pos rfl]
   refine he i H2 _ hi (s.trans s2) fun H3 s3=>⟨s3 _ _ (s2 _ _ h),hR _ _ _ ⟨⟨_,rfl⟩,?_,a0d,?_⟩⟩
   ·intro b o e
    rw [a0a (a0b e hD)]
    exact s3 b o (s2 b o (s b o e))
   ·rw [Jn,Zm,Yc,hk];simp
 ·rintro D σ' H' ys hD ⟨_,s,h,rfl⟩
  exact hd D H' hD s h
structure b6D (K:Qc) (C:Addr) (m:Str) (f:Addr):Prop where
 ga:Ga K (.ref C) "__getattribute__"=some (some (.builtin "type.__getattribute__"))
 rd:PySem.W.readsIn K C (.type "type")=true
 at_:PySem.W.findCls K (.ref C) (.type "type") m=some (.val (.ref f))
 kp:Zb K (.ref f)=true
structure TyI (K:Qc) (C:Addr):Prop where
 ha:Yo K (.ref C) "__class__"=some (some (.builtin "object.__class__"))
 hn:Ga K (.builtin "object.__class__") "__get__"=some (some (.builtin "getset_descriptor.__get__"))
 htk:PySem.W.takesIn K (.builtin "object.__class__")=some true
 hm:PySem.W.mroIn K C (.type "object")=some true
theorem b7Q {K:Qc} {C D:Addr} {cd:ClassData} {b:Bool} (hc:PySem.W.clsIn K D=some cd) (ht:Wh K (.ref D)=some (.type "type")) (hs:Wq K (.ref C) (.ref D)=some b) (ho:Wq K (.ref C) (.ref C)=some true):
  Yh K (.ref C) (.ref D)=some b:=by
 unfold Yh
 by_cases e:(Value.ref C == Value.ref D)=true
 ·rw [if_pos e]
  have e':C=D:=by
   have:=eq_of_beq e
   injection this
  rw [←e',ho] at hs
  exact hs
 ·rw [if_neg e]
  show (if ((PySem.W.clsIn K D).isSome && Wh K (.ref D) == some (.type "type"))=true then Wq K (.ref C) (.ref D) else none)=_
  rw [hc,ht,if_pos (by simp),hs]
section
variable {X:Cx}
def c4s:R2:=fun x y H Q=>∃i j,x=.str i∧y=.str j∧Q (.bl (decide (i.cps.toList < j.cps.toList))) H
def c2W:R2:=fun x y H Q=>rI0 (fun i j=>.bl (decide (i < j))) x y H Q∨c4s x y H Q
theorem b3I:OpR X (compareOp .Lt) c2W:=c0y.or b1d
theorem a7r {i j:Int} {H:Hp} {Q:VK}:c2W (.int i) (.int j) H Q↔Q (.bl (decide (i < j))) H:=by
 constructor
 ·rintro (⟨a,b,e1,e2,q⟩ | ⟨a,b,e1,_⟩)
  ·cases e1;cases e2;exact q
  ·cases e1
 ·exact fun q=>.inl ⟨i,j,rfl,rfl,q⟩
end
section
variable {X:Cx} {o e:Expr} {es:List Expr} {apos pos:Pos} {m:Str} {C f:Addr} {fd:FuncData} {ps:List Str} {sp:Sp} {CX:CXT} {k:Nat} {E:XK} {dvs:List V} {ds:List Value} {ta:TE} {t:TA}
def b9F (t u:TE):TE:=fun σ H Q=>t σ H Q∨u σ H Q
theorem b8H {t u:TE} (h1:PE X e t) (h2:PE X e u):PE X e (b9F t u):=fun pins s σ H Q I h=>h.elim (h1 pins s σ H Q I) (h2 pins s σ H Q I)
def b3a (C:Addr) (sp:Sp) (dvs:List V) (E:XK) (ta:TE) (t:TA):TE:=fun σ H Q=>ta σ H fun x H1=>x=.ref C∧t σ H1 fun vs H2=>sp (vs++dvs) H2 Q E
theorem b1E {pl:Sem Bool} (he:PE X o ta) (hm:b6D X.K C m f) (F:a0W X.prog X.w X.K X.mg X.base CX k f fd ps sp) (hr:a2h k X.A) (hb:a0n X.K fd ps ds) (hd:a0H dvs ds) (hx:a3i CX X E) (ha:PA X (e::es) t)
  (hst:starEach (e::es) X.env=(false,eval e X.env)::starEach es X.env:=by rfl) (hpl:(backTo pos (starEach es X.env)).any (·.1)=false:=by rfl)
  (ht:eval (.Call (.Attribute o m apos) (e::es) [] pos) X.env=(do
   let ov ←eval o X.env
   standAt apos.atName
   let (f,first) ←holding [ov] (getMethod ov m pl)
   callWith pos f first (backTo pos (starEach (e::es) X.env)) (backToKw pos (keywordEach [] X.env))):=by rfl):
  PE X (.Call (.Attribute o m apos) (e::es) [] pos) (b3a C sp dvs E ta t):=by
 intro pins s σ H Q I h
 refine Jz (pl:=pl) (thn (he pins s σ H _ I h) fun u s1 ⟨x,H1,I1,rx,ex,q⟩=>?_) ht
 subst ex
 obtain rfl:u=Value.ref C:=rx
 refine PySem.W.method_cls I1.kIn hm.ga (PySem.W.cls_value I1.kIn hm.rd hm.at_ rfl ?_)
 refine Jp (first:=[]) (h₀:=X.base) I.ok.mod.kin hm.kp (thn (ha pos pins _ σ H1 _ (I1.tok _) q) fun us s2 ⟨vs,H2,I2,r,q2⟩=>⟨I2.kIn,?_⟩) hst hpl
 exact a7i (us:=us) (vs:=vs) F hr hb hd hx I2 r q2
end
end L2
namespace L2
open PySem PySem.Spec PyProof.Rows
theorem a6h {c:TT} {tb:TS} {D:a7M} {σ:St} {H:Hp} (W:Nat→St→Hp→Prop) (m0:Nat) (h0:W m0 σ H)
  (hs:∀m σ H,W m σ H→c σ H fun b H1=>if b=true then ∃N:St→Hp→Prop,(∀σ' H',N σ' H'→∃m',m' < m∧W m' σ' H')∧tb {D with nx:=N,ct:=N,bk:=D.nx} σ H1 else D.nx σ H1):b3b c tb D σ H:=⟨W,⟨m0,h0⟩,hs⟩
theorem a1O {α β:Type} (d:α) (P:α→Bool) (g:α→β):∀ps:List α,((Xr ps.length).filter fun i=>P ((ps[i]?).getD d)).map (fun i=>g ((ps[i]?).getD d))=(ps.filter P).map g:=by
 intro ps
 have h:(Xr ps.length).map (fun i=>(ps[i]?).getD d)=ps:=by
  refine Vb fun i=>?_
  rw [Qo]
  by_cases hi:i < ps.length
  ·rw [Wr hi,Qe hi,Zy,Qe hi];rfl
  ·rw [Yk (by simp;omega),Yk (by omega)];rfl
 conv=>rhs;rw [←h]
 rw [Zz,Qy];rfl
theorem a9v (z:Str) (r:List Str):inV (.str z) (r.map V.str)=decide (z∈r):=by
 unfold inV
 rw [Yl,Zk,decide_eq_true_eq]
 constructor
 ·rintro ⟨v,hv,e⟩
  obtain ⟨l,hl,rfl⟩:=Qf.mp hv
  have e':(l == z)=true:=e
  rw [←eq_of_beq e'];exact hl
 ·intro h
  exact ⟨.str z,Qf.mpr ⟨z,h,rfl⟩,(beq_self_eq_true z:(z == z)=true)⟩
theorem a5S (qs:List Str):(qs.map V.str).all a4S=true:=by
 rw [Zu];intro v hv
 obtain ⟨l,_,rfl⟩:=Qf.mp hv;rfl
theorem a6G {K:Qc} {H:Hp} {Q:VK} {z:Str} {a:Addr} {r:List Str} (h:SqL K H a (r.map V.str)) (q:Q (.bl (decide (z∈r))) H):b5O K (.str z) (.ref a) H Q:=
 .inr ⟨a,_,rfl,.inl h,rfl,a5S _,by rw [if_neg Qu,a9v];exact q⟩
theorem none_of {H H':Hp} (s:a0j H H') {p:Addr} (h:H' p=none):H p=none:=by
 cases e:H p with
 | none=>rfl
 | some o=>rw [s _ _ e] at h;cases h
section
variable {X:Cx}
theorem b5L {K:Qc} {pos:Pos} {es:List Expr} {k:Nat} {t:TGs} {n:Nat} (hK:X.K=K) (hc:X.calm=true) (h:PGs X es t)
  (hn:(assignEach es X.env).length=n:=by rfl) (hst:(assignEach es X.env).findIdx? (·.1)=none:=by rfl):PG X (.Tuple es k pos) (b9J K n t):=hK ▸ b3M hc h hn hst
end
theorem a9U:bootBuiltins "min"=some (.builtin "min"):=by decide+kernel
end L2
namespace L2
open PySem PySem.Spec PyProof.Rows PySem.W
def Ite (K:Qc) (a:Addr):It:=
 ⟨fun i H=>∃xs x,SqL K H a xs∧xs[i]?=some x,fun i H x H'=>∃p v,H p=none∧(∀xs,SqL K H a xs→xs[i]?=some v)∧x=.ref p∧H'=upd H p (.tup [.int i,v]),fun i H=>∃xs,SqL K H a xs∧xs.length≤i⟩
def b9e (K:Qc) (ta:TA):TI:=fun σ H R=>ta σ H fun vs H1=>∃a,vs=[.ref a]∧(∃xs,SqL K H1 a xs)∧R (Ite K a) H1
theorem b7f {K:Qc} {a:Addr} {xs:List V} {js:List (Option Nat)} {te:TE} {σ:St} {H:Hp} {Q:VK} (hn:xs.length≤sizeLine) (σr:St) (hσ:a1r js σ=none::none::σr) (Pr:Addr→Nat→V→Hp→Prop)
  (mono:∀D i v (H1 H2:Hp),(∀b o,b≠D→H1 b=some o→H2 b=some o)→Pr D i v H1→Pr D i v H2)
  (ha:SqL K H a xs) (hs:∀D i H' (R:V→Hp→Prop) (hi:i < xs.length),H D=none→a0j H H'→(∃ys,H' D=some (.lst ys))→(∀v H'',a0j H' H''→Pr D i v H''→R v H'')→te (some (.int i)::some xs[i]::σr) H' R)
  (hd:∀D H' ys,H D=none→a0j H H'→H' D=some (.lst ys)→ys.length=xs.length→(∀i v,ys[i]?=some v→Pr D i v H')→Q (.ref D) H'):a4C (Ite K a) js (b9J K 2 (b2u (a0l 0) (b2u (a0l 1) c0i))) b6u te σ H Q:=by
 intro D hD
 refine ⟨fun i m σ' H' ys=>m=xs.length - i∧i≤xs.length∧(∃u v,σ'=u::v::σr)∧a0j H H'∧H' D=some (.lst ys)∧ys.length=i∧∀j v,ys[j]?=some v→Pr D j v H',⟨xs.length,by simp,Xm _,⟨none,none,hσ⟩,a0j.upd hD,a0d,rfl,fun j v e=>by simp at e⟩,?_⟩
 rintro i m σ' H' ys ⟨rfl,hi,⟨u,v,rfl⟩,s,h,hl,hp⟩
 refine ⟨h,?_⟩
 by_cases hlt:i < xs.length
 ·refine .inr ⟨⟨xs,xs[i],s.seq ha,Qe hlt⟩,by omega,?_⟩
  rintro x H2 ⟨p,w,hpn,hw,rfl,rfl⟩
  have ew:w=xs[i]:=by have:=hw xs (s.seq ha);rw [Qe hlt] at this;exact (Option.some.inj this).symm
  subst ew
  obtain ⟨H3,e3,s3,h3⟩:∃H3,upd H' p (.tup [.int i,xs[i]])=H3∧a0j H' H3∧H3 p=some (.tup [.int i,xs[i]]):=⟨_,rfl,a0j.upd hpn,a0d⟩
  rw [e3]
  refine ⟨p,_,rfl,SqT.of h3,rfl,_,_,rfl,_,_,rfl,rfl,?_⟩
  unfold b6u;dsimp only
  rw [if_pos rfl]
  show te (some (.int i)::some xs[i]::σr) H3 _
  refine hs D i H3 _ hlt hD (s.trans s3) ⟨_,s3 _ _ h⟩ fun v H'' s2 pv=>⟨s2 _ _ (s3 _ _ h),xs.length - (i+1),by omega,rfl,hlt,⟨_,_,rfl⟩,?_,a0d,by simp [hl],fun j v' e=>?_⟩
  ·intro b o e
   rw [a0a (a0b e hD)];exact s2 _ _ (s3 _ _ (s b o e))
  ·have up:∀b o,b≠D→H'' b=some o→upd H'' D (.lst (ys++[v])) b=some o:=fun b o hb q=>by rw [a0a hb];exact q
   by_cases hj:j < ys.length
   ·rw [Yi hj] at e
    exact mono _ _ _ _ _ up (mono _ _ _ _ _ (fun b o _ q=>s2 _ _ (s3 _ _ q)) (hp j v' e))
   ·have hj2:=(Qr.mp e).1
    have ej:j=ys.length:=by simp at hj2;omega
    subst ej
    rw [Yg (Qk _),Vo] at e
    cases e
    rw [hl];exact mono _ _ _ _ _ up pv
 ·have e:i=xs.length:=by omega
  subst e
  exact .inl ⟨⟨xs,s.seq ha,Qk _⟩,hd D H' ys hD s h hl hp⟩
def b7b (te:TE):TE:=fun σ H Q=>∃(a:Addr) (kvs:List (Key×V)),H a=some (.dK kvs)∧te σ H fun v H1=>∃o,H1 a=some (.frz o (.dK kvs))∧Q v (upd H1 a (.dK kvs))
section
variable {X:Cx} {pins:List (Addr×Obj)} {σ:St} {H:Hp} {s:Shared} {h':Heap} {tg:Expr}
theorem Inv.turned2 {t':Nat} {e it:Addr} (I:Inv X pins σ H s) (k:∀b o,b≠e→b≠it→s.heap.get? b=some o→h'.get? b=some o) (f1:a7S X pins H e) (f2:a7S X pins H it):Inv X pins σ H {s with heap:=h',toks:=t'}:=by
 obtain ⟨a0,a1,a2,a3,a4,a5⟩:=f1
 obtain ⟨b0,b1,b2,b3,b4,b5⟩:=f2
 have ne:∀b u,H b=some u→b≠e:=fun b u q z=>by rw [z,a0] at q;cases q
 have nit:∀b u,H b=some u→b≠it:=fun b u q z=>by rw [z,b0] at q;cases q
 refine I.step (g':=s.gens) (d':=s.drawn) (ch:=[e,it]) (fun b hb=>?_) (fun b o _ _ hc q _=>k b o (fun z=>hc (by simp [z])) (fun z=>hc (by simp [z])) q) (fun b o _ _ hc q _=>⟨o.slots,k b o (fun z=>hc (by simp [z])) (fun z=>hc (by simp [z])) q⟩) (fun _ _ _ _ n=>n)
  (fun b o hc q=>⟨o,k b o (fun z=>hc (by simp [z])) (fun z=>hc (by simp [z])) q⟩) (fun _ _ q=>q) (fun _ _ _ q=>q) (fun b ps q=>⟨#[],by rw [q];simp⟩) (fun m hm=>?_) (fun b u q=>?_) I.bare
 ·rcases Qw.mp hb with z | z
  ·subst z;exact ⟨a3,a1,a4,a5⟩
  ·rw [Qz.mp z];exact ⟨b3,b1,b4,b5⟩
 ·obtain ⟨o,es,ep,ho,r⟩:=hm
  exact ⟨o,es,ep,k _ o (Ne.symm a1) (Ne.symm b1) ho,r⟩
 ·refine (I.hok b u q).stay (fun c v hc z=>k c v ?_ ?_ z) (fun _ z=>z) fun _ _ z=>z
  ·rcases hc with z | z
   ·rw [z];exact ne b u q
   ·exact ne c _ z
  ·rcases hc with z | z
   ·rw [z];exact nit b u q
   ·exact nit c _ z
theorem a9T {P:Program} {w:World} {K:Qc} {elts:List Expr} {x1:Nat} {pos:Pos} (a e it:Addr) (hei:e≠it):b4F P w K (.Tuple elts x1 pos) (Ite K a) [e,it] e (fun i h=>(∃old,IsEnum h e it i old)∧h.IsListIter it a i) where
 mem:=by simp
 obj:=fun i h st b hb=>by
  obtain ⟨⟨old,he⟩,o,e1,c,d⟩:=st
  rcases Qw.mp hb with z | z
  ·subst z;exact ⟨_,he,fun v z=>by cases z⟩
  ·rw [Qz.mp z];exact ⟨o,e1,fun v z=>by rw [d] at z;cases z⟩
 keep:=fun i h h' st k=>by
  obtain ⟨⟨old,he⟩,hit⟩:=st
  exact ⟨⟨old,k e (by simp) _ he⟩,hit.at fun o q=>k it (by simp) o q⟩
 item:=by
  intro X hP hw hK hc i pins s σ H E I hf st hg
  subst hP hw hK
  obtain ⟨⟨old,he⟩,hit⟩:=st
  obtain ⟨xs,x,hq,hx⟩:=hg
  obtain ⟨its,rv,p,hz⟩:=I.list hq
  obtain ⟨u,hu,ru⟩:=rv.get hx
  refine wpAny_pyNext_enum_item he hit p.isList (x:=u) (by simpa using hu) hei fun h' ho hit' hT hsz hk=>?_
  refine ⟨_,rfl,?_⟩
  refine wpAny_letOwnedTupleGo_enum ho fun h2 he2 hs2=>?_
  have hfr:H s.heap.objs.size=none:=I.hok.fresh (Qk _)
  have helt:e < s.heap.objs.size:=Qx he
  have hilt:it < s.heap.objs.size:=by obtain ⟨_,z,_⟩:=hit;exact Qx z
  have hL:=Xd s.heap (o:={cls:=.type "tuple",data:=.seq #[.int i s.toks,u]}) rfl
  have I1:Inv X pins σ (upd H s.heap.objs.size (.tup [.int i,x])) {s with heap:=s.heap.push {cls:=.type "tuple",data:=.seq #[.int i s.toks,u]},toks:=s.toks+1}:=
   I.laid (t':=s.toks+1) (fun b o q=>Ql _ q) (Qk _) ⟨by simp only [Qs,Xk];decide,[.int i s.toks,u],.cons ⟨_,rfl⟩ (.cons ru .nil),⟨_,hL,rfl,_,rfl⟩⟩
  have up:∀b,b < s.heap.objs.size→upd H s.heap.objs.size (.tup [.int i,x]) b=H b:=fun b hb=>a0a (Xe hb)
  have fp:∀b,b < s.heap.objs.size→a7S X pins H b→a7S X pins (upd H s.heap.objs.size (.tup [.int i,x])) b:=fun b hb ⟨c0,c1,c2,c3,c4,c5⟩=>⟨by rw [up b hb];exact c0,c1,c2,c3,c4,c5⟩
  have I2:Inv X pins σ (upd H s.heap.objs.size (.tup [.int i,x])) {s with heap:=h2,toks:=s.toks+1}:=by
   refine I1.turned2 (h':=h2) (t':=s.toks+1) (fun b o h1 h3 q=>?_) (fp e helt (hf e (by simp))) (fp it hilt (hf it (by simp)))
   rw [hs2.2 b h1]
   by_cases z:b=s.heap.objs.size
   ·subst z
    have q':(s.heap.push {cls:=.type "tuple",data:=.seq #[.int i s.toks,u]}).get? s.heap.objs.size=some o:=q
    rw [hL] at q';rw [←q'];exact hT
   ·have q':s.heap.get? b=some o:=by
     have q2:(s.heap.push {cls:=.type "tuple",data:=.seq #[.int i s.toks,u]}).get? b=some o:=q
     rw [Ja _ _ _ z] at q2;exact q2
    exact hk b o h1 h3 q'
  exact ⟨.ref s.heap.objs.size,_,I2,rfl,⟨s.heap.objs.size,x,hfr,fun ys hy=>by rw [I.list_inj hy hq];exact hx,rfl,rfl⟩,⟨⟨_,by simpa using he2⟩,hit'.at fun o y=>(hs2.2 it hei.symm).trans y⟩,fun b hb=>by
   have hb':b < s.heap.objs.size:=by
    rcases Qw.mp hb with z | z
    ·rw [z];exact helt
    ·rw [Qz.mp z];exact hilt
   rw [up b hb'];exact (hf b hb).1⟩
 done:=by
  intro X hP hw hK hc i pins s σ H E I hf st hg
  subst hP hw hK
  obtain ⟨⟨old,he⟩,hit⟩:=st
  obtain ⟨xs,hq,hx⟩:=hg
  obtain ⟨its,rv,p,hz⟩:=I.list hq
  have hl:=rv.length
  exact wpAny_pyNext_enum_end (I.ok.hd hc) he hit p.isList (by simp;omega) fun h' hk=>⟨rfl,I.turned2 (t':=s.toks) (fun b o h1 h3 q=>hk b o h3 q) (hf e (by simp)) (hf it (by simp))⟩
 self:=fun _ _ _ _ _ st h=>by
  obtain ⟨⟨old,he⟩,_⟩:=st
  exact wpAny_pyIter_enum he h
theorem a3P:bootBuiltins "enumerate"=some (.type "enumerate"):=by decide+kernel
theorem b4t {a:Expr} {ta:TA} {p pos:Pos} {elts:List Expr} {x1:Nat} {tpos:Pos} (hg:Gl X "enumerate") (hm:X.mg "enumerate"=none) (ha:PA X [a] ta) (hs:starEach [a] X.env=[(false,eval a X.env)]:=by rfl):PI X (.Tuple elts x1 tpos) (.Call (.Name "enumerate" p) [a] [] pos) (b9e X.K ta):=by
 intro pins s σ H R I h
 refine Call_ (a4n I hg hm a3P (PyProof.Rows.callWith_type1 (thn (ha pos pins s σ H _ I h) fun us s1 ⟨vs,H1,I1,r1,q1⟩=>?_) hs rfl))
 obtain ⟨l,e,⟨xs,hq⟩,q⟩:=q1
 subst e
 cases r1 with
 | cons r rr=>
  cases rr
  cases r
  obtain ⟨its,rv,pl,hz⟩:=I1.list hq
  refine call_enumerate_list pl.isList fun h' he hit hsz hk=>?_
  refine wpAny_pyIter_enum he ?_
  have I2:=I1.kept (t':=s1.toks) hk
  refine ⟨s1.heap.objs.size+1,[s1.heap.objs.size+1,s1.heap.objs.size],_,_,H1,rfl,I2,a9T l _ _ (Nat.succ_ne_self _),⟨⟨_,he⟩,hit⟩,fun b hb=>?_,q⟩
  have hb':s1.heap.objs.size≤b:=by
   rcases Qw.mp hb with z | z
   ·rw [z];exact Jl _
   ·rw [Qz.mp z];exact Qk _
  exact I1.fpOk hb' (I1.hok.fresh hb')
theorem b4Y {K:Qc} {e:Expr} {ta:TE} {f:Str} {pos:Pos} (hK:X.K=K) (he:PE X e ta) (hb:attributeBase e f X.env (eval e X.env)=eval e X.env):PE X (.Attribute e f pos) (a3l K ta f):=hK ▸ b3J he hb
end
end L2
namespace L2
open PySem PySem.Spec PyProof.Rows PySem.W
section
variable {X:Cx} {pins:List (Addr×Obj)} {σ:St} {H:Hp} {s:Shared} {a:Addr} {kvs:List (Key×V)} {tg:Expr}
theorem Inv.freeze (I:Inv X pins σ H s) (e:H a=some (.dK kvs)):∃o,s.heap.get? a=some o∧Inv X pins σ (upd H a (.frz o (.dK kvs))) s:=by
 obtain ⟨z,hd,vs,rel,dd⟩:=a5T I.hok e
 obtain ⟨o,es,ep,ho,r⟩:=id dd
 exact ⟨o,ho,I.write (x:=a) (e:=a) (t':=s.toks) (h':=s.heap) (by rw [e];exact True.intro) (.inl rfl) (fun b u _ q=>q) ⟨o,ho⟩ ⟨ho,z,hd,vs,rel,dd⟩⟩
theorem Inv.thaw {o:Obj} (I:Inv X pins σ H s) (e:H a=some (.frz o (.dK kvs))) (hn:∀ob u,X.H₀ a≠some (.frz ob u)):Inv X pins σ (upd H a (.dK kvs)) s:=by
 have ne:∀b,H b=none→b≠a:=fun b q z=>by rw [z,e] at q;cases q
 refine ⟨I.ok,I.os,I.bare,⟨I.base.keep,I.base.slot,fun b ob q n hx=>?_,I.base.there,fun b xs q=>?_,fun b ob u q=>?_,fun b ps q=>?_⟩,I.loc,I.cell,?_,fun x c q=>?_,fun p hp=>?_,fun b u q=>?_,I.len⟩
 ·have:=I.base.free b ob q n hx;rw [a0a (ne b this)];exact this
 ·have:=I.base.tups b xs q;rw [a0a (a0B this e (by intro z;cases z))];exact this
 ·have:=I.base.frzs b ob u q
  by_cases z:b=a
  ·subst z;exact absurd q (hn _ _)
  ·rw [a0a z];exact this
 ·obtain ⟨m,h⟩:=I.base.tbls b ps q
  exact ⟨m,by rw [a0a (a0B h e (by intro z;cases z))];exact h⟩
 ·rw [a0a (ne _ I.free)];exact I.free
 ·rw [a0a (ne _ (I.freeC x c q))];exact I.freeC x c q
 ·obtain ⟨h1,h2,h3⟩:=I.pin p hp
  exact ⟨h1,by rw [a0a (ne _ h2)];exact h2,h3⟩
 ·have ow:∀c y,H c=some (.own y)→upd H a (.dK kvs) c=some (.own y):=fun c y r=>by rw [a0a (a0B r e (by intro z;cases z))];exact r
  have tu:∀c xs,H c=some (.tup xs)→upd H a (.dK kvs) c=some (.tup xs):=fun c xs r=>by rw [a0a (a0B r e (by intro z;cases z))];exact r
  by_cases z:b=a
  ·subst z
   rw [a0d] at q;cases q
   exact (show a1e X.prog X.w H s.heap b (.dK kvs) from (I.hok b _ e).2).stay (fun c v _ r=>r) (fun c r=>ow c _ r) tu
  ·rw [a0a z] at q
   exact (I.hok b u q).stay (fun c v _ r=>r) (fun c r=>ow c _ r) tu
theorem b5p {e:Expr} {te:TE} (he:PE X e te):PE X e (b7b te):=by
 intro pins s σ H Q I h
 obtain ⟨a,kvs,hH,h⟩:=h
 refine thn (he pins s σ H _ I h) fun v s1 ⟨x,H1,I1,r1,o,e1,q⟩=>?_
 refine ⟨x,_,I1.thaw e1 (fun ob u z=>?_),r1,q⟩
 have:=I.base.frzs a ob u z
 rw [hH] at this;cases this
end
structure b2Z (K:Qc) (x qual:Str) (st:Stmt) (f:Addr) (fd:FuncData) (T:Addr) (ds:List Value):Prop where
 ex:∃(oc:Value) (od:Option Addr) (kV doc pm:Value) (an:Option Addr) (cdv ct:Value) (osl:Array (Option Value)) (oT:Obj) (nT:Nat),
  fd=Yr x qual (a1x st) (a1d st) (a0c st) (.ref T) kV doc pm an cdv ct∧K.lookup f=some ⟨oc,od,.func fd,osl⟩∧Jb K cdv qual=true∧K.lookup T=some oT∧oT.data=.seq ds.toArray nT
 kp:Zb K (.ref f)=true
section
variable {P:Program} {w:World} {K:Qc} {mg:Str→Option Value} {base:Heap}
theorem b2Z.ok {x qual:Str} {st:Stmt} {f:Addr} {fd:FuncData} {T:Addr} {ds:List Value} {N ps:List Str} {k:Nat} {sp:Sp} (F:b2Z K x qual st f fd T ds) (S:a0h N ps (a0c st)) (len:∀vs H Q E,sp vs H Q E→vs.length=ps.length)
  (hbody:∀(cdv:Value) (A:Around) (outer:List Env) (s:Shared) (H:Hp) (vs:List V) (Q:VK) (E:XK),a2h k (A.deeper (envOfC qual (a0c st) s.heap.objs.size f cdv))→sp vs H Q E→
   ∃t,PSs (b2X CX0 P w K mg base N qual (a0c st) f cdv A outer s H E).nox (a1d st) t∧t {nx:=fun _ H'=>Q .non H',rt:=Q} (start N vs) H):a0W P w K mg base CX0 (k+1) f fd ps sp:=by
 obtain ⟨oc,od,kV,doc,pm,an,cdv,ct,osl,oT,nT,rfl,lk,hcd,_⟩:=F.ex
 refine b5I lk hcd S len fun A outer s H vs Q E hr hsp=>?_
 obtain ⟨t,h,q⟩:=hbody cdv A outer s H vs Q E hr hsp
 exact ⟨t,h.nox,q⟩
theorem b2Z.binds {x qual:Str} {st:Stmt} {f:Addr} {fd:FuncData} {T:Addr} {ds:List Value} {ps:List Str} (es:List Value) (F:b2Z K x qual st f fd T ds)
  (h:∀(kV doc pm:Value) (an:Option Addr) (cdv ct:Value) (us:List Value),(us++es).length=ps.length→∃k,bindArgs (Yr x qual (a1x st) (a1d st) (a0c st) (.ref T) kV doc pm an cdv ct) ⟨us,[]⟩=seqItems? (.ref T) >>= k∧k (some ds.toArray)=pure (ps.zip (us++es))):a0n K fd ps es:=by
 obtain ⟨oc,od,kV,doc,pm,an,cdv,ct,osl,oT,nT,rfl,lk,hcd,lT,hT⟩:=F.ex
 intro s us X hl
 obtain ⟨k,h1,h2⟩:=h kV doc pm an cdv ct us hl
 exact PySem.W.binds_K X rfl lT hT h1 h2
theorem a6f {x qual:Str} {st:Stmt} {f T:Addr} {oc:Value} {od an:Option Addr} {osl:Array (Option Value)} {kV doc pm cdv ct:Value} {oT:Obj} {nT:Nat} {ds:List Value} (l:K.lookup f=some ⟨oc,od,.func (Yr x qual (a1x st) (a1d st) (a0c st) (.ref T) kV doc pm an cdv ct),osl⟩)
  (c:Jb K cdv qual=true) (k:Zb K (.ref f)=true) (lT:K.lookup T=some oT) (hT:oT.data=.seq ds.toArray nT):b2Z K x qual st f (Yr x qual (a1x st) (a1d st) (a0c st) (.ref T) kV doc pm an cdv ct) T ds:=⟨⟨oc,od,kV,doc,pm,an,cdv,ct,osl,oT,nT,rfl,l,c,lT,hT⟩,k⟩
end
end L2
namespace L2
open PySem PySem.Spec PyProof.Rows PySem.W
end L2
namespace L2
open PySem PySem.Spec PyProof.Rows PySem.W
section
variable {X:Cx} {pins:List (Addr×Obj)} {σ:St} {H:Hp} {s:Shared} {a:Addr} {kvs:List (Key×V)} {k:Key} {u:Value} {A:Around} {E:Value→Shared→Prop}
theorem b7C {z:V} {r:Value} {Q:Value→Shared→Prop} (I:Inv X pins σ H s) (e:H a=some (.dK kvs)) (ry:a0N (kV k) u) (rz:a0N z r) (hz:kvs.length < sizeLine)
  (h1:∀v w' s',a0R kvs k=some v→Inv X pins σ H s'→a0N v w'→Q w' s') (h2:a0R kvs k=none→∀s',Inv X pins σ (upd H a (.dK (a2C kvs k z))) s'→Q r s'):
  wpAny (model X.prog X.w) A (call (.builtin "dict.setdefault") [.ref a,u,r]) Q E s:=by
 obtain ⟨z0,hd,vs,rel,dd⟩:=a5T I.hok e
 refine call_meetsIn Up dd.typeIs PySem.F.entry_dict_setdefault (PySem.F.args_dict_setdefault_3 _ _ _) (kt_meets_setdefault (a0m X.prog X.w) a (a6g ry) hd r) ⟨vs,dd,by rw [←rel.length];exact z0,fun v hv=>?_,fun hn h' dd' hs=>?_⟩
 ·cases l:a0R kvs k with
  | none=>
   have:=a3Z.none_of (o:=valueAt vs k) (by rw [←l];exact rel.val k)
   rw [this] at hv;cases hv
  | some x=>
   obtain ⟨w',hw,rw'⟩:=a3Z.some_of (v:=x) (o:=valueAt vs k) (by rw [←l];exact rel.val k)
   rw [hw] at hv;cases hv
   exact h1 x _ _ l (I.tok _) rw'
 ·have l:a0R kvs k=none:=by
   cases l:a0R kvs k with
   | none=>rfl
   | some x=>
    obtain ⟨w',hw,_⟩:=a3Z.some_of (v:=x) (o:=valueAt vs k) (by rw [←l];exact rel.val k)
    rw [hw] at hn;cases hn
  refine h2 l _ ?_
  have he:∃q,h'.get? a=some q:=let ⟨q,_,_,hq,_⟩:=dd';⟨q,hq⟩
  exact a4A I (by rw [e];exact True.intro) hs he (a8v (by have:=a0X kvs k z;omega) hd (rel.put k rz) dd')
end
def b0i (td ty tx:TE):TE:=fun σ H Q=>td σ H fun x H1=>∃a,x=.ref a∧IsD H1 a∧ty σ H1 fun y H2=>tx σ H2 fun z H3=>∃kvs k,H3 a=some (.dK kvs)∧y=kV k∧kvs.length < sizeLine∧
 (∀v,a0R kvs k=some v→Q v H3)∧(a0R kvs k=none→Q z (upd H3 a (.dK (a2C kvs k z))))
section
variable {X:Cx} {o e f:Expr} {apos cpos:Pos} {td ty tx:TE}
theorem b2z (ho:PE X o td) (he:PE X e ty) (hf:PE X f tx) (m:M2 X o "setdefault" apos e f cpos):PE X (.Call (.Attribute o "setdefault" apos) [e,f] [] cpos) (b0i td ty tx):=by
 intro pins s σ H Q I h
 refine wpAny_Call_method m.base m.few m.line Zv Up PySem.F.type_dict_setdefault (thn (ho pins s σ H _ I h) fun u s1 ⟨x,H1,I1,rx,a,ex,d,q1⟩=>?_)
 subst ex
 obtain rfl:u=Value.ref a:=rx
 obtain ⟨t1,t2,_⟩:=b3p I1 d
 refine ⟨t1,t2,?_⟩
 rw [m.trees]
 refine Calls.callWith_builtin rfl (Calls.evalArgs_plain (Calls.spliced_cons (thn (he pins s1 σ H1 _ I1 q1) fun iv s2 ⟨y,H2,I2,ry,q2⟩=>
  Calls.spliced_cons (thn (hf pins s2 σ H2 _ I2 q2) fun fv s3 ⟨z,H3,I3,rz,kvs,k,hH,ey,hz,q3,q4⟩=>Calls.spliced_nil ?_))))
 subst ey
 exact b7C I3 hH ry rz hz (fun v w' s' l I' r'=>⟨v,H3,I',r',q3 v l⟩) (fun l s' I'=>⟨z,_,I',rz,q4 l⟩)
end
section
variable {α β:Type}
def TOk (n:Nat) (P:α→Prop):KasT α→Prop
 | .ret a=>P a
 | .ask i j k=>i < n∧j < n∧∀b,TOk n P (k b)
def a0S (lt:Nat→Nat→Bool):KasT α→α
 | .ret a=>a
 | .ask i j k=>a0S lt (k (lt i j))
theorem TOk.run {n:Nat} {P:α→Prop} {lt:Nat→Nat→Bool}:∀{t:KasT α},TOk n P t→P (a0S lt t)
 | .ret _,h=>h
 | .ask i j k,h=>show P (a0S lt (k (lt i j))) from TOk.run (h.2.2 (lt i j))
theorem TOk.wp {n:Nat} {P:α→Prop} {lt:Nat→Nat→Bool} {cmp:Nat→Nat→(Bool→Shared→Prop)→Shared→Prop} {Q:α→Shared→Prop} {s:Shared} (hc:∀i j C,i < n→j < n→C (lt i j) s→cmp i j C s):∀{t:KasT α},TOk n P t→Q (a0S lt t) s→t.kasWp cmp Q s
 | .ret _,_,q=>q
 | .ask i j k,h,q=>hc i j _ h.1 h.2.1 (TOk.wp hc (h.2.2 _) q)
theorem TOk.bind {n:Nat} {P:α→Prop} {R:β→Prop} {f:α→KasT β} (hf:∀a,P a→TOk n R (f a)):∀{t:KasT α},TOk n P t→TOk n R (t.bind f)
 | .ret _,h=>hf _ h
 | .ask i j k,h=>⟨h.1,h.2.1,fun b=>TOk.bind hf (h.2.2 b)⟩
end
def a0z (n:Nat) (p:Array Nat):Prop:=p.Perm (Xu (Xr n))
theorem a0z.list {n:Nat} {p:Array Nat} (h:a0z n p):p.toList.Perm (Xr n):=Array.perm_iff_toList_perm.mp h
theorem a0z.lt {n:Nat} {p:Array Nat} (h:a0z n p) (hn:0 < n) (i:Nat):p.getD i 0 < n:=by
 by_cases hi:i < p.size
 ·have h1:p[i]∈Xr n:=h.list.mem_iff.mp (by simp)
  have e:p.getD i 0=p[i]:=by simp [Jh,hi]
  rw [e];exact Zs.mp h1
 ·have e:p.getD i 0=0:=by simp [Jh,hi]
  rw [e];exact hn
theorem a0z.rev {n:Nat} {p:Array Nat} (h:a0z n p) (i j:Nat):a0z n (kas_rev p i j):=(mirror_perm _ _ _ _).trans h
theorem a0z.bub {n:Nat} {p:Array Nat} (h:a0z n p) (i j:Nat):a0z n (bubble p i j):=(bubble_perm _ _ _).trans h
section
variable {n:Nat} (hn:0 < n)
include hn
theorem a8P {p:Array Nat} (hp:a0z n p):∀f m,TOk n (fun _=>True) (kas_asc p f m)
 | 0,m=>trivial
 | f+1,m=>⟨hp.lt hn _,hp.lt hn _,fun b=>by
   show TOk n _ (if b=true then _ else _)
   split
   ·exact trivial
   ·exact a8P hp f (m+1)⟩
theorem a4Q:∀f (p:Array Nat) m q,a0z n p→TOk n (fun r=>a0z n r.1) (kas_desc f p m q)
 | 0,p,m,q,hp=>hp
 | f+1,p,m,q,hp=>⟨hp.lt hn _,hp.lt hn _,fun b=>by
   show TOk n _ (if b=true then _ else _)
   split
   ·split
    ·exact a4Q f _ _ _ (hp.rev _ _)
    ·exact a4Q f _ _ _ hp
   ·refine ⟨hp.lt hn _,hp.lt hn _,fun d=>?_⟩
    show TOk n _ (if d=true then _ else _)
    split
    ·exact hp
    ·exact a4Q f _ _ _ hp⟩
theorem a7p {p:Array Nat} (hp:a0z n p) (m r:Nat):TOk n (fun r=>a0z n r.2) (kas_tail3 m r p):=by
 unfold kas_tail3
 refine TOk.bind (P:=fun _=>True) (fun k _=>?_) (a8P hn (hp.rev _ _) _ _)
 exact hp.rev 0 m
theorem a3x {p:Array Nat} (hp:a0z n p) (m r:Nat):TOk n (fun r=>a0z n r.2) (kas_descPart m r p):=TOk.bind (fun a ha=>by
 split
 ·exact a7p hn (a0z.rev ha _ _) _ _
 ·exact a7p hn ha _ _) (a4Q hn _ _ _ _ hp)
theorem b1T {p:Array Nat} (hp:a0z n p) (r:Nat):TOk n (fun r=>a0z n r.2) (kas_count r p):=TOk.bind (fun a _=>by
 split
 ·exact hp
 ·split
  ·refine ⟨hp.lt hn _,hp.lt hn _,fun b=>?_⟩
   show TOk n _ (if b=true then _ else _)
   split
   ·exact hp
   ·exact a3x hn (hp.rev _ _) _ _
  ·exact a3x hn hp _ _) (a8P hn hp _ _)
theorem a4W {p:Array Nat} (hp:a0z n p) (k:Nat):∀f l r,TOk n (fun _=>True) (kas_place p k f l r)
 | 0,l,r=>trivial
 | f+1,l,r=>by
  show TOk n _ (if l≥r then _ else _)
  split
  ·exact trivial
  ·refine ⟨hp.lt hn _,hp.lt hn _,fun b=>?_⟩
   show TOk n _ (if b=true then _ else _)
   split
   ·exact a4W hp k f _ _
   ·exact a4W hp k f _ _
theorem b3n:∀f (p:Array Nat) k,a0z n p→TOk n (a0z n) (kas_bin f p k)
 | 0,p,k,hp=>hp
 | f+1,p,k,hp=>TOk.bind (fun l _=>b3n f _ _ (hp.bub _ _)) (a4W hn hp k _ _ _)
theorem b0U:TOk n (a0z n) (kas_sort n):=TOk.bind (fun r hr=>by
 split
 ·exact b3n hn _ _ _ hr
 ·exact hr) (b1T hn (Wn.refl _) n)
end
theorem a7H (vs:List Value):(Xr vs.length).map (fun i=>vs.getD i Value.none)=vs:=by
 refine Vp (by simp) fun i h1 h2=>?_
 simp [h2]
section
variable {prog:Program} {w:World} {A:Around} {E:Value→Shared→Prop} {s:Shared}
theorem a3S {a:Addr} {vs:List Value} {n:Nat} {P:PySem.Fin→Shared→Prop} (ho:s.heap.get? a=some (seqObj "list" vs.toArray n)) (h64:vs.length < 64) (lt:Nat→Nat→Bool) (κ:SortKind)
  (hk:2≤vs.length→∀h',(∀b o,b≠a→s.heap.get? b=some o→h'.get? b=some o)→∀Q:SortKind→Shared→Prop,Q κ {s with heap:=h'}→wpAny (model prog w) A (keyKind' vs.toArray) Q (fun _ _=>False) {s with heap:=h'})
  (hask:∀h',(∀b o,b≠a→s.heap.get? b=some o→h'.get? b=some o)→∀i j C,i < vs.length→j < vs.length→C (lt i j) {s with heap:=h'}→kas_ask prog w A κ vs i j C {s with heap:=h'})
  (h:∀p:Array Nat,a0z vs.length p→(2≤vs.length→p=a0S lt (kas_sort vs.length))→P (.done (.ret .none)) {s with heap:=sortedHeap s.heap a vs (Xu (p.toList.map fun i=>vs.getD i Value.none))}):
  wpAny (model prog w) A (Builtin.«list.sort» ⟨[.ref a],[]⟩) P E s:=by
 rw [list_sort_plain]
 have ha:a < s.heap.objs.size:=Qx ho
 refine wpAny_bind (listItems_at ho rfl ?_)
 refine wpAny_bind (listUpdate_at ho rfl ?_ (by rw [Qm,sizeLine_eq];omega) (Xm _))
 obtain ⟨e1,ho1⟩:∃e1,(s.heap.update a (Obj.mapSeq fun _=>#[])).get? a=some (seqObj "list" #[] e1):=⟨_,get?_update_seq ho (fun _=>#[])⟩
 refine wpAny_bind (seqEpoch_at ho1 rfl ?_)
 refine wpAny_bind (wpAny_newTuple ?_ (by show vs.length≤_;rw [sizeLine_eq];omega))
 refine wpAny_bind (wpAny_newList ?_ (Xm _))
 refine wpAny_holding ?_
 have ho6:(((s.heap.update a (Obj.mapSeq fun _=>#[])).push (seqObj "tuple" vs.toArray 0)).push (seqObj "list" #[] 0)).get? a=some (seqObj "list" #[] e1):=by
  rw [Ja _ _ _ (by rw [size_push',Vq];exact Xe (Ze ha)),Ja _ _ _ (by rw [Vq];exact Xe ha)]
  exact ho1
 have keep:∀b o,b≠a→s.heap.get? b=some o→(((s.heap.update a (Obj.mapSeq fun _=>(#[]:Array Value))).push (seqObj "tuple" vs.toArray 0)).push (seqObj "list" #[] 0)).get? b=some o:=fun b o hb e=>by
  refine Ql _ (Ql _ ?_)
  rw [Zi _ _ _ _ hb];exact e
 show wpAny (model prog w) A _ P E {s with heap:=((s.heap.update a (Obj.mapSeq fun _=>(#[]:Array Value))).push (seqObj "tuple" vs.toArray 0)).push (seqObj "list" #[] 0)}
 dsimp only
 by_cases h2:vs.toArray.size < 2
 ·rw [if_pos h2,if_pos h2]
  refine wpAny_bind (wpAny_pure ?_)
  rw [StateT.run_pure]
  refine wpAny_bind (wpAny_pure ?_)
  dsimp only
  refine wpAny_bind (seqEpoch_at ho6 rfl ?_)
  have hz:((arrOf (SortSt.mk' general' (vs.toArray.zip vs.toArray) #[] 7 none)).map (·.2))=Xu ((Xu (Xr vs.length)).toList.map fun i=>vs.getD i Value.none):=by
   have e:=a7H vs
   show ((vs.toArray.zip vs.toArray).map (·.2))=Xu ((Xr vs.length).map fun i=>vs.getD i Value.none)
   rw [e]
   apply Vr.mp
   simp
   exact List.map_snd_zip (Qk _)
  rw [hz]
  refine wpAny_bind (listUpdate_at ho6 rfl ?_ (Xm _) (by simp only [Qm,Qd,Zf];rw [sizeLine_eq];omega))
  simp only [bne_self_eq_false,Zc,if_false]
  exact wpAny_pure (h (Xu (Xr vs.length)) (Wn.refl _) (fun z=>by rw [Qm] at h2;omega))
 ·rw [if_neg h2,if_neg h2]
  rw [Qm] at h2
  have h2':2≤vs.length:=by omega
  refine wpAny_bind (wpAny_mono (hk h2' _ keep (fun κ' s0=>κ'=κ∧s0={s with heap:=((s.heap.update a (Obj.mapSeq fun _=>(#[]:Array Value))).push (seqObj "tuple" vs.toArray 0)).push (seqObj "list" #[] 0)}) ⟨rfl,rfl⟩) (fun κ' s0 hk'=>?_) fun _ _ x=>x.elim)
  obtain ⟨rfl,rfl⟩:=hk'
  have hok:=b0U (n:=vs.length) (by omega)
  refine wpAny_bind (wpAny_mono (kat_run (Q:=fun st' s'=>∃p:Array Nat,p.size=vs.length∧arrOf st'=p.map (kas_item (vs.toArray.zip vs.toArray))∧failedOf st'=none∧p=a0S lt (kas_sort vs.length)∧s'={s with heap:=((s.heap.update a (Obj.mapSeq fun _=>(#[]:Array Value))).push (seqObj "tuple" vs.toArray 0)).push (seqObj "list" #[] 0)})
   (G:=fun p s'=>p=a0S lt (kas_sort vs.length)∧s'={s with heap:=((s.heap.update a (Obj.mapSeq fun _=>(#[]:Array Value))).push (seqObj "tuple" vs.toArray 0)).push (seqObj "list" #[] 0)})
   rfl h2' h64 (fun p' st' s' a1 a2 a3 a4=>⟨p',a1,a2,a3,a4.1,a4.2⟩) (TOk.wp (lt:=lt) (fun i j C hi hj hC=>hask _ keep i j C hi hj hC) hok ⟨rfl,rfl⟩)) ?_ fun _ _ e=>e)
  rintro ⟨⟨⟩,st'⟩ s' ⟨p,hp,har,hf,hpe,rfl⟩
  dsimp only
  have hP:a0z vs.length p:=by rw [hpe];exact hok.run
  refine wpAny_bind (seqEpoch_at ho6 rfl ?_)
  rw [kat_snds rfl har]
  refine wpAny_bind (listUpdate_at ho6 rfl ?_ (Xm _) (by simp only [Qm,Qd,Yz];rw [sizeLine_eq];omega))
  rw [hf]
  simp only [bne_self_eq_false,Zc,if_false]
  exact wpAny_pure (h p hP fun _=>hpe)
end
def b3G (K:Qc):List V→Hp→VK→Prop:=fun xs H Q=>∃(p:Addr) (ss:List Str),xs=[.ref p]∧SqL K H p (ss.map V.str)∧ss.length < 64∧∀l ss',H l=none→ss'.Perm ss→sortedS ss'=true→Q (.ref l) (upd H l (.lst (ss'.map V.str)))
def b3i:List V→Hp→VK→Prop:=fun xs H Q=>∃(p:Addr) (kvs:List (Key×V)) (ss:List Str),xs=[.ref p]∧Rd H p (.dK kvs)∧kvs.map (·.1)=ss.map Sum.inr∧ss.length < 64∧∀l ss',H l=none→ss'.Perm ss→sortedS ss'=true→Q (.ref l) (upd H l (.lst (ss'.map V.str)))
theorem a4i:∀{ss:List Str} {its:List Value},a0H (ss.map V.str) its→StrsAre its ss
 | [],_,r=>by cases r;exact .nil
 | x::ss,_,r=>by
  cases r with
  | cons h t=>obtain ⟨t0,rfl⟩:=h;exact .cons _ _ (a4i t)
theorem a3H {ss:List Str} {its:List Value} (h:StrsAre its ss):a0H (ss.map V.str) its:=by
 induction h with
 | nil=>exact .nil
 | cons x t h ih=>exact .cons ⟨t,rfl⟩ ih
section
variable {X:Cx}
theorem a8e:a1m X (.builtin "sorted") (b3G X.K):=by
 intro pins s σ H xs us Q I r h
 obtain ⟨p,ss,rfl,hq,h64,q⟩:=h
 obtain ⟨u,rfl,ru⟩:=a2V r
 cases ru
 obtain ⟨its,rv,pl,hz⟩:=I.list hq
 have hn:=rv.length
 rw [Qd] at hn
 refine sorted_strs pl.isList (a4i rv) (by omega) fun out ss' a1 a2 a3=>?_
 obtain ⟨e,he⟩:=sortedAll_at s.heap its out
 have hl:ss'.length < 64:=by rw [a2.length_eq];exact h64
 have I1:=I.laid (a:=s.heap.objs.size+1) (o:=.lst (ss'.map V.str)) (h':=sortedAll s.heap its out) (t':=s.toks) (fun _ _ q=>sortedAll_old q) (Jl _) ⟨by rw [Qd,sizeLine_eq];omega,out.toList,e,a3H a1,he⟩
 exact ⟨.ref (s.heap.objs.size+1),_,I1,rfl,q _ _ (I.hok.fresh (Jl _)) a2 a3⟩
theorem b0T {P:Program} {w:World} {z:Str} {v:Value} (h:(a0m P w).is (Sum.inr z) v=true):∃t,v=.str z t:=Value.isStrOf_shape h
theorem b5A {P:Program} {w:World} {k:Key} {v:Value} (h:(a0m P w).is k v=true):a0N (kV k) v:=by
 cases k with
 | inl i=>obtain ⟨t,e⟩:=Value.isInt_shape (k:=i) (v:=v) h;exact ⟨t,e⟩
 | inr x=>obtain ⟨t,e⟩:=Value.isStrOf_shape (x:=x) (v:=v) h;exact ⟨t,e⟩
theorem a2T:∀{its:List Value} {ss:List Str},its.length=ss.length→(∀(j:Nat) v,its[j]?=some v→∃z t,ss[j]?=some z∧v=.str z t)→StrsAre its ss
 | [],[],_,_=>.nil
 | [],_::_,h,_=>by simp at h
 | _::_,[],h,_=>by simp at h
 | v::its,z::ss,h,hv=>by
  obtain ⟨z',t,e1,e2⟩:=hv 0 v rfl
  cases e1
  rw [e2]
  exact .cons _ _ (a2T (by simpa using h) fun j u e=>by
   obtain ⟨a,b,c,d⟩:=hv (j+1) u (by simpa using e)
   exact ⟨a,b,by simpa using c,d⟩)
theorem b0V:∀{r:List (Key×V)} {rs:List (Key×Value)},KV r rs→∀{i:Nat} {k:Key} {x:Value},rs[i]?=some (k,x)→∃y,r[i]?=some (k,y)∧a0N y x:=by
 intro r rs h
 unfold KV at h
 induction h with
 | nil=>intro i k x e;simp at e
 | @cons p q ps qs h t ih=>
  intro i k x e
  cases i with
  | zero=>
   simp only [Qa,Option.some.injEq] at e
   subst e
   exact ⟨p.2,by simp only [Qa];rw [show (k,p.2)=p from by rw [←show p.1=k from h.1]],h.2⟩
  | succ i=>exact ih (by simpa using e)
theorem a7I (hc:X.calm=true):a1m X (.builtin "sorted") b3i:=by
 intro pins s σ H xs us Q I r h
 obtain ⟨p,kvs,ss,rfl,hq,hks,h64,q⟩:=h
 obtain ⟨u,rfl,ru⟩:=a2V r
 cases ru
 obtain ⟨z,hd,vs,rel,dd⟩:=a3v I.hok hq
 obtain ⟨ep,hat⟩:=dd.dictAt
 have hn:vs.length=ss.length:=by rw [←rel.length];have:=congrArg Yp hks;simpa using this
 refine Calls.call_function_entry kind_sorted plain_sorted entry_sorted (args_sorted1 _) ?_
 unfold Builtin.«sorted»
 refine wpAny_bind (m:=checkCount "sorted" 1 1 _) (wpAny_pure ?_)
 refine wpAny_bind (kdu_collect (A:=X.A.in1) (kdl_dict (knd:=a0m X.prog X.w) (kvs:=vs) (ep:=ep) hd) (I.ok.hd hc) hat (by rw [sizeLine_eq];omega) fun h' tk acc hk hacc=>?_)
 have hal:acc.toList.length=ss.length:=by rw [Yz];exact hacc.1.trans hn
 have hS:StrsAre acc.toList ss:=a2T hal fun j v e=>by
  obtain ⟨k,x,hx,hkv⟩:=hacc.2 j v (by rw [←Jc];exact e)
  obtain ⟨y,hy,_⟩:=b0V rel hx
  have h1:(kvs.map (·.1))[j]?=some k:=by rw [Qo,hy];rfl
  rw [hks,Qo] at h1
  cases e2:ss[j]? with
  | none=>rw [e2] at h1;cases h1
  | some z'=>
   rw [e2] at h1
   cases h1
   obtain ⟨t,ht⟩:=b0T hkv
   exact ⟨z',t,rfl,ht⟩
 refine wpAny_bind (wpAny_newList ?_ (by rw [hal,sizeLine_eq];omega))
 have hoL:(h'.push (seqObj "list" acc.toList.toArray 0)).get? h'.objs.size=some (seqObj "list" acc.toList.toArray 0):=Xd _ rfl
 refine wpAny_bind (wpAny_holding (wpAny_call_entry slot_list_sort ⟨_,hoL,rfl⟩ entry_list_sort (list_sort_treeK (s:={s with heap:=h'.push (seqObj "list" acc.toList.toArray 0),toks:=tk}) (vs:=acc.toList) strKind_oneLt hoL hS.keysOf (fun v₁ v₂ a5L e=>keyKind_strs (by rw [←e];exact hS)) (by omega) fun st' a1 a2=>⟨_,rfl,?_⟩) (args_list_sort _)))
 refine wpAny_pure ⟨_,rfl,?_⟩
 obtain ⟨ss',b1,b2,b3⟩:=sorted_out_str hS a1 a2
 generalize (arrOf st').map (·.2)=out at b1 ⊢
 obtain ⟨e,he⟩:=sortedHeap_at (out:=out) hoL
 have hl:ss'.length < 64:=by rw [b2.length_eq];exact h64
 have I1:=I.kept (t':=tk) hk
 have I2:=I1.laid (a:=h'.objs.size) (o:=.lst (ss'.map V.str)) (h':=sortedHeap (h'.push (seqObj "list" acc.toList.toArray 0)) h'.objs.size acc.toList out) (t':=tk) (fun b o e=>by
  have hb:b < h'.objs.size:=Qx e
  rw [sortedHeap_old (Xe hb) (by rw [size_push'];exact Ze hb)]
  exact Ql _ e) (Qk _) ⟨by rw [Qd,sizeLine_eq];omega,out.toList,e,a3H b1,he⟩
 exact ⟨.ref h'.objs.size,_,I2,rfl,q _ _ (I1.hok.fresh (Qk _)) b2 b3⟩
def a1V (H:Hp):V→Int×Str
 | .ref a=>match H a with
  | some (.tup [.int i,.str z])=>(i,z)
  | _=>(0,"")
 | _=>(0,"")
def ltP (x y:Int×Str):Bool:=if x.1=y.1 then (if x.2=y.2 then false else decide (x.2.cps.toList < y.2.cps.toList)) else decide (x.1 < y.1)
theorem a9Y {P:Program} {w:World} {H:Hp} {h:Heap} {a:Addr} {i:Int} {z:Str} (ok:a1e P w H h a (.tup [.int i,.str z])):∃o n t t',h.get? a=some o∧o.cls=.type "tuple"∧o.data=.seq #[.int i t,.str z t'] n:=by
 obtain ⟨_,its,rv,o,ho,hc,n,hd⟩:=ok
 cases rv with
 | cons h1 r=>
  cases r with
  | cons h2 r=>
   cases r
   obtain ⟨t,rfl⟩:=h1
   obtain ⟨t',rfl⟩:=h2
   exact ⟨o,n,t,t',ho,hc,hd⟩
theorem a6c {P:Program} {w:World} {H:Hp} {h h':Heap} (hok:∀a o,H a=some o→a1e P w H h a o) (hk:∀b o,h.get? b=some o→h'.get? b=some o):∀{ys:List V} {its:List Value},a0H ys its→(∀v∈ys,∃a i z,v=.ref a∧H a=some (.tup [.int i,.str z]))→
  ∃fs,KatTups h' its fs∧fs.length=its.length∧∀v∈fs,∃i t,v=.int i t
 | [],_,r,_=>by cases r;exact ⟨[],trivial,rfl,by simp⟩
 | y::ys,_,r,hT=>by
  cases r with
  | cons h1 r=>
   obtain ⟨fs,g1,g2,g3⟩:=a6c hok hk r fun v hv=>hT v (Qp _ hv)
   obtain ⟨a,i,z,rfl,ha⟩:=hT y Qn
   cases h1
   obtain ⟨o,n,t,t',e1,e2,e3⟩:=a9Y (hok _ _ ha)
   refine ⟨.int i t::fs,KatTups.cons (hk _ _ e1) e2 e3 rfl g1,by simp [g2],fun v hv=>?_⟩
   rcases Qw.mp hv with e | e
   ·exact ⟨i,t,e⟩
   ·exact g3 v e
theorem a3u {ys:List V} {its:List Value} (r:a0H ys its):∀(l:List Nat),(∀i∈l,i < ys.length)→a0H (l.map fun i=>ys.getD i .non) (l.map fun i=>its.getD i Value.none)
 | [],_=>.nil
 | i::l,h=>by
  have hi:=h i Qn
  obtain ⟨u,hu,ru⟩:=r.get (Qe hi)
  refine .cons ?_ (a3u r l fun j hj=>h j (Qp _ hj))
  show a0N (ys.getD i .non) (its.getD i Value.none)
  rw [Xj,Qe hi,Xj,hu]
  exact ru
theorem a7L (vs:List V):(Xr vs.length).map (fun i=>vs.getD i .non)=vs:=by
 refine Vp (by simp) fun i h1 h2=>?_
 simp [h2]
theorem a1N:bootBuiltins "sorted"=some (.builtin "sorted"):=by decide+kernel
end
end L2
namespace L2
open PySem PySem.Spec PyProof.Rows PySem.W
def b3h:List V→Hp→VK→Prop:=fun xs H Q=>∃(p:Addr) (kvs:List (Key×V)),xs=[.ref p]∧Rd H p (.dK kvs)∧∀l,H l=none→Q (.ref l) (upd H l (.lst (kvs.map fun kv=>kV kv.1)))
def b0y (K:Qc):List V→Hp→VK→Prop:=fun xs H Q=>b0v K xs H Q∨b3h xs H Q
def a1t (H:Hp) (xs:List V) (pl:List (Str×Str)):Prop:=∃as:List Addr,xs=as.map V.ref∧as.length=pl.length∧∀(i:Nat) (a:Addr) (p:Str×Str),as[i]?=some a→pl[i]?=some p→H a=some (.tup [.str p.1,.str p.2])
section
variable {X:Cx} {pos:Pos}
theorem a5j {P:Program} {w:World}:∀{kvs:List (Key×V)} {its:List Value},its.length=kvs.length→(∀(j:Nat) v,its[j]?=some v→∃k y,kvs[j]?=some (k,y)∧(a0m P w).is k v=true)→a0H (kvs.map fun kv=>kV kv.1) its
 | [],[],_,_=>.nil
 | [],_::_,h,_=>by simp at h
 | _::_,[],h,_=>by simp at h
 | p::kvs,v::its,h,hv=>by
  obtain ⟨k,y,e1,e2⟩:=hv 0 v rfl
  cases e1
  exact .cons (b5A e2) (a5j (by simpa using h) fun j u e=>by
   obtain ⟨a,b,c,d⟩:=hv (j+1) u (by simpa using e)
   exact ⟨a,b,by simpa using c,d⟩)
theorem a7Q (hc:X.calm=true):a1m X (.type "list") b3h:=by
 intro pins s σ H xs us Q I r h
 obtain ⟨p,kvs,rfl,hq,q⟩:=h
 obtain ⟨u,rfl,ru⟩:=a2V r
 cases ru
 obtain ⟨z,hd,vs,rel,dd⟩:=a3v I.hok hq
 obtain ⟨ep,hat⟩:=dd.dictAt
 have hl:=rel.length
 refine kdl_call (kdl_dict (knd:=a0m X.prog X.w) (kvs:=vs) (ep:=ep) hd) (I.ok.hd hc) hat (by rw [←hl];exact z) fun h' tk acc c hk hD hacc=>?_
 have hv:a0H (kvs.map fun kv=>kV kv.1) acc.toList:=a5j (P:=X.prog) (w:=X.w) (by rw [Yz,hacc.1,hl]) fun j v e=>by
  obtain ⟨k,x,hx,hkv⟩:=hacc.2 j v (by rw [←Jc];exact e)
  obtain ⟨y,hy,_⟩:=b0V rel hx
  exact ⟨k,y,hy,hkv⟩
 have I1:=I.laid (a:=s.heap.objs.size) (o:=.lst (kvs.map fun kv=>kV kv.1)) (h':=h') (t':=tk) hk (Qk _) ⟨by rw [Qd];exact z,acc.toList,c,hv,hD⟩
 exact ⟨.ref s.heap.objs.size,_,I1,rfl,q _ (I.hok.fresh (Qk _))⟩
theorem a4l (hc:X.calm=true):a1m X (.type "list") (b0y X.K):=a1m.or a1z (a7Q hc)
end
def b6S (t u:TT):TT:=fun σ H Q=>t σ H Q∨u σ H Q
theorem b6n {X:Cx} {e:Expr} {t u:TT} (h1:PT X e t) (h2:PT X e u):PT X e (b6S t u):=fun pins s σ H Q I h=>h.elim (h1 pins s σ H Q I) (h2 pins s σ H Q I)
end L2
namespace L2
open PySem PySem.Spec PyProof.Rows PySem.W
end L2
namespace L2
open PySem PySem.Spec PySem.W PyProof.Rows
theorem a1U {α β:Type} {lt:Nat→Nat→Bool} {f:α→KasT β}:∀(t:KasT α),a0S lt (t.bind f)=a0S lt (f (a0S lt t))
 | .ret _=>rfl
 | .ask i j k=>a1U (k (lt i j))
theorem a6n {α:Type} {lt:Nat→Nat→Bool} {c:Prop} [Decidable c] {x y:KasT α}:a0S lt (if c then x else y)=if c then a0S lt x else a0S lt y:=by split<;>rfl
structure b9M (lt:Nat→Nat→Bool) (n:Nat):Prop where
 irr:∀i,i < n→lt i i=false
 tr:∀i j k,i < n→j < n→k < n→lt i j=true→lt j k=true→lt i k=true
 tot:∀i j,i < n→j < n→i≠j→lt i j=true∨lt j i=true
def Asc (lt:Nat→Nat→Bool) (p:Array Nat) (m:Nat):Prop:=∀i j,i < j→j < m→lt (p.getD i 0) (p.getD j 0)=true
def Dsc (lt:Nat→Nat→Bool) (p:Array Nat) (m:Nat):Prop:=∀i j,i < j→j < m→lt (p.getD j 0) (p.getD i 0)=true
theorem a4t (p:Array Nat) (i:Nat):p.getD i 0=(p[i]?).getD 0:=by
 by_cases h:i < p.size<;>simp [Jh,h]
theorem a0z.size {n:Nat} {p:Array Nat} (h:a0z n p):p.size=n:=by
 have:=Wn.size_eq h;simpa using this
theorem a0z.inj {n:Nat} {p:Array Nat} (h:a0z n p) {i j:Nat} (hi:i < n) (hj:j < n) (e:i≠j):p.getD i 0≠p.getD j 0:=by
 have nd:p.toList.Nodup:=(h.list.nodup_iff).mpr List.nodup_range
 have hs:=h.size
 rw [List.nodup_iff_pairwise_ne,Ve] at nd
 have e1:p.getD i 0=p[i]'(by omega):=by simp [Jh,show i < p.size by omega]
 have e2:p.getD j 0=p[j]'(by omega):=by simp [Jh,show j < p.size by omega]
 rw [e1,e2]
 rcases Nat.lt_or_gt_of_ne e with q | q
 ·exact nd i j (by simpa using (by omega:i < p.size)) (by simpa using (by omega:j < p.size)) q
 ·exact Ne.symm (nd j i (by simpa using (by omega:j < p.size)) (by simpa using (by omega:i < p.size)) q)
section
variable {lt:Nat→Nat→Bool} {n:Nat} (L:b9M lt n) (hn:0 < n)
include L hn
theorem b9M.flip {p:Array Nat} (hp:a0z n p) {i j:Nat} (hi:i < n) (hj:j < n) (e:i≠j) (h:lt (p.getD i 0) (p.getD j 0)=false):lt (p.getD j 0) (p.getD i 0)=true:=by
 rcases L.tot _ _ (hp.lt hn i) (hp.lt hn j) (hp.inj hi hj e) with q | q
 ·rw [h] at q;cases q
 ·exact q
theorem Asc.more {p:Array Nat} (hp:a0z n p) {m:Nat} (hm:1≤m) (a:Asc lt p m) (h:lt (p.getD (m - 1) 0) (p.getD m 0)=true):Asc lt p (m+1):=fun i j hij hj=>by
 by_cases q:j < m
 ·exact a i j hij q
 ·obtain rfl:j=m:=by omega
  by_cases r:i=j - 1
  ·rw [r];exact h
  ·exact L.tr _ _ _ (hp.lt hn _) (hp.lt hn _) (hp.lt hn _) (a i (j - 1) (by omega) (by omega)) h
theorem Dsc.more {p:Array Nat} (hp:a0z n p) {m:Nat} (hm:1≤m) (a:Dsc lt p m) (h:lt (p.getD m 0) (p.getD (m - 1) 0)=true):Dsc lt p (m+1):=fun i j hij hj=>by
 by_cases q:j < m
 ·exact a i j hij q
 ·obtain rfl:j=m:=by omega
  by_cases r:i=j - 1
  ·rw [r];exact h
  ·exact L.tr _ _ _ (hp.lt hn _) (hp.lt hn _) (hp.lt hn _) h (a i (j - 1) (by omega) (by omega))
theorem a6H {p:Array Nat} (hp:a0z n p):∀f m,1≤m→m+f≤n→Asc lt p m→
  m≤a0S lt (kas_asc p f m)∧a0S lt (kas_asc p f m)≤m+f∧Asc lt p (a0S lt (kas_asc p f m))∧(a0S lt (kas_asc p f m) < m+f→lt (p.getD (a0S lt (kas_asc p f m)) 0) (p.getD (a0S lt (kas_asc p f m) - 1) 0)=true)
 | 0,m,h1,hf,a=>⟨Qk _,Qk _,a,fun z=>absurd z (Zh _)⟩
 | f+1,m,h1,hf,a=>by
  have e:a0S lt (kas_asc p (f+1) m)=if lt (p.getD m 0) (p.getD (m - 1) 0)=true then m else a0S lt (kas_asc p f (m+1)):=by
   show a0S lt (if lt (p.getD m 0) (p.getD (m - 1) 0)=true then .ret m else kas_asc p f (m+1))=_
   rw [a6n];rfl
  rw [e]
  by_cases c:lt (p.getD m 0) (p.getD (m - 1) 0)=true
  ·rw [if_pos c];exact ⟨Qk _,by omega,a,fun _=>c⟩
  ·rw [if_neg c]
   have a':Asc lt p (m+1):=Asc.more L hn hp h1 a (L.flip hn hp (by omega) (by omega) (by omega) (by simpa using c))
   obtain ⟨x1,x2,x3,x4⟩:=a6H hp f (m+1) (by omega) (by omega) a'
   exact ⟨by omega,by omega,x3,fun z=>x4 (by omega)⟩
theorem a7w {p:Array Nat} (hp:a0z n p):∀f m,1≤m→m+f≤n→Dsc lt p m→∃r,a0S lt (kas_desc f p m 0)=(p,r,0)∧m≤r∧r≤m+f∧Dsc lt p r
 | 0,m,h1,hf,a=>⟨m,rfl,Qk _,Qk _,a⟩
 | f+1,m,h1,hf,a=>by
  have e:a0S lt (kas_desc (f+1) p m 0)=if lt (p.getD m 0) (p.getD (m - 1) 0)=true then a0S lt (kas_desc f p (m+1) 0) else
    a0S lt (if lt (p.getD (m - 1) 0) (p.getD m 0)=true then KasT.ret (p,m,0) else kas_desc f p (m+1) (0+1)):=by
   show a0S lt (if lt (p.getD m 0) (p.getD (m - 1) 0)=true then (if 0 > 0 then _ else kas_desc f p (m+1) 0) else _)=_
   rw [a6n];rfl
  rw [e]
  by_cases c:lt (p.getD m 0) (p.getD (m - 1) 0)=true
  ·rw [if_pos c]
   obtain ⟨r,x1,x2,x3,x4⟩:=a7w hp f (m+1) (by omega) (by omega) (Dsc.more L hn hp h1 a c)
   exact ⟨r,x1,by omega,by omega,x4⟩
  ·rw [if_neg c,if_pos (L.flip hn hp (by omega) (by omega) (by omega) (by simpa using c))]
   exact ⟨m,rfl,Qk _,by omega,a⟩
omit L hn in
theorem b0t {p:Array Nat} {m:Nat} (hm:m≤p.size) {i:Nat} (hi:i < m):(kas_rev p 0 m).getD i 0=p.getD (m - 1 - i) 0:=by
 rw [a4t,a4t]
 unfold kas_rev
 rw [getElem?_mirror_all hm,if_pos ⟨Xm _,hi⟩]
 simp
theorem a9R {p:Array Nat} (hp:a0z n p) {m:Nat} (h1:1≤m) (hm:m≤n) (a:Dsc lt p m):
  a0z n (a0S lt (kas_tail3 m n p)).2∧m≤(a0S lt (kas_tail3 m n p)).1∧(a0S lt (kas_tail3 m n p)).1≤n∧Asc lt (a0S lt (kas_tail3 m n p)).2 (a0S lt (kas_tail3 m n p)).1:=by
 have hs:=hp.size
 have e:a0S lt (kas_tail3 m n p)=(a0S lt (kas_asc (kas_rev p 0 m) (n - m) m),kas_rev p 0 m):=by
  unfold kas_tail3;rw [a1U];rfl
 rw [e]
 have a':Asc lt (kas_rev p 0 m) m:=fun i j hij hj=>by
  rw [b0t (by omega) (by omega),b0t (by omega) hj]
  exact a _ _ (by omega) (by omega)
 obtain ⟨x1,x2,x3,_⟩:=a6H L hn (hp.rev 0 m) (n - m) m h1 (by omega) a'
 exact ⟨hp.rev 0 m,x1,by omega,x3⟩
theorem a5l {p:Array Nat} (hp:a0z n p) {m:Nat} (h1:1≤m) (hm:m+1≤n) (a:Dsc lt p (m+1)):
  a0z n (a0S lt (kas_descPart m n p)).2∧1≤(a0S lt (kas_descPart m n p)).1∧(a0S lt (kas_descPart m n p)).1≤n∧Asc lt (a0S lt (kas_descPart m n p)).2 (a0S lt (kas_descPart m n p)).1:=by
 obtain ⟨r,x1,x2,x3,x4⟩:=a7w L hn hp (n - (m+1)) (m+1) (by omega) (by omega) a
 have e:a0S lt (kas_descPart m n p)=a0S lt (kas_tail3 r n p):=by
  unfold kas_descPart;rw [a1U,x1];rfl
 rw [e]
 obtain ⟨y1,y2,y3,y4⟩:=a9R L hn hp (m:=r) (by omega) (by omega) x4
 exact ⟨y1,by omega,y3,y4⟩
theorem a9G {p:Array Nat} (hp:a0z n p):
  a0z n (a0S lt (kas_count n p)).2∧1≤(a0S lt (kas_count n p)).1∧(a0S lt (kas_count n p)).1≤n∧Asc lt (a0S lt (kas_count n p)).2 (a0S lt (kas_count n p)).1:=by
 obtain ⟨x1,x2,x3,x4⟩:=a6H L hn hp (n - 1) 1 (Qk _) (by omega) (fun i j hij hj=>by omega)
 unfold kas_count
 rw [a1U]
 generalize a0S lt (kas_asc p (n - 1) 1)=m at x1 x2 x3 x4 ⊢
 by_cases c:(m == n)=true
 ·rw [if_pos c];exact ⟨hp,x1,by have:=beq_iff_eq.mp c;show m≤n;omega,x3⟩
 ·have hmn:m≠n:=fun z=>c (beq_iff_eq.mpr z)
  rw [if_neg c]
  by_cases d:m > 1
  ·rw [if_pos d]
   show a0z n (a0S lt (if lt (p.getD 0 0) (p.getD (m - 1) 0)=true then .ret (m,p) else kas_descPart m n (kas_rev p 0 m))).2∧1≤(a0S lt (if lt (p.getD 0 0) (p.getD (m - 1) 0)=true then .ret (m,p) else kas_descPart m n (kas_rev p 0 m))).1∧(a0S lt (if lt (p.getD 0 0) (p.getD (m - 1) 0)=true then .ret (m,p) else kas_descPart m n (kas_rev p 0 m))).1≤n∧Asc lt (a0S lt (if lt (p.getD 0 0) (p.getD (m - 1) 0)=true then .ret (m,p) else kas_descPart m n (kas_rev p 0 m))).2 (a0S lt (if lt (p.getD 0 0) (p.getD (m - 1) 0)=true then .ret (m,p) else kas_descPart m n (kas_rev p 0 m))).1
   rw [if_pos (x3 0 (m - 1) (by omega) (by omega))]
   exact ⟨hp,x1,by show m≤n;omega,x3⟩
  ·rw [if_neg d]
   obtain rfl:m=1:=by omega
   exact a5l L hn hp (Qk _) (by omega) (fun i j hij hj=>by
    obtain rfl:j=1:=by omega
    obtain rfl:i=0:=by omega
    exact x4 (by omega))
theorem a3O {p:Array Nat} (hp:a0z n p) {k:Nat} (hk:k < n) (a:Asc lt p k):∀f l r,r - l≤f→l≤r→r≤k→(∀i,i < l→lt (p.getD i 0) (p.getD k 0)=true)→(∀i,r≤i→i < k→lt (p.getD k 0) (p.getD i 0)=true)→
  a0S lt (kas_place p k f l r)≤k∧(∀i,i < a0S lt (kas_place p k f l r)→lt (p.getD i 0) (p.getD k 0)=true)∧∀i,a0S lt (kas_place p k f l r)≤i→i < k→lt (p.getD k 0) (p.getD i 0)=true
 | 0,l,r,hf,hl,hr,h1,h2=>⟨by show l≤k;omega,h1,fun i x y=>h2 i (by have:l≤i:=x;omega) y⟩
 | f+1,l,r,hf,hl,hr,h1,h2=>by
  by_cases c:l≥r
  ·have e:a0S lt (kas_place p k (f+1) l r)=l:=by unfold kas_place;rw [if_pos c];rfl
   rw [e]
   exact ⟨by omega,h1,fun i x y=>h2 i (by omega) y⟩
  ·have e:a0S lt (kas_place p k (f+1) l r)=if lt (p.getD k 0) (p.getD ((l+r) / 2) 0)=true then a0S lt (kas_place p k f l ((l+r) / 2)) else a0S lt (kas_place p k f ((l+r) / 2+1) r):=by
    rw [kas_place,if_neg c]
    show a0S lt (if lt (p.getD k 0) (p.getD ((l+r) / 2) 0)=true then _ else _)=_
    rw [a6n]
   rw [e]
   by_cases d:lt (p.getD k 0) (p.getD ((l+r) / 2) 0)=true
   ·rw [if_pos d]
    refine a3O hp hk a f l ((l+r) / 2) (by omega) (by omega) (by omega) h1 fun i x y=>?_
    by_cases q:i=(l+r) / 2
    ·rw [q];exact d
    ·exact L.tr _ _ _ (hp.lt hn _) (hp.lt hn _) (hp.lt hn _) d (a _ _ (by omega) y)
   ·rw [if_neg d]
    have d':=L.flip hn hp (by omega) (by omega) (by omega) (show lt (p.getD k 0) (p.getD ((l+r) / 2) 0)=false by simpa using d)
    refine a3O hp hk a f ((l+r) / 2+1) r (by omega) (by omega) hr (fun i x=>?_) h2
    by_cases q:i=(l+r) / 2
    ·rw [q];exact d'
    ·exact L.tr _ _ _ (hp.lt hn _) (hp.lt hn _) (hp.lt hn _) (a _ _ (by omega) (by omega)) d'
omit L hn in
theorem a8Z {p:Array Nat} {k l:Nat} (hk:k < p.size) (hl:l≤k) (i:Nat):(bubble p k (k - l)).getD i 0=if i=l then p.getD k 0 else if l < i∧i≤k then p.getD (i - 1) 0 else p.getD i 0:=by
 rw [a4t,getElem?_bubble hk _ (by omega),show k - (k - l)=l by omega,a4t p k,a4t p (i - 1),a4t p i]
 by_cases h1:i=l
 ·rw [if_pos h1,if_pos h1]
 ·rw [if_neg h1,if_neg h1]
  by_cases h2:l < i∧i≤k
  ·rw [if_pos h2,if_pos h2]
  ·rw [if_neg h2,if_neg h2]
theorem a8Y:∀f (p:Array Nat) k,a0z n p→1≤k→k+f≤n→Asc lt p k→a0z n (a0S lt (kas_bin f p k))∧Asc lt (a0S lt (kas_bin f p k)) (k+f)
 | 0,p,k,hp,_,_,a=>⟨hp,a⟩
 | f+1,p,k,hp,h1,hf,a=>by
  have e:a0S lt (kas_bin (f+1) p k)=a0S lt (kas_bin f (bubble p k (k - a0S lt (kas_place p k k 0 k))) (k+1)):=by
   rw [kas_bin,a1U]
  rw [e]
  obtain ⟨x1,x2,x3⟩:=a3O L hn hp (k:=k) (by omega) a k 0 k (by omega) (by omega) (Qk _) (fun i z=>by omega) (fun i z y=>by omega)
  generalize a0S lt (kas_place p k k 0 k)=l at x1 x2 x3 ⊢
  have hs:=hp.size
  have a':Asc lt (bubble p k (k - l)) (k+1):=fun i j hij hj=>by
   rw [a8Z (by omega) x1,a8Z (by omega) x1]
   by_cases i1:i=l
   ·rw [if_pos i1,if_neg (by omega),if_pos (by omega)]
    exact x3 _ (by omega) (by omega)
   ·rw [if_neg i1]
    by_cases i2:l < i∧i≤k
    ·rw [if_pos i2,if_neg (by omega),if_pos (by omega)]
     exact a _ _ (by omega) (by omega)
    ·rw [if_neg i2]
     by_cases j1:j=l
     ·rw [if_pos j1];exact x2 _ (by omega)
     ·rw [if_neg j1]
      by_cases j2:l < j∧j≤k
      ·rw [if_pos j2]
       by_cases q:i=j - 1
       ·omega
       ·exact a _ _ (by omega) (by omega)
      ·rw [if_neg j2];exact a _ _ hij (by omega)
  obtain ⟨y1,y2⟩:=a8Y f _ (k+1) (hp.bub k (k - l)) (by omega) (by omega) a'
  exact ⟨y1,fun i j hij hj=>y2 i j hij (by omega)⟩
theorem a6P:Asc lt (a0S lt (kas_sort n)) n:=by
 unfold kas_sort
 rw [a1U]
 obtain ⟨x1,x2,x3,x4⟩:=a9G L hn (p:=Xu (Xr n)) (Wn.refl _)
 generalize a0S lt (kas_count n (Xu (Xr n)))=r at x1 x2 x3 x4 ⊢
 by_cases c:r.1 < n
 ·rw [if_pos c]
  have hm:max r.1 1=r.1:=by omega
  rw [hm]
  have:=(a8Y L hn (n - r.1) r.2 r.1 x1 x2 (by omega) x4).2
  exact fun i j hij hj=>this i j hij (by omega)
 ·rw [if_neg c]
  exact fun i j hij hj=>x4 i j hij (by omega)
end
theorem b6Y (a b:List Nat) (h:a≠b):a < b∨b < a:=by
 by_cases q:a < b
 ·exact .inl q
 ·have:=List.not_lt.mp q
  rcases List.le_iff_lt_or_eq.mp this with r | r
  ·exact .inr r
  ·exact absurd r.symm h
theorem a8C (x:Int×Str):ltP x x=false:=by simp [ltP]
theorem a6j (x y:Int×Str):ltP x y=true↔x.1 < y.1∨(x.1=y.1∧x.2.cps.toList < y.2.cps.toList):=by
 unfold ltP
 by_cases h1:x.1=y.1
 ·rw [if_pos h1]
  by_cases h2:x.2=y.2
  ·rw [if_pos h2,h2]
   constructor
   ·intro z;cases z
   ·intro z
    rcases z with z | ⟨_,z⟩
    ·omega
    ·exact absurd z (List.lt_irrefl _)
  ·rw [if_neg h2,decide_eq_true_iff]
   constructor
   ·exact fun z=>.inr ⟨h1,z⟩
   ·intro z
    rcases z with z | ⟨_,z⟩
    ·omega
    ·exact z
 ·rw [if_neg h1,decide_eq_true_iff]
  constructor
  ·exact .inl
  ·intro z
   rcases z with z | ⟨z,_⟩
   ·exact z
   ·exact absurd z h1
theorem b2W {x y z:Int×Str} (a:ltP x y=true) (b:ltP y z=true):ltP x z=true:=by
 rw [a6j] at a b ⊢
 rcases a with a | ⟨a,a'⟩<;>rcases b with b | ⟨b,b'⟩
 ·exact .inl (by omega)
 ·exact .inl (by omega)
 ·exact .inl (by omega)
 ·exact .inr ⟨by omega,List.lt_trans a' b'⟩
theorem b0Z {x y:Int×Str} (h:x≠y):ltP x y=true∨ltP y x=true:=by
 rw [a6j,a6j]
 rcases Int.lt_trichotomy x.1 y.1 with q | q | q
 ·exact .inl (.inl q)
 ·have hn:x.2.cps.toList≠y.2.cps.toList:=fun z=>h (by
   obtain ⟨x1,⟨x2⟩⟩:=x
   obtain ⟨y1,⟨y2⟩⟩:=y
   have z':x2=y2:=Vr.mp z
   have q':x1=y1:=q
   rw [z',q'])
  rcases b6Y _ _ hn with r | r
  ·exact .inl (.inr ⟨q,r⟩)
  ·exact .inr (.inr ⟨q.symm,r⟩)
 ·exact .inr (.inl q)
def a5B (K:Qc) (cv:Value):Option Addr:=
 match cv with
 | .ref c=>match K.lookup c with
  | some o=>match o.cls,o.data with
   | .type n,.fields vs=>match (vs[11]?:Option Value),vs.getD 18 .none,vs.getD 7 .none,vs.getD 9 .none,vs.getD 10 .none with
    | some (Value.ref P),Value.str _ _,Value.int _ _,Value.bool _,Value.int _ _=>if (n == "code" && c != P)=true then some P else none
    | _,_,_,_,_=>none
   | _,_=>none
  | none=>none
 | _=>none
theorem a9p {K:Qc} {h:Heap} {cv:Value} {T:Addr} (X:K.In h) (e:a5B K cv=some T):∃c,cv=.ref c∧CodeHd h c T:=by
 unfold a5B at e
 split at e
 ·rename_i c
  split at e
  ·rename_i o ho
   split at e
   ·rename_i n vs hcl hd
    split at e
    ·rename_i P file tf flags tg inF text tt e11 e18 e7 e9 e10
     split at e
     ·rename_i hc
      cases e
      rw [Xh] at hc
      have h1:n="code":=by simpa using hc.1
      have h2:c≠T:=by simpa using hc.2
      refine ⟨c,rfl,o,vs,_,_,_,_,_,_,_,X _ _ ho,by rw [hcl,h1],hd,e11,?_,e18,e7,e9,e10,h2⟩
      have e11':vs.getD 11 Value.none=(vs[11]?).getD Value.none:=by
       by_cases q:11 < vs.size<;>simp [Jh,q]
      rw [e11',e11];rfl
     ·cases e
    ·cases e
   ·cases e
  ·cases e
 ·cases e
def b8S (K:Qc) (bm:Addr):Bool:=bm != builtinsNs && (match K.lookup bm with
 | some o=>(match o.cls,o.dict,o.data with
  | .type t,some d,.plain=>t == "module" && d == builtinsNs
  | _,_,_=>false)
 | none=>false)
structure b9P (K:Qc) (mg:Str→Option Value):Prop where
 ex:∃bm o,mg "__builtins__"=some (.ref bm)∧bm≠builtinsNs∧K.lookup bm=some o∧o.cls=.type "module"∧o.dict=some builtinsNs∧o.data=.plain
theorem b3O {K:Qc} {mg:Str→Option Value} {bm:Addr} (e:mg "__builtins__"=some (.ref bm)) (h:b8S K bm=true):b9P K mg:=by
 unfold b8S at h
 rw [Xh] at h
 obtain ⟨h1,h2⟩:=h
 split at h2
 ·rename_i o ho
  split at h2
  ·rename_i t d e1 e2 e3
   rw [Xh] at h2
   exact ⟨bm,o,e,by simpa using h1,ho,by rw [e1];simpa using h2.1,by rw [e2];simpa using h2.2,e3⟩
  ·cases h2
 ·cases h2
def a2n (H:Hp) (q:Str) (cv:Value):Prop:=∃c' o vs t,cv=.ref c'∧H c'=some (.frz o (.own c'))∧o.data=.fields vs∧vs[1]?=some (.str q t)
def a3V (T:Addr) (q:Str) (H:Hp):Prop:=∃ps,H T=some (.tbl ps)∧TriplesOk ps.toList∧∀pos cv,codeAmong pos ps.toList=some cv→a2n H q cv
abbrev Ex (H H':Hp):Prop:=∀a o,H a=some o→H' a=some o
theorem a3V.start {T:Addr} {q:Str} {H:Hp} (h:H T=some (.tbl #[])):a3V T q H:=⟨#[],h,trivial,fun pos cv e=>by simp [codeAmong] at e⟩
theorem a2n.mono {q:Str} {cv:Value} {H H':Hp} (h:a2n H q cv) (k:Ex H H'):a2n H' q cv:=let ⟨c',o,vs,t,a,b,r⟩:=h;⟨c',o,vs,t,a,k _ _ b,r⟩
theorem a3V.mono {T:Addr} {q:Str} {H H':Hp} (h:a3V T q H) (k:Ex H H'):a3V T q H':=let ⟨ps,a,b,c⟩:=h;⟨ps,k _ _ a,b,fun pos cv e=>(c pos cv e).mono k⟩
theorem a4O {pos:Pos} {a b:Int} {c cv:Value}:∀(l:List Value),TriplesOk l→codeAmong pos (l++[rawInt a,rawInt b,c])=some cv→codeAmong pos l=some cv∨cv=c:=by
 intro l
 fun_induction TriplesOk l with
 | case1=>
  intro _ e
  right
  simp only [Ue,codeAmong,rawInt] at e
  split at e
  ·cases e;rfl
  ·cases e
 | case2 x t y u z a5L ih=>
  intro h e
  simp only [Jf,codeAmong] at e ⊢
  split at e
  ·rename_i hc;rw [if_pos hc];exact .inl e
  ·rename_i hc;rw [if_neg hc];exact ih h e
 | case3 l h1 h2=>intro h _;exact h.elim
section
variable {X:Cx} {pins:List (Addr×Obj)} {σ:St} {H:Hp} {s:Shared}
structure b5Q (X:Cx) (pins:List (Addr×Obj)) (a:Addr):Prop where
 s0:X.s₀.heap.objs.size≤a
 loc:a≠X.env.locals
 cell:∀x c,X.env.cells.lookup x=some c→c≠a
 pin:∀p∈X.pn++pins,p.1≠a
 fs:a∉X.fs
theorem Inv.mine (I:Inv X pins σ H s) {a:Addr} (h:s.heap.objs.size≤a):b5Q X pins a:=
 ⟨Qh I.sz h,Uc (Xc I.lt h),fun x c e z=>by
  obtain ⟨v,q⟩:=I.cell x c e
  exact absurd (Xc q.lt h) (by rw [z];exact Zh _),fun p hp z=>by
  obtain ⟨e,_⟩:=I.pin p hp
  exact absurd (Xc (Qx e) h) (by rw [z];exact Zh _),I.nofs h⟩
theorem Inv.adopt {t':Nat} {a:Addr} {o:HO} {h':Heap} (I:Inv X pins σ H s) (hn:H a=none) (hm:b5Q X pins a) (k:∀b u,b≠a→s.heap.get? b=some u→h'.get? b=some u)
  (new:a1e X.prog X.w (upd H a o) h' a o):Inv X pins σ (upd H a o) {s with heap:=h',toks:=t'}:=by
 have na:∀b u,H b=some u→b≠a:=fun b u e z=>by rw [z,hn] at e;cases e
 refine I.step (g':=s.gens) (d':=s.drawn) (ch:=[a]) (fun b hb=>?_) (fun b o _ _ hc e _=>k b o (fun z=>hc (by simp [z])) e) (fun b o _ _ hc e _=>⟨o.slots,k b o (fun z=>hc (by simp [z])) e⟩)
  (fun b _ hc _ n=>by rw [a0a (fun z=>hc (by simp [z]))];exact n) (fun b o hc e=>⟨o,k b o (fun z=>hc (by simp [z])) e⟩) (fun b _ e=>by rw [a0a (na b _ e)];exact e) (fun b _ _ e=>by rw [a0a (na b _ e)];exact e)
  (fun b ps e=>⟨#[],by rw [a0a (na b _ e),e];simp⟩) (fun m hm'=>?_) (fun b u e=>?_) I.bare
 ·have e:b=a:=by simpa using hb
  subst e
  exact ⟨.inr hm.s0,hm.loc,hm.cell,hm.pin⟩
 ·obtain ⟨ob,es,ep,ho,r⟩:=hm'
  exact ⟨ob,es,ep,k _ ob (Ne.symm hm.loc) ho,r⟩
 ·by_cases hb:b=a
  ·subst hb;rw [a0d] at e;cases e;exact new
  ·rw [a0a hb] at e
   refine (I.hok b u e).stay (fun c v hc q=>k c v ?_ q) (fun c q=>by rw [a0a (na c _ q)];exact q) fun c xs q=>by rw [a0a (na c _ q)];exact q
   rcases hc with z | z
   ·rw [z];exact hb
   ·exact na c _ z
theorem b2d {args:Arguments} {body:Expr} {scope:Scope} {pos:Pos} {Nc:List Str} {js:List (Option Nat)} {T:Addr} {q:Str} {Q:Value→Shared→Prop} (I:Inv X pins σ H s) (hcb:a5B X.K X.env.code=some T) (hbk:b9P X.K X.mg) (ok:a3j X Nc js scope)
  (hq:X.env.qual++"<lambda>"=q) (hdef:defaultsOf args X.env=([],[])) (lt:a3V T q H)
  (h:∀(f:Addr) (pm cv ctv:Value) (H':Hp) (s':Shared),Inv X pins σ H' s'→a3V T q H'→(∀a o,a≠T→H a=some o→H' a=some o)→a2n H' q cv→H' f=none→b5Q X pins f→
   s'.heap.get? f=some {cls:=.type "function",data:=.func (kla_fn "<lambda>" q args body scope (a2c X.env scope.names []) pm cv ctv)}→Q (.ref f) s'):
  wpAny (model X.prog X.w) X.A (eval (.Lambda args body scope pos) X.env) Q X.xe s:=by
 obtain ⟨ps,hT,htr,hcs⟩:=lt
 obtain ⟨c,hcode,C⟩:=a9p I.kIn hcb
 have hP:s.heap.get? T=some (tabObj ps):=I.hok T _ hT
 have hTs:T < s.heap.objs.size:=Qx hP
 have hfr:∀y∈scope.names,y.2=NameKind.free→∃c,X.env.cells.lookup y.1=some c:=fun y hy e=>I.ok.has y.1 (ok.free y hy e)
 have hcl:=a1J hfr
 have hg:s.heap.Ns mainGlobals X.mg:=I.ok.mod.glob.keeps I.bk
 obtain ⟨bm,ob,b1,b2,b3,b4,b5,b6⟩:=hbk.ex
 have hbo:=I.kIn _ _ b3
 have hgP:mainGlobals≠T:=fun z=>by
  obtain ⟨o,es,ep,e,hd,_⟩:=hg
  rw [z,hP] at e;cases e;cases hd
 have hbG:bm≠mainGlobals:=fun z=>by
  obtain ⟨o,es,ep,e,hd,_⟩:=hg
  rw [z,e] at hbo;cases hbo;rw [hd] at b6;cases b6
 have hbT:bm≠T:=fun z=>by rw [z,hP] at hbo;cases hbo;cases b4
 rw [arm_eval_Lambda,hdef]
 refine wpAny_bind (PyProof.Rows.evalAll_nil ?_)
 refine wpAny_bind (wpAny_holding (wpAny_pure ?_))
 rw [hq]
 cases hnf:codeAmong pos ps.toList with
 | none=>
  refine kla_makeFunction (mg:=X.mg) hcl I.ok.glob hg hcode C hP htr hnf hgP ⟨bm,ob,b1,b2,hbG,hbT,hbo,b4,b5,b6⟩ fun c' ctv h' tk hx hge hlt hrec htb=>?_
  obtain ⟨c₂,oc,vs,t,e2,hoc,hd,hv⟩:=hrec
  cases e2
  have hcn:H c'=none:=I.hok.fresh hge
  have hcT:c'≠T:=Uc (Xc hTs hge)
  have nT:∀b u,H b=some u→(∀ps,u≠.tbl ps)→b≠T:=fun b u e n z=>by rw [z,hT] at e;cases e;exact n _ rfl
  have nc:∀b u,H b=some u→b≠c':=fun b u e z=>by rw [z,hcn] at e;cases e
  have hk:∀b o,b≠T→s.heap.get? b=some o→(h'.push (kla_obj "<lambda>" q args body scope (a2c X.env scope.names []) ((X.mg "__name__").getD .none) c' ctv)).get? b=some o:=fun b o hb e=>Ql _ (hx b o hb e)
  have hTn:=Ql (kla_obj "<lambda>" q args body scope (a2c X.env scope.names []) ((X.mg "__name__").getD .none) c' ctv) htb
  have hHT:upd (upd H T (.tbl (ps++#[rawInt pos.line,rawInt pos.col,.ref c']))) c' (.frz oc (.own c')) T=some (.tbl (ps++#[rawInt pos.line,rawInt pos.col,.ref c'])):=by rw [a0a hcT.symm,a0d]
  have hHo:∀b,b≠T→b≠c'→upd (upd H T (.tbl (ps++#[rawInt pos.line,rawInt pos.col,.ref c']))) c' (.frz oc (.own c')) b=H b:=fun b n1 n2=>by rw [a0a n2,a0a n1]
  have hu:Un X.fs [] H (upd (upd H T (.tbl (ps++#[rawInt pos.line,rawInt pos.col,.ref c']))) c' (.frz oc (.own c'))) s.heap (h'.push (kla_obj "<lambda>" q args body scope (a2c X.env scope.names []) ((X.mg "__name__").getD .none) c' ctv)):=by
   have nN:∀b,H b=none→b≠T:=fun b n z=>by rw [z,hT] at n;cases n
   refine ⟨fun b o e n _ _=>hk b o (nN b n) e,fun b o e n _ _=>⟨o.slots,hk b o (nN b n) e⟩,fun b o e n _=>?_,fun b o e _=>?_,fun b xs e=>?_,fun b o u e=>?_,fun b ps' e=>?_⟩
   ·rw [hHo b (nN b n) (Xe (Xc (Qx e) hge))];exact n
   ·by_cases z:b=T
    ·rw [z];exact ⟨_,hTn⟩
    ·exact ⟨o,hk b o z e⟩
   ·rw [hHo b (nT b _ e fun _ z=>by cases z) (nc b _ e)];exact e
   ·rw [hHo b (nT b _ e fun _ z=>by cases z) (nc b _ e)];exact e
   ·by_cases z:b=T
    ·subst z;rw [hT] at e;cases e;exact ⟨_,hHT⟩
    ·exact ⟨#[],by rw [hHo b z (nc b _ e),e];simp⟩
  have hok':HOk X.prog X.w (upd (upd H T (.tbl (ps++#[rawInt pos.line,rawInt pos.col,.ref c']))) c' (.frz oc (.own c'))) (h'.push (kla_obj "<lambda>" q args body scope (a2c X.env scope.names []) ((X.mg "__name__").getD .none) c' ctv)):=fun b u e=>by
   by_cases z1:b=c'
   ·subst z1
    rw [a0d] at e;cases e
    exact ⟨Ql _ hoc,_,Ql _ hoc⟩
   ·by_cases z2:b=T
    ·subst z2;rw [hHT] at e;cases e;exact hTn
    ·rw [hHo b z2 z1] at e
     refine (I.hok b u e).stay (fun d v hd' r=>hk d v ?_ r) (fun d r=>by rw [hHo d (nT d _ r fun _ z=>by cases z) (nc d _ r)];exact r) fun d xs r=>by rw [hHo d (nT d _ r fun _ z=>by cases z) (nc d _ r)];exact r
     rcases hd' with z | z
     ·rw [z];exact z2
     ·exact nT d _ z fun _ y=>by cases y
  have I':=I.un (t':=tk) hu hok'
  have hex:∀a o,a≠T→H a=some o→upd (upd H T (.tbl (ps++#[rawInt pos.line,rawInt pos.col,.ref c']))) c' (.frz oc (.own c')) a=some o:=fun a o n e=>by rw [hHo a n (nc a o e)];exact e
  have hcd:a2n (upd (upd H T (.tbl (ps++#[rawInt pos.line,rawInt pos.col,.ref c']))) c' (.frz oc (.own c'))) q (.ref c'):=⟨c',oc,vs,t,rfl,a0d,hd,hv⟩
  have hfs:s.heap.objs.size≤h'.objs.size:=Qh hge (Vh hlt)
  have hl:(ps++#[rawInt pos.line,rawInt pos.col,Value.ref c']).toList=ps.toList++[rawInt pos.line,rawInt pos.col,.ref c']:=by simp
  refine h h'.objs.size _ (.ref c') ctv _ _ I' ⟨_,hHT,by rw [hl];exact TriplesOk_snoc _ _ _ _ htr,fun p' cv e=>?_⟩ hex hcd ?_ (I.mine hfs) (Xd _ rfl)
  ·rw [hl] at e
   rcases a4O _ htr e with z | z
   ·obtain ⟨d,o,vs',t',z1,z2,z3⟩:=hcs p' cv z
    exact ⟨d,o,vs',t',z1,by rw [hHo d (nT d _ z2 fun _ y=>by cases y) (nc d _ z2)];exact z2,z3⟩
   ·rw [z];exact hcd
  ·rw [hHo _ (Uc (Xc hTs hfs)) (Uc hlt)];exact I.hok.fresh hfs
 | some cv=>
  refine kla_makeFunctionHit (mg:=X.mg) hcl I.ok.glob hg hcode C hP htr hnf ⟨bm,ob,b1,b2,hbG,hbT,hbo,b4,b5,b6⟩ fun ctv h' tk hk hsz=>?_
  exact h h'.objs.size _ cv ctv H _ (I.kept (t':=tk) fun b o e=>Ql _ (hk b o e)) ⟨ps,hT,htr,hcs⟩ (fun a o _ e=>e) (hcs pos cv hnf) (I.hok.fresh hsz) (I.mine hsz) (Xd _ rfl)
def a5F (X:Cx) (Nc:List Str) (scope:Scope) (q:Str) (f:Addr) (cv:Value) (cl:List (Str×Addr)) (A:Around) (s:Shared) (H:Hp):Cx where
 prog:=X.prog
 w:=X.w
 K:=X.K
 mg:=X.mg
 base:=X.base
 A:=A.deeper (newEnv scope s.heap.objs.size mainGlobals cl (q++".<locals>.") (some f) cv none builtinsNs)
 N:=Nc
 s₀:=s
 H₀:=H
 env:=newEnv scope s.heap.objs.size mainGlobals cl (q++".<locals>.") (some f) cv none builtinsNs
 outer:=X.stack
 stack:=newEnv scope s.heap.objs.size mainGlobals cl (q++".<locals>.") (some f) cv none builtinsNs::X.stack
 ex:=[]
 fn:=fun _=>false
 calm:=true
 pn:=[]
 xe:=NoE
theorem b1p {A:Around} {f:Addr} {pm cv ctv:Value} {q:Str} {args:Arguments} {body:Expr} {scope:Scope} {x:Str} {Nr:List Str} {js:List (Option Nat)} {v:V} {u:Value} {tb:TE} {Q:VK} {E:Value→Shared→Prop} {k:Nat}
  (I:Inv X pins σ H s) (hr:a2h k A) (hA:A.frames=some X.stack) (ok:a3j X (x::Nr) (none::js) scope) (hx:scope.names.lookup x=some .local) (hco:scope.isCoroutine=false) (hgen:scope.isGenerator=false)
  (hb:∀(q:Str) (cl:List (Str×Addr)) (pm cv ctv u:Value),bindArgs (kla_fn "<lambda>" q args body scope cl pm cv ctv) ⟨[u],[]⟩=pure [(x,u)])
  (ho:s.heap.get? f=some {cls:=.type "function",data:=.func (kla_fn "<lambda>" q args body scope (a2c X.env scope.names []) pm cv ctv)}) (hc:a2n H q cv) (rv:a0N v u)
  (he:PE (a5F X (x::Nr) scope q f cv (a2c X.env scope.names []) A s H) body tb) (h:tb (some v::a1r js σ) H Q):
  wpAny (model X.prog X.w) A (call (.ref f) [u]) (EP X pins σ Q) E s:=by
 have hfr:∀y∈scope.names,y.2=NameKind.free→∃c,X.env.cells.lookup y.1=some c:=fun y hy e=>I.ok.has y.1 (ok.free y hy e)
 have hlook:∀x c,(a2c X.env scope.names []).lookup x=some c→X.env.cells.lookup x=some c:=fun x c e=>a3w hfr (fun y d q=>by simp at q) e
 obtain ⟨c',oc,vs,t,rfl,hcc,hd,hv⟩:=hc
 have hrec:s.heap.CodeRec (.ref c') q:=⟨c',oc,vs,t,rfl,(I.hok c' _ hcc).1,hd,hv⟩
 refine wpAny_call (kla_callFunE hr.depth ho rfl hco hgen rfl hrec ?_)
 rw [hb]
 refine wpAny_pure ?_
 refine wpAny_newFunctionEnv ok.nocell (fun y hy=>by rw [Qz.mp hy];exact hx) (fun h₁ hns hsb=>?_) ok.kind
 have old:∀b o,s.heap.get? b=some o→h₁.get? b=some o:=fun b o e=>hsb.extBut b o (Xe (Qx e)) (Ql _ e)
 refine ⟨I.nolimit.keeps old,kla_codeExpr ?_⟩
 have okc:(a5F X (x::Nr) scope q f (.ref c') (a2c X.env scope.names []) A s H).Ok:=by
  have noA:∀b:Addr,b∉(a5F X (x::Nr) scope q f (.ref c') (a2c X.env scope.names []) A s H).ex:=fun b z=>absurd (show b∈([]:List Addr) from z) (by simp)
  refine ⟨I.ok.mod,ok.kind,rfl,rfl,Qk _,fun y z c e1 e2=>I.ok.inj y z c (hlook y c e1) (hlook z c e2),fun y hy=>?_,fun y c z _=>absurd z Qu,fun _=>hr.hd,Around.frames_deeper hA,.inr ⟨rfl,rfl⟩,fun b z=>absurd z (noA b),
   I.bs,Qh I.ok.bsz I.sz,fun b _ _=>noA b,fun b z=>absurd z (noA b),I.stack,I.stkFree⟩
  have hy':scope.names.lookup y=some .cell∨scope.names.lookup y=some .free:=hy
  rcases hy' with z | z
  ·exact absurd rfl (ok.nocell _ (PySem.mem_of_lookup z))
  ·exact a2K (.inl (PySem.mem_of_lookup z))
 have Ic:Inv (a5F X (x::Nr) scope q f (.ref c') (a2c X.env scope.names []) A s H) [] (some v::a1r js σ) H {s with heap:=h₁,toks:=s.toks+[(x,u)].length}:=by
  refine ⟨okc,rfl,I.bare,Un.kept old,⟨_,hns,fun i y z e1 e2 e3=>?_⟩,fun y c e=>?_,I.hok.fresh (Qk _),fun y c e=>I.freeC y c (hlook y c e),fun p hp=>absurd (show p∈([]:List (Addr×Obj)) from hp) (by simp),I.hok.kept old,?_⟩
  ·cases i with
   | zero=>
    have e1':x=y:=by simpa [a5F] using e1
    have e2':v=z:=by simpa using e2
    subst e1';subst e2'
    exact ⟨u,rv,.inl ⟨hx,by simp⟩⟩
   | succ i=>
    have e1':(x::Nr)[i+1]?=some y:=e1
    rw [Qb] at e2
    unfold a1r at e2
    rw [Qo] at e2
    cases ej:js[i]? with
    | none=>rw [ej] at e2;simp at e2
    | some oj=>
     rw [ej] at e2
     cases oj with
     | none=>simp at e2
     | some j=>
      have e2':(σ[j]?).getD none=some z:=by simpa using e2
      have e2'':σ[j]?=some (some z):=by
       cases q:σ[j]? with
       | none=>rw [q] at e2';simp at e2'
       | some z'=>rw [q] at e2';simp at e2';rw [e2']
      obtain ⟨hN,hF⟩:=ok.map (i+1) y j e1' (by rw [Qb];exact ej)
      have hmem:(y,NameKind.free)∈scope.names:=PySem.mem_of_lookup hF
      have hkX:=ok.free _ hmem rfl
      obtain ⟨m,hn,hl⟩:=I.loc
      have hvis:Vis X.env.scope y:=by
       rcases hkX with z | z
       ·exact .inr (.inl z)
       ·exact .inr (.inr z)
      obtain ⟨u',ru,lk⟩:=hl j y z hN e2'' hvis
      refine ⟨u',ru,.inr ?_⟩
      rcases lk with ⟨k1,_⟩ | ⟨_,c,ec,ic⟩
      ·have k1':X.env.kindOf y=some NameKind.local:=k1
       rcases hkX with z | z
       ·rw [z] at k1';cases k1'
       ·rw [z] at k1';cases k1'
      ·obtain ⟨c2,hc2⟩:=a2K (env:=X.env) (l:=scope.names) (cs:=[]) (x:=y) (.inl hmem)
       have e':=hlook y c2 hc2
       rw [ec] at e'
       cases e'
       exact ⟨.inr hF,c,hc2,ic.keeps old⟩
  ·obtain ⟨z,r⟩:=I.cell y c (hlook y c e)
   exact ⟨z,r.keeps old⟩
  ·show (some v::a1r js σ).length=(x::Nr).length
   have:=ok.len
   unfold a1r
   rw [Qs,Qd]
   simpa using this
 refine wpAny_mono (he [] _ _ H Q Ic h) (fun u' s' hs=>?_) fun e s' hs=>hs.elim
 obtain ⟨v',H',J,rv',hq⟩:=hs
 exact ⟨v',H',I.call' (ch:=[]) J.os J.base J.hok J.bare (fun b z=>absurd z (by simp)),rv',hq⟩
end
theorem a4s:∀{ps:List Addr} {its:List Value},a0H (ps.map V.ref) its→its=ps.map Value.ref
 | [],_,.nil=>rfl
 | p::ps,_,.cons h r=>by
  have e:_=Value.ref p:=h
  rw [e,a4s r];rfl
theorem a5V:∀(ps:List Addr),a0H (ps.map V.ref) (ps.map Value.ref)
 | []=>.nil
 | p::ps=>.cons rfl (a5V ps)
theorem a3t {ss:List Str} {i:Nat} {z:Str} (e:ss[i]?=some z):ss.getD i ""=z:=by rw [Xj,e];rfl
theorem a7N (ss:List Str):(Xr ss.length).map (fun i=>ss.getD i "")=ss:=by
 refine Vp (by simp) fun i h1 h2=>?_
 simp [h2]
def ltG (g:Str→Int) (x y:Str):Bool:=ltP (g x,x) (g y,y)
theorem b7c {ss:List Str} (g:Str→Int) (nd:ss.Nodup):b9M (fun i j=>ltG g (ss.getD i "") (ss.getD j "")) ss.length where
 irr:=fun i _=>a8C _
 tr:=fun i j k _ _ _ a b=>b2W a b
 tot:=fun i j hi hj e=>by
  refine b0Z fun z=>?_
  have z2:ss.getD i ""=ss.getD j "":=congrArg Prod.snd z
  rw [a3t (Qe hi),a3t (Qe hj)] at z2
  exact e ((Zt nd).mp z2)
theorem a7o {lt:Nat→Nat→Bool} {p:Array Nat} {n:Nat} (hs:p.size=n) (a:Asc lt p n):p.toList.Pairwise (fun i j=>lt i j=true):=by
 rw [Ve]
 intro i j hi hj hij
 have hi':i < p.size:=by simpa using hi
 have hj':j < p.size:=by simpa using hj
 have:=a i j hij (by omega)
 have e1:p.getD i 0=p[i]:=by simp [Jh,hi']
 have e2:p.getD j 0=p[j]:=by simp [Jh,hj']
 rw [e1,e2] at this
 simpa using this
section
variable {X:Cx} {pins:List (Addr×Obj)} {σ:St} {H:Hp} {s:Shared} {A:Around} {E:Value→Shared→Prop} {a kS:Addr} {e1:Nat} {P:PySem.Fin→Shared→Prop}
theorem a4e {st:SortSt} {out:List Value} {ss':List Str} {xs:List V} (I:Inv X ((a,seqObj "list" #[] e1)::pins) σ H s) (hm:b5Q X pins a) (hk:H kS=some (.lst xs)) (hxs:xs.length < 64)
  (hf:failedOf st=none) (ho:(arrOf st).map (·.2)=Xu out) (rv:a0H (ss'.map V.str) out) (h64:ss'.length < 64)
  (h:∀H' s',Inv X pins σ H' s'→H' a=some (.lst (ss'.map V.str))→(∀b o,b≠kS→H b=some o→H' b=some o)→P (.done (.ret .none)) s'):
  wpAny (model X.prog X.w) A (ksk_tail a false e1 (.ref kS) st) P E s:=by
 obtain ⟨_,its,n,rk,hko⟩:=I.hok kS _ hk
 have hpa:=I.pin (a,seqObj "list" #[] e1) (Qt _ Qn)
 have hka:kS≠a:=fun z=>by rw [z,hpa.2.1] at hk;cases hk
 have hil:=rk.length
 have hol:out.length=ss'.length:=by have:=rv.length;simpa using this.symm
 obtain ⟨e2,hk2⟩:∃e2,(s.heap.update kS (Obj.mapSeq fun _=>(#[]:Array Value))).get? kS=some (seqObj "list" #[] e2):=⟨_,get?_update_seq hko fun _=>#[]⟩
 have I1:=I.write (x:=kS) (e:=kS) (o:=.lst []) (t':=s.toks) (h':=s.heap.update kS (Obj.mapSeq fun _=>(#[]:Array Value))) (by rw [hk];trivial) (.inl rfl) (fun b u hb e=>by rw [Zi _ _ _ _ hb];exact e) ⟨_,hk2⟩ ⟨Xm _,[],e2,.nil,hk2⟩
 have hpa1:=I1.pin (a,seqObj "list" #[] e1) (Qt _ Qn)
 obtain ⟨e3,ha3⟩:∃e3,((s.heap.update kS (Obj.mapSeq fun _=>(#[]:Array Value))).update a (Obj.mapSeq fun _=>Xu out)).get? a=some (seqObj "list" (Xu out) e3):=⟨_,get?_update_seq hpa1.1 fun _=>Xu out⟩
 have I2:=(I1.pins_of (pins':=pins) (fun p hp=>I1.pin p (Qt _ (Qp _ hp)))).adopt (a:=a) (o:=.lst (ss'.map V.str)) (t':=s.toks) (h':=(s.heap.update kS (Obj.mapSeq fun _=>(#[]:Array Value))).update a (Obj.mapSeq fun _=>Xu out)) hpa1.2.1 hm
  (fun b u hb e=>by rw [Zi _ _ _ _ hb];exact e) ⟨by rw [Qd,sizeLine_eq];omega,out,e3,rv,ha3⟩
 unfold ksk_tail
 simp only [Zc,if_false,ho]
 refine wpAny_bind (listUpdate_at hko rfl ?_ (by rw [Qm,sizeLine_eq];omega) (Xm _))
 refine wpAny_bind (wpAny_letGo ?_)
 refine wpAny_bind (seqEpoch_at hpa1.1 rfl ?_)
 refine wpAny_bind (listUpdate_at hpa1.1 rfl ?_ (Xm _) (by rw [Qm,sizeLine_eq];omega))
 rw [hf]
 simp only [bne_self_eq_false,Zc,if_false]
 refine wpAny_pure (h _ _ I2 a0d fun b o hb e=>?_)
 rw [a0a (fun z=>by rw [z,hpa.2.1] at e;cases e),a0a hb]
 exact e
theorem b0Y {ps:List Addr} {its:List Value} {ss:List Str} {g:Str→Int} (I:Inv X ((a,seqObj "list" #[] e1)::pins) σ H s) (hm:b5Q X pins a) (hk:H kS=some (.lst (ps.map V.ref))) (hl:ps.length=ss.length) (h64:ss.length < 64) (nd:ss.Nodup)
  (rv:a0H (ss.map V.str) its) (hp:∀(j:Nat) z p,ss[j]?=some z→ps[j]?=some p→H p=some (.tup [.int (g z),.str z]))
  (h:∀(H':Hp) (s':Shared) (ss':List Str),Inv X pins σ H' s'→H' a=some (.lst (ss'.map V.str))→(∀b o,b≠kS→H b=some o→H' b=some o)→ss'.Perm ss→ss'.Pairwise (fun x y=>ltG g x y=true)→P (.done (.ret .none)) s'):
  wpAny (model X.prog X.w) A (ksk_end a false its.toArray e1 (.ref kS) (Xu (ps.map Value.ref))) P E s:=by
 have hn:its.length=ss.length:=by have:=rv.length;simpa using this.symm
 have hkl:(ps.map Value.ref).length=its.length:=by rw [Qd];omega
 unfold ksk_end
 simp only [Zc,if_false]
 by_cases h2:its.toArray.size < 2
 ·rw [if_pos h2,if_pos h2]
  refine wpAny_bind (wpAny_pure ?_)
  rw [StateT.run_pure]
  refine wpAny_bind (wpAny_pure ?_)
  dsimp only
  rw [Qm] at h2
  have hz:(arrOf (SortSt.mk' general' ((Xu (ps.map Value.ref)).zip its.toArray) #[] 7 none)).map (·.2)=Xu its:=by
   show ((Xu (ps.map Value.ref)).zip its.toArray).map (·.2)=Xu its
   apply Vr.mp
   simp only [Array.toList_map,Array.toList_zip]
   exact List.map_snd_zip (by omega)
  refine a4e (out:=its) (ss':=ss) I hm hk (by rw [Qd];omega) rfl hz rv h64 fun H' s' i1 i2 i3=>h H' s' ss i1 i2 i3 (List.Perm.refl _) ?_
  match ss,(show ss.length < 2 by omega) with
  | [],_=>exact Wp.nil
  | [z],_=>simp
  | _::_::_,q=>exact absurd q (by simp)
 ·rw [if_neg h2,if_neg h2]
  rw [Qm] at h2
  have h2':2≤its.length:=by omega
  have hget:∀i,i < its.length→∃z p,ss[i]?=some z∧ps[i]?=some p∧H p=some (.tup [.int (g z),.str z]):=fun i hi=>by
   have e1:=Qe (show i < ss.length by omega)
   have e2:=Qe (show i < ps.length by omega)
   exact ⟨_,_,e1,e2,hp i _ _ e1 e2⟩
  have hat:∀i,i < its.length→∃b o n t t',(ps.map Value.ref).getD i Value.none=.ref b∧s.heap.get? b=some o∧o.data=.seq #[.int (g (ss.getD i "")) t,.str (ss.getD i "") t'] n:=fun i hi=>by
   obtain ⟨z,p,e1,e2,e3⟩:=hget i hi
   obtain ⟨o,n,t,t',f1,f2,f3⟩:=a9Y (I.hok _ _ e3)
   rw [a3t e1]
   exact ⟨p,o,n,t,t',by rw [Xj,Qo,e2];rfl,f1,f3⟩
  obtain ⟨fs,g1,g2,g3⟩:=a6c (h':=s.heap) (fun b o e=>I.hok b o e) (fun _ _ e=>e) (a5V ps) (fun v hv=>by
   obtain ⟨p,hp1,rfl⟩:=Qf.mp hv
   obtain ⟨i,hi,rfl⟩:=Jm hp1
   obtain ⟨z,p,e1,e2,e3⟩:=hget i (by omega)
   rw [Qe hi] at e2
   cases e2
   exact ⟨_,_,_,rfl,e3⟩)
  refine wpAny_bind (kat_kind (T:=.type "int") g1 (by omega) (fun v hv=>by obtain ⟨i,t,rfl⟩:=g3 v hv;exact .now) (by decide) ?_)
  have hok:=b0U (n:=its.length) (by omega)
  have L:=b7c g nd
  rw [←hn] at L
  refine wpAny_bind (wpAny_mono (kat_run (ks:=ps.map Value.ref) (vs:=its) (κ:=tuples' true) (Q:=fun st' s'=>∃p:Array Nat,p.size=its.length∧arrOf st'=p.map (kas_item ((ps.map Value.ref).toArray.zip its.toArray))∧failedOf st'=none∧p=a0S (fun i j=>ltG g (ss.getD i "") (ss.getD j "")) (kas_sort its.length)∧s'=s)
   (G:=fun p s'=>p=a0S (fun i j=>ltG g (ss.getD i "") (ss.getD j "")) (kas_sort its.length)∧s'=s)
   hkl h2' (by omega) (fun p' st' s' a1 a2 a3 a4=>⟨p',a1,a2,a3,a4.1,a4.2⟩) (TOk.wp (lt:=fun i j=>ltG g (ss.getD i "") (ss.getD j "")) (fun i j C hi hj hC=>?ask) hok ⟨rfl,rfl⟩)) ?_ fun _ _ e=>e)
  case ask=>
   obtain ⟨b,oa,na,ta,ta',ea,ha,da⟩:=hat i hi
   obtain ⟨c,ob,nb,tb,tb',eb,hb,db⟩:=hat j hj
   unfold kas_ask
   rw [ea,eb]
   refine kat_lt ha da hb db ?_
   have hC':C (ltP (g (ss.getD i ""),ss.getD i "") (g (ss.getD j ""),ss.getD j "")) s:=hC
   generalize hx:(g (ss.getD i ""),ss.getD i "")=x at hC'
   generalize hy:(g (ss.getD j ""),ss.getD j "")=y at hC'
   have hx1:g (ss.getD i "")=x.1:=by rw [←hx]
   have hx2:ss.getD i ""=x.2:=by rw [←hx]
   have hy1:g (ss.getD j "")=y.1:=by rw [←hy]
   have hy2:ss.getD j ""=y.2:=by rw [←hy]
   unfold ltP at hC'
   show KatLex _ _ _ _ _ _ [(.int (g (ss.getD i "")) ta,.int (g (ss.getD j "")) tb),(.str (ss.getD i "") ta',.str (ss.getD j "") tb')] 0 _
   rw [hx1,hy1,hx2,hy2]
   refine kat_cons (wpAny_eqBool_int ?_)
   by_cases h1:x.1=y.1
   ·rw [show (x.1 == y.1)=true from by rw [h1];exact beq_self_eq_true _]
    rw [if_pos h1] at hC'
    refine kat_yes (kat_cons (wpAny_eqBool_str ?_))
    by_cases h2:x.2=y.2
    ·rw [decide_eq_true h2]
     rw [if_pos h2] at hC'
     exact kat_yes (kat_nil (by simpa using hC'))
    ·rw [decide_eq_false h2]
     rw [if_neg h2] at hC'
     refine kat_no ?_
     show wpAny _ _ (oneLt' (true && (0+1) == 0) _ _) _ _ _
     rw [show (true && (0+1) == 0)=false from rfl]
     exact kat_one _ _ (PySem.P.lt_str hC')
   ·rw [show (x.1 == y.1)=false from beq_eq_false_iff_ne.mpr h1]
    rw [if_neg h1] at hC'
    refine kat_no ?_
    exact oneLt_int hC'
  rintro ⟨⟨⟩,st'⟩ s' ⟨p,hpz,har,hf,hpe,rfl⟩
  dsimp only
  have hP:a0z its.length p:=by rw [hpe];exact hok.run
  have hA:=a6P L (by omega)
  rw [←hpe] at hA
  have hpl:∀i∈p.toList,i < ss.length:=fun i hi=>by
   have:=hP.list.mem_iff.mp hi
   rw [Zs] at this;omega
  have hv:=a3u rv p.toList (fun i hi=>by rw [Qd];exact hpl i hi)
  have hem:(p.toList.map fun i=>(ss.map V.str).getD i .non)=(p.toList.map fun i=>ss.getD i "").map V.str:=by
   rw [Qy]
   refine Uk fun i hi=>?_
   have e:=Qe (hpl i hi)
   show (ss.map V.str).getD i .non=V.str (ss.getD i "")
   rw [a3t e,Xj,Qo,e];rfl
  rw [hem] at hv
  have hplen:p.toList.length=ss.length:=by rw [hP.list.length_eq,Zf];exact hn
  refine a4e (out:=p.toList.map fun i=>its.getD i Value.none) (ss':=p.toList.map fun i=>ss.getD i "") I hm hk (by rw [Qd];omega) hf (kat_snds hkl har) hv (by rw [Qd];omega) fun H' s' i1 i2 i3=>h H' s' _ i1 i2 i3 ?_ ?_
  ·have h1:=hP.list.map fun i=>ss.getD i ""
   rw [hn,a7N] at h1
   exact h1
  ·rw [Vc]
   exact a7o hpz hA
theorem a7J {f:Addr} {pm cv ctv:Value} {q:Str} {args:Arguments} {body:Expr} {scope:Scope} {x:Str} {Nr:List Str} {js:List (Option Nat)} {tb:TE} {k:Nat} {its:List Value} {n:Nat} {ss:List Str} {g:Str→Int}
  (I:Inv X pins σ H s) (hr:a2h k A) (hA:A.frames=some X.stack) (ok:a3j X (x::Nr) (none::js) scope) (hx:scope.names.lookup x=some .local) (hco:scope.isCoroutine=false) (hgen:scope.isGenerator=false)
  (hb:∀(q:Str) (cl:List (Str×Addr)) (pm cv ctv u:Value),bindArgs (kla_fn "<lambda>" q args body scope cl pm cv ctv) ⟨[u],[]⟩=pure [(x,u)])
  (hf:(f,({cls:=.type "function",data:=.func (kla_fn "<lambda>" q args body scope (a2c X.env scope.names []) pm cv ctv)}:Obj))∈pins) (hc:a2n H q cv)
  (he:∀s H,PE (a5F X (x::Nr) scope q f cv (a2c X.env scope.names []) A s H) body tb)
  (ha:s.heap.get? a=some (seqObj "list" its.toArray n)) (hna:H a=none) (hm:b5Q X pins a) (rv:a0H (ss.map V.str) its) (h64:ss.length < 64) (nd:ss.Nodup)
  (hask:∀z∈ss,∀H2,Ex H H2→tb (some (.str z)::a1r js σ) H2 fun v H3=>∃p,v=.ref p∧H3 p=some (.tup [.int (g z),.str z])∧Ex H2 H3)
  (h:∀(H':Hp) (s':Shared) (ss':List Str),Inv X pins σ H' s'→H' a=some (.lst (ss'.map V.str))→Ex H H'→ss'.Perm ss→ss'.Pairwise (fun x y=>ltG g x y=true)→P (.done (.ret .none)) s'):
  wpAny (model X.prog X.w) A (ksk_tree a (.ref f) false) P E s:=by
 have hn:its.length=ss.length:=by have:=rv.length;simpa using this.symm
 obtain ⟨e1,ho1⟩:∃e1,(s.heap.update a (Obj.mapSeq fun _=>(#[]:Array Value))).get? a=some (seqObj "list" #[] e1):=⟨_,get?_update_seq ha fun _=>#[]⟩
 have I1:Inv X pins σ H {s with heap:=s.heap.update a (Obj.mapSeq fun _=>(#[]:Array Value)),toks:=s.toks}:=
  I.turned (fun b o hb e=>by rw [Zi _ _ _ _ hb];exact e) hna hm.loc (.inr hm.s0) hm.cell hm.pin
 have I2:=I1.kept (t':=s.toks) (h':=(s.heap.update a (Obj.mapSeq fun _=>(#[]:Array Value))).push {cls:=.type "tuple",data:=.seq its.toArray.toList.toArray}) fun b o e=>Ql _ e
 have hS:=I2.hok.fresh (Qk _)
 have I3:=I2.laid (t':=s.toks) (a:=((s.heap.update a (Obj.mapSeq fun _=>(#[]:Array Value))).push {cls:=.type "tuple",data:=.seq its.toArray.toList.toArray}).objs.size) (o:=.lst [])
  (h':=((s.heap.update a (Obj.mapSeq fun _=>(#[]:Array Value))).push {cls:=.type "tuple",data:=.seq its.toArray.toList.toArray}).push {cls:=.type "list",data:=.seq ([]:List Value).toArray}) (fun b o e=>Ql _ e) (Qk _)
  ⟨Xm _,[],0,.nil,Xd _ rfl⟩
 have ho3:=Ql ({cls:=.type "list",data:=.seq ([]:List Value).toArray}:Obj) (Ql ({cls:=.type "tuple",data:=.seq its.toArray.toList.toArray}:Obj) ho1)
 generalize hkS:((s.heap.update a (Obj.mapSeq fun _=>(#[]:Array Value))).push {cls:=.type "tuple",data:=.seq its.toArray.toList.toArray}).objs.size=kS at I3 hS
 have hka:a≠kS:=by rw [←hkS];exact Xe (Qx (Ql _ ho1))
 have hSn:H kS=none:=hS
 have I4:=I3.pins_of (pins':=(a,seqObj "list" #[] e1)::pins) (fun p hp=>by
  rcases Qw.mp hp with z | z
  ·subst z
   exact ⟨ho3,by rw [a0a hka];exact hna,hm.loc,hm.fs,fun v z=>by cases z⟩
  ·exact I3.pin p (Qt _ z))
 have ex4:Ex H (upd H kS (.lst [])):=fun b o e=>by rw [a0a (fun z=>by rw [z,hSn] at e;cases e)];exact e
 unfold ksk_tree
 refine wpAny_bind (listItems_at ha rfl ?_)
 refine wpAny_bind (listUpdate_at ha rfl ?_ (by rw [Qm,sizeLine_eq];omega) (Xm _))
 refine wpAny_bind (seqEpoch_at ho1 rfl ?_)
 refine wpAny_bind (wpAny_newTuple ?_ (by show its.length≤_;rw [sizeLine_eq];omega))
 refine wpAny_bind (wpAny_newList ?_ (Xm _))
 refine wpAny_holding ?_
 show wpAny (model X.prog X.w) A (ksk_rest a (.ref f) false its.toArray e1 (.ref ((s.heap.update a (Obj.mapSeq fun _=>(#[]:Array Value))).push {cls:=.type "tuple",data:=.seq its.toArray.toList.toArray}).objs.size)) P E _
 rw [hkS]
 unfold ksk_rest
 refine wpAny_bind (wpAny_rule ?_)
 rw [List.forIn_toArray]
 refine wpAny_bind (ksk_fold (fun i s'=>∃H' ps,Inv X ((a,seqObj "list" #[] e1)::pins) σ H' s'∧Ex H H'∧H' kS=some (.lst (ps.map V.ref))∧ps.length=i∧∀(j:Nat) z p,ss[j]?=some z→ps[j]?=some p→H' p=some (.tup [.int (g z),.str z])) its 0 _
  ⟨_,[],I4,ex4,a0d,rfl,fun j z p _ e=>by simp at e⟩ ?step ?done)
 case step=>
  rintro j u s' hu ⟨H',ps,I',ex',hk',hl',hp'⟩
  rw [Nat.zero_add] at hl' ⊢
  have hj:j < its.length:=(Qr.mp hu).1
  have ez:=Qe (show j < ss.length by omega)
  obtain ⟨u2,hu2,ru⟩:=rv.get (i:=j) (x:=V.str (ss[j]'(by omega))) (by rw [Qo,ez];rfl)
  rw [hu] at hu2
  cases hu2
  have hfo:=(I'.pin _ (Qt _ (Qp _ hf))).1
  refine wpAny_bind (wpAny_attempt (wpAny_mono (b1p (E:=fun _ _=>False) I' hr hA ok hx hco hgen hb hfo (hc.mono ex') ru (he s' H') (hask _ (Xi _) H' ex')) (fun v s'' hv=>?_) fun _ _ z=>z.elim))
  obtain ⟨v',H2,J,rw',p,rfl,hpt,ex2⟩:=hv
  cases rw'
  dsimp only
  have hk2:=ex2 _ _ hk'
  obtain ⟨_,its',n',rk,hko⟩:=J.hok kS _ hk2
  have hil:=rk.length
  rw [Qd] at hil
  obtain ⟨c2,hc2⟩:∃c2,(s''.heap.update kS (Obj.mapSeq (·.push (Value.ref p)))).get? kS=some (seqObj "list" (its'.toArray.push (Value.ref p)) c2):=⟨_,get?_update_seq hko (·.push (Value.ref p))⟩
  have epush:its'.toArray.push (Value.ref p)=(its'++[Value.ref p]).toArray:=by simp
  rw [epush] at hc2
  have emap:(ps++[p]).map V.ref=ps.map V.ref++[V.ref p]:=by simp
  have J2:=J.write (x:=kS) (e:=kS) (o:=.lst ((ps++[p]).map V.ref)) (t':=s''.toks) (h':=s''.heap.update kS (Obj.mapSeq (·.push (Value.ref p)))) (by rw [hk2];trivial) (.inl rfl) (fun b u hb e=>by rw [Zi _ _ _ _ hb];exact e) ⟨_,hc2⟩
   ⟨by rw [Qd,Xn,sizeLine_eq];simp only [Qs,Xk];omega,its'++[Value.ref p],c2,by rw [emap];exact rk.append (.cons rfl .nil),hc2⟩
  have hkp:kS≠p:=fun z=>by rw [z,hpt] at hk2;cases hk2
  refine wpAny_bind (listUpdate_at hko rfl ?_ (by rw [Qm,sizeLine_eq];omega) (by rw [Array.size_push,Qm,sizeLine_eq];omega))
  refine wpAny_pure ⟨rfl,_,ps++[p],J2,fun b o e=>?_,a0d,by rw [Xn,hl'];rfl,fun i z p1 ez1 ep1=>?_⟩
  ·by_cases hb1:b=kS
   ·rw [hb1,hSn] at e;cases e
   ·rw [a0a hb1];exact ex2 _ _ (ex' _ _ e)
  ·by_cases hi:i < ps.length
   ·rw [Yi hi] at ep1
    have e9:=ex2 _ _ (hp' i z p1 ez1 ep1)
    rw [a0a (fun y=>by rw [y,hk2] at e9;cases e9)]
    exact e9
   ·have hi2:i=ps.length:=by
     have h8:i < (ps++[p]).length:=(Qr.mp ep1).1
     rw [Xn] at h8
     simp only [Qs,Xk] at h8
     omega
    subst hi2
    rw [Yg (Qk _)] at ep1
    simp only [Vo,Qa,Option.some.injEq] at ep1
    subst ep1
    rw [a0a (Ne.symm hkp)]
    rw [hl',ez] at ez1
    cases ez1
    exact hpt
 case done=>
  rintro s' ⟨H',ps,I',ex',hk',hl',hp'⟩
  rw [Nat.zero_add] at hl'
  obtain ⟨_,its',n',rk,hko⟩:=I'.hok kS _ hk'
  have er:=a4s rk
  refine wpAny_bind (listItems_at hko rfl ?_)
  rw [er]
  refine b0Y I' hm hk' (by omega) h64 nd rv hp' fun H2 s2 ss' i1 i2 i3 i4 i5=>h H2 s2 ss' i1 i2 (fun b o e=>i3 b o (fun z=>by rw [z,hSn] at e;cases e) (ex' b o e)) i4 i5
end
def b9u (T:Addr) (q:Str) (js:List (Option Nat)) (tb:TE) (σ:St) (Q:VK) (y:V) (H1:Hp):Prop:=∃(p:Addr) (kvs:List (Key×V)) (ss:List Str) (g:Str→Int),y=.ref p∧H1 p=some (.dK kvs)∧kvs.map (·.1)=ss.map Sum.inr∧ss.length < 64∧ss.Nodup∧a3V T q H1∧
 (∀z∈ss,∀H2,(∀a o,a≠T→H1 a=some o→H2 a=some o)→tb (some (.str z)::a1r js σ) H2 fun v H3=>∃p,v=.ref p∧H3 p=some (.tup [.int (g z),.str z])∧Ex H2 H3)∧
 ∀(l:Addr) (H':Hp) (ss':List Str),a3V T q H'→(∀a o,a≠T→H1 a=some o→H' a=some o)→H1 l=none→H' l=some (.lst (ss'.map V.str))→ss'.Perm ss→ss'.Pairwise (fun x y=>ltG g x y=true)→Q (.ref l) H'
def b3D (T:Addr) (q:Str) (js:List (Option Nat)) (te tb:TE):TE:=fun σ H Q=>te σ H (b9u T q js tb σ Q)
theorem b1R {X:Cx} {e:Expr} {te tb:TE} {args:Arguments} {body:Expr} {scope:Scope} {x y:Str} {p pos lpos kp:Pos} {Nr:List Str} {js:List (Option Nat)} {T:Addr} {q:Str} {k:Nat} (hy:y="sorted") (hc:X.calm=true) (hr:a2h (k+3) X.A) (hg:Gl X y) (hm:X.mg y=none)
  (hcb:a5B X.K X.env.code=some T) (hbk:b9P X.K X.mg) (ha:PE X e te) (ok:a3j X (x::Nr) (none::js) scope) (hx:scope.names.lookup x=some .local) (hco:scope.isCoroutine=false) (hgen:scope.isGenerator=false)
  (hb:∀(q:Str) (cl:List (Str×Addr)) (pm cv ctv u:Value),bindArgs (kla_fn "<lambda>" q args body scope cl pm cv ctv) ⟨[u],[]⟩=pure [(x,u)]) (hq:X.env.qual++"<lambda>"=q) (hdef:defaultsOf args X.env=([],[]))
  (he:∀f cv cl A s H,a2h k (a5F X (x::Nr) scope q f cv cl A s H).A→PE (a5F X (x::Nr) scope q f cv cl A s H) body tb) (hst:starEach [e] X.env=(false,eval e X.env)::starEach [] X.env:=by rfl):
  PE X (.Call (.Name y p) [e] [⟨some "key",.Lambda args body scope lpos,kp⟩] pos) (b3D T q js te tb):=by
 subst hy
 intro pins s σ H Q I h
 refine wpAny_Call_Name_kw (a4n I hg hm a1N ?_ (by decide) (by decide))
 refine callWith_kw (thn (a9m ha b3B hst pos pins s σ H (fun vs H1=>match vs with | [y]=>b9u T q js tb σ Q y H1 | _=>False) I h) fun us s1 ⟨vs,H1,I1,r1,q1⟩=>?_) (by rw [hst];rfl) (by rw [hst];rfl)
 match vs,q1,r1 with
 | [],q1,_=>exact q1.elim
 | _::_::_,q1,_=>exact q1.elim
 | [y],q1,r1=>
 obtain ⟨p,kvs,ss,g,rfl,hp,hks,h64,nd,lt1,hask,qq⟩:=q1
 obtain ⟨u,rfl,ru⟩:=a2V r1
 cases ru
 have hpT:p≠T:=fun z=>by
  obtain ⟨ps,e1,_⟩:=lt1
  rw [z,e1] at hp;cases hp
 refine kws_cons (b2d I1 hcb hbk ok hq hdef lt1 fun f pm cv ctv H2 s2 I2 lt2 ex2 hcd hfn hfm hfo=>kws_nil ?_)
 show wpAny (model X.prog X.w) X.A (call (.builtin "sorted") [.ref p] [(Ud "key",.ref f)]) _ _ s2
 have I3:=I2.pins_of (pins':=(f,({cls:=.type "function",data:=.func (kla_fn "<lambda>" q args body scope (a2c X.env scope.names []) pm cv ctv)}:Obj))::pins) (fun pr hpr=>by
  rcases Qw.mp hpr with z | z
  ·subst z
   exact ⟨hfo,hfn,hfm.loc,hfm.fs,fun v z=>by cases z⟩
  ·exact I2.pin pr (Qt _ z))
 obtain ⟨z,hd,vs,rel,dd⟩:=a3v I3.hok (.of (ex2 _ _ hpT hp))
 obtain ⟨ep,hat⟩:=dd.dictAt
 have hn:vs.length=ss.length:=by rw [←rel.length];have:=congrArg Yp hks;simpa using this
 refine call_function_entry_kw kind_sorted plain_sorted entry_sorted (ksk_s1 _ _) ?_
 unfold Builtin.«sorted»
 refine wpAny_bind (m:=checkCount "sorted" 1 1 _) (wpAny_pure ?_)
 refine wpAny_bind (kdu_collect (A:=X.A.in1) (kdl_dict (knd:=a0m X.prog X.w) (kvs:=vs) (ep:=ep) hd) (I.ok.hd hc) hat (by rw [sizeLine_eq];omega) fun h' tk acc hk hacc=>?_)
 have hal:acc.toList.length=ss.length:=by rw [Yz];exact hacc.1.trans hn
 have hS:StrsAre acc.toList ss:=a2T hal fun j v e=>by
  obtain ⟨k,x,hx,hkv⟩:=hacc.2 j v (by rw [←Jc];exact e)
  obtain ⟨y,hy,_⟩:=b0V rel hx
  have h1:(kvs.map (·.1))[j]?=some k:=by rw [Qo,hy];rfl
  rw [hks,Qo] at h1
  cases e2:ss[j]? with
  | none=>rw [e2] at h1;cases h1
  | some z'=>
   rw [e2] at h1
   cases h1
   obtain ⟨t,ht⟩:=b0T hkv
   exact ⟨z',t,rfl,ht⟩
 refine wpAny_bind (wpAny_newList ?_ (by rw [hal,sizeLine_eq];omega))
 have hoL:(h'.push (seqObj "list" acc.toList.toArray 0)).get? h'.objs.size=some (seqObj "list" acc.toList.toArray 0):=Xd _ rfl
 have I3':=I3.kept (t':=tk) hk
 have I4:=I3'.kept (t':=tk) (h':=h'.push (seqObj "list" acc.toList.toArray 0)) fun b o e=>Ql _ e
 have hD:H2 h'.objs.size=none:=I3'.hok.fresh (Qk _)
 have hD1:H1 h'.objs.size=none:=by
  cases e:H1 h'.objs.size with
  | none=>rfl
  | some o=>
   by_cases y:h'.objs.size=T
   ·obtain ⟨ps,e1,_⟩:=lt2
    rw [y,e1] at hD;cases hD
   ·rw [ex2 _ _ y e] at hD;cases hD
 refine wpAny_bind (wpAny_holding (wpAny_call_entry_kw slot_list_sort ⟨_,hoL,rfl⟩ entry_list_sort ?body (ksk_l1 _ _)))
 case body=>
  show wpAny (model X.prog X.w) X.A.in1.in1 (Builtin.«list.sort» ⟨[.ref h'.objs.size],[(Ud "key",.ref f)]⟩) _ _ _
  rw [ksk_t1]
  refine a7J (k:=k+1) (ss:=ss) (g:=g) I4 (show a2h (k+1+1+1) X.A from hr).in1.in1 I.ok.frames ok hx hco hgen hb Qn hcd (fun s H=>he _ _ _ _ s H ((show a2h (k+1+1+1) X.A from hr).in1.in1.deeper _)) hoL hD (I3'.mine (Qk _)) (a3H hS) h64 nd
   (fun z hz H3 e3=>hask z hz H3 fun a o n e=>e3 _ _ (ex2 _ _ n e)) fun H' s' ss' i1 i2 i3 i4 i5=>⟨_,rfl,wpAny_pure ⟨_,rfl,?_⟩⟩
  exact ⟨.ref h'.objs.size,H',i1.pins_of (fun pr hpr=>i1.pin pr (Qt _ (Qp _ hpr))),rfl,qq _ _ _ (lt2.mono i3) (fun a o n e=>i3 _ _ (ex2 _ _ n e)) hD1 i2 i4 i5⟩
def a8T (K:Qc):List V→Hp→VK→Prop:=fun xs H Q=>∃(p:Addr) (ys:List V),xs=[.ref p]∧SqL K H p ys∧ys.length < 64∧(∀v∈ys,∃a i z,v=.ref a∧H a=some (.tup [.int i,.str z]))∧(ys.map (a1V H)).Nodup∧
 ∀l ys',H l=none→ys'.Perm ys→(ys'.map (a1V H)).Pairwise (fun x y=>ltP x y=true)→Q (.ref l) (upd H l (.lst ys'))
def b2T (K:Qc):List V→Hp→VK→Prop:=fun xs H Q=>b3G K xs H Q∨(b3i xs H Q∨a8T K xs H Q)
section
variable {X:Cx}
theorem a6e:a1m X (.builtin "sorted") (a8T X.K):=by
 intro pins s σ H xs us Q I r h
 obtain ⟨p,ys,rfl,hq,h64,hT,hnd,q⟩:=h
 obtain ⟨u,rfl,ru⟩:=a2V r
 cases ru
 obtain ⟨its,rv,pl,hz⟩:=I.list hq
 have hn:=rv.length
 have hat:∀i,i < its.length→∃a o n t t',its.getD i Value.none=.ref a∧s.heap.get? a=some o∧o.data=.seq #[.int (a1V H (ys.getD i .non)).1 t,.str (a1V H (ys.getD i .non)).2 t'] n:=fun i hi=>by
  have hi':i < ys.length:=by omega
  obtain ⟨u,hu,ru⟩:=rv.get (Qe hi')
  obtain ⟨a,m,z,e,ha⟩:=hT _ (Xi hi')
  rw [e] at ru
  cases ru
  obtain ⟨o,n,t,t',e1,e2,e3⟩:=a9Y (I.hok _ _ ha)
  have ep:a1V H (ys.getD i .non)=(m,z):=by
   rw [Xj,Qe hi',Xs,e]
   show (match H a with | some (.tup [.int i,.str z])=>(i,z) | _=>(0,""))=(m,z)
   rw [ha]
  rw [ep]
  exact ⟨a,o,n,t,t',by rw [Xj,hu];rfl,e1,e3⟩
 refine Calls.call_function_entry kind_sorted plain_sorted entry_sorted (args_sorted1 _) ?_
 unfold Builtin.«sorted»
 refine wpAny_bind (m:=checkCount "sorted" 1 1 _) (wpAny_pure ?_)
 refine wpAny_bind (collect_list pl.isList ?_ (by rw [sizeLine_eq];omega))
 refine wpAny_bind (wpAny_newList ?_ (by rw [sizeLine_eq];omega))
 have hsz:((s.heap.push (seqObj "list" #[] 0)).update s.heap.objs.size (Obj.mapSeq (·++its.toArray))).objs.size=s.heap.objs.size+1:=by
  rw [Vq,size_push']
 have hoL:(((s.heap.push (seqObj "list" #[] 0)).update s.heap.objs.size (Obj.mapSeq (·++its.toArray))).push (seqObj "list" its.toArray 0)).get? (s.heap.objs.size+1)=some (seqObj "list" its.toArray 0):=by
  rw [←hsz];exact Xd _ rfl
 have keep:∀b o,s.heap.get? b=some o→(((s.heap.push (seqObj "list" #[] 0)).update s.heap.objs.size (Obj.mapSeq (·++its.toArray))).push (seqObj "list" its.toArray 0)).get? b=some o:=fun b o q=>by
  have hlt:b < s.heap.objs.size:=Qx q
  rw [Ja _ _ _ (by rw [hsz];exact Xe (Ze hlt)),Zi _ _ _ _ (Xe hlt),Ja _ _ _ (Xe hlt)]
  exact q
 show wpAny _ _ _ _ _ {s with heap:=((s.heap.push (seqObj "list" #[] 0)).update s.heap.objs.size (Obj.mapSeq (·++its.toArray))).push (seqObj "list" its.toArray 0)}
 rw [hsz]
 have keep2:∀h':Heap,(∀b o,b≠s.heap.objs.size+1→(((s.heap.push (seqObj "list" #[] 0)).update s.heap.objs.size (Obj.mapSeq (·++its.toArray))).push (seqObj "list" its.toArray 0)).get? b=some o→h'.get? b=some o)→∀b o,s.heap.get? b=some o→h'.get? b=some o:=fun h' hk b o e=>hk b o (Xe (Ze (Qx e))) (keep b o e)
 refine wpAny_bind (wpAny_holding (wpAny_call_entry slot_list_sort ⟨_,hoL,rfl⟩ entry_list_sort (a3S (s:={s with heap:=((s.heap.push (seqObj "list" #[] 0)).update s.heap.objs.size (Obj.mapSeq (·++its.toArray))).push (seqObj "list" its.toArray 0)}) hoL (by omega)
  (fun i j=>ltP (a1V H (ys.getD i .non)) (a1V H (ys.getD j .non))) (tuples' true) ?hk ?hask fun pp hp hpe=>⟨_,rfl,?fin⟩) (args_list_sort _)))
 case hk=>
  intro h2 h' hkp Q' hQ'
  obtain ⟨fs,g1,g2,g3⟩:=a6c (h':=h') (fun a o e=>I.hok a o e) (keep2 h' hkp) rv hT
  refine kat_kind (T:=.type "int") g1 (by omega) (fun v hv=>?_) (by decide) hQ'
  obtain ⟨i,t,rfl⟩:=g3 v hv
  exact .now
 case hask=>
  intro h' hkp i j C hi hj hC
  obtain ⟨a,oa,na,ta,ta',ea,ha,da⟩:=hat i hi
  obtain ⟨b,ob,nb,tb,tb',eb,hb,db⟩:=hat j hj
  unfold kas_ask
  rw [ea,eb]
  refine kat_lt (keep2 h' hkp _ _ ha) da (keep2 h' hkp _ _ hb) db ?_
  have hC':C (ltP (a1V H (ys.getD i .non)) (a1V H (ys.getD j .non))) {s with heap:=h'}:=hC
  generalize a1V H (ys.getD i .non)=x at hC' ⊢
  generalize a1V H (ys.getD j .non)=y at hC' ⊢
  unfold ltP at hC'
  show KatLex _ _ _ _ _ _ [(.int x.1 ta,.int y.1 tb),(.str x.2 ta',.str y.2 tb')] 0 _
  refine kat_cons (wpAny_eqBool_int ?_)
  by_cases h1:x.1=y.1
  ·rw [show (x.1 == y.1)=true from by rw [h1];exact beq_self_eq_true _]
   rw [if_pos h1] at hC'
   refine kat_yes (kat_cons (wpAny_eqBool_str ?_))
   by_cases h2:x.2=y.2
   ·rw [decide_eq_true h2]
    rw [if_pos h2] at hC'
    exact kat_yes (kat_nil (by simpa using hC'))
   ·rw [decide_eq_false h2]
    rw [if_neg h2] at hC'
    refine kat_no ?_
    show wpAny _ _ (oneLt' (true && (0+1) == 0) _ _) _ _ _
    rw [show (true && (0+1) == 0)=false from rfl]
    exact kat_one _ _ (PySem.P.lt_str hC')
  ·rw [show (x.1 == y.1)=false from beq_eq_false_iff_ne.mpr h1]
   rw [if_neg h1] at hC'
   refine kat_no ?_
   exact oneLt_int hC'
 case fin=>
  refine wpAny_pure ⟨_,rfl,?_⟩
  obtain ⟨e,he⟩:=sortedHeap_at (out:=Xu (pp.toList.map fun i=>its.getD i Value.none)) hoL
  have hpl:∀i∈pp.toList,i < ys.length:=fun i hi=>by
   have:=hp.list.mem_iff.mp hi
   rw [Zs] at this;omega
  have hplen:pp.toList.length=its.length:=by rw [hp.list.length_eq,Zf]
  have I2:=I.laid (a:=s.heap.objs.size+1) (o:=.lst (pp.toList.map fun i=>ys.getD i .non)) (h':=sortedHeap (((s.heap.push (seqObj "list" #[] 0)).update s.heap.objs.size (Obj.mapSeq (·++its.toArray))).push (seqObj "list" its.toArray 0)) (s.heap.objs.size+1) its (Xu (pp.toList.map fun i=>its.getD i Value.none))) (t':=s.toks) (fun b o e=>by
   have hb:b < s.heap.objs.size:=Qx e
   rw [sortedHeap_old (Xe (Ze hb)) (by rw [size_push',hsz];exact Ze (Ze hb))]
   exact keep b o e) (Jl _) ⟨by rw [Qd,sizeLine_eq];omega,pp.toList.map fun i=>its.getD i Value.none,e,a3u rv _ hpl,he⟩
  refine ⟨.ref (s.heap.objs.size+1),_,I2,rfl,q _ _ (I.hok.fresh (Jl _)) ?_ ?_⟩
  ·have h1:=hp.list.map fun i=>ys.getD i .non
   rw [←hn,a7L] at h1
   exact h1
  ·rw [Qy,Vc]
   by_cases h2:2≤its.length
   ·have L:b9M (fun i j=>ltP (a1V H (ys.getD i .non)) (a1V H (ys.getD j .non))) its.length:=
     ⟨fun i _=>a8C _,fun i j k _ _ _ a b=>b2W a b,fun i j hi hj e=>b0Z fun z=>by
      have hi':i < ys.length:=by omega
      have hj':j < ys.length:=by omega
      rw [Xj,Qe hi',Xj,Qe hj',Xs,Xs] at z
      exact e ((Zt (i:=i) (j:=j) (h₀:=by rw [Qd];exact hi') (h₁:=by rw [Qd];exact hj') hnd).mp (by rw [Ji,Ji];exact z))⟩
    have hA:=a6P L (by omega)
    rw [←hpe h2] at hA
    exact a7o hp.size hA
   ·have hl1:pp.toList.length < 2:=by rw [hplen];omega
    match pp.toList,hl1 with
    | [],_=>exact Wp.nil
    | [z],_=>simp
    | _::_::_,y=>exact absurd y (by simp)
theorem a2W (hc:X.calm=true):a1m X (.builtin "sorted") (b2T X.K):=a1m.or a8e (a1m.or (a7I hc) a6e)
end
def b2l (T:Addr) (H:Hp):Prop:=H T=some (.tbl #[])∧∀b,b≠T→H b=none∨∃o xs,H b=some (.frz o (.lst xs))
def b4Q (K:Qc) (c T:Addr):Bool:=match K.lookup c with
 | some o=>(match o.cls,o.data with
  | .type n,.fields vs=>(match (vs[11]?:Option Value) with
   | some (Value.ref P)=>n == "code" && P == T
   | _=>false)
  | _,_=>false)
 | none=>false
theorem b1Y {K:Qc} {h:Heap} {c T:Addr} (X:K.In h) (e:b4Q K c T=true):isCodeTable h T:=by
 unfold b4Q at e
 split at e
 ·rename_i o ho
  split at e
  ·rename_i n vs hcl hd
   split at e
   ·rename_i P e11
    rw [Xh] at e
    have h1:n="code":=by simpa using e.1
    have h2:P=T:=by simpa using e.2
    exact ⟨c,o,vs,X _ _ ho,by rw [hcl,h1],hd,by rw [e11,h2]⟩
   ·cases e
  ·cases e
 ·cases e
theorem b0I {P:Program} {w:World} {K:Qc} {mg mb:Str→Option Value} {CX:CXT} {k:Nat} {fa a T:Addr} {fd:FuncData} {x:Str} {sp:Sp} {s₁:Shared} {vs:List Value} {ns:List Int}
  (KX:K.In s₁.heap) (hT:s₁.heap.get? T=some {cls:=.none,data:=.fields #[]}) (hKT:K.lookup T=none) (hCT:isCodeTable s₁.heap T) (hns:s₁.heap.Ns mainGlobals mg) (hb:s₁.heap.Ns builtinsNs mb) (hbb:∀x:Str,x≠"__name__"→mb x=bootBuiltins x) (hlim:s₁.heap.NoLimit) (hg:s₁.gens=#[])
  (ha:s₁.heap.get? a=some {cls:=.type "list",data:=.seq vs.toArray}) (hi:IntsAre vs ns) (hl:ns.length≤sizeLine) (hr:a2h k callerA)
  (F:∀base:Heap,K.In base→base.Ns mainGlobals mg→a0W P w K mg base CX k fa fd [x] sp) (hbind:∀(s:Shared) (u:Value),BindsTo s fd ⟨[u],[]⟩ [(x,u)])
  (hsp:∀H:Hp,b2l T H→SqL K H a (ns.map V.int)→sp [.ref a] H (fun v _=>v=.bl true) fun _ _ _=>False)
  (hCX:∀H e s',CX [] H s₁ (fun _ _ _=>False) e s'→False):
  codeAny (model P w) callerA (.call (.ref fa) ⟨[.ref a],[]⟩) (fun r s'=>r=.ok (.ret (.bool true))∧OldK s₁.heap s'.heap∧s'.os=s₁.os∧AllBare s'.gens) s₁:=by
 have rv:=a5O hi
 have lenV:=hi.length
 have haT:a≠T:=fun z=>by rw [z,hT] at ha;cases ha
 have core:∀H:Hp,b2l T H→SqL K H a (ns.map V.int)→HOk P w H s₁.heap→(∀b,H b≠none→b=a∨b=T)→(H a≠none→K.lookup a=none)→
   codeAny (model P w) callerA (.call (.ref fa) ⟨[.ref a],[]⟩) (fun r s'=>r=.ok (.ret (.bool true))∧OldK s₁.heap s'.heap∧s'.os=s₁.os∧AllBare s'.gens) s₁:=by
  intro H hO hS hok hA hK
  have base_of:∀{b:Addr} {o:Obj},s₁.heap.get? b=some o→H b=none→(b1z s₁.heap H).get? b=some o:=fun e n=>b2I e n
  have noA:∀{b:Addr} {o:Obj} {es:Array DictEntry} {ep:Nat},s₁.heap.get? b=some o→o.data=.dict es ep→H b=none:=fun {b o es ep} e d=>by
   cases q:H b with
   | none=>rfl
   | some u=>
    rcases hA b (by rw [q];simp) with e' | e'
    ·subst e'
     rw [ha] at e;cases e
     have d':Data.seq vs.toArray _=Data.dict es ep:=d
     cases d'
    ·subst e'
     rw [hT] at e;cases e
     have d':Data.fields #[]=Data.dict es ep:=d
     cases d'
  have nsK:∀{b:Addr} {m:Str→Option Value},s₁.heap.Ns b m→(b1z s₁.heap H).Ns b m:=fun {b m} ⟨o,es,ep,e,d,r⟩=>⟨o,es,ep,base_of e (noA e d),d,r⟩
  have hKb:K.In (b1z s₁.heap H):=fun b o e=>base_of (KX b o e) (by
   cases q:H b with
   | none=>rfl
   | some u=>
    rcases hA b (by rw [q];simp) with e' | e'
    ·subst e'
     rw [hK (by rw [q];simp)] at e;cases e
    ·subst e'
     rw [hKT] at e;cases e)
  have hM:Mod K mg (b1z s₁.heap H):=⟨hKb,nsK hns,⟨mb,nsK hb,hbb⟩,let ⟨mc,h1,h2⟩:=hlim;⟨mc,nsK h1,h2⟩⟩
  have e0:b5k P w K mg (b1z s₁.heap H) callerA [] s₁ H:=⟨rfl,hM,fun b o e=>b4j e,Vj (a9d _ _),trivial,fun b hb=>absurd (show b∈([]:List Addr) from hb) (by simp),hok,.of_eq hg⟩
  refine codeAny_mono ((F _ hKb (nsK hns)).run callerA [] s₁ H ⟨[.ref a],[]⟩ [.ref a] [.ref a] _ _ hr e0 (hbind s₁ (.ref a)) (.cons rfl .nil) (hsp H hO hS)) fun r s' h=>?_
  cases r with
  | error e=>exact (hCX H e s' h).elim
  | ok fl=>
   cases fl with
   | next=>exact False.elim h
   | brk=>exact False.elim h
   | cont=>exact False.elim h
   | ret u=>
    obtain ⟨v,H',os,bare,un,hok',r',q⟩:=h
    have q':v=.bl true:=q
    subst q'
    obtain rfl:u=Value.bool true:=r'
    obtain ⟨more,hT'⟩:=un.tbls T _ hO.1
    have hTo:s'.heap.get? T=some {cls:=.none,data:=.fields (#[]++more)}:=hok' T _ hT'
    have old:∀b o,b≠T→s₁.heap.get? b=some o→s'.heap.get? b=some o:=fun b o hbT e=>by
     cases q:H b with
     | none=>exact un.keep b o e q (by intro z;exact absurd (show b∈([]:List Addr) from z) (by simp)) (by simp)
     | some u=>
      rcases hO.2 b hbT with z | ⟨ob,xs,z⟩
      ·rw [q] at z;cases z
      ·have z2:=un.frzs b ob _ z
       obtain ⟨e1,_⟩:=hok b _ z
       obtain ⟨e2,_⟩:=hok' b _ z2
       rw [e] at e1;cases e1
       exact e2
    refine ⟨rfl,⟨fun b o e=>?_,fun b o e=>?_⟩,os,bare⟩
    ·by_cases hbT:b=T
     ·subst hbT
      rw [hT] at e;cases e
      exact .inr (.inl ⟨hCT,rfl,#[],more,rfl,hTo⟩)
     ·exact .inl (old b o hbT e)
    ·by_cases hbT:b=T
     ·subst hbT;exact ⟨_,hTo⟩
     ·exact ⟨o,old b o hbT e⟩
 cases hk:K.lookup a with
 | some o=>
  have e:=KX a o hk
  rw [ha] at e
  cases e
  refine core (fun b=>if b=T then some (.tbl #[]) else none) ⟨if_pos rfl,fun b hb=>.inl (if_neg hb)⟩ (.inr ⟨_,vs.toArray,_,hk,rfl,rfl,rfl,by rw [Qm,lenV];exact hl,by simpa using rv⟩) (fun b u z=>?_) (fun b z=>?_) fun z=>absurd (if_neg haT) z
  ·by_cases hb:b=T
   ·have z':=(if_pos hb).symm.trans z
    cases z'
    subst hb
    exact hT
   ·have z':=(if_neg hb).symm.trans z
    cases z'
  ·by_cases hb:b=T
   ·exact .inr hb
   ·exact absurd (if_neg hb) z
 | none=>
  refine core (fun b=>if b=T then some (.tbl #[]) else if b=a then some (.frz {cls:=.type "list",data:=.seq vs.toArray} (.lst (ns.map V.int))) else none) ⟨if_pos rfl,fun b hb=>?_⟩ (.inl (.inr ⟨{cls:=.type "list",data:=.seq vs.toArray},(if_neg haT).trans (if_pos rfl)⟩)) (fun b u z=>?_) (fun b z=>?_) fun _=>hk
  ·by_cases hba:b=a
   ·exact .inr ⟨_,_,(if_neg hb).trans (if_pos hba)⟩
   ·exact .inl ((if_neg hb).trans (if_neg hba))
  ·by_cases hb:b=T
   ·have z':=(if_pos hb).symm.trans z
    cases z'
    subst hb
    exact hT
   ·by_cases hba:b=a
    ·have z':=((if_neg hb).trans (if_pos hba)).symm.trans z
     cases z'
     subst hba
     exact ⟨ha,by rw [Qd];exact hl,vs,_,rv,ha⟩
    ·have z':=((if_neg hb).trans (if_neg hba)).symm.trans z
     cases z'
  ·by_cases hb:b=T
   ·exact .inr hb
   ·by_cases hba:b=a
    ·exact .inl hba
    ·exact absurd ((if_neg hb).trans (if_neg hba)) z
theorem a8K {l:PySem.W.OpenLaw} {n k:Nat} {q:Program} {loose:List Str} {XP:(Str→Option Value)→Heap→Prop} {YP:World→Heap→Prop} {d:DefRec} {K:Params→Qc} {CX:CXT} {sp:Qc→Sp} {x:Str} (T c:Addr)
  (hn:l.most=some n) (hn2:n≤sizeLine) (hdf:d.params.defaults=[]) (hr:a2h k callerA)
  (hY:∀(w:World) (h:Heap),YP w h→(K w.params).In h∧h.get? T=some {cls:=.none,data:=.fields #[]}) (hKT:∀w:World,(K w.params).lookup T=none) (hCT:∀w:World,b4Q (K w.params) c T=true)
  (F:∀(w:World) (mg:Str→Option Value) (fa:Addr) (h:Heap),(K w.params).In h→h.Ns mainGlobals mg→mg d.name=some (.ref fa)→
   ∃fd:FuncData,(∀(s:Shared) (u:Value),BindsTo s fd ⟨[u],[]⟩ [(x,u)])∧
    ∀base:Heap,(K w.params).In base→base.Ns mainGlobals mg→a0W l.prog w (K w.params) mg base CX k fa fd [x] (sp (K w.params)))
  (hsp:∀(K:Qc) (H:Hp) (a:Addr) (ns:List Int),ns.length≤n→b2l T H→SqL K H a (ns.map V.int)→sp K [.ref a] H (fun v _=>v=.bl true) fun _ _ _=>False)
  (hCX:∀(H:Hp) (s:Shared) (e:Value) (s':Shared),CX [] H s (fun _ _ _=>False) e s'→False):
  PySem.W.WalkO q loose XP YP l.row.toRowW d [] (fun f vs=>PySem.call f vs):=by
 refine Att.attach_call hn hdf fun w s₀ s₁ mg mb fa o pm cd doc a vs ns G Y ho hd hcd hmg hobj hints hlen hg=>?_
 obtain ⟨KX,hT⟩:=hY w _ Y
 obtain ⟨fd,hb,hF⟩:=F w mg fa _ KX G.T.g hmg
 exact b0I KX hT (hKT w) (b1Y KX (hCT w)) G.T.g G.T.b G.T.builtins G.T.nolimit hg hobj hints (Qh hlen hn2) hr hF hb (fun H hO hS=>hsp (K w.params) H a ns hlen hO hS) fun H e s'=>hCX H s₁ e s'
theorem b4r {K:Qc} {T:Addr} {o:Obj} {h:Heap} (X:Qc.In ((T,o)::K) h) (n:K.lookup T=none):K.In h∧h.get? T=some o:=by
 refine ⟨fun a u e=>X a u ?_,X T o (by rw [Xy,beq_self_eq_true])⟩
 rw [Xy]
 have:(a == T)=false:=by
  rw [beq_eq_false_iff_ne]
  intro z;rw [z,n] at e;cases e
 rw [this];exact e
section
variable {P:Program} {w:World} {K:Qc} {mg:Str→Option Value} {base:Heap}
theorem Fun.okC {x qual:Str} {st:Stmt} {f:Addr} {fd:FuncData} {N ps:List Str} {k:Nat} {sp:Sp} (F:Fun K x qual st f fd) (S:a0h N ps (a0c st)) (len:∀vs H Q E,sp vs H Q E→vs.length=ps.length)
  (hbody:∀(A:Around) (outer:List Env) (s:Shared) (H:Hp) (vs:List V) (Q:VK) (E:XK),a2h k (A.deeper (envOfC qual (a0c st) s.heap.objs.size f fd.code))→sp vs H Q E→
   ∃t,PSs (b2X CX0 P w K mg base N qual (a0c st) f fd.code A outer s H E).nox (a1d st) t∧t {nx:=fun _ H'=>Q .non H',rt:=Q} (start N vs) H):a0W P w K mg base CX0 (k+1) f fd ps sp:=by
 obtain ⟨oc,od,kV,doc,pm,an,cdv,ct,osl,rfl,lk,hcd⟩:=F.ex
 refine b5I lk hcd S len fun A outer s H vs Q E hr hsp=>?_
 obtain ⟨t,h,q⟩:=hbody A outer s H vs Q E hr hsp
 exact ⟨t,h.nox,q⟩
end
end L2
namespace L2
open PySem PySem.Spec PySem.W PyProof.Rows
end L2
namespace L2
open PySem PySem.Spec PySem.W PyProof.Rows PySem.Builtin PySem.Builtin.ObjectAttr
def b3z:List Value→Bool
 | .ref _::r=>b3z r
 | [.type a,.type b,.type c,.type d]=>a == "ValueError" && b == "Exception" && c == "BaseException" && d == "object"
 | _=>false
def b8v (K:Qc) (C:Addr):Bool:=(clsIn K C).any fun cd=>b3z cd.mro
end L2
namespace L2
open PySem PySem.Spec PySem.W PyProof.Rows PySem.Builtin PySem.Builtin.ObjectAttr
end L2
namespace L2
open PySem PySem.Spec PySem.W PySem.Calls PyProof.Rows PySem.Builtin PySem.Builtin.ObjectAttr
abbrev bmV:List Value:=[.type "ValueError",.type "Exception",.type "BaseException",.type "object"]
def c6f (K:Qc) (C:Addr):Bool:=match K.lookup C with
 | some ⟨.type "type",_,.cls cd,sl⟩=>(match cd.mro,sl.toList with
  | .ref C'::bm,[_,_,_,_,some (.builtin n),_]=>C' == C && n == "ValueError.__new__" && !cd.hasDel && !cd.abstract && tailIn K bmV bm && specialIn K (.ref C) "__call__" == some (some (.builtin "type.__call__")) && instIn K (.ref C) (.type "type") == some true
  | _,_=>false)
 | _=>false
end L2
namespace L2
open PySem PySem.Spec PySem.W PySem.Calls PyProof.Rows PySem.Builtin PySem.Builtin.ObjectAttr
structure c6A (K:Qc) (C:Addr):Prop where
 ga:findIn K (.ref C) "__getattribute__"=some (some (.builtin "BaseException.__getattribute__"))
 gt:findIn K (.ref C) "__getattr__"=some none
 bx:mroIn K C (.type "BaseException")=some true
 hd:hasDictIn K C=true
 cc:findIn K (.ref C) "__class__"=some (some (.builtin "object.__class__"))
 cg:specialIn K (.builtin "object.__class__") "__get__"=some (some (.builtin "getset_descriptor.__get__"))
 ct:takesIn K (.builtin "object.__class__")=some true
 mo:mroIn K C (.type "object")=some true
 sa:findIn K (.ref C) "__setattr__"=some (some (.builtin "object.__setattr__"))
 ov:b8v K C=true
 xc:c6f K C=true
end L2
namespace L2
open PySem PySem.Spec PySem.W PyProof.Rows
def c4a (x C:Addr) (od:Option Addr):HO:=.ext fun h=>∃vs sl,h.get? x=some ⟨.ref C,od,.fields vs,sl⟩∧vs[1]?=some Value.none
def c1C (x C:Addr) (od:Option Addr) (T:Addr):HO:=.ext fun h=>∃vs sl,h.get? x=some ⟨.ref C,od,.fields vs,sl⟩∧vs[1]?=some (Value.ref T)
def IsX (H:Hp) (x C:Addr) (od:Option Addr):Prop:=H x=some (c4a x C od)∨∃T,H x=some (c1C x C od T)
end L2
namespace L2
open PySem PySem.Spec PySem.W PySem.Calls PyProof.Rows
end L2
namespace L2
open PySem PySem.Spec PySem.W PySem.Calls PyProof.Rows
def c4u (H:Hp) (x C:Addr) (m:Str) (v:V):Prop:=∃d,IsX H x C (some d)∧H d=some (.xd [(m,v)])
end L2
namespace L2
open PySem PySem.Spec PySem.W PySem.Calls PyProof.Rows
def c2q (H:Hp) (x C:Addr):Option (Str×V)→Prop
 | some (m,v)=>c4u H x C m v
 | none=>IsX H x C none
def b5P (H:Hp):List Addr→List (Addr×Option (Str×V))→Prop
 | [],[]=>True
 | x::xs,e::es=>c2q H x e.1 e.2∧b5P H xs es
 | _,_=>False
theorem b5P.len {H:Hp}:∀{xs:List Addr} {es:List (Addr×Option (Str×V))},b5P H xs es→xs.length=es.length
 | [],[],_=>rfl
 | _::_,_::_,⟨_,b⟩=>congrArg (·+1) b.len
 | [],_::_,h=>h.elim
 | _::_,[],h=>h.elim
theorem b5P.get {H:Hp}:∀{xs:List Addr} {es:List (Addr×Option (Str×V))} {i:Nat} {e:Addr×Option (Str×V)},b5P H xs es→es[i]?=some e→∃x,xs[i]?=some x∧c2q H x e.1 e.2
 | _::_,_::_,0,_,⟨a,_⟩,h=>by cases h;exact ⟨_,rfl,a⟩
 | _::_,_::_,i+1,_,⟨_,b⟩,h=>b5P.get (i:=i) b (by simpa using h)
 | [],_::_,_,_,h,_=>h.elim
 | _::_,[],_,_,h,_=>h.elim
end L2
namespace L2
open PySem PySem.Spec PySem.W PySem.Calls PyProof.Rows
def TbO (T:Addr) (fl:Value):HO:=.ext fun h=>∃ob ts,h.get? T=some ob∧ob.data=.fields ts∧ts[3]?=some fl
def Fl (H:Hp) (x C:Addr) (od:Option Addr) (fl:Value) (T:Addr):Prop:=T≠x∧H x=some (c1C x C od T)∧H T=some (TbO T fl)
def Arr (H:Hp) (x C:Addr) (od oT:Option Addr):Prop:=(oT=none∧H x=some (c4a x C od))∨∃T,oT=some T∧Fl H x C od .none T
end L2
namespace L2
open PySem PySem.Spec PySem.W PySem.Calls PyProof.Rows
end L2
namespace L2
open PySem PySem.Spec PySem.W PySem.Calls PyProof.Rows
section
variable {X:Cx} {pins:List (Addr×Obj)} {σ:St} {H:Hp} {s:Shared}
abbrev XW:=St→Addr→Addr→Hp→Prop
def XP (X:Cx) (pins:List (Addr×Obj)) (W:XW) (e:Value) (s':Shared):Prop:=∃σ H x C od oT,e=.ref x∧Inv X pins σ H s'∧Arr H x C od oT∧c6A X.K C∧W σ x C H
end
end L2
namespace L2
open PySem PySem.Spec PySem.W PySem.Calls PyProof.Rows
end L2
namespace L2
open PySem PySem.Spec PySem.W PySem.Calls PyProof.Rows
end L2
namespace L2
open PySem PySem.Spec PySem.W PySem.Calls PyProof.Rows
end L2
namespace L2
open PySem PySem.Spec PySem.W PySem.Calls PyProof.Rows
end L2
namespace L2
open PySem PySem.Spec PySem.W PySem.Calls PyProof.Rows
end L2
namespace L2
open PySem PySem.Spec PySem.W PySem.Calls PyProof.Rows
end L2
namespace Tx
open PySem PySem.Builtin PySem.Builtin.Str PySem.StrLaws PyProof.Rows
theorem a1h (l:List Nat) (i j:Nat):(strSub (mk l) i j).length≤l.length:=by
 rw [b7o,a0x]
 exact Qh (Wo _ _) (by rw [Je];omega)
end Tx
namespace L2
open PySem PySem.Spec PySem.W PySem.Calls PyProof.Rows
def Itk (o:Obj) (a:Addr) (kvs:List (Key×V)):It:=⟨fun i H=>H a=some (.frz o (.dK kvs))∧i < kvs.length,fun i H x H'=>H'=H∧∃k v,kvs[i]?=some (k,v)∧x=kV k,fun i H=>H a=some (.frz o (.dK kvs))∧kvs.length≤i⟩
def a9E (td:TE):TI:=fun σ H R=>td σ H fun x H1=>∃(a:Addr) (kvs:List (Key×V)),x=.ref a∧H1 a=some (.dK kvs)∧∀o,R (Itk o a kvs) (upd H1 a (.frz o (.dK kvs)))
theorem a6O {o:Obj} {a:Addr} {kvs:List (Key×V)}:Src (Itk o a kvs) kvs.length (fun i=>(kvs[i]?.map fun p=>kV p.1).getD .non) (fun H=>H a=some (.frz o (.dK kvs))):=
 ⟨fun i H hi h=>⟨h,hi⟩,fun i H x H' hi h y=>⟨y.1,by obtain ⟨_,k,v,e,rfl⟩:=y;rw [e];rfl⟩,fun H h=>⟨h,Qk _⟩⟩
theorem b2k {P:Program} {w:World} {k:Key} {u:Value} (h:(a0m P w).is k u=true):a0N (kV k) u:=by
 rcases a0F (k:=k) (v:=u) h with ⟨i,t,rfl,rfl⟩ | ⟨x,t,rfl,rfl⟩
 ·exact ⟨t,rfl⟩
 ·exact ⟨t,rfl⟩
theorem b4T:∀{r:List (Key×V)} {rs:List (Key×Value)},KV r rs→∀{i:Nat} {p:Key×V},r[i]?=some p→∃q,rs[i]?=some q∧p.1=q.1:=by
 intro r rs h
 unfold KV at h
 induction h with
 | nil=>intro i p e;simp at e
 | @cons p q ps qs h t ih=>
  intro i p' e
  cases i with
  | zero=>cases e;exact ⟨q,rfl,h.1⟩
  | succ i=>exact ih e
theorem b0h {P:Program} {w:World} {K:Qc} {tg:Expr} (o:Obj) (a it:Addr) (kvs:List (Key×V)):b4F P w K tg (Itk o a kvs) [it] it (fun i h=>∃es ep,o.data=.dict es ep∧h.IsKeyIter it a i kvs.length ep) where
 mem:=by simp
 obj:=fun i h st b hb=>by
  have e:b=it:=by simpa using hb
  subst e
  obtain ⟨_,_,_,ob,e,c,d⟩:=st
  exact ⟨ob,e,fun v z=>by rw [d] at z;cases z⟩
 keep:=fun i h h' st k=>by
  obtain ⟨es,ep,hd,hit⟩:=st
  exact ⟨es,ep,hd,hit.at fun o e=>k it (by simp) o e⟩
 item:=by
  intro X hP hw hK hc i pins s σ H E I hf st hg
  subst hP hw hK
  obtain ⟨es,ep,hd,hit⟩:=st
  obtain ⟨hfr,hi⟩:=hg
  obtain ⟨ho,z,hds,vs,rel,dd⟩:=(show a1e X.prog X.w H s.heap a (.frz o (.dK kvs)) from I.hok a _ hfr)
  obtain ⟨o',es',ep',ho',hx,hdat,r⟩:=dd
  rw [ho] at ho';cases ho'
  rw [hd] at hdat;cases hdat
  have hm:s.heap.DictAt (a0m X.prog X.w) a vs ep:=⟨o,es,ho,hx,hd,r⟩
  have hl:=rel.length
  rw [hl] at hit
  obtain ⟨⟨k,u⟩,hq,ek⟩:=b4T rel (Qe hi)
  obtain ⟨f0,f1,f2,f3,f4,f5⟩:=hf it (by simp)
  refine wpAny_pyNext_dict_item (knd:=a0m X.prog X.w) hit hm hq fun key h' hkey st' sb=>?_
  have I1:Inv X pins σ H {s with heap:=h'}:=I.turned (t':=s.toks) (fun b o hb e=>(sb.2 b hb).trans e) f0 f1 f3 f4 f5
  obtain ⟨ob,e,c,d⟩:=id st'
  have ek':kvs[i].1=k:=ek
  exact ⟨key,rfl,b1m (s:={s with heap:=h'}) e c d (by decide) ⟨kV kvs[i].1,H,I1,by rw [ek'];exact b2k hkey,⟨rfl,kvs[i].1,kvs[i].2,Qe hi,rfl⟩,⟨es,ep,hd,by rw [hl];exact st'⟩,fun b hb=>(hf b hb).1⟩⟩
 done:=by
  intro X hP hw hK hc i pins s σ H E I hf st hg
  subst hP hw hK
  obtain ⟨es,ep,hd,hit⟩:=st
  obtain ⟨hfr,hi⟩:=hg
  obtain ⟨ho,z,hds,vs,rel,dd⟩:=(show a1e X.prog X.w H s.heap a (.frz o (.dK kvs)) from I.hok a _ hfr)
  obtain ⟨o',es',ep',ho',hx,hdat,r⟩:=dd
  rw [ho] at ho';cases ho'
  rw [hd] at hdat;cases hdat
  have hm:s.heap.DictAt (a0m X.prog X.w) a vs ep:=⟨o,es,ho,hx,hd,r⟩
  have hl:=rel.length
  rw [hl] at hit
  obtain ⟨f0,f1,f2,f3,f4,f5⟩:=hf it (by simp)
  exact wpAny_pyNext_dict_end (knd:=a0m X.prog X.w) (I.ok.hd hc) hit hm (Yk (by omega)) fun h' eb=>⟨rfl,I.turned (t':=s.toks) (fun b o hb e=>eb b o hb e) f0 f1 f3 f4 f5⟩
 self:=fun _ _ _ _ _ st h=>by
  obtain ⟨es,ep,hd,hit⟩:=st
  exact wpAny_pyIter_keyiter hit h
section
variable {X:Cx} {tg:Expr}
theorem b5e {o:Expr} {td:TE} (ho:PE X o td):PI X tg o (a9E td):=by
 intro pins s σ H R I h
 refine thn (ho pins s σ H _ I h) fun v s1 ⟨x,H1,I1,r1,q1⟩=>?_
 obtain ⟨a,kvs,rfl,hH,q⟩:=q1
 cases r1
 obtain ⟨z,hds,vs,rel,dd⟩:=a5T I1.hok hH
 obtain ⟨ob,es,ep,hob,hx,hdat,r⟩:=id dd
 have hm:s1.heap.DictAt (a0m X.prog X.w) a vs ep:=⟨ob,es,hob,hx,hdat,r⟩
 refine wpAny_pyIter_dict (knd:=a0m X.prog X.w) hds hm ?_
 have keep:∀b u,s1.heap.get? b=some u→(s1.heap.push {cls:=.type "dict_keyiterator",data:=.fields #[.ref a,.int 0 0,.int vs.length 0,.int ep 0]}).get? b=some u:=fun b u e=>Ql _ e
 have I2:=I1.kept (t':=s1.toks) keep
 obtain ⟨o2,ho2,I3⟩:=I2.freeze hH
 have e2:o2=ob:=by
  have:=keep a ob hob
  rw [show _=some o2 from ho2] at this
  exact Option.some.inj this
 subst e2
 have hl:=rel.length
 refine ⟨s1.heap.objs.size,[s1.heap.objs.size],_,_,_,rfl,I3,b0h o2 a _ kvs,⟨es,ep,hdat,_,Xd _ rfl,rfl,by rw [hl];rfl⟩,fun b hb=>?_,q o2⟩
 have e:b=s1.heap.objs.size:=by simpa using hb
 subst e
 have hn:=I1.hok.fresh (a:=s1.heap.objs.size) (Qk _)
 exact I1.fpOk (Qk _) (by rw [a0a (a0b hH hn).symm];exact hn)
end
end L2
namespace L2
open PySem PySem.Spec PySem.W PySem.Calls PyProof.Rows
def c0x:V→List V→Hp→VK→Prop:=fun x xs H Q=>∃(a b:Addr) (kvs more:List (Key×V)),x=.ref a∧xs=[.ref b]∧a≠b∧H a=some (.dK kvs)∧H b=some (.dK more)∧kvs.length+more.length≤sizeLine∧Q .non (upd H a (.dK (a1B kvs more)))
section
variable {X:Cx}
theorem a4d:MtM X "dict.update" c0x:=by
 intro pins s σ H x xs v us Q I rx rv h
 obtain ⟨a,b,kvs,more,rfl,rfl,hab,ha,hb,hz,q⟩:=h
 cases rx
 obtain ⟨u,rfl,ru⟩:=a2V rv
 cases ru
 obtain ⟨z,hd,vs,rel,dd⟩:=a5T I.hok ha
 obtain ⟨z',hd',vs',rel',dd'⟩:=a5T I.hok hb
 refine call_meetsIn Jr dd.typeIs PySem.F.entry_dict_update (PySem.F.args_dict_update_2 _ _) (meets_dict_update (a0m X.prog X.w) a b hab hd') ⟨vs,vs',dd,dd',by rw [←rel.length,←rel'.length];exact hz,fun h' dn db hs=>?_⟩
 have he:∃q,h'.get? a=some q:=let ⟨q,_,_,hq,_⟩:=dn;⟨q,hq⟩
 exact ⟨.non,_,a4A (t':=s.toks) I (by rw [ha];exact True.intro) hs he (a8v (Qh (a1s more kvs) hz) hd (KV.merge rel' rel) dn),rfl,q⟩
end
end L2
namespace L2
open PySem PySem.Spec PySem.W PySem.Calls PyProof.Rows
def c2M (K:Qc) (H:Hp) (kvs kvs':List (Key×V)):Prop:=kvs.length=kvs'.length∧∀p∈kvs,∃v d,a0R kvs' p.1=some v∧Den K H p.2 d∧Den K H v d∧Yn d=true∧d.depth≤60
def b9V (K:Qc):R2:=fun x y H Q=>∃(a b:Addr) (kvs kvs':List (Key×V)),x=.ref a∧y=.ref b∧H a=some (.dK kvs)∧H b=some (.dK kvs')∧c2M K H kvs kvs'∧Q (.bl true) H
section
variable {X:Cx} {pins:List (Addr×Obj)} {σ:St} {H:Hp} {s:Shared}
theorem b2K {A:Around} (hu:A.units+61 < cLine) (I:Inv X pins σ H s) {kvs:List (Key×V)} {vs':List (Key×Value)} (rel':KV kvs vs'):∀{r:List (Key×V)} {rs:List (Key×Value)},KV r rs→(∀p∈r,∃v d,a0R kvs p.1=some v∧Den X.K H p.2 d∧Den X.K H v d∧Yn d=true∧d.depth≤60)→KeqHits A s vs' rs true:=by
 intro r rs h
 unfold KV at h
 induction h with
 | nil=>intro _;exact .nil
 | @cons p q ps qs h t ih=>
  intro hp
  obtain ⟨v,d,e,d1,d2,sh,dp⟩:=hp p Qn
  have hv:=rel'.val p.1
  rw [e] at hv
  obtain ⟨q1,q2⟩:=q
  obtain ⟨hk,hr⟩:=h
  dsimp only at hk hr
  rw [hk] at hv
  cases ev:valueAt vs' q1 with
  | none=>rw [ev] at hv;exact hv.elim
  | some y=>
   rw [ev] at hv
   have hv':a0N v y:=hv
   obtain ⟨as,ra⟩:=d1.reads I hr
   obtain ⟨bs,rb⟩:=d2.reads I hv'
   have hq:Xw A s q2 y (Xq d d):=SeqAt.eqAt_reads d d A s q2 y as bs ra rb (Wc sh) (Wc sh) (by rw [Nat.min_self];omega)
   rw [b2D d sh] at hq
   have:=KeqHits.hit (k:=q1) ev hq (ih fun p hp'=>hp p (Qp _ hp'))
   rw [Jk] at this
   exact this
end
section
variable {X:Cx}
theorem b4U (hu:X.A.units+64 < cLine):OpR X (compareOp .Eq) (b9V X.K):=by
 intro pins s σ H x y v u Q I rx ry h
 obtain ⟨a,b,kvs,kvs',rfl,rfl,ha,hb,⟨hl,hs⟩,q⟩:=h
 cases rx;cases ry
 obtain ⟨z,hd,vs,rel,dd⟩:=a5T I.hok ha
 obtain ⟨z',hd',vs',rel',dd'⟩:=a5T I.hok hb
 refine keq_eq (knd:=a0m X.prog X.w) (r:=true) hd hd' dd dd' (by omega) (fun _=>b2K (by show X.A.units+1+61 < cLine;omega) I rel' rel hs) ?_
 rw [←rel.length,←rel'.length,hl,beq_self_eq_true,Jk]
 exact ⟨.bl true,H,I,rfl,q⟩
end
end L2
namespace L2
open PySem PySem.Spec PySem.W PySem.Calls PyProof.Rows
def b5r (ts:TS):TS:=fun E σ H=>∃(a:Addr) (kvs:List (Key×V)),H a=some (.dK kvs)∧
 ts {nx:=fun σ' H1=>∃o,H1 a=some (.frz o (.dK kvs))∧E.nx σ' (upd H1 a (.dK kvs)),rt:=fun v H1=>∃o,H1 a=some (.frz o (.dK kvs))∧E.rt v (upd H1 a (.dK kvs)),bk:=fun σ' H1=>∃o,H1 a=some (.frz o (.dK kvs))∧E.bk σ' (upd H1 a (.dK kvs)),ct:=fun σ' H1=>∃o,H1 a=some (.frz o (.dK kvs))∧E.ct σ' (upd H1 a (.dK kvs))} σ H
def c4r (K:Qc):R2:=fun x y H Q=>∃(a b:Addr) (xs:List V),x=.ref a∧y=.ref b∧SqL K H a xs∧SqL K H b []∧Q (.bl (decide (xs≠[]))) H
section
variable {X:Cx}
theorem b5K {st:Stmt} {ts:TS} (hs:PS X st ts):PS X st (b5r ts):=by
 intro pins s σ H D I h
 obtain ⟨a,kvs,hH,h⟩:=h
 have hn:∀ob u,X.H₀ a≠some (.frz ob u):=fun ob u z=>by
  have:=I.base.frzs a ob u z
  rw [hH] at this;cases this
 refine thn (hs pins s σ H _ I h) fun f s1 q=>?_
 cases f with
 | next=>obtain ⟨σ',H1,I1,o,e1,q⟩:=q;exact ⟨σ',_,I1.thaw e1 hn,q⟩
 | brk=>obtain ⟨σ',H1,I1,o,e1,q⟩:=q;exact ⟨σ',_,I1.thaw e1 hn,q⟩
 | cont=>obtain ⟨σ',H1,I1,o,e1,q⟩:=q;exact ⟨σ',_,I1.thaw e1 hn,q⟩
 | ret u=>obtain ⟨v,σ',H1,I1,r,o,e1,q⟩:=q;exact ⟨v,σ',_,I1.thaw e1 hn,r,q⟩
theorem b2O (hu:X.A.units+64 < cLine):OpR X (compareOp .NotEq) (c4r X.K):=by
 intro pins s σ H x y v u Q I rx ry h
 obtain ⟨a,b,xs,rfl,rfl,ha,hb,q⟩:=h
 cases rx
 cases ry
 obtain ⟨its,rv,p1,_⟩:=I.list ha
 obtain ⟨its2,rv2,p2,_⟩:=I.list hb
 have hl:=rv.length
 cases rv2
 by_cases hx:xs=[]
 ·subst hx
  cases rv
  rw [decide_eq_false (fun z=>z rfl)] at q
  exact SeqAt.RcNeAt.lists (e:=fun _=>true) p1.isList p2.isList rfl (by omega) (fun j h1 _=>absurd h1 (by simp)) X.prog X.w _ _ ⟨.bl _,H,I,rfl,q⟩
 ·rw [decide_eq_true hx] at q
  refine SeqAt.RcNeAt.lists_lengths p1.isList p2.isList ?_ (by omega) X.prog X.w _ _ ⟨.bl _,H,I,rfl,q⟩
  have:its.length≠0:=fun z=>hx (Jt.mp (by omega))
  simp [this]
end
end L2
namespace L2
open PySem PySem.Spec PySem.W PySem.Calls PyProof.Rows
def c1n (ts ts':TS):TS:=fun E σ H=>ts E σ H∨ts' E σ H
section
variable {X:Cx}
theorem b7K {st:Stmt} {ts ts':TS} (h1:PS X st ts) (h2:PS X st ts'):PS X st (c1n ts ts'):=by
 intro pins s σ H D I h
 rcases h with h | h
 ·exact h1 pins s σ H D I h
 ·exact h2 pins s σ H D I h
end
end L2
namespace L2
open PySem PySem.Spec PySem.W PySem.Calls PyProof.Rows
def a5H (H:Hp) (q:Hp→Prop) (H1:Hp):Prop:=∃(a:Addr) (o:Obj) (kvs:List (Key×V)),(∀ob u,H a≠some (.frz ob u))∧H1 a=some (.frz o (.dK kvs))∧q (upd H1 a (.dK kvs))
def b3r (ts:TS):TS:=fun E σ H=>ts {nx:=fun σ'=>a5H H (E.nx σ'),rt:=fun v=>a5H H (E.rt v),bk:=fun σ'=>a5H H (E.bk σ'),ct:=fun σ'=>a5H H (E.ct σ')} σ H
section
variable {X:Cx}
theorem b2j {st:Stmt} {ts:TS} (hs:PS X st ts):PS X st (b3r ts):=by
 intro pins s σ H D I h
 have hn:∀a,(∀ob u,H a≠some (.frz ob u))→∀ob u,X.H₀ a≠some (.frz ob u):=fun a n ob u z=>n ob u (I.base.frzs a ob u z)
 refine thn (hs pins s σ H _ I h) fun f s1 q=>?_
 cases f with
 | next=>obtain ⟨σ',H1,I1,a,o,kvs,n,e1,q⟩:=q;exact ⟨σ',_,I1.thaw e1 (hn a n),q⟩
 | brk=>obtain ⟨σ',H1,I1,a,o,kvs,n,e1,q⟩:=q;exact ⟨σ',_,I1.thaw e1 (hn a n),q⟩
 | cont=>obtain ⟨σ',H1,I1,a,o,kvs,n,e1,q⟩:=q;exact ⟨σ',_,I1.thaw e1 (hn a n),q⟩
 | ret u=>obtain ⟨v,σ',H1,I1,r,a,o,kvs,n,e1,q⟩:=q;exact ⟨v,σ',_,I1.thaw e1 (hn a n),r,q⟩
end
end L2
namespace L2
open PySem
theorem c5z {a b c:Prop} (h:a):a∨b∨c:=Or.inl h
theorem c4z {a b c:Prop} (h:b):a∨b∨c:=Or.inr (Or.inl h)
theorem c5P {a b c:Prop} (h:c):a∨b∨c:=Or.inr (Or.inr h)
end L2
namespace K46
open PySem L2 Tx
abbrev a1P:Str:="sure_steps.<locals>.<lambda>"
theorem a2D:("sure_steps":Str)++".<locals>."++"<lambda>"=a1P:=by decide+kernel
def top (i:Nat):Stmt:=PySem.Challenge.pw_mostwise_k46_whole_leaners_alone.main.body.getD i (.Pass ⟨0,0,0,0⟩)
abbrev b0R:Stmt:=top 2
abbrev b8E:List Str:=["some","told","statement"]
theorem a6R:a0h b8E ["some"] (a0c b0R):=⟨rfl,rfl,rfl,by decide+kernel,rfl,by decide+kernel,by decide+kernel⟩
abbrev a7T:Stmt:=top 3
abbrev b5u:List Str:=["statements","some"]
theorem b9g:a0h b5u ["statements","some"] (a0c a7T):=⟨rfl,rfl,rfl,by decide+kernel,rfl,by decide+kernel,by decide+kernel⟩
abbrev a8h:Stmt:=top 4
abbrev b4V:List Str:=["statements","some"]
theorem b7B:a0h b4V ["statements","some"] (a0c a8h):=⟨rfl,rfl,rfl,by decide+kernel,rfl,by decide+kernel,by decide+kernel⟩
abbrev b0x:Stmt:=top 6
abbrev b7L:List Str:=["statement"]
theorem b8X:a0h b7L ["statement"] (a0c b0x):=⟨rfl,rfl,rfl,by decide+kernel,rfl,by decide+kernel,by decide+kernel⟩
abbrev b1e:Stmt:=top 8
abbrev b6M:List Str:=["ground","heads","rule","premise"]
theorem a7l:a0h b6M ["ground"] (a0c b1e):=⟨rfl,rfl,rfl,by decide+kernel,rfl,by decide+kernel,by decide+kernel⟩
abbrev a2B:Stmt:=top 10
abbrev a7U:List Str:=["rules","known","sure","waiting","ranks","rank","fresh","head"]
theorem a2F:a0h a7U ["rules","known"] (a0c a2B):=⟨rfl,rfl,rfl,by decide+kernel,rfl,by decide+kernel,by decide+kernel⟩
abbrev a7F:Stmt:=top 11
abbrev b4Z:List Str:=["ground","ranks"]
theorem b3N:a0h b4Z ["ground"] (a0c a7F):=⟨rfl,rfl,rfl,by decide+kernel,rfl,by decide+kernel,by decide+kernel⟩
abbrev a8f:Stmt:=top 15
abbrev b3W:List Str:=["ground","rule","beaters"]
theorem b7z:a0h b3W ["ground","rule","beaters"] (a0c a8f):=⟨rfl,rfl,rfl,by decide+kernel,rfl,by decide+kernel,by decide+kernel⟩
abbrev a6w:Stmt:=top 16
abbrev b1S:List Str:=["ground","sures","held","refused","q","standing"]
theorem b3H:a0h b1S ["ground","sures","held","refused","q"] (a0c a6w):=⟨rfl,rfl,rfl,by decide+kernel,rfl,by decide+kernel,by decide+kernel⟩
abbrev a6D:Stmt:=top 17
abbrev b1t:List Str:=["ground","sures","held","refused","q","unfallen"]
theorem b3w:a0h b1t ["ground","sures","held","refused","q"] (a0c a6D):=⟨rfl,rfl,rfl,by decide+kernel,rfl,by decide+kernel,by decide+kernel⟩
abbrev a8N:Stmt:=top 18
abbrev b7S:List Str:=["ground","sures","held","refused","asked","words","q"]
theorem a6X:a0h b7S ["ground","sures","held","refused","asked"] (a0c a8N):=⟨rfl,rfl,rfl,by decide+kernel,rfl,by decide+kernel,by decide+kernel⟩
abbrev a9l:Stmt:=top 19
abbrev b7v:List Str:=["heads","came","told","premise","head"]
theorem a7a:a0h b7v ["heads","came"] (a0c a9l):=⟨rfl,rfl,rfl,by decide+kernel,rfl,by decide+kernel,by decide+kernel⟩
abbrev a4a:Stmt:=top 20
abbrev a6v:List Str:=["ground","some","sures","known","sure","held","refused","heads","wanted","told","rank","came","q","asked"]
theorem a2a:a0h a6v ["ground","some","sures","known"] (a0c a4a):=⟨rfl,rfl,rfl,by decide+kernel,rfl,by decide+kernel,by decide+kernel⟩
abbrev b0z:Stmt:=a0g (top 21) 0
abbrev b5W:List Str:=["self","ground"]
theorem b6B:a0h b5W ["self","ground"] (a0c b0z):=⟨rfl,rfl,rfl,by decide+kernel,rfl,by decide+kernel,by decide+kernel⟩
abbrev b0B:Stmt:=a0g (top 21) 1
abbrev b6k:List Str:=["self","q"]
theorem b9G:a0h b6k ["self","q"] (a0c b0B):=⟨rfl,rfl,rfl,by decide+kernel,rfl,by decide+kernel,by decide+kernel⟩
abbrev b2e:Stmt:=a0g (top 21) 2
abbrev a9z:Stmt:=a0g (top 21) 3
abbrev b7g:List Str:=["self","q"]
theorem b5U:a0h b7g ["self","q"] (a0c a9z):=⟨rfl,rfl,rfl,by decide+kernel,rfl,by decide+kernel,by decide+kernel⟩
abbrev b0P:Stmt:=a0g (top 21) 4
abbrev b7V:List Str:=["self","q"]
theorem b8D:a0h b7V ["self","q"] (a0c b0P):=⟨rfl,rfl,rfl,by decide+kernel,rfl,by decide+kernel,by decide+kernel⟩
abbrev b1c:Stmt:=a0g (top 21) 6
abbrev b8B:List Str:=["self","q"]
theorem b7e:a0h b8B ["self","q"] (a0c b1c):=⟨rfl,rfl,rfl,by decide+kernel,rfl,by decide+kernel,by decide+kernel⟩
abbrev b1f:Stmt:=a0g (top 21) 8
abbrev b9z:List Str:=["self"]
theorem b6t:a0h b9z ["self"] (a0c b1f):=⟨rfl,rfl,rfl,by decide+kernel,rfl,by decide+kernel,by decide+kernel⟩
abbrev a9u:Stmt:=a0g (top 23) 0
abbrev b8i:List Str:=["self","label","head","body"]
theorem b6U:a0h b8i ["self","label","head","body"] (a0c a9u):=⟨rfl,rfl,rfl,by decide+kernel,rfl,by decide+kernel,by decide+kernel⟩
abbrev a9c:Stmt:=a0g (top 23) 2
abbrev b7t:List Str:=["self"]
theorem b9B:a0h b7t ["self"] (a0c a9c):=⟨rfl,rfl,rfl,by decide+kernel,rfl,by decide+kernel,by decide+kernel⟩
abbrev a8J:Stmt:=a0g (top 23) 3
abbrev b9h:List Str:=["self"]
theorem b8a:a0h b9h ["self"] (a0c a8J):=⟨rfl,rfl,rfl,by decide+kernel,rfl,by decide+kernel,by decide+kernel⟩
abbrev b1i:Stmt:=a0g (top 24) 0
abbrev b6K:List Str:=["self","head"]
theorem b9q:a0h b6K ["self","head"] (a0c b1i):=⟨rfl,rfl,rfl,by decide+kernel,rfl,by decide+kernel,by decide+kernel⟩
abbrev a8U:Stmt:=a0g (top 24) 2
abbrev b6x:List Str:=["self"]
theorem b6s:a0h b6x ["self"] (a0c a8U):=⟨rfl,rfl,rfl,by decide+kernel,rfl,by decide+kernel,by decide+kernel⟩
abbrev a9A:Stmt:=a0g (top 25) 1
abbrev b8x:List Str:=["self"]
theorem b6H:a0h b8x ["self"] (a0c a9A):=⟨rfl,rfl,rfl,by decide+kernel,rfl,by decide+kernel,by decide+kernel⟩
abbrev b0F:Stmt:=a0g (top 27) 1
abbrev b8U:List Str:=["self"]
theorem b6R:a0h b8U ["self"] (a0c b0F):=⟨rfl,rfl,rfl,by decide+kernel,rfl,by decide+kernel,by decide+kernel⟩
abbrev b1h:Stmt:=a0g (top 29) 0
abbrev b8c:List Str:=["self","rules","pairs","rule","pair"]
theorem a8D:a0h b8c ["self","rules","pairs"] (a0c b1h):=⟨rfl,rfl,rfl,by decide+kernel,rfl,by decide+kernel,by decide+kernel⟩
abbrev a9F:Stmt:=a0g (top 29) 1
abbrev b9a:List Str:=["self"]
theorem b7u:a0h b9a ["self"] (a0c a9F):=⟨rfl,rfl,rfl,by decide+kernel,rfl,by decide+kernel,by decide+kernel⟩
abbrev a9K:Stmt:=a0g (top 29) 2
abbrev b8l:List Str:=["self","statement"]
theorem b7T:a0h b8l ["self","statement"] (a0c a9K):=⟨rfl,rfl,rfl,by decide+kernel,rfl,by decide+kernel,by decide+kernel⟩
abbrev a8n:Stmt:=a0g (top 29) 3
abbrev b5l:List Str:=["self","statement"]
theorem b7k:a0h b5l ["self","statement"] (a0c a8n):=⟨rfl,rfl,rfl,by decide+kernel,rfl,by decide+kernel,by decide+kernel⟩
abbrev b0S:Stmt:=a0g (top 29) 4
abbrev b9j:List Str:=["self","statement"]
theorem b8A:a0h b9j ["self","statement"] (a0c b0S):=⟨rfl,rfl,rfl,by decide+kernel,rfl,by decide+kernel,by decide+kernel⟩
abbrev a8x:Stmt:=a0g (top 29) 5
abbrev b8G:List Str:=["self","one","other"]
theorem b7j:a0h b8G ["self","one","other"] (a0c a8x):=⟨rfl,rfl,rfl,by decide+kernel,rfl,by decide+kernel,by decide+kernel⟩
abbrev b1g:Stmt:=a0g (top 29) 6
abbrev b6T:List Str:=["self","told","rule","statement"]
theorem a7b:a0h b6T ["self"] (a0c b1g):=⟨rfl,rfl,rfl,by decide+kernel,rfl,by decide+kernel,by decide+kernel⟩
abbrev a8L:Stmt:=top 31
abbrev b8w:List Str:=["_law_script","_law_k"]
theorem b9C:a0h b8w ["_law_script","_law_k"] (a0c a8L):=⟨rfl,rfl,rfl,by decide+kernel,rfl,by decide+kernel,by decide+kernel⟩
abbrev a9x:Stmt:=top 32
abbrev b5S:List Str:=["_law_cell","_law_k","_law_number"]
theorem b0e:a0h b5S ["_law_cell","_law_k"] (a0c a9x):=⟨rfl,rfl,rfl,by decide+kernel,rfl,by decide+kernel,by decide+kernel⟩
abbrev b0o:Stmt:=top 33
abbrev b8I:List Str:=["_law_cell","_law_k","_law_signs","_law_size","_law_at","_law_word_here","_law_j","_law_step"]
theorem a3h:a0h b8I ["_law_cell","_law_k","_law_signs"] (a0c b0o):=⟨rfl,rfl,rfl,by decide+kernel,rfl,by decide+kernel,by decide+kernel⟩
abbrev a7K:Stmt:=top 34
abbrev b3Z:List Str:=["_law_cell","_law_words","_law_pool_here","_law_k","_law_places"]
theorem a5u:a0h b3Z ["_law_cell"] (a0c a7K):=⟨rfl,rfl,rfl,by decide+kernel,rfl,by decide+kernel,by decide+kernel⟩
abbrev a6k:Stmt:=top 35
abbrev b1M:List Str:=["_law_m","_law_k","_law_pool_here","_law_labels_here","_law_style","_law_size","_law_head","_law_body","_law_many","_law_sort"]
theorem a3e:a0h b1M ["_law_m","_law_k","_law_pool_here","_law_labels_here","_law_style"] (a0c a6k):=⟨rfl,rfl,rfl,by decide+kernel,rfl,by decide+kernel,by decide+kernel⟩
abbrev a8X:Stmt:=top 36
abbrev b7s:List Str:=["_law_row_here","_law_sort","_law_label","_law_head","_law_body"]
theorem a5D:a0h b7s ["_law_row_here"] (a0c a8X):=⟨rfl,rfl,rfl,by decide+kernel,rfl,by decide+kernel,by decide+kernel⟩
abbrev a7B:Stmt:=top 37
abbrev b3R:List Str:=["_law_cell"]
theorem b6X:a0h b3R ["_law_cell"] (a0c a7B):=⟨rfl,rfl,rfl,by decide+kernel,rfl,by decide+kernel,by decide+kernel⟩
abbrev a9s:Stmt:=top 38
abbrev b6o:List Str:=["_law_cell","_law_pool_here","_law_labels_here","_law_size","_law_sort","_law_label","_law_head","_law_many","_law_rest","_law_body","_law_j"]
theorem a2G:a0h b6o ["_law_cell","_law_pool_here","_law_labels_here"] (a0c a9s):=⟨rfl,rfl,rfl,by decide+kernel,rfl,by decide+kernel,by decide+kernel⟩
abbrev a6u:Stmt:=top 39
abbrev b1j:List Str:=["_law_script","_law_start","_law_pool_here","_law_labels_here","_law_style","_law_cells"]
theorem a5G:a0h b1j ["_law_script","_law_start"] (a0c a6u):=⟨rfl,rfl,rfl,by decide+kernel,rfl,by decide+kernel,by decide+kernel⟩
abbrev a9Q:Stmt:=top 40
abbrev b7O:List Str:=["_law_cell","_law_many","_law_labels_here","_law_pairs_here","_law_k","_law_number","_law_one","_law_other_here"]
theorem a3A:a0h b7O ["_law_cell","_law_many"] (a0c a9Q):=⟨rfl,rfl,rfl,by decide+kernel,rfl,by decide+kernel,by decide+kernel⟩
abbrev a8y:Stmt:=top 41
abbrev b9t:List Str:=["_law_script","_law_labels_here","_law_cell","_law_pairs_here","_law_one","_law_other_here"]
theorem a3y:a0h b9t ["_law_script"] (a0c a8y):=⟨rfl,rfl,rfl,by decide+kernel,rfl,by decide+kernel,by decide+kernel⟩
abbrev b0p:Stmt:=top 42
abbrev b9k:List Str:=["_law_q"]
theorem b8r:a0h b9k ["_law_q"] (a0c b0p):=⟨rfl,rfl,rfl,by decide+kernel,rfl,by decide+kernel,by decide+kernel⟩
abbrev a7E:Stmt:=top 43
abbrev b4c:List Str:=["_law_rows_here","_law_some","_law_found","_law_to_come","_law_here"]
theorem a7x:a0h b4c ["_law_rows_here","_law_some"] (a0c a7E):=⟨rfl,rfl,rfl,by decide+kernel,rfl,by decide+kernel,by decide+kernel⟩
abbrev a9j:Stmt:=top 44
abbrev b7Y:List Str:=["_law_answers","_law_q"]
theorem b7P:a0h b7Y ["_law_answers","_law_q"] (a0c a9j):=⟨rfl,rfl,rfl,by decide+kernel,rfl,by decide+kernel,by decide+kernel⟩
abbrev a2s:Stmt:=top 45
abbrev a3U:List Str:=["_law_script","_law_rows_here","_law_pool_here","_law_pairs_here","_law_ground","_law_answers","_law_cell","_law_some","_law_known","_law_due","_law_ranks","_law_q","_law_word_here","_law_found"]
theorem a0M:a0h a3U ["_law_script"] (a0c a2s):=⟨rfl,rfl,rfl,by decide+kernel,rfl,by decide+kernel,by decide+kernel⟩
structure Adr where
 f_z1r:Addr
 fd_z1r:FuncData
 f_z11:Addr
 fd_z11:FuncData
 f_z12:Addr
 fd_z12:FuncData
 f_z1d:Addr
 fd_z1d:FuncData
 f_z03:Addr
 fd_z03:FuncData
 f_z0n:Addr
 fd_z0n:FuncData
 T_z0n:Addr
 f_z0u:Addr
 fd_z0u:FuncData
 f_z13:Addr
 fd_z13:FuncData
 f_z1e:Addr
 fd_z1e:FuncData
 f_z0v:Addr
 fd_z0v:FuncData
 f_z14:Addr
 fd_z14:FuncData
 f_z1i:Addr
 fd_z1i:FuncData
 f_z0o:Addr
 fd_z0o:FuncData
 f_z0c:Addr
 fd_z0c:FuncData
 f_z00:Addr
 fd_z00:FuncData
 f_z0d:Addr
 fd_z0d:FuncData
 f_z0e:Addr
 fd_z0e:FuncData
 f_z04:Addr
 fd_z04:FuncData
 f_z0f:Addr
 fd_z0f:FuncData
 f_z0a:Addr
 fd_z0a:FuncData
 f_z15:Addr
 fd_z15:FuncData
 f_z0p:Addr
 fd_z0p:FuncData
 f_z0g:Addr
 fd_z0g:FuncData
 f_z17:Addr
 fd_z17:FuncData
 f_z0i:Addr
 fd_z0i:FuncData
 f_z0j:Addr
 fd_z0j:FuncData
 f_z0k:Addr
 fd_z0k:FuncData
 f_z0s:Addr
 fd_z0s:FuncData
 f_z0l:Addr
 fd_z0l:FuncData
 f_z0b:Addr
 fd_z0b:FuncData
 f_z05:Addr
 fd_z05:FuncData
 f_z09:Addr
 fd_z09:FuncData
 f_z0m:Addr
 fd_z0m:FuncData
 f_z01:Addr
 fd_z01:FuncData
 f_z1b:Addr
 fd_z1b:FuncData
 f_z1s:Addr
 fd_z1s:FuncData
 f_z1m:Addr
 fd_z1m:FuncData
 f_z1n:Addr
 fd_z1n:FuncData
 f_z1t:Addr
 fd_z1t:FuncData
 f_z1o:Addr
 fd_z1o:FuncData
 f_z1h:Addr
 fd_z1h:FuncData
 f_z06:Addr
 fd_z06:FuncData
 f_z1p:Addr
 fd_z1p:FuncData
 f_z1j:Addr
 fd_z1j:FuncData
 f_z02:Addr
 fd_z02:FuncData
 f_z1k:Addr
 fd_z1k:FuncData
 f_z1l:Addr
 fd_z1l:FuncData
 f_z1c:Addr
 fd_z1c:FuncData
 f_d_law:Addr
 fd_d_law:FuncData
 C_Answers:Addr
 C_Rule:Addr
 C_Fact:Addr
 C_Sure:Addr
 C_Most:Addr
 C_Block:Addr
 C_Ground:Addr
 TB_z0u:Addr
structure Txt (K:Qc) (mg:Str→Option Value) (t:Adr):Prop where
 F_z1r:Fun K "keyed" "keyed" b0R t.f_z1r t.fd_z1r
 b_z1r:a0n K t.fd_z1r ["some"] []
 g_z1r:mg "keyed"=some (.ref t.f_z1r)
 F_z11:Fun K "all_among" "all_among" a7T t.f_z11 t.fd_z11
 b_z11:a0n K t.fd_z11 ["statements","some"] []
 g_z11:mg "all_among"=some (.ref t.f_z11)
 F_z12:Fun K "any_among" "any_among" a8h t.f_z12 t.fd_z12
 b_z12:a0n K t.fd_z12 ["statements","some"] []
 g_z12:mg "any_among"=some (.ref t.f_z12)
 F_z1d:Fun K "opposite" "opposite" b0x t.f_z1d t.fd_z1d
 b_z1d:a0n K t.fd_z1d ["statement"] []
 g_z1d:mg "opposite"=some (.ref t.f_z1d)
 F_z03:Fun K "heads_by_premise" "heads_by_premise" b1e t.f_z03 t.fd_z03
 b_z03:a0n K t.fd_z03 ["ground"] []
 g_z03:mg "heads_by_premise"=some (.ref t.f_z03)
 F_z0n:b2Z K "sure_rounds" "sure_rounds" a2B t.f_z0n t.fd_z0n t.T_z0n [Value.none]
 b_z0n:a0n K t.fd_z0n ["rules","known"] []
 bd_z0n:a0n K t.fd_z0n ["rules","known"] [Value.none]
 g_z0n:mg "sure_rounds"=some (.ref t.f_z0n)
 F_z0u:Fun K "sure_steps" "sure_steps" a7F t.f_z0u t.fd_z0u
 b_z0u:a0n K t.fd_z0u ["ground"] []
 g_z0u:mg "sure_steps"=some (.ref t.f_z0u)
 F_z13:Fun K "is_beaten" "is_beaten" a8f t.f_z13 t.fd_z13
 b_z13:a0n K t.fd_z13 ["ground","rule","beaters"] []
 g_z13:mg "is_beaten"=some (.ref t.f_z13)
 F_z1e:Fun K "holds_by" "holds_by" a6w t.f_z1e t.fd_z1e
 b_z1e:a0n K t.fd_z1e ["ground","sures","held","refused","q"] []
 g_z1e:mg "holds_by"=some (.ref t.f_z1e)
 F_z0v:Fun K "refused_by" "refused_by" a6D t.f_z0v t.fd_z0v
 b_z0v:a0n K t.fd_z0v ["ground","sures","held","refused","q"] []
 g_z0v:mg "refused_by"=some (.ref t.f_z0v)
 F_z14:Fun K "words_now" "words_now" a8N t.f_z14 t.fd_z14
 b_z14:a0n K t.fd_z14 ["ground","sures","held","refused","asked"] []
 g_z14:mg "words_now"=some (.ref t.f_z14)
 F_z1i:Fun K "touched" "touched" a9l t.f_z1i t.fd_z1i
 b_z1i:a0n K t.fd_z1i ["heads","came"] []
 g_z1i:mg "touched"=some (.ref t.f_z1i)
 F_z0o:Fun K "most_rounds" "most_rounds" a4a t.f_z0o t.fd_z0o
 b_z0o:a0n K t.fd_z0o ["ground","some","sures","known"] []
 g_z0o:mg "most_rounds"=some (.ref t.f_z0o)
 F_z0c:Fun K "__init__" "Answers.__init__" b0z t.f_z0c t.fd_z0c
 b_z0c:a0n K t.fd_z0c ["self","ground"] []
 F_z00:Fun K "word_and_rank" "Answers.word_and_rank" b0B t.f_z00 t.fd_z00
 b_z00:a0n K t.fd_z00 ["self","q"] []
 F_z0d:Fun K "sure" "Answers.sure" b2e t.f_z0d t.fd_z0d
 b_z0d:a0n K t.fd_z0d ["self","q"] []
 F_z0e:Fun K "held" "Answers.held" a9z t.f_z0e t.fd_z0e
 b_z0e:a0n K t.fd_z0e ["self","q"] []
 F_z04:Fun K "refused" "Answers.refused" b0P t.f_z04 t.fd_z04
 b_z04:a0n K t.fd_z04 ["self","q"] []
 F_z0f:Fun K "rank" "Answers.rank" b1c t.f_z0f t.fd_z0f
 b_z0f:a0n K t.fd_z0f ["self","q"] []
 F_z0a:Fun K "sures" "Answers.sures" b1f t.f_z0a t.fd_z0a
 b_z0a:a0n K t.fd_z0a ["self"] []
 F_z15:Fun K "__init__" "Rule.__init__" a9u t.f_z15 t.fd_z15
 b_z15:a0n K t.fd_z15 ["self","label","head","body"] []
 F_z0p:Fun K "speaks" "Rule.speaks" a9c t.f_z0p t.fd_z0p
 b_z0p:a0n K t.fd_z0p ["self"] []
 F_z0g:Fun K "is_sure" "Rule.is_sure" a8J t.f_z0g t.fd_z0g
 b_z0g:a0n K t.fd_z0g ["self"] []
 F_z17:Fun K "__init__" "Fact.__init__" b1i t.f_z17 t.fd_z17
 b_z17:a0n K t.fd_z17 ["self","head"] []
 F_z0i:Fun K "is_sure" "Fact.is_sure" a8U t.f_z0i t.fd_z0i
 b_z0i:a0n K t.fd_z0i ["self"] []
 F_z0j:Fun K "is_sure" "Sure.is_sure" a9A t.f_z0j t.fd_z0j
 b_z0j:a0n K t.fd_z0j ["self"] []
 F_z0k:Fun K "speaks" "Block.speaks" b0F t.f_z0k t.fd_z0k
 b_z0k:a0n K t.fd_z0k ["self"] []
 F_z0s:Fun K "__init__" "Ground.__init__" b1h t.f_z0s t.fd_z0s
 b_z0s:a0n K t.fd_z0s ["self","rules","pairs"] []
 F_z0l:Fun K "rules" "Ground.rules" a9F t.f_z0l t.fd_z0l
 b_z0l:a0n K t.fd_z0l ["self"] []
 F_z0b:Fun K "ruling" "Ground.ruling" a9K t.f_z0b t.fd_z0b
 b_z0b:a0n K t.fd_z0b ["self","statement"] []
 F_z05:Fun K "speaking" "Ground.speaking" a8n t.f_z05 t.fd_z05
 b_z05:a0n K t.fd_z05 ["self","statement"] []
 F_z09:Fun K "against" "Ground.against" b0S t.f_z09 t.fd_z09
 b_z09:a0n K t.fd_z09 ["self","statement"] []
 F_z0m:Fun K "beats" "Ground.beats" a8x t.f_z0m t.fd_z0m
 b_z0m:a0n K t.fd_z0m ["self","one","other"] []
 F_z01:Fun K "statements" "Ground.statements" b1g t.f_z01 t.fd_z01
 b_z01:a0n K t.fd_z01 ["self"] []
 F_z1b:Fun K "_law_cell_at" "_law_cell_at" a8L t.f_z1b t.fd_z1b
 b_z1b:a0n K t.fd_z1b ["_law_script","_law_k"] []
 g_z1b:mg "_law_cell_at"=some (.ref t.f_z1b)
 F_z1s:Fun K "_law_mix" "_law_mix" a9x t.f_z1s t.fd_z1s
 b_z1s:a0n K t.fd_z1s ["_law_cell","_law_k"] []
 g_z1s:mg "_law_mix"=some (.ref t.f_z1s)
 F_z1m:Fun K "_law_word" "_law_word" b0o t.f_z1m t.fd_z1m
 b_z1m:a0n K t.fd_z1m ["_law_cell","_law_k","_law_signs"] []
 g_z1m:mg "_law_word"=some (.ref t.f_z1m)
 F_z1n:Fun K "_law_pool" "_law_pool" a7K t.f_z1n t.fd_z1n
 b_z1n:a0n K t.fd_z1n ["_law_cell"] []
 g_z1n:mg "_law_pool"=some (.ref t.f_z1n)
 F_z1t:Fun K "_law_row" "_law_row" a6k t.f_z1t t.fd_z1t
 b_z1t:a0n K t.fd_z1t ["_law_m","_law_k","_law_pool_here","_law_labels_here","_law_style"] []
 g_z1t:mg "_law_row"=some (.ref t.f_z1t)
 F_z1o:Fun K "_law_made" "_law_made" a8X t.f_z1o t.fd_z1o
 b_z1o:a0n K t.fd_z1o ["_law_row_here"] []
 g_z1o:mg "_law_made"=some (.ref t.f_z1o)
 F_z1h:Fun K "_law_labels" "_law_labels" a7B t.f_z1h t.fd_z1h
 b_z1h:a0n K t.fd_z1h ["_law_cell"] []
 g_z1h:mg "_law_labels"=some (.ref t.f_z1h)
 F_z06:Fun K "_law_row_by_digits" "_law_row_by_digits" a9s t.f_z06 t.fd_z06
 b_z06:a0n K t.fd_z06 ["_law_cell","_law_pool_here","_law_labels_here"] []
 g_z06:mg "_law_row_by_digits"=some (.ref t.f_z06)
 F_z1p:Fun K "_law_rows" "_law_rows" a6u t.f_z1p t.fd_z1p
 b_z1p:a0n K t.fd_z1p ["_law_script","_law_start"] []
 g_z1p:mg "_law_rows"=some (.ref t.f_z1p)
 F_z1j:Fun K "_law_pairs" "_law_pairs" a9Q t.f_z1j t.fd_z1j
 b_z1j:a0n K t.fd_z1j ["_law_cell","_law_many"] []
 g_z1j:mg "_law_pairs"=some (.ref t.f_z1j)
 F_z02:Fun K "_law_pairs_by_digits" "_law_pairs_by_digits" a8y t.f_z02 t.fd_z02
 b_z02:a0n K t.fd_z02 ["_law_script"] []
 g_z02:mg "_law_pairs_by_digits"=some (.ref t.f_z02)
 F_z1k:Fun K "_law_other" "_law_other" b0p t.f_z1k t.fd_z1k
 b_z1k:a0n K t.fd_z1k ["_law_q"] []
 g_z1k:mg "_law_other"=some (.ref t.f_z1k)
 F_z1l:Fun K "_law_above" "_law_above" a7E t.f_z1l t.fd_z1l
 b_z1l:a0n K t.fd_z1l ["_law_rows_here","_law_some"] []
 g_z1l:mg "_law_above"=some (.ref t.f_z1l)
 F_z1c:Fun K "_law_word_of" "_law_word_of" a9j t.f_z1c t.fd_z1c
 b_z1c:a0n K t.fd_z1c ["_law_answers","_law_q"] []
 g_z1c:mg "_law_word_of"=some (.ref t.f_z1c)
 F_d_law:Fun K "law" "law" a2s t.f_d_law t.fd_d_law
 b_d_law:a0n K t.fd_d_law ["_law_script"] []
 g_d_law:mg "law"=some (.ref t.f_d_law)
 k_HELD:∃u,mg "HELD"=some (.str "held" u)
 k_REFUSED:∃u,mg "REFUSED"=some (.str "refused" u)
 g_Answers:mg "Answers"=some (.ref t.C_Answers)
 g_Rule:mg "Rule"=some (.ref t.C_Rule)
 g_Fact:mg "Fact"=some (.ref t.C_Fact)
 g_Sure:mg "Sure"=some (.ref t.C_Sure)
 g_Most:mg "Most"=some (.ref t.C_Most)
 g_Block:mg "Block"=some (.ref t.C_Block)
 g_Ground:mg "Ground"=some (.ref t.C_Ground)
 z_all:mg "all"=none
 z_any:mg "any"=none
 z_enumerate:mg "enumerate"=none
 z_len:mg "len"=none
 z_list:mg "list"=none
 z_max:mg "max"=none
 z_min:mg "min"=none
 z_range:mg "range"=none
 z_sorted:mg "sorted"=none
 z_tuple:mg "tuple"=none
 cl_Answers:Cls K t.C_Answers
 ty_Answers:TyI K t.C_Answers
 nf_Answers_standing:a0A K t.C_Answers "standing"
 nf_Answers_sure_keys:a0A K t.C_Answers "sure_keys"
 nf_Answers_came:a0A K t.C_Answers "came"
 mk_Answers:Mk K t.C_Answers t.f_z0c
 me_Answers_word_and_rank:a3F K t.C_Answers "word_and_rank" t.f_z00
 me_Answers_sure:a3F K t.C_Answers "sure" t.f_z0d
 me_Answers_held:a3F K t.C_Answers "held" t.f_z0e
 me_Answers_refused:a3F K t.C_Answers "refused" t.f_z04
 me_Answers_rank:a3F K t.C_Answers "rank" t.f_z0f
 me_Answers_sures:a3F K t.C_Answers "sures" t.f_z0a
 ki_Answers_Answers:Yh K (.ref t.C_Answers) (.ref t.C_Answers)=some true
 cm_Rule:b6D K t.C_Rule "__init__" t.f_z15
 cl_Fact:Cls K t.C_Fact
 ty_Fact:TyI K t.C_Fact
 nf_Fact_label:a0A K t.C_Fact "label"
 nf_Fact_head:a0A K t.C_Fact "head"
 nf_Fact_body:a0A K t.C_Fact "body"
 mk_Fact:Mk K t.C_Fact t.f_z17
 me_Fact_speaks:a3F K t.C_Fact "speaks" t.f_z0p
 me_Fact_is_sure:a3F K t.C_Fact "is_sure" t.f_z0i
 ki_Fact_Rule:Yh K (.ref t.C_Fact) (.ref t.C_Rule)=some true
 ki_Fact_Fact:Yh K (.ref t.C_Fact) (.ref t.C_Fact)=some true
 cl_Sure:Cls K t.C_Sure
 ty_Sure:TyI K t.C_Sure
 nf_Sure_label:a0A K t.C_Sure "label"
 nf_Sure_head:a0A K t.C_Sure "head"
 nf_Sure_body:a0A K t.C_Sure "body"
 mk_Sure:Mk K t.C_Sure t.f_z15
 me_Sure_speaks:a3F K t.C_Sure "speaks" t.f_z0p
 me_Sure_is_sure:a3F K t.C_Sure "is_sure" t.f_z0j
 ki_Sure_Rule:Yh K (.ref t.C_Sure) (.ref t.C_Rule)=some true
 ki_Sure_Sure:Yh K (.ref t.C_Sure) (.ref t.C_Sure)=some true
 cl_Most:Cls K t.C_Most
 ty_Most:TyI K t.C_Most
 nf_Most_label:a0A K t.C_Most "label"
 nf_Most_head:a0A K t.C_Most "head"
 nf_Most_body:a0A K t.C_Most "body"
 mk_Most:Mk K t.C_Most t.f_z15
 me_Most_speaks:a3F K t.C_Most "speaks" t.f_z0p
 me_Most_is_sure:a3F K t.C_Most "is_sure" t.f_z0g
 ki_Most_Rule:Yh K (.ref t.C_Most) (.ref t.C_Rule)=some true
 ki_Most_Most:Yh K (.ref t.C_Most) (.ref t.C_Most)=some true
 cl_Block:Cls K t.C_Block
 ty_Block:TyI K t.C_Block
 nf_Block_label:a0A K t.C_Block "label"
 nf_Block_head:a0A K t.C_Block "head"
 nf_Block_body:a0A K t.C_Block "body"
 mk_Block:Mk K t.C_Block t.f_z15
 me_Block_speaks:a3F K t.C_Block "speaks" t.f_z0k
 me_Block_is_sure:a3F K t.C_Block "is_sure" t.f_z0g
 ki_Block_Rule:Yh K (.ref t.C_Block) (.ref t.C_Rule)=some true
 ki_Block_Block:Yh K (.ref t.C_Block) (.ref t.C_Block)=some true
 cl_Ground:Cls K t.C_Ground
 ty_Ground:TyI K t.C_Ground
 nf_Ground_in_order:a0A K t.C_Ground "in_order"
 nf_Ground_by_head:a0A K t.C_Ground "by_head"
 nf_Ground_pairs:a0A K t.C_Ground "pairs"
 mk_Ground:Mk K t.C_Ground t.f_z0s
 me_Ground_rules:a3F K t.C_Ground "rules" t.f_z0l
 me_Ground_ruling:a3F K t.C_Ground "ruling" t.f_z0b
 me_Ground_speaking:a3F K t.C_Ground "speaking" t.f_z05
 me_Ground_against:a3F K t.C_Ground "against" t.f_z09
 me_Ground_beats:a3F K t.C_Ground "beats" t.f_z0m
 me_Ground_statements:a3F K t.C_Ground "statements" t.f_z01
 ki_Ground_Ground:Yh K (.ref t.C_Ground) (.ref t.C_Ground)=some true
 L_z0u:a5B K t.fd_z0u.code=some t.TB_z0u
 LB:b9P K mg
section
variable {α:Type} [DecidableEq α]
def lk (d:List (α×Nat)) (x:α):Option Nat:=(d.find? fun p=>decide (p.1=x)).map (·.2)
theorem b6f {d:List (α×Nat)} {x:α} {m:Nat} (h:lk d x=some m):(x,m)∈d:=by
 unfold lk at h
 cases e:d.find? fun p=>decide (p.1=x) with
 | none=>rw [e] at h;cases h
 | some p=>
  rw [e] at h
  have h1:=Vf e
  have h2:=List.find?_some e
  obtain ⟨a,b⟩:=p
  cases h
  have h3:a=x:=of_decide_eq_true h2
  rw [←h3];exact h1
theorem b0c {d:List (α×Nat)} {x:α} (h:lk d x=none) {p:α×Nat} (hp:p∈d):p.1≠x:=by
 unfold lk at h
 rw [Wd,Us] at h
 intro e
 exact h p hp (decide_eq_true e)
theorem b4e {d:List (α×Nat)} {y:α} {m:Nat} (h:lk d y=none) (x:α):lk (d++[(y,m)]) x=if x=y then some m else lk d x:=by
 unfold lk at *
 rw [List.find?_append]
 by_cases e:x=y
 ·subst e
  rw [Wd] at h
  rw [h,if_pos rfl];simp
 ·rw [if_neg e]
  have:List.find? (fun p:α×Nat=>decide (p.1=x)) [(y,m)]=none:=by simp;exact fun z=>e z.symm
  rw [this,Option.or_none]
theorem a9t {d:List (α×Nat)} (nd:(d.map (·.1)).Nodup) {p:α×Nat} (hp:p∈d):lk d p.1=some p.2:=by
 induction d with
 | nil=>cases hp
 | cons q r ih=>
  rw [Xg,Yv] at nd
  unfold lk
  rw [Yw]
  by_cases e:q.1=p.1
  ·rw [decide_eq_true e]
   rcases Qw.mp hp with z | z
   ·rw [z];rfl
   ·exact absurd (Qf.mpr ⟨p,z,e.symm⟩) nd.1
  ·rw [decide_eq_false e]
   rcases Qw.mp hp with z | z
   ·exact absurd (by rw [z]) e
   ·exact ih nd.2 z
structure Ok (ps:List (α×α)) (ls:List α) (o:α) (d:List (α×Nat)):Prop where
 nd:(d.map (·.1)).Nodup
 sub:∀p∈d,p.1∈o::ls
 low:∀p∈d,p.2 < d.length
 zer:∀p∈d,p.2=0→p.1=o
 prv:∀p∈d,∀m,p.2=m+1→∃b,(p.1,b)∈ps∧lk d b=some m
 one:lk d o=some 0
theorem a1h:∀{l m:List α},l.Nodup→(∀x∈l,x∈m)→l.length≤m.length
 | [],m,_,_=>Xm _
 | x::l,m,h,s=>by
  rw [Yv] at h
  have h1:=a1h (l:=l) (m:=m.erase x) h.2 (fun y hy=>(List.mem_erase_of_ne (fun z=>h.1 (by rw [←z];exact hy))).mpr (s y (Qp _ hy)))
  have h2:x∈m:=s x Qn
  have h3:=List.length_erase_of_mem h2
  have h4:=We h2
  simp only [Qs];omega
theorem Ok.len {ps:List (α×α)} {ls:List α} {o:α} {d:List (α×Nat)} (h:Ok ps ls o d):d.length≤ls.length+1:=by
 have:=a1h (m:=o::ls) h.nd (fun x hx=>by
  obtain ⟨p,hp,rfl⟩:=Qf.mp hx
  exact h.sub p hp)
 simpa using this
end
section
variable {α:Type} [DecidableEq α]
abbrev SR (α:Type):=Bool×α×List α
def a0V (l:List α) (x:α):List α:=if x∈l then l else l++[x]
theorem a5a {l:List α} {x y:α}:y∈a0V l x↔y∈l∨y=x:=by
 unfold a0V
 by_cases h:x∈l
 ·rw [if_pos h];exact ⟨.inl,fun z=>z.elim id fun e=>e ▸ h⟩
 ·rw [if_neg h];simp
theorem a1D {xs:List α}:∀{l:List α} {y:α},y∈xs.foldl a0V l↔y∈l∨y∈xs:=by
 induction xs with
 | nil=>intro l y;simp
 | cons x xs ih=>intro l y;rw [Jo,ih,a5a];simp [or_assoc]
def a4b (n:Nat) (R:List (α×Nat)) (h:α):List (α×Nat):=if (lk R h).isSome then R else R++[(h,n)]
def frs (rs:List (SR α)) (S:List α):List α:=(rs.filter fun r=>r.1 && decide (r.2.1∉S) && r.2.2.all fun q=>decide (q∈S)).map fun r=>r.2.1
theorem a2Z {rs:List (SR α)} {S:List α} {h:α}:h∈frs rs S↔h∉S∧∃b,(true,h,b)∈rs∧∀q∈b,q∈S:=by
 unfold frs
 rw [Qf]
 constructor
 ·rintro ⟨⟨a,x,b⟩,hr,rfl⟩
  have:=Qv.mp hr
  simp at this
  obtain ⟨h1,⟨rfl,h2⟩,h3⟩:=this
  exact ⟨h2,b,h1,h3⟩
 ·rintro ⟨h1,b,h2,h3⟩
  exact ⟨(true,h,b),Qv.mpr ⟨h2,by simp [h1];exact h3⟩,rfl⟩
def sS (rs:List (SR α)) (kn:List α):Nat→List α
 | 0=>kn
 | n+1=>(frs rs (sS rs kn n)).foldl a0V (sS rs kn n)
def sR (rs:List (SR α)) (kn:List α):Nat→List (α×Nat)
 | 0=>[]
 | n+1=>(frs rs (sS rs kn n)).foldl (a4b (n+1)) (sR rs kn n)
theorem a3Q {rs:List (SR α)} {kn:List α} {n:Nat} {x:α}:x∈sS rs kn (n+1)↔x∈sS rs kn n∨x∈frs rs (sS rs kn n):=a1D
theorem a9C {n:Nat} {R:List (α×Nat)} {h x:α}:lk (a4b n R h) x=if x=h then some ((lk R h).getD n) else lk R x:=by
 unfold a4b
 cases e:lk R h with
 | none=>
  rw [if_neg (by simp),b4e e];rfl
 | some m=>
  rw [if_pos (by simp)]
  by_cases z:x=h
  ·rw [if_pos z,z,e];rfl
  ·rw [if_neg z]
theorem a4I {n:Nat} {xs:List α}:∀{R:List (α×Nat)} {x:α},(∀h∈xs,lk R h=none∨lk R h=some n)→lk (xs.foldl (a4b n) R) x=if x∈xs then some n else lk R x:=by
 induction xs with
 | nil=>intro R x _;simp
 | cons h xs ih=>
  intro R x hx
  have hh:(lk R h).getD n=n:=by rcases hx h Qn with e | e<;>rw [e]<;>rfl
  rw [Jo,ih]
  ·rw [a9C,hh]
   by_cases z:x=h
   ·subst z;simp
   ·by_cases z2:x∈xs
    ·rw [if_pos z2,if_pos (Qp _ z2)]
    ·rw [if_neg z2,if_neg z,if_neg (by simp [z,z2])]
  ·intro k hk
   rw [a9C,hh]
   by_cases z:k=h
   ·rw [if_pos z];exact .inr rfl
   ·rw [if_neg z];exact hx k (Qp _ hk)
theorem a5p {rs:List (SR α)} {kn:List α}:∀(n:Nat) {x:α} {m:Nat},lk (sR rs kn n) x=some m→x∈sS rs kn n
 | 0,x,m,h=>by cases h
 | n+1,x,m,h=>by
  have hn:∀h∈frs rs (sS rs kn n),lk (sR rs kn n) h=none∨lk (sR rs kn n) h=some (n+1):=fun h hh=>by
   cases e:lk (sR rs kn n) h with
   | none=>exact .inl rfl
   | some m=>exact absurd (a5p n e) (a2Z.mp hh).1
  rw [sR,a4I hn] at h
  rw [a3Q]
  by_cases z:x∈frs rs (sS rs kn n)
  ·exact .inr z
  ·rw [if_neg z] at h;exact .inl (a5p n h)
theorem a6o {rs:List (SR α)} {kn:List α} {n:Nat} {h:α} (hh:h∈frs rs (sS rs kn n)):lk (sR rs kn n) h=none:=by
 cases e:lk (sR rs kn n) h with
 | none=>rfl
 | some m=>exact absurd (a5p n e) (a2Z.mp hh).1
theorem c0C {rs:List (SR α)} {kn:List α} {n:Nat} {x:α}:lk (sR rs kn (n+1)) x=if x∈frs rs (sS rs kn n) then some (n+1) else lk (sR rs kn n) x:=
 a4I fun h hh=>.inl (a6o hh)
theorem a4Z {rs:List (SR α)} {kn:List α} {n:Nat} (h:frs rs (sS rs kn n)=[]):∀k,sS rs kn (n+k)=sS rs kn n∧sR rs kn (n+k)=sR rs kn n
 | 0=>⟨rfl,rfl⟩
 | k+1=>by
  obtain ⟨h1,h2⟩:=a4Z h k
  show (frs rs (sS rs kn (n+k))).foldl a0V (sS rs kn (n+k))=_∧(frs rs (sS rs kn (n+k))).foldl (a4b (n+k+1)) (sR rs kn (n+k))=_
  rw [h1,h2,h];exact ⟨rfl,rfl⟩
def b2U (rs:List (SR α)) (S:List α):Nat:=(rs.filter fun r=>decide (r.2.1∉S)).length
theorem a5t {β:Type} {p q:β→Bool}:∀{l:List β},(∀r∈l,p r=true→q r=true)→(l.filter p).length≤(l.filter q).length
 | [],_=>Qk _
 | r::l,h=>by
  have ih:=a5t (l:=l) fun x hx=>h x (Qp _ hx)
  rw [Yc,Yc]
  cases hp:p r with
  | true=>rw [h r Qn hp];simp;exact ih
  | false=>cases hq:q r<;>simp<;>omega
theorem a5P {β:Type} {p q:β→Bool}:∀{l:List β},(∀r∈l,p r=true→q r=true)→(∃r∈l,q r=true∧p r=false)→(l.filter p).length < (l.filter q).length
 | [],_,h=>by obtain ⟨r,hr,_⟩:=h;cases hr
 | r::l,h,⟨x,hx,hq,hp⟩=>by
  have hl:∀y∈l,p y=true→q y=true:=fun y hy=>h y (Qp _ hy)
  rw [Yc,Yc]
  rcases Qw.mp hx with e | e
  ·subst e
   rw [hp,hq]
   have:=a5t hl
   simp;omega
  ·have ih:=a5P hl ⟨x,e,hq,hp⟩
   cases hp':p r with
   | true=>rw [h r Qn hp'];simp;exact ih
   | false=>cases hq':q r<;>simp<;>omega
theorem a5k {rs:List (SR α)} {kn:List α} {n:Nat} (h:frs rs (sS rs kn n)≠[]):b2U rs (sS rs kn (n+1)) < b2U rs (sS rs kn n):=by
 obtain ⟨x,hx⟩:=Vg _ h
 obtain ⟨h1,b,h2,_⟩:=a2Z.mp hx
 have hs:x∈sS rs kn (n+1):=a3Q.mpr (.inr hx)
 refine a5P (fun r _ hr=>?_) ⟨_,h2,by simpa using h1,by simpa using hs⟩
 simp at hr ⊢
 exact fun z=>hr (a3Q.mpr (.inl z))
end
section
variable {α:Type} [DecidableEq α]
theorem b4A (rs:List (SR α)) (S:List α):b2U rs S≤rs.length:=Xa _ _
theorem b1K {rs:List (SR α)} {S:List α} (h:frs rs S≠[]):0 < b2U rs S:=by
 obtain ⟨x,hx⟩:=Vg _ h
 obtain ⟨h1,b,h2,_⟩:=a2Z.mp hx
 exact We (Qv.mpr ⟨h2,by simpa using h1⟩)
theorem a6Z {rs:List (SR α)} {kn:List α}:∀n,frs rs (sS rs kn n)≠[]→b2U rs (sS rs kn n)+n≤rs.length
 | 0,_=>b4A _ _
 | n+1,h=>by
  have h0:frs rs (sS rs kn n)≠[]:=fun z=>h (by
   have:=(a4Z z 1).1
   rw [this];exact z)
  have:=a6Z n h0
  have:=a5k h0
  omega
theorem b2G (rs:List (SR α)) (kn:List α):frs rs (sS rs kn rs.length)=[]:=by
 by_cases h:frs rs (sS rs kn rs.length)=[]
 ·exact h
 ·have:=a6Z _ h
  have:=b1K h
  omega
def FIN (rs:List (SR α)) (kn:List α):List (α×Nat):=sR rs kn rs.length
theorem b9r {rs:List (SR α)} {kn:List α} {n:Nat} (h:frs rs (sS rs kn n)=[]):sR rs kn n=FIN rs kn:=by
 unfold FIN
 by_cases c:n≤rs.length
 ·obtain ⟨k,e⟩:=Nat.le.dest c
  rw [←e];exact ((a4Z h k).2).symm
 ·obtain ⟨k,e⟩:=Nat.le.dest (Nat.le_of_not_le c)
  rw [←e];exact (a4Z (b2G rs kn) k).2
theorem b1B {rs:List (SR α)} {kn:List α} (h:kn.Nodup):∀n,(sS rs kn n).Nodup:=by
 have put:∀(l:List α) (x:α),l.Nodup→(a0V l x).Nodup:=fun l x hl=>by
  unfold a0V
  by_cases z:x∈l
  ·rw [if_pos z];exact hl
  ·rw [if_neg z]
   exact Zg.mpr ⟨hl,by simp,fun a ha b hb e=>z (by rw [Qz] at hb;rw [←hb,←e];exact ha)⟩
 have puts:∀(xs l:List α),l.Nodup→(xs.foldl a0V l).Nodup:=by
  intro xs
  induction xs with
  | nil=>intro l hl;exact hl
  | cons x xs ih=>intro l hl;exact ih _ (put l x hl)
 intro n
 induction n with
 | zero=>exact h
 | succ n ih=>exact puts _ _ ih
theorem a1b (xs:List α):∀l:List α,(xs.foldl a0V l).length≤l.length+xs.length:=by
 induction xs with
 | nil=>intro l;simp
 | cons x xs ih=>
  intro l
  have:=ih (a0V l x)
  have h2:(a0V l x).length≤l.length+1:=by unfold a0V;split<;>simp
  rw [Jo,Qs];omega
theorem a0Y {rs:List (SR α)} {kn:List α}:∀n,((sR rs kn n).map (·.1)).Nodup:=by
 have put:∀(n:Nat) (R:List (α×Nat)) (x:α),(R.map (·.1)).Nodup→((a4b n R x).map (·.1)).Nodup:=fun n R x hl=>by
  unfold a4b
  cases e:lk R x with
  | some m=>simpa using hl
  | none=>
   rw [if_neg (by simp),Xf]
   refine Zg.mpr ⟨hl,by simp,fun a ha b hb z=>?_⟩
   obtain ⟨p,hp,rfl⟩:=Qf.mp ha
   simp at hb
   exact b0c e hp (by rw [←hb,←z])
 have puts:∀(n:Nat) (xs:List α) (R:List (α×Nat)),(R.map (·.1)).Nodup→((xs.foldl (a4b n) R).map (·.1)).Nodup:=by
  intro n xs
  induction xs with
  | nil=>intro R hl;exact hl
  | cons x xs ih=>intro R hl;exact ih _ (put n R x hl)
 intro n
 induction n with
 | zero=>simp [sR]
 | succ n ih=>exact puts _ _ _ ih
end
section
variable {α:Type} [DecidableEq α]
theorem a1v:∀(xs:List α) {l:List α},l.Nodup→(xs.foldl a0V l).Nodup
 | [],_,hl=>hl
 | x::xs,l,hl=>by
  refine a1v xs ?_
  unfold a0V
  by_cases z:x∈l
  ·rw [if_pos z];exact hl
  ·rw [if_neg z]
   exact Zg.mpr ⟨hl,by simp,fun a ha b hb e=>z (by rw [Qz] at hb;rw [←hb,←e];exact ha)⟩
theorem a3T (n:Nat):∀(xs:List α) {R:List (α×Nat)},(R.map (·.1)).Nodup→((xs.foldl (a4b n) R).map (·.1)).Nodup
 | [],_,hl=>hl
 | x::xs,R,hl=>by
  refine a3T n xs ?_
  unfold a4b
  cases e:lk R x with
  | some m=>simpa using hl
  | none=>
   rw [if_neg (by simp),Xf]
   refine Zg.mpr ⟨hl,by simp,fun a ha b hb z=>?_⟩
   obtain ⟨p,hp,rfl⟩:=Qf.mp ha
   simp at hb
   exact b0c e hp (by rw [←hb,←z])
theorem a5o (n:Nat):∀(xs:List α) (R:List (α×Nat)),(xs.foldl (a4b n) R).length≤R.length+xs.length
 | [],R=>by simp
 | x::xs,R=>by
  have:=a5o n xs (a4b n R x)
  have h2:(a4b n R x).length≤R.length+1:=by unfold a4b;split<;>simp
  rw [Jo,Qs];omega
theorem b3j {rs:List (SR α)} {kn:List α} (h:kn.Nodup) (n:Nat):(sS rs kn n).length≤kn.length+rs.length:=by
 have sub:∀n x,x∈sS rs kn n→x∈kn++rs.map fun r=>r.2.1:=by
  intro n
  induction n with
  | zero=>intro x hx;exact Xl _ hx
  | succ n ih=>
   intro x hx
   rcases a3Q.mp hx with z | z
   ·exact ih x z
   ·obtain ⟨_,b,h2,_⟩:=a2Z.mp z
    exact Qt _ (Qf.mpr ⟨_,h2,rfl⟩)
 have:=a1h (b1B h n) (sub n)
 simpa using this
theorem b3e {rs:List (SR α)} {kn:List α} (h:kn.Nodup) (n:Nat):(sR rs kn n).length≤kn.length+rs.length:=by
 have:=a1h (l:=(sR rs kn n).map (·.1)) (m:=sS rs kn n) (a0Y n) (fun x hx=>by
  obtain ⟨p,hp,rfl⟩:=Qf.mp hx
  exact a5p n (a9t (a0Y n) hp))
 have h2:=b3j (rs:=rs) h n
 simp at this;omega
theorem b4i (rs:List (SR α)) (S:List α):(frs rs S).length≤rs.length:=by
 unfold frs;rw [Qd];exact Xa _ _
end
section
variable {α:Type} [DecidableEq α]
def a3W (b S:List α):Bool:=b.all fun q=>decide (q∈S)
theorem a4Y {b S:List α}:a3W b S=true↔∀q∈b,q∈S:=by
 unfold a3W;rw [Zu]
 exact ⟨fun h q hq=>by simpa using h q hq,fun h q hq=>by simpa using h q hq⟩
theorem a7g {S:List α} {x:α} (h:x∉S):a0V S x=S++[x]:=by unfold a0V;rw [if_neg h]
theorem b0H {rs:List (SR α)} (x:α):x∈(FIN rs []).map (·.1)↔x∈sS rs [] rs.length:=by
 have key:∀n,x∈(sR rs ([]:List α) n).map (·.1)↔x∈sS rs [] n:=by
  intro n
  constructor
  ·intro h
   obtain ⟨p,hp,rfl⟩:=Qf.mp h
   exact a5p n (a9t (a0Y n) hp)
  ·induction n with
   | zero=>intro h;cases h
   | succ n ih=>
    intro h
    have hs:(lk (sR rs ([]:List α) (n+1)) x).isSome=true:=by
     rw [c0C]
     by_cases z:x∈frs rs (sS rs [] n)
     ·rw [if_pos z];rfl
     ·rw [if_neg z]
      rcases a3Q.mp h with w | w
      ·obtain ⟨p,hp,e⟩:=Qf.mp (ih w)
       have:=a9t (a0Y n) hp
       rw [e] at this;rw [this];rfl
      ·exact absurd w z
    cases e:lk (sR rs ([]:List α) (n+1)) x with
    | none=>rw [e] at hs;cases hs
    | some m=>exact Qf.mpr ⟨_,b6f e,rfl⟩
 exact key _
end
def a2O:List Nat:=[97,98,99,100,101,102,103,104,105,106,107,108,109,110,111,112,113,114,115,116,117,118,119,120,121,122]
def c0z:List Nat:=[48,49,50,51,52,53,54,55,56,57]++a2O
abbrev sv (l:List Nat):V:=.str (mk l)
theorem b9v:("abcdefghijklmnopqrstuvwxyz":Str)=mk a2O:=by decide+kernel
theorem b5t:("0123456789abcdefghijklmnopqrstuvwxyz":Str)=mk c0z:=by decide+kernel
theorem a5Y {c:Nat} (h:c∈a2O):c < 128:=by revert c;decide
theorem b4X {c:Nat} (h:c∈c0z):c < 128:=by revert c;decide
theorem a3q {n:Nat} (h:n≤100000):n≤sizeLine:=Qh h (by decide)
theorem b2A {l:List Nat} (h:∀c∈l,c < 1114112):Yt (mk l)=true:=by
 unfold Yt;simpa using h
def OkS (z:Str):Prop:=Yt z=true∧z.length≤40
theorem OkS.of {l:List Nat} (h:∀c∈l,c < 128) (hl:l.length≤40):OkS (mk l):=⟨b2A fun c hc=>by have:=h c hc;omega,by rw [a0x];exact hl⟩
def a5q:Nat→Str
 | 0=>"fact"
 | 1=>"sure"
 | 2=>"most"
 | _=>"block"
abbrev Rw:=Nat×Str×Str×List Str
def a2j (r:Rw):Prop:=r.1 < 4∧(r.1=0→r.2.2.2=[]∧r.2.1="")∧OkS r.2.1∧OkS r.2.2.1∧(∀q∈r.2.2.2,OkS q)∧r.2.2.2.length≤4
def b5s (H:Hp) (v:V) (r:Rw):Prop:=∃p t,v=.ref p∧H p=some (.tup [.str (a5q r.1),.str r.2.1,.str r.2.2.1,.ref t])∧H t=some (.tup (r.2.2.2.map V.str))
theorem b5s.same {H H':Hp} {v:V} {r:Rw} (s:a0j H H') (h:b5s H v r):b5s H' v r:=let ⟨p,t,a,b,c⟩:=h;⟨p,t,a,s _ _ b,s _ _ c⟩
def b5R (pl:List Str) (r:Rw):Prop:=r.2.2.1∈pl∧∀q∈r.2.2.2,q∈pl
def OkP (pl:List Str) (z:Str):Prop:=OkS z∧z∈pl
def RwD (pl:List Str) (D:Addr) (v:V) (H:Hp):Prop:=∃(p t:Addr) (r:Rw),v=.ref p∧p≠D∧t≠D∧(a2j r∧b5R pl r)∧H p=some (.tup [.str (a5q r.1),.str r.2.1,.str r.2.2.1,.ref t])∧H t=some (.tup (r.2.2.2.map V.str))
structure a3a (H:Hp) (xs:List V) (rs:List Rw):Prop where
 len:xs.length=rs.length
 get:∀(i:Nat) (r:Rw),rs[i]?=some r→∃x,xs[i]?=some x∧b5s H x r
theorem a3a.same {H H':Hp} {xs:List V} {rs:List Rw} (s:a0j H H') (h:a3a H xs rs):a3a H' xs rs:=⟨h.len,fun i r e=>let ⟨x,a,b⟩:=h.get i r e;⟨x,a,b.same s⟩⟩
theorem a7q {pl:List Str} {D:Addr} {H:Hp}:∀{ys:List V},(∀(i:Nat) v,ys[i]?=some v→RwD pl D v H)→∃rs:List Rw,a3a H ys rs∧∀r∈rs,a2j r∧b5R pl r
 | [],_=>⟨[],⟨rfl,fun i r e=>by simp at e⟩,by simp⟩
 | y::ys,h=>by
  obtain ⟨rs,hA,hO⟩:=a7q (D:=D) (ys:=ys) fun i v e=>h (i+1) v e
  obtain ⟨p,t,r,e,_,_,ho,h1,h2⟩:=h 0 y rfl
  refine ⟨r::rs,⟨by simp [hA.len],fun i q eq=>?_⟩,fun q hq=>?_⟩
  ·cases i with
   | zero=>cases eq;exact ⟨y,rfl,p,t,e,h1,h2⟩
   | succ i=>exact hA.get i q eq
  ·rcases Qw.mp hq with z | z
   ·rw [z];exact ho
   ·exact hO q z
def b6A (K:Qc):Sp:=fun vs H Q _=>∃(a:Addr) (ns:List Int) (k:Int),vs=[.ref a,.int k]∧SqL K H a (ns.map V.int)∧ns.length≤63∧0≤k∧k≤1000∧∀i,i=ns.getD k.toNat 0→Q (.int i) H
def b7h:Sp:=fun vs H Q _=>∃(c k:Int),vs=[.int c,.int k]∧∀r:Int,0≤r→Q (.int r) H
theorem a2L {c k:Int} {H:Hp} {Q:VK} {E:XK}:b7h [.int c,.int k] H Q E↔∀r:Int,0≤r→Q (.int r) H:=⟨by rintro ⟨_,_,e,q⟩;cases e;exact q,fun q=>⟨_,_,rfl,q⟩⟩
def a2l (c k:Int) (sg:List Nat):List Nat:=(Xr (1+c % 8).toNat).map fun (j:Nat)=>sg.getD (((c / 64+5 * (j:Int)+(if (j:Int)=c / 8 % (1+c % 8) then k else 0)) % (sg.length:Int)).toNat) 0
theorem a2P (c k:Int) (sg:List Nat):1≤(a2l c k sg).length∧(a2l c k sg).length≤8:=by
 unfold a2l
 rw [Qd,Zf]
 have:=Yx c (b:=8) (by decide)
 have:=Ys c (b:=8) (by decide)
 omega
theorem a3K {c k:Int} {sg:List Nat} (h:0 < sg.length):∀x∈a2l c k sg,x∈sg:=by
 intro x hx
 obtain ⟨j,_,rfl⟩:=Qf.mp hx
 have h1:=Yx (c / 64+5 * (j:Int)+(if (j:Int)=c / 8 % (1+c % 8) then k else 0)) (b:=(sg.length:Int)) (by omega)
 have h2:=Ys (c / 64+5 * (j:Int)+(if (j:Int)=c / 8 % (1+c % 8) then k else 0)) (b:=(sg.length:Int)) (by omega)
 generalize (c / 64+5 * (j:Int)+(if (j:Int)=c / 8 % (1+c % 8) then k else 0)) % (sg.length:Int)=n at h1 h2
 rw [Xj,Qe (by omega)]
 exact Xi _
theorem b2M:∀n:Nat,n < 26→a2O.getD n 0=97+n:=by decide
theorem b0G {c k k':Int} (hk:0≤k∧k < 26) (hk':0≤k'∧k' < 26) (h:a2l c k a2O=a2l c k' a2O):k=k':=by
 have m8:=Yx c (b:=8) (by decide)
 have m9:=Ys c (b:=8) (by decide)
 have a1:=Yx (c / 8) (b:=1+c % 8) (by omega)
 have a2:=Ys (c / 8) (b:=1+c % 8) (by omega)
 obtain ⟨a,ea⟩:∃a:Nat,c / 8 % (1+c % 8)=(a:Int):=⟨(c / 8 % (1+c % 8)).toNat,by omega⟩
 have hl:a < (1+c % 8).toNat:=by omega
 have h1:=congrArg (fun l:List Nat=>l[a]?) h
 unfold a2l at h1
 simp only [Qo] at h1
 rw [Wr hl] at h1
 simp only [Zy,Option.some.injEq] at h1
 rw [if_pos ea.symm,if_pos ea.symm] at h1
 have e26:(a2O.length:Int)=26:=by decide
 rw [e26] at h1
 have b1:=Yx (c / 64+5 * (a:Int)+k) (b:=26) (by decide)
 have b2:=Ys (c / 64+5 * (a:Int)+k) (b:=26) (by decide)
 have b3:=Yx (c / 64+5 * (a:Int)+k') (b:=26) (by decide)
 have b4:=Ys (c / 64+5 * (a:Int)+k') (b:=26) (by decide)
 rw [b2M _ (by omega),b2M _ (by omega)] at h1
 omega
def pcl (wd:Nat→List Nat):Nat→List Nat
 | 0=>[]
 | 1=>40::(wd 3++[41])
 | _=>40::(wd 4++[44])++wd 3++[41]
def nmL (wd:Nat→List Nat) (k:Nat):List Nat:=wd (k % 3)++pcl wd (k / 3)
def plG (wd:Nat→List Nat) (j:Nat):Str:=if j % 2=0 then mk (nmL wd (j / 2)) else mk (45::nmL wd (j / 2))
theorem a5Q {a b:List Nat} (h:mk a=mk b):a=b:=by
 have:=congrArg (fun z:Str=>z.cps.toList) h
 exact this
theorem a8W {wd:Nat→List Nat} (hw:∀k,k < 5→∀x∈wd k,x∈a2O) (k:Nat):(nmL wd k).takeWhile (fun x=>x != 40)=wd (k % 3):=by
 have h1:∀x∈wd (k % 3),(x != 40)=true:=fun x hx=>by
  have:=hw _ (by omega) x hx
  have h2:∀y∈a2O,(y != 40)=true:=by decide
  exact h2 x this
 have hp:(pcl wd (k / 3)).takeWhile (fun x=>x != 40)=[]:=by
  match k / 3 with
  | 0=>rfl
  | 1=>rfl
  | n+2=>rfl
 unfold nmL
 rw [List.takeWhile_append_of_pos h1,hp,Qg]
theorem b5h {wd:Nat→List Nat} (hw:∀k,k < 5→∀x∈wd k,x∈a2O) {p q:Nat} (hp:p < 3) (hq:q < 3) (h:pcl wd p=pcl wd q):p=q:=by
 have n44:∀k,k < 5→44∉wd k:=fun k hk z=>by have:=hw k hk 44 z;revert this;decide
 have i1:44∉pcl wd 1:=by
  show 44∉40::(wd 3++[41])
  simp [n44 3 (by decide)]
 have i2:44∈pcl wd 2:=by
  show 44∈40::(wd 4++[44])++wd 3++[41]
  simp
 match p,q,hp,hq with
 | 0,0,_,_=>rfl
 | 1,1,_,_=>rfl
 | 2,2,_,_=>rfl
 | 0,1,_,_=>cases h
 | 0,2,_,_=>cases h
 | 1,0,_,_=>cases h
 | 2,0,_,_=>cases h
 | 1,2,_,_=>rw [h] at i1;exact absurd i2 i1
 | 2,1,_,_=>rw [←h] at i1;exact absurd i2 i1
theorem b2R {wd:Nat→List Nat} (hw:∀k,k < 5→∀x∈wd k,x∈a2O) (hi:∀j k,j < 5→k < 5→wd j=wd k→j=k) {p q:Nat} (hp:p < 9) (hq:q < 9) (h:nmL wd p=nmL wd q):p=q:=by
 have e1:wd (p % 3)=wd (q % 3):=by rw [←a8W hw p,←a8W hw q,h]
 have e2:=hi _ _ (by omega) (by omega) e1
 have e3:pcl wd (p / 3)=pcl wd (q / 3):=by
  unfold nmL at h
  rw [e1] at h
  exact List.append_cancel_left h
 have e4:=b5h hw (by omega) (by omega) e3
 omega
theorem b7M {wd:Nat→List Nat} (hw:∀k,k < 5→∀x∈wd k,x∈a2O) (hn:∀k,k < 5→wd k≠[]) (p q:Nat):nmL wd p≠45::nmL wd q:=fun h=>by
 unfold nmL at h
 cases e:wd (p % 3) with
 | nil=>exact hn _ (by omega) e
 | cons x r=>
  have hx:=hw (p % 3) (by omega) x (by rw [e];exact Qn)
  rw [e] at h
  have:x=45:=(List.cons.inj h).1
  rw [this] at hx;revert hx;decide
theorem b2a {wd:Nat→List Nat} (hw:∀k,k < 5→∀x∈wd k,x∈a2O) (hn:∀k,k < 5→wd k≠[]) (hi:∀j k,j < 5→k < 5→wd j=wd k→j=k) {m:Nat} (hm:m≤18):((Xr m).map (plG wd)).Nodup:=by
 unfold Xo
 rw [Vc]
 refine List.nodup_range.imp_of_mem fun {i j} hi' hj' hne e=>hne ?_
 rw [Zs] at hi' hj'
 unfold plG at e
 by_cases a:i % 2=0
 ·by_cases b:j % 2=0
  ·rw [if_pos a,if_pos b] at e
   have:=b2R hw hi (by omega) (by omega) (a5Q e);omega
  ·rw [if_pos a,if_neg b] at e
   exact absurd (a5Q e) (b7M hw hn _ _)
 ·by_cases b:j % 2=0
  ·rw [if_neg a,if_pos b] at e
   exact absurd (a5Q e).symm (b7M hw hn _ _)
  ·rw [if_neg a,if_neg b] at e
   have:=b2R hw hi (by omega) (by omega) (List.cons.inj (a5Q e)).2;omega
def a0y (z:Str):Str:=if Jd z "-"=true then Ur z (some 1) none else "-"++z
theorem a5i (l:List Nat):a0y (mk l)=if l[0]?=some 45 then mk (l.drop 1) else mk (45::l):=by
 unfold a0y
 rw [show ("-":Str)=mk [45] by decide+kernel,a7A]
 by_cases h:l[0]?=some 45
 ·rw [if_pos (decide_eq_true h),if_pos h,a7O _ (by decide) (by have:=(Qr.mp h).1;omega)];rfl
 ·rw [if_neg (by simpa using h),if_neg h,a2p];rfl
theorem a9e {l:List Nat} (h:l[0]?=some 45→l[1]?≠some 45):a0y (a0y (mk l))=mk l:=by
 rw [a5i l]
 by_cases c:l[0]?=some 45
 ·rw [if_pos c,a5i]
  cases l with
  | nil=>cases c
  | cons x l=>
   rw [if_neg (by have:=h c;simpa using this)]
   have:x=45:=by simpa using c
   rw [this];rfl
 ·rw [if_neg c,a5i,if_pos (show (45::l)[0]?=some 45 from rfl)];rfl
theorem b9p {wd:Nat→List Nat} (hw:∀k,k < 5→∀x∈wd k,x∈a2O) (hn:∀k,k < 5→wd k≠[]) (j:Nat):a0y (a0y (plG wd j))=plG wd j:=by
 have h0:∀k,(nmL wd k)[0]?≠some 45:=fun k z=>by
  unfold nmL at z
  cases e:wd (k % 3) with
  | nil=>exact hn _ (by omega) e
  | cons x r=>
   have hx:=hw (k % 3) (by omega) x (by rw [e];exact Qn)
   rw [e] at z
   have:x=45:=by simpa using z
   rw [this] at hx;revert hx;decide
 unfold plG
 split
 ·exact a9e fun z=>absurd z (h0 _)
 ·exact a9e fun _=>h0 _
def a7d (c:Int):List Str:=(Xr (2 * (1+c % 9).toNat)).map (plG fun (i:Nat)=>a2l (c / 9) (i:Int) a2O)
theorem b2v {c:Int} {z:Str} (h:z∈a7d c):a0y z∈a7d c:=by
 obtain ⟨j,hj,rfl⟩:=Qf.mp h
 rw [Zs] at hj
 have h0:∀k,(nmL (fun (i:Nat)=>a2l (c / 9) (i:Int) a2O) k)[0]?≠some 45:=fun k z=>by
  unfold nmL at z
  cases e:a2l (c / 9) ((k % 3:Nat):Int) a2O with
  | nil=>have:=(a2P (c / 9) ((k % 3:Nat):Int) a2O).1;rw [e] at this;simp at this
  | cons x r=>
   have hx:=a3K (c:=c / 9) (k:=((k % 3:Nat):Int)) (sg:=a2O) (by decide) x (by rw [e];exact Qn)
   have z':(a2l (c / 9) ((k % 3:Nat):Int) a2O++pcl (fun (i:Nat)=>a2l (c / 9) (i:Int) a2O) (k / 3))[0]?=some 45:=z
   rw [e] at z'
   have:x=45:=by simpa using z'
   rw [this] at hx;revert hx;decide
 refine Qf.mpr ⟨if j % 2=0 then j+1 else j - 1,Zs.mpr (by split<;>omega),?_⟩
 unfold plG
 by_cases e:j % 2=0
 ·rw [if_pos e,if_pos e,if_neg (by omega),a5i,if_neg (h0 _),show (j+1) / 2=j / 2 by omega]
 ·rw [if_neg e,if_neg e,if_pos (by omega),a5i,if_pos (by rfl:(45::nmL (fun (i:Nat)=>a2l (c / 9) (i:Int) a2O) (j / 2))[0]?=some 45),show (j - 1) / 2=j / 2 by omega];rfl
def b6C:Sp:=fun vs H Q _=>∃(c k:Int) (sg:List Nat),vs=[.int c,.int k,sv sg]∧(0 < sg.length∧sg.length≤100)∧Q (sv (a2l c k sg)) H
def b6c:Sp:=fun vs H Q _=>∃(c:Int),vs=[.int c]∧∀(D:Addr) (pl:List Str) (H':Hp),a0j H H'→H D=none→H' D=some (.lst (pl.map V.str))→2≤pl.length→pl.length≤18→(∀z∈pl,OkS z)→pl.Nodup→(∀z∈pl,a0y (a0y z)=z)→pl=a7d c→Q (.ref D) H'
def b1s:Sp:=fun vs H Q _=>∃(c:Int),vs=[.int c]∧∀(D:Addr) (ls:List Str) (H':Hp),a0j H H'→H D=none→H' D=some (.lst (ls.map V.str))→ls.length=12→(∀z∈ls,OkS z)→Q (.ref D) H'
def c0W (pl:List Str) (H:Hp) (Q:VK):Prop:=∀(p t:Addr) (r:Rw) (H':Hp),a0j H H'→H p=none→H t=none→a2j r∧b5R pl r→H' p=some (.tup [.str (a5q r.1),.str r.2.1,.str r.2.2.1,.ref t])→H' t=some (.tup (r.2.2.2.map V.str))→Q (.ref p) H'
def c0a:Sp:=fun vs H Q _=>∃(m k st:Int) (P L:Addr) (pl ls:List Str),vs=[.int m,.int k,.ref P,.ref L,.int st]∧H P=some (.lst (pl.map V.str))∧2≤pl.length∧pl.length≤18∧(∀z∈pl,OkS z)∧H L=some (.lst (ls.map V.str))∧ls.length=12∧(∀z∈ls,OkS z)∧c0W pl H Q
def c0t:Sp:=fun vs H Q _=>∃(m:Int) (P L:Addr) (pl ls:List Str),vs=[.int m,.ref P,.ref L]∧H P=some (.lst (pl.map V.str))∧2≤pl.length∧pl.length≤18∧(∀z∈pl,OkS z)∧H L=some (.lst (ls.map V.str))∧ls.length=12∧(∀z∈ls,OkS z)∧c0W pl H Q
def b8R (K:Qc):Sp:=fun vs H Q _=>∃(a:Addr) (ns:List Int) (st:Int),vs=[.ref a,.int st]∧SqL K H a (ns.map V.int)∧ns.length≤63∧(0≤st∧st≤10)∧∀(D:Addr) (xs:List V) (rs:List Rw) (H':Hp),a0j H H'→H D=none→H' D=some (.lst xs)→a3a H' xs rs→rs.length+st.toNat≤63→(∀r∈rs,a2j r∧b5R (a7d (ns.getD 0 0)) r)→Q (.ref D) H'
theorem a2o {P:Str→Prop} {pl:List Str} (hl:2≤pl.length) (hok:∀z∈pl,P z) (n:Int):∃z,atI (pl.map V.str) (n % (pl.length:Int))=some (.str z)∧P z:=by
 have m1:=Yx n (b:=(pl.length:Int)) (by omega)
 have m2:=Ys n (b:=(pl.length:Int)) (by omega)
 obtain ⟨v,e,hv,_⟩:=a3d (xs:=pl.map V.str) (i:=n % (pl.length:Int)) m1 (by simpa using m2)
 obtain ⟨z,hz,rfl⟩:=Qf.mp hv
 exact ⟨z,e,hok z hz⟩
theorem a8A {ls:List Str} (hl:ls.length=12) (hok:∀z∈ls,OkS z) (n:Int):∃z,atI (ls.map V.str) (n % 12)=some (.str z)∧OkS z:=by
 obtain ⟨z,e,h⟩:=a2o (pl:=ls) (by omega) hok n
 rw [hl] at e
 exact ⟨z,e,h⟩
theorem a4L {P:Str→Prop} {ys:List V} (h:∀(i:Nat) (v:V),ys[i]?=some v→∃z,v=V.str z∧P z):∃zs:List Str,ys=zs.map V.str∧∀z∈zs,P z:=by
 induction ys with
 | nil=>exact ⟨[],rfl,by simp⟩
 | cons y ys ih=>
  obtain ⟨zs,e,ho⟩:=ih fun i v e=>h (i+1) v e
  obtain ⟨z,ez,hz⟩:=h 0 y rfl
  refine ⟨z::zs,by rw [e,ez];rfl,fun x hx=>?_⟩
  rcases Qw.mp hx with w | w
  ·rw [w];exact hz
  ·exact ho x w
def dv (d:List (Str×Nat)):List (Key×V):=d.map fun p=>(Sum.inr p.1,V.int p.2)
theorem b8P (d:List (Str×Nat)):(dv d).length=d.length:=Qd _
theorem b4y (d:List (Str×Nat)) (x:Str) (m:Nat):dv (d++[(x,m)])=dv d++[(Sum.inr x,V.int m)]:=by unfold dv;rw [Xf];rfl
theorem a4N (x:Str):∀d:List (Str×Nat),a0R (dv d) (Sum.inr x:Key)=(lk d x).map fun m:Nat=>V.int m
 | []=>rfl
 | p::r=>by
  by_cases e:p.1=x
  ·rw [show dv (p::r)=(Sum.inr p.1,V.int p.2)::dv r from rfl,a0D (by rw [e])]
   unfold lk;rw [Yw,decide_eq_true e];rfl
  ·rw [show dv (p::r)=(Sum.inr p.1,V.int p.2)::dv r from rfl,a0t (fun z=>e (Sum.inr.inj z)),a4N x r]
   unfold lk;rw [Yw,decide_eq_false e]
theorem a5E {H:Hp} {S:Addr} {d:List (Key×V)} (h:H S=some (.dK d)):IsD H S:=.inl ⟨_,.inl h⟩
def bv (S:List Str):List (Key×V):=S.map fun x=>(Sum.inr x,V.bl true)
theorem a2g (x:Str):∀S:List Str,a0R (bv S) (Sum.inr x:Key)=if x∈S then some (V.bl true) else none
 | []=>rfl
 | y::r=>by
  have ih:=a2g x r
  by_cases e:y=x
  ·rw [show bv (y::r)=(Sum.inr y,V.bl true)::bv r from rfl,a0D (by rw [e]),if_pos (by rw [e];exact Qn)]
  ·rw [show bv (y::r)=(Sum.inr y,V.bl true)::bv r from rfl,a0t (fun z=>e (Sum.inr.inj z)),ih]
   by_cases h:x∈r
   ·rw [if_pos h,if_pos (Qp _ h)]
   ·rw [if_neg h,if_neg (by simp [h];exact fun z=>e z.symm)]
theorem b8J (S:List Str) (x:Str):a2C (bv S) (Sum.inr x:Key) (V.bl true)=bv (a0V S x):=by
 unfold a2C a0V
 rw [a1L,a2g]
 by_cases h:x∈S
 ·rw [if_pos h,if_pos (by rfl),if_pos h]
  unfold bv
  rw [Qy]
  refine Uk fun y _=>?_
  simp only [Function.comp]
  split<;>rfl
 ·rw [if_neg h,if_neg (by simp),if_neg h]
  unfold bv;rw [Xf];rfl
theorem c3C {H:Hp} {D:Addr} {S:List Str} (h:H D=some (.dK (bv S))) (x:Str):a2S H D (.str x) (if x∈S then some (V.bl true) else none):=by
 have:=a2S.k (k:=(Sum.inr x:Key)) h
 rw [a2g] at this;exact this
theorem b4D {H:Hp} {D:Addr} {S:List Str} (h:H D=some (.dK (bv S))) (hl:S.length≤100000) (x:Str):a6a H D (.str x) (V.bl true) (upd H D (.dK (bv (a0V S x)))):=by
 have:=a6a.k (k:=(Sum.inr x:Key)) (v:=V.bl true) h (by unfold bv;rw [Qd];exact Xp hl (by decide))
 rw [b8J] at this;exact this
theorem b6F {R:List (Str×Nat)} (hn:(R.map (·.1)).Nodup) {x:Str} {n:Nat} (h:lk R x=none∨lk R x=some n):a2C (dv R) (Sum.inr x:Key) (V.int n)=dv (a4b n R x):=by
 unfold a4b
 rcases h with h | h
 ·rw [h,if_neg (by simp),a4X _ (by rw [a4N,h];rfl),b4y]
 ·rw [h,if_pos (by simp)]
  unfold a2C
  rw [a1L,a4N,h,if_pos (by rfl)]
  unfold dv
  rw [Qy]
  refine Uk fun p hp=>?_
  simp only [Function.comp]
  by_cases e:p.1=x
  ·have:=a9t hn hp
   rw [e,h] at this
   rw [if_pos (by rw [e]),Option.some.inj this]
  ·rw [if_neg (fun z=>e (Sum.inr.inj z))]
theorem c5l {H:Hp} {D:Addr} {R:List (Str×Nat)} (h:H D=some (.dK (dv R))) (hl:R.length≤100000) (hn:(R.map (·.1)).Nodup) {x:Str} {n:Nat} (hx:lk R x=none∨lk R x=some n):a6a H D (.str x) (V.int n) (upd H D (.dK (dv (a4b n R x)))):=by
 have:=a6a.k (k:=(Sum.inr x:Key)) (v:=V.int n) h (by rw [b8P];exact Xp hl (by decide))
 rw [b6F hn hx] at this;exact this
def srW (r:Rw):SR Str:=(decide (r.1 < 2),r.2.2.1,r.2.2.2)
theorem c1s:∀zs:List Str,(∀z∈zs,Yt z=true)→Ju (zs.map Ym)=true∧PyData.depthAll (zs.map Ym)=0
 | [],_=>⟨rfl,rfl⟩
 | z::zs,h=>by
  obtain ⟨a,b⟩:=c1s zs fun p hp=>h p (Qp _ hp)
  refine ⟨?_,?_⟩
  ·show (Yu (.str z) && _)=true
   rw [a,Bool.and_true];exact h z Qn
  ·show max (Ww (.str z)) _=0
   rw [b];rfl
theorem a9H {zs:List Str} (h:∀z∈zs,Yt z=true):Yn (.list (zs.map Ym))=true:=by
 obtain ⟨a,b⟩:=c1s zs h
 unfold Yn
 simp only [Yu,Ww,a,b]
 decide
def a2R (K:Qc) (H:Hp) (v:V) (kn:List Str):Prop:=(∃a,v=.ref a∧H a=some (.lst (kn.map V.str)))∨∃a kvs,v=.ref a∧H a=some (.dK kvs)∧kvs.map (·.1)=kn.map (Sum.inr:Str→Key)
theorem a2R.at {K:Qc} {H:Hp} {v:V} {kn:List Str} (h:a2R K H v kn):∃a o,v=.ref a∧H a=some o:=by
 rcases h with ⟨a,e,b⟩ | ⟨a,_,e,b,_⟩
 ·exact ⟨a,_,e,b⟩
 ·exact ⟨a,_,e,b⟩
theorem a2R.same {K:Qc} {H H':Hp} {v:V} {kn:List Str} (s:a0j H H') (h:a2R K H v kn):a2R K H' v kn:=h.imp (fun ⟨a,e,b⟩=>⟨a,e,s _ _ b⟩) fun ⟨a,k,e,b,c⟩=>⟨a,k,e,s _ _ b,c⟩
def b4I (K:Qc):Sp:=fun vs H Q _=>∃(v:V) (kn:List Str),vs=[v]∧a2R K H v kn∧kn.length≤1000∧∀D H',a0j H H'→H D=none→H' D=some (.dK (bv (kn.foldl a0V [])))→Q (.ref D) H'
def a8q (lb hd:V) (t:Addr):List (Str×V):=a1j "body" (.ref t) (a1j "head" hd (a1j "label" lb []))
theorem a4w (lb hd:V) (t:Addr):(a8q lb hd t).lookup ("label":Str)=some lb:=by
 unfold a8q;rw [a0f,if_neg (by decide+kernel),a0f,if_neg (by decide+kernel),a0f,if_pos rfl]
theorem a1f (lb hd:V) (t:Addr):(a8q lb hd t).lookup ("head":Str)=some hd:=by
 unfold a8q;rw [a0f,if_neg (by decide+kernel),a0f,if_pos rfl]
theorem a1E (lb hd:V) (t:Addr):(a8q lb hd t).lookup ("body":Str)=some (.ref t):=by
 unfold a8q;rw [a0f,if_pos rfl]
theorem b5q (lb hd:V) (t:Addr) {m:Str} (h1:¬m="body") (h2:¬m="head") (h3:¬m="label"):(a8q lb hd t).lookup m=none:=by
 unfold a8q;rw [a0f,if_neg h1,a0f,if_neg h2,a0f,if_neg h3];rfl
def a1M (H:Hp) (r C:Addr) (lb hd:V) (bs:List V):Prop:=∃dx t,H r=some (.ins C dx (a8q lb hd t))∧H t=some (.tup bs)
theorem a1M.same {H H':Hp} {r C:Addr} {lb hd:V} {bs:List V} (s:a0j H H') (h:a1M H r C lb hd bs):a1M H' r C lb hd bs:=let ⟨d,t,a,b⟩:=h;⟨d,t,s _ _ a,s _ _ b⟩
def b6w (K:Qc):Sp:=fun vs H Q _=>∃x C dx lb hd b bs,vs=[.ref x,lb,hd,.ref b]∧H x=some (.ins C dx [])∧(Cls K C∧a0A K C "label"∧a0A K C "head"∧a0A K C "body")∧(SqL K H b bs∨SqT K H b bs∧H b=some (.tup bs))∧
 ∀H',(∀c o,H c=some o→c≠x→H' c=some o)→a1M H' x C lb hd bs→Q .non H'
def b5N (K:Qc) (C:Addr):Sp:=fun vs H Q _=>∃x dx hd,vs=[.ref x,hd]∧H x=some (.ins C dx [])∧
 ∀H',(∀c o,H c=some o→c≠x→H' c=some o)→a1M H' x C (.str "") hd []→Q .non H'
def a3X (t:Adr):Nat→Addr
 | 0=>t.C_Fact
 | 1=>t.C_Sure
 | 2=>t.C_Most
 | _=>t.C_Block
def a0U (b:Bool):Sp:=fun vs H Q _=>∃x,vs=[x]∧Q (.bl b) H
theorem a4p {b:Bool} {x:V} {H:Hp} {Q:VK} {E:XK}:a0U b [x] H Q E↔Q (.bl b) H:=⟨by rintro ⟨_,e,q⟩;cases e;exact q,fun q=>⟨_,rfl,q⟩⟩
structure c6T (K:Qc) (t:Adr) (C:Addr):Prop where
 cl:Cls K C
 ty:TyI K C
 nl:a0A K C "label"
 nh:a0A K C "head"
 nb:a0A K C "body"
 kr:Yh K (.ref C) (.ref t.C_Rule)=some true
theorem a7Y {K:Qc} {mg:Str→Option Value} {t:Adr} (T:Txt K mg t) {kind:Nat} (h:kind < 4):c6T K t (a3X t kind):=by
 match kind,h with
 | 0,_=>exact ⟨T.cl_Fact,T.ty_Fact,T.nf_Fact_label,T.nf_Fact_head,T.nf_Fact_body,T.ki_Fact_Rule⟩
 | 1,_=>exact ⟨T.cl_Sure,T.ty_Sure,T.nf_Sure_label,T.nf_Sure_head,T.nf_Sure_body,T.ki_Sure_Rule⟩
 | 2,_=>exact ⟨T.cl_Most,T.ty_Most,T.nf_Most_label,T.nf_Most_head,T.nf_Most_body,T.ki_Most_Rule⟩
 | 3,_=>exact ⟨T.cl_Block,T.ty_Block,T.nf_Block_label,T.nf_Block_head,T.nf_Block_body,T.ki_Block_Rule⟩
def b5b (kind:Nat) (a b c d:Sp):Sp:=match kind with
 | 0=>a
 | 1=>b
 | 2=>c
 | _=>d
theorem b0k {kind:Nat} (h:kind < 4):b5b kind (a0U true) (a0U true) (a0U false) (a0U false)=a0U (decide ((kind:Int) < 2)):=by
 match kind,h with
 | 0,_=>rfl
 | 1,_=>rfl
 | 2,_=>rfl
 | 3,_=>rfl
theorem c2p {t:Adr} {m:Str} {s0 s1 s2 s3:Sp} {ta:TE} {σ:St} {H:Hp} {Q:VK} {r:Addr} {kind:Nat} {lb hd:V} {bs:List V} (hk:kind < 4) (hta:∀R:VK,R (.ref r) H→ta σ H R) (hR:a1M H r (a3X t kind) lb hd bs)
  (hm:¬m="body"∧¬m="head"∧¬m="label") (q:b5b kind s0 s1 s2 s3 [.ref r] H Q E0):
  b9F (a1G t.C_Fact m s0 [] E0 ta a0u) (b9F (a1G t.C_Sure m s1 [] E0 ta a0u) (b9F (a1G t.C_Most m s2 [] E0 ta a0u) (a1G t.C_Block m s3 [] E0 ta a0u))) σ H Q:=by
 obtain ⟨dx,t0,h1,_⟩:=hR
 have hn:=b5q lb hd t0 hm.1 hm.2.1 hm.2.2
 match kind,hk with
 | 0,_=>exact .inl (hta _ ⟨r,dx,_,rfl,h1,hn,q⟩)
 | 1,_=>exact .inr (.inl (hta _ ⟨r,dx,_,rfl,h1,hn,q⟩))
 | 2,_=>exact .inr (.inr (.inl (hta _ ⟨r,dx,_,rfl,h1,hn,q⟩)))
 | 3,_=>exact .inr (.inr (.inr (hta _ ⟨r,dx,_,rfl,h1,hn,q⟩)))
theorem a0E {i:Nat} {σ:St} {H:Hp} {v:V} (h:σ[i]?=some (some v)):∀R:VK,R v H→a0k i σ H R:=fun R q=>⟨v,h,q⟩
def b0J (t:Adr) (H:Hp) (v:V) (r:Rw):Prop:=∃p,v=.ref p∧a1M H p (a3X t r.1) (.str r.2.1) (.str r.2.2.1) (r.2.2.2.map V.str)
theorem b0J.same {t:Adr} {H H':Hp} {v:V} {r:Rw} (s:a0j H H') (h:b0J t H v r):b0J t H' v r:=let ⟨p,a,b⟩:=h;⟨p,a,b.same s⟩
structure a1H (t:Adr) (H:Hp) (xs:List V) (rs:List Rw):Prop where
 len:xs.length=rs.length
 get:∀(i:Nat) (r:Rw),rs[i]?=some r→∃x,xs[i]?=some x∧b0J t H x r
theorem a1H.same {t:Adr} {H H':Hp} {xs:List V} {rs:List Rw} (s:a0j H H') (h:a1H t H xs rs):a1H t H' xs rs:=⟨h.len,fun i r e=>let ⟨x,a,b⟩:=h.get i r e;⟨x,a,b.same s⟩⟩
theorem a1H.at {t:Adr} {H:Hp} {xs:List V} {rs:List Rw} (h:a1H t H xs rs) {i:Nat} (hi:i < xs.length):∃(hi':i < rs.length) (p:Addr),xs[i]=.ref p∧a1M H p (a3X t rs[i].1) (.str rs[i].2.1) (.str rs[i].2.2.1) (rs[i].2.2.2.map V.str):=by
 have hi':i < rs.length:=by rw [←h.len];exact hi
 obtain ⟨x,e,p,rfl,hp⟩:=h.get i rs[i] (Qe hi')
 rw [Qe hi] at e
 exact ⟨hi',p,Option.some.inj e,hp⟩
def b5z (K:Qc) (t:Adr):Sp:=fun vs H Q _=>∃(p b:Addr) (r:Rw),vs=[.ref p]∧a2j r∧H p=some (.tup [.str (a5q r.1),.str r.2.1,.str r.2.2.1,.ref b])∧H b=some (.tup (r.2.2.2.map V.str))∧
 ∀x H',a0j H H'→a1M H' x (a3X t r.1) (.str r.2.1) (.str r.2.2.1) (r.2.2.2.map V.str)→Q (.ref x) H'
def c0d (RS:List (SR Str)) (k0:List Str) (H:Hp) (Q:VK):Prop:=∀D H',a0j H H'→H D=none→H' D=some (.dK (dv (FIN RS k0)))→Q (.ref D) H'
def b8q (K:Qc) (t:Adr):Sp:=fun vs H Q _=>∃(a:Addr) (kv:V) (xs:List V) (rs:List Rw) (kn:List Str),vs=[.ref a,kv]∧H a=some (.lst xs)∧a1H t H xs rs∧(∀r∈rs,a2j r)∧rs.length≤100∧((kv=.non∧kn=[])∨∃b,kv=.ref b∧H b=some (.lst (kn.map V.str)))∧kn.length≤100∧c0d (rs.map srW) (kn.foldl a0V []) H Q
abbrev VR:=V×Rw
def a8r (t:Adr) (H:Hp) (ws:List VR):Prop:=∀p∈ws,b0J t H p.1 p.2∧a2j p.2
theorem a8r.same {t:Adr} {H H':Hp} {ws:List VR} (s:a0j H H') (h:a8r t H ws):a8r t H' ws:=fun p hp=>⟨(h p hp).1.same s,(h p hp).2⟩
theorem a1H.zip {t:Adr} {H:Hp}:∀{xs:List V} {rs:List Rw},a1H t H xs rs→(∀r∈rs,a2j r)→∃zr:List VR,zr.map (·.1)=xs∧zr.map (·.2)=rs∧a8r t H zr
 | [],[],_,_=>⟨[],rfl,rfl,fun _ h=>by cases h⟩
 | [],_::_,h,_=>by have:=h.len;simp at this
 | _::_,[],h,_=>by have:=h.len;simp at this
 | x::xs,r::rs,h,ho=>by
  have h':a1H t H xs rs:=⟨by have:=h.len;simpa using this,fun i r e=>h.get (i+1) r e⟩
  obtain ⟨zr,e1,e2,hz⟩:=a1H.zip h' fun r hr=>ho r (Qp _ hr)
  obtain ⟨x',ex,hx⟩:=h.get 0 r rfl
  cases ex
  refine ⟨(x,r)::zr,by rw [Xg,e1],by rw [Xg,e2],fun p hp=>?_⟩
  rcases Qw.mp hp with z | z
  ·rw [z];exact ⟨hx,ho r Qn⟩
  ·exact hz p z
theorem a1Q {K:Qc} {t:Adr} {a:Addr} {js:List (Option Nat)} {tt:TT} {te:TE} {σ:St} {H:Hp} {Q:VK} (ws:List VR) (hW:H a=some (.lst (ws.map (·.1)))) (hl:ws.length≤1000) (hz:a8r t H ws) (σr:St) (hσ:a1r js σ=none::σr) (P:Rw→Bool) (g:VR→V)
  (hs:∀(x:Addr) (r:Rw) H' (R:Bool→Hp→Prop),a2j r→a1M H' x (a3X t r.1) (.str r.2.1) (.str r.2.2.1) (r.2.2.2.map V.str)→a0j H H'→(∀H'',a0j H' H''→R (P r) H'')→tt (some (.ref x)::σr) H' R)
  (he:∀(x:Addr) (r:Rw) H' (R:V→Hp→Prop),a2j r→a1M H' x (a3X t r.1) (.str r.2.1) (.str r.2.2.1) (r.2.2.2.map V.str)→a0j H H'→(∀H'',a0j H' H''→R (g (.ref x,r)) H'')→te (some (.ref x)::σr) H' R)
  (hd:∀D H',H D=none→a0j H H'→H' D=some (.lst ((ws.filter fun p=>P p.2).map g))→Q (.ref D) H'):a4C (Itl K a) js (a0l 0) tt te σ H Q:=by
 let d0:VR:=(.non,0,"","",[])
 refine a6K (a3p (xs:=ws.map (·.1))) (Qh (show (ws.map (·.1)).length≤1000 by simpa using hl) (by decide)) σr hσ (fun i=>P ((ws[i]?).getD d0).2) (fun i=>g ((ws[i]?).getD d0)) (fun H' s=>SqL.of (s _ _ hW)) (fun i H' R hi s hR=>?_) (fun i H' R hi s hR=>?_) (fun D H' hD s h=>?_)
 ·have hi':i < ws.length:=by simpa using hi
  obtain ⟨⟨x,ex,hx⟩,ho⟩:=hz _ (Xi hi')
  have e2:((ws.map (·.1))[i]?).getD .non=.ref x:=by rw [Qo,Qe hi'];exact ex
  rw [e2]
  rw [Qe hi',Xs] at hR
  exact hs x _ H' R ho (hx.same s) s hR
 ·have hi':i < ws.length:=by simpa using hi
  obtain ⟨⟨x,ex,hx⟩,ho⟩:=hz _ (Xi hi')
  have e2:((ws.map (·.1))[i]?).getD .non=.ref x:=by rw [Qo,Qe hi'];exact ex
  rw [e2]
  rw [Qe hi',Xs] at hR
  refine he x _ H' R ho (hx.same s) s ?_
  rw [show ((V.ref x,ws[i].2):VR)=ws[i] from by rw [←ex]]
  exact hR
 ·rw [show (ws.map (·.1)).length=ws.length by simp,a1O d0 (fun p:VR=>P p.2) g ws] at h
  exact hd D H' hD s h
def wat (zr:List VR) (S:List Str):List VR:=zr.filter fun p=>(srW p.2).1 && decide ((srW p.2).2.1∉S)
theorem b1a {t:Adr} {H:Hp} {zr:List VR} {S:List Str} (h:a8r t H zr):a8r t H (wat zr S):=fun p hp=>h p (Qv.mp hp).1
theorem a6C (zr:List VR) (S:List Str):(wat zr S).length≤zr.length:=Xa _ _
theorem b7W (zr:List VR) {S S':List Str} (h:∀x,x∈S→x∈S'):(wat zr S).filter (fun p=>decide ((srW p.2).2.1∉S'))=wat zr S':=by
 unfold wat
 rw [Wx]
 refine Jv fun p _=>?_
 by_cases c:(srW p.2).2.1∈S'
 ·rw [decide_eq_false (by simpa using c),Bool.and_false,Js]
 ·rw [decide_eq_true c,decide_eq_true (show ¬(srW p.2).2.1∈S from fun z=>c (h _ z)),Bool.and_true,Jk]
theorem a7f (zr:List VR) (S:List Str):((wat zr S).filter fun p=>(srW p.2).2.2.all fun q=>decide (q∈S)).map (fun p=>V.str (srW p.2).2.1)=(frs ((zr.map (·.2)).map srW) S).map V.str:=by
 unfold wat frs
 rw [Wx,Qy,Zz,Qy,Zz,Qy]
 refine congrArg (List.map _) (Jv fun p _=>?_)
 simp only [Function.comp]
 rw [Bool.and_comm]
def RuD (t:Adr) (D:Addr) (v:V) (r:Rw) (H:Hp):Prop:=∃p dx t0,v=.ref p∧p≠D∧t0≠D∧H p=some (.ins (a3X t r.1) dx (a8q (.str r.2.1) (.str r.2.2.1) t0))∧H t0=some (.tup (r.2.2.2.map V.str))
theorem b8g {t:Adr} {D:Addr} {H:Hp} {ys:List V} {rs:List Rw} (hl:ys.length=rs.length) (h:∀(i:Nat) v,ys[i]?=some v→∃hi:i < rs.length,RuD t D v rs[i] H):a1H t H ys rs:=by
 refine ⟨hl,fun i r e=>?_⟩
 obtain ⟨hi,e'⟩:=Qr.mp e
 have hy:i < ys.length:=by rw [hl];exact hi
 obtain ⟨_,p,dx,t0,ev,_,_,h1,h2⟩:=h i ys[i] (Qe hy)
 rw [e'] at h1 h2
 exact ⟨ys[i],Qe hy,p,ev,dx,t0,h1,h2⟩
theorem b0f (RS:List (SR Str)) (k0:List Str):((FIN RS k0).map (·.1)).Nodup:=a0Y _
theorem a3a.zip {H:Hp}:∀{xs:List V} {rs:List Rw},a3a H xs rs→(∀r∈rs,a2j r)→∃zr:List (V×Rw),zr.map (·.1)=xs∧zr.map (·.2)=rs∧∀p∈zr,b5s H p.1 p.2∧a2j p.2
 | [],[],_,_=>⟨[],rfl,rfl,fun _ h=>by cases h⟩
 | [],_::_,h,_=>by have:=h.len;simp at this
 | _::_,[],h,_=>by have:=h.len;simp at this
 | x::xs,r::rs,h,ho=>by
  have h':a3a H xs rs:=⟨by have:=h.len;simpa using this,fun i r e=>h.get (i+1) r e⟩
  obtain ⟨zr,e1,e2,hz⟩:=a3a.zip h' fun r hr=>ho r (Qp _ hr)
  obtain ⟨x',ex,hx⟩:=h.get 0 r rfl
  cases ex
  refine ⟨(x,r)::zr,by rw [Xg,e1],by rw [Xg,e2],fun p hp=>?_⟩
  rcases Qw.mp hp with z | z
  ·rw [z];exact ⟨hx,ho r Qn⟩
  ·exact hz p z
theorem b5j {K:Qc} {β:Type} (At:Hp→V→β→Prop) (d0:β) {a:Addr} {js:List (Option Nat)} {tt:TT} {te:TE} {σ:St} {H:Hp} {Q:VK} (ws:List (V×β)) (hW:H a=some (.lst (ws.map (·.1)))) (hl:ws.length≤1000) (hz:∀H',a0j H H'→∀p∈ws,At H' p.1 p.2) (σr:St) (hσ:a1r js σ=none::σr) (P:β→Bool) (g:V×β→V)
  (hs:∀(x:V) (b:β) H' (R:Bool→Hp→Prop),At H' x b→a0j H H'→(∀H'',a0j H' H''→R (P b) H'')→tt (some x::σr) H' R)
  (he:∀(x:V) (b:β) H' (R:V→Hp→Prop),At H' x b→a0j H H'→(∀H'',a0j H' H''→R (g (x,b)) H'')→te (some x::σr) H' R)
  (hd:∀D H',H D=none→a0j H H'→H' D=some (.lst ((ws.filter fun p=>P p.2).map g))→Q (.ref D) H'):a4C (Itl K a) js (a0l 0) tt te σ H Q:=by
 let d1:V×β:=(.non,d0)
 refine a6K (a3p (xs:=ws.map (·.1))) (Qh (show (ws.map (·.1)).length≤1000 by simpa using hl) (by decide)) σr hσ (fun i=>P ((ws[i]?).getD d1).2) (fun i=>g ((ws[i]?).getD d1)) (fun H' s=>SqL.of (s _ _ hW)) (fun i H' R hi s hR=>?_) (fun i H' R hi s hR=>?_) (fun D H' hD s h=>?_)
 ·have hi':i < ws.length:=by simpa using hi
  have e2:((ws.map (·.1))[i]?).getD .non=ws[i].1:=by rw [Qo,Qe hi'];rfl
  rw [e2]
  rw [Qe hi',Xs] at hR
  exact hs _ _ H' R (hz _ s _ (Xi hi')) s hR
 ·have hi':i < ws.length:=by simpa using hi
  have e2:((ws.map (·.1))[i]?).getD .non=ws[i].1:=by rw [Qo,Qe hi'];rfl
  rw [e2]
  rw [Qe hi',Xs] at hR
  exact he _ _ H' R (hz _ s _ (Xi hi')) s hR
 ·rw [show (ws.map (·.1)).length=ws.length by simp,a1O d1 (fun p:V×β=>P p.2) g ws] at h
  exact hd D H' hD s h
def gfl (io bh pr:Addr):List (Str×V):=a1j "pairs" (.ref pr) (a1j "by_head" (.ref bh) (a1j "in_order" (.ref io) []))
theorem b2P (io bh pr:Addr):(gfl io bh pr).lookup ("in_order":Str)=some (.ref io):=by
 unfold gfl;rw [a0f,if_neg (by decide+kernel),a0f,if_neg (by decide+kernel),a0f,if_pos rfl]
theorem b7q (io bh pr:Addr):(gfl io bh pr).lookup ("by_head":Str)=some (.ref bh):=by
 unfold gfl;rw [a0f,if_neg (by decide+kernel),a0f,if_pos rfl]
theorem a2q (io bh pr:Addr) {m:Str} (h1:¬m="pairs") (h2:¬m="by_head") (h3:¬m="in_order"):(gfl io bh pr).lookup m=none:=by
 unfold gfl;rw [a0f,if_neg h1,a0f,if_neg h2,a0f,if_neg h3];rfl
def hdF (rs:List Rw) (h:Str):List Rw:=rs.filter fun r=>decide (r.2.2.1=h)
def b9O (t:Adr) (H:Hp) (kvs:List (Key×V)) (rs:List Rw):Prop:=∀h:Str,(a0R kvs (Sum.inr h:Key)=none∧hdF rs h=[])∨∃L ys,a0R kvs (Sum.inr h:Key)=some (.ref L)∧H L=some (.lst ys)∧a1H t H ys (hdF rs h)
theorem b9O.same {t:Adr} {H H':Hp} {kvs:List (Key×V)} {rs:List Rw} (s:a0j H H') (h:b9O t H kvs rs):b9O t H' kvs rs:=fun x=>(h x).imp id fun ⟨L,ys,a,b,c⟩=>⟨L,ys,a,s _ _ b,c.same s⟩
def c0B (kvs:List (List Key×V)) (pl:List (Str×Str)):Prop:=∀a b:Str,a0R kvs [Sum.inr a,Sum.inr b]=if (a,b)∈pl then some (V.bl true) else none
def a3r (t:Adr) (H:Hp) (g:Addr) (rs:List Rw) (pl:List (Str×Str)):Prop:=∃dx io bh pr xs kvs kps,H g=some (.ins t.C_Ground dx (gfl io bh pr))∧H io=some (.tup xs)∧a1H t H xs rs∧H bh=some (.dK kvs)∧b9O t H kvs rs∧H pr=some (.dT kps)∧c0B kps pl
theorem a3r.same {t:Adr} {H H':Hp} {g:Addr} {rs:List Rw} {pl:List (Str×Str)} (s:a0j H H') (h:a3r t H g rs pl):a3r t H' g rs pl:=let ⟨dx,io,bh,pr,xs,kvs,kps,a,b,c,d,e,f,k⟩:=h;⟨dx,io,bh,pr,xs,kvs,kps,s _ _ a,s _ _ b,c.same s,s _ _ d,e.same s,s _ _ f,k⟩
theorem a1H.refs {t:Adr} {H H':Hp} {xs:List V} {rs:List Rw} (h:a1H t H xs rs) {x dx:Addr} {C:Addr} (hx:H x=some (.ins C dx [])) (k:∀c o,H c=some o→c≠x→H' c=some o):a1H t H' xs rs:=⟨h.len,fun i r e=>by
 obtain ⟨v,a,p,rfl,dx',t0,h1,h2⟩:=h.get i r e
 have hp:p≠x:=fun z=>by
  rw [z,hx] at h1
  injection h1 with h1
  injection h1 with _ _ h3
  have:=a1f (.str r.2.1) (.str r.2.2.1) t0
  rw [←h3] at this;cases this
 have ht:t0≠x:=a0B h2 hx (by intro z;cases z)
 exact ⟨_,a,p,rfl,dx',t0,k _ _ h1 hp,k _ _ h2 ht⟩⟩
theorem b3K (io bh pr:Addr):(gfl io bh pr).lookup ("pairs":Str)=some (.ref pr):=by
 unfold gfl;rw [a0f,if_pos rfl]
theorem a1t.same {H H':Hp} {xs:List V} {pl:List (Str×Str)} (s:a0j H H') (h:a1t H xs pl):a1t H' xs pl:=let ⟨as,a,b,c⟩:=h;⟨as,a,b,fun i x p e1 e2=>s _ _ (c i x p e1 e2)⟩
def b6v (t:Adr):Sp:=fun vs H Q _=>∃(x dx b pb:Addr) (xs:List V) (rs:List Rw) (ps:List V) (pl:List (Str×Str)),vs=[.ref x,.ref b,.ref pb]∧H x=some (.ins t.C_Ground dx [])∧H b=some (.lst xs)∧a1H t H xs rs∧(∀r∈rs,a2j r)∧rs.length≤63∧H pb=some (.lst ps)∧a1t H ps pl∧pl.length≤200∧
 ∀H',(∀c o,H c=some o→c≠x→H' c=some o)→a3r t H' x rs pl→Q .non H'
def a8l (t:Adr):Sp:=fun vs H Q _=>∃(g:Addr) (h:Str) (rs:List Rw) (pl:List (Str×Str)),vs=[.ref g,.str h]∧a3r t H g rs pl∧∀D ys H',a0j H H'→H D=none→H' D=some (.lst ys)→a1H t H' ys (hdF rs h)→Q (.ref D) H'
def b4B:Sp:=fun vs H Q _=>∃z:Str,vs=[.str z]∧z.length≤100∧Q (.str (a0y z)) H
def a3J (b S:List Str):Bool:=b.any fun q=>decide (q∈S)
def spk (r:Rw):Bool:=decide (r.1 < 3)
def btn (pl:List (Str×Str)) (bs:List Rw) (r:Rw):Bool:=bs.any fun b=>decide ((b.2.1,r.2.1)∈pl)
def a1Y (rs:List Rw) (U:List Str) (q:Str):List Rw:=((hdF rs q).filter spk).filter fun r=>a3W r.2.2.2 U
def unf (rs:List Rw) (D:List Str) (q:Str):List Rw:=((hdF rs q).filter spk).filter fun r=>!a3J r.2.2.2 D
def a1I (rs:List Rw) (pl:List (Str×Str)) (S U D:List Str) (q:Str):Bool:=if q∈S then true else if a1Y rs U q=[]∨a0y q∈S then false else (hdF rs (a0y q)).all fun r=>a3J r.2.2.2 D || btn pl (a1Y rs U q) r
def a6b (rs:List Rw) (pl:List (Str×Str)) (S U D:List Str) (q:Str):Bool:=if q∈S then false else if unf rs D q=[]∨a0y q∈S then true else (hdF rs (a0y q)).any fun r=>a3W r.2.2.2 U && !btn pl (unf rs D q) r
def a1k (H:Hp) (v:V) (S:List Str):Prop:=(∃a,v=.ref a∧H a=some (.lst (S.map V.str)))∨∃a kvs,v=.ref a∧H a=some (.dK kvs)∧∀x:Str,(a0R kvs (Sum.inr x:Key)).isSome=decide (x∈S)
theorem a1k.same {H H':Hp} {v:V} {S:List Str} (s:a0j H H') (h:a1k H v S):a1k H' v S:=h.imp (fun ⟨a,e,b⟩=>⟨a,e,s _ _ b⟩) fun ⟨a,k,e,b,c⟩=>⟨a,k,e,s _ _ b,c⟩
theorem a8t {K:Qc} {tl tr:TE} {σ:St} {H:Hp} {Q:VK} {v:V} {S:List Str} {x:Str} (h:a1k H v S) (hl:∀R:VK,R (.str x) H→tl σ H R) (hr:∀R:VK,R v H→tr σ H R) (q:Q (.bl (decide (x∈S))) H):b9F (b7y tl tr) (tOp (b5O K) tl tr) σ H Q:=by
 rcases h with ⟨a,rfl,ha⟩ | ⟨a,kvs,rfl,ha,hk⟩
 ·exact .inr (hl _ (hr _ (a6G (SqL.of ha) q)))
 ·refine .inl (hl _ (hr _ ⟨a,_,rfl,a2S.k (k:=(Sum.inr x:Key)) ha,?_⟩))
  rw [hk];exact q
theorem a3s {K:Qc} {tl tr:TE} {σ:St} {H:Hp} {Q:Bool→Hp→Prop} {v:V} {S:List Str} {x:Str} (h:a1k H v S) (hl:∀R:VK,R (.str x) H→tl σ H R) (hr:∀R:VK,R v H→tr σ H R) (q:Q (decide (x∈S)) H):b6S (tB (b7y tl tr)) (a1q (tOp (b5O K) tl tr)) σ H Q:=by
 rcases h with ⟨a,rfl,ha⟩ | ⟨a,kvs,rfl,ha,hk⟩
 ·exact .inr (hl _ (hr _ (a6G (SqL.of ha) ⟨_,rfl,q⟩)))
 ·refine .inl (hl _ (hr _ ⟨a,_,rfl,a2S.k (k:=(Sum.inr x:Key)) ha,_,rfl,?_⟩))
  rw [hk];exact q
def a6T:Sp:=fun vs H Q _=>∃(t:Addr) (v:V) (bd S:List Str),vs=[.ref t,v]∧H t=some (.tup (bd.map V.str))∧bd.length≤1000∧a1k H v S∧∀H',a0j H H'→Q (.bl (a3W bd S)) H'
def b8d:Sp:=fun vs H Q _=>∃(t:Addr) (v:V) (bd S:List Str),vs=[.ref t,v]∧H t=some (.tup (bd.map V.str))∧bd.length≤1000∧a1k H v S∧∀H',a0j H H'→Q (.bl (a3J bd S)) H'
def b4w (t:Adr):Sp:=fun vs H Q _=>∃(g x y:Addr) (rs:List Rw) (pl:List (Str×Str)) (r1 r2:Rw),vs=[.ref g,.ref x,.ref y]∧a3r t H g rs pl∧b0J t H (.ref x) r1∧b0J t H (.ref y) r2∧a2j r1∧a2j r2∧∀H',a0j H H'→Q (.bl (decide ((r1.2.1,r2.2.1)∈pl))) H'
def b1o (t:Adr):Sp:=fun vs H Q _=>∃(g x L:Addr) (rs:List Rw) (pl:List (Str×Str)) (r:Rw) (zr:List VR),vs=[.ref g,.ref x,.ref L]∧a3r t H g rs pl∧b0J t H (.ref x) r∧a2j r∧H L=some (.lst (zr.map (·.1)))∧a8r t H zr∧zr.length≤63∧∀H',a0j H H'→Q (.bl (btn pl (zr.map (·.2)) r)) H'
def a8d (t:Adr):Sp:=fun vs H Q _=>∃(g:Addr) (h:Str) (rs:List Rw) (pl:List (Str×Str)),vs=[.ref g,.str h]∧a3r t H g rs pl∧(∀r∈rs,a2j r)∧rs.length≤63∧∀D (zr:List VR) H',a0j H H'→H D=none→H' D=some (.lst (zr.map (·.1)))→a8r t H' zr→zr.map (·.2)=(hdF rs h).filter spk→Q (.ref D) H'
def a8O (t:Adr):Sp:=fun vs H Q _=>∃(g:Addr) (h:Str) (rs:List Rw) (pl:List (Str×Str)),vs=[.ref g,.str h]∧a3r t H g rs pl∧(∀r∈rs,a2j r)∧h.length≤100∧∀D (zr:List VR) H',a0j H H'→H D=none→H' D=some (.lst (zr.map (·.1)))→a8r t H' zr→zr.map (·.2)=hdF rs (a0y h)→Q (.ref D) H'
def a8S (t:Adr) (f:List Rw→List (Str×Str)→List Str→List Str→List Str→Str→Bool):Sp:=fun vs H Q _=>∃(g:Addr) (v1 v2 v3:V) (q:Str) (rs:List Rw) (pl:List (Str×Str)) (S U D:List Str),vs=[.ref g,v1,v2,v3,.str q]∧a3r t H g rs pl∧(∀r∈rs,a2j r)∧rs.length≤63∧a1k H v1 S∧a1k H v2 U∧a1k H v3 D∧q.length≤100∧∀H',a0j H H'→Q (.bl (f rs pl S U D q)) H'
theorem a6p {kind:Nat} (h:kind < 4):b5b kind (a0U true) (a0U true) (a0U true) (a0U false)=a0U (decide (kind < 3)):=by
 match kind,h with
 | 0,_=>rfl
 | 1,_=>rfl
 | 2,_=>rfl
 | 3,_=>rfl
theorem a9B:bootBuiltins "max"=some (.builtin "max"):=by decide+kernel
abbrev RR:=V×Rw
def b9L (H:Hp) (ws:List RR):Prop:=∀p∈ws,b5s H p.1 p.2∧a2j p.2
theorem b9L.same {H H':Hp} {ws:List RR} (s:a0j H H') (h:b9L H ws):b9L H' ws:=fun p hp=>⟨(h p hp).1.same s,(h p hp).2⟩
def DAt (H:Hp) (a:Addr) (S:List Str):Prop:=∃kvs,H a=some (.dK kvs)∧∀x:Str,(a0R kvs (Sum.inr x:Key)).isSome=decide (x∈S)
theorem DAt.some {H:Hp} {a:Addr} {S:List Str} (h:DAt H a S):a1k H (.ref a) S:=let ⟨k,b,c⟩:=h;.inr ⟨a,k,rfl,b,c⟩
theorem DAt.get {H:Hp} {a:Addr} {S:List Str} (h:DAt H a S) (x:Str):∃o,a2S H a (.str x) o∧o.isSome=decide (x∈S):=let ⟨k,b,c⟩:=h;⟨_,a2S.k (k:=(Sum.inr x:Key)) b,c x⟩
def b6h (pl:List (Str×Str)):Prop:=∀p∈pl,Yt p.1=true∧Yt p.2=true
def iv (S:List Str):List (Key×V):=S.map fun x=>(Sum.inr x,V.int 0)
def b3q (H:Hp) (Q:VK):Prop:=∀(D:Addr) (ps:List V) (pl:List (Str×Str)) H',a0j H H'→H D=none→H' D=some (.lst ps)→a1t H' ps pl→pl.length≤200→b6h pl→Q (.ref D) H'
def b5v:Sp:=fun vs H Q _=>∃(c m:Int),vs=[.int c,.int m]∧(0≤m∧m≤30)∧b3q H Q
def b1J (K:Qc):Sp:=fun vs H Q _=>∃(a:Addr) (ns:List Int),vs=[.ref a]∧SqL K H a (ns.map V.int)∧ns.length≤63∧b3q H Q
theorem a6V {H:Hp} {xs:List V} {pl:List (Str×Str)} {a:Addr} {p:Str×Str} (h:a1t H xs pl) (ha:H a=some (.tup [.str p.1,.str p.2])):a1t H (xs++[.ref a]) (pl++[p]):=by
 obtain ⟨as,rfl,hl,hat⟩:=h
 refine ⟨as++[a],by rw [Xf];rfl,by simp [hl],fun i b q e1 e2=>?_⟩
 by_cases hi:i < as.length
 ·rw [Yi hi] at e1
  rw [Yi (by omega)] at e2
  exact hat i b q e1 e2
 ·have hi2:=(Qr.mp e1).1
  have ei:i=as.length:=by simp at hi2;omega
  subst ei
  rw [Yg (Qk _),Vo] at e1
  rw [Yg (by omega),hl,Vo] at e2
  cases e1;cases e2;exact ha
theorem a6U {H H':Hp} {xs:List V} {pl:List (Str×Str)} {D:Addr} (h:a1t H xs pl) (hD:∃ys,H D=some (.lst ys)) (up:∀b o,b≠D→H b=some o→H' b=some o):a1t H' xs pl:=by
 obtain ⟨as,e,hl,hat⟩:=h
 obtain ⟨ys,hD⟩:=hD
 refine ⟨as,e,hl,fun i b q e1 e2=>?_⟩
 have:=hat i b q e1 e2
 exact up _ _ (a0B this hD (by intro z;cases z)) this
def b2s (H:Hp) (v:V) (S:List Str):Prop:=(∃a,v=.ref a∧H a=some (.lst (S.map V.str)))∨∃a,v=.ref a∧H a=some (.dK (iv S))
theorem b5w (S:List Str) (x:Str):(a0R (iv S) (Sum.inr x:Key)).isSome=decide (x∈S):=by
 induction S with
 | nil=>rfl
 | cons y S ih=>
  rw [show iv (y::S)=(Sum.inr y,V.int 0)::iv S from rfl]
  by_cases e:y=x
  ·rw [a0D (by rw [e]),decide_eq_true (by rw [e];exact Qn)];rfl
  ·rw [a0t (fun z=>e (Sum.inr.inj z)),ih,Yl,decide_eq_true_eq,decide_eq_true_eq,Qw]
   exact ⟨.inr,fun z=>z.elim (fun w=>absurd w.symm e) id⟩
theorem b2s.some {H:Hp} {v:V} {S:List Str} (h:b2s H v S):a1k H v S:=h.imp id fun ⟨a,e,b⟩=>⟨a,_,e,b,b5w S⟩
theorem b2s.list {K:Qc} {H:Hp} {v:V} {S:List Str} {Q:VK} (h:b2s H v S) (q:∀l,H l=none→Q (.ref l) (upd H l (.lst (S.map V.str)))):b0y K [v] H Q:=by
 rcases h with ⟨a,rfl,ha⟩ | ⟨a,rfl,ha⟩
 ·exact .inl ⟨a,_,rfl,.inl (SqL.of ha),q⟩
 ·refine .inr ⟨a,_,rfl,.inl ha,fun l hl=>?_⟩
  rw [show ((iv S).map fun kv=>kV kv.1)=S.map V.str from by unfold iv;rw [Qy];rfl]
  exact q l hl
theorem b1N:∀(zs ys:List Str),Xq (.list (zs.map Ym)) (.list (ys.map Ym))=decide (zs=ys):=by
 have all:∀(zs ys:List Str),Jj (zs.map Ym) (ys.map Ym)=decide (zs=ys):=by
  intro zs
  induction zs with
  | nil=>intro ys;cases ys<;>rfl
  | cons z zs ih=>
   intro ys
   cases ys with
   | nil=>rfl
   | cons y ys=>
    have e:Jj ((z::zs).map Ym) ((y::ys).map Ym)=(Xq (.str z) (.str y) && Jj (zs.map Ym) (ys.map Ym)):=rfl
    have e2:Xq (.str z) (.str y)=decide (z=y):=by first | rfl | simp [Xq]
    rw [e,e2,ih]
    by_cases h1:z=y
    ·by_cases h2:zs=ys
     ·simp [h1,h2]
     ·simp [h1,h2]
    ·simp [h1]
 intro zs ys
 have e:Xq (.list (zs.map Ym)) (.list (ys.map Ym))=Jj (zs.map Ym) (ys.map Ym):=by first | rfl | simp [Xq]
 rw [e];exact all zs ys
theorem b2g {K:Qc} {H:Hp} {Q:VK} {a b:Addr} {zs ys:List Str} (ha:SqL K H a (zs.map V.str)) (hb:SqL K H b (ys.map V.str)) (ho:∀z∈zs,Yt z=true) (ho':∀z∈ys,Yt z=true) (q:Q (.bl (!decide (zs=ys))) H):b6a K (.ref a) (.ref b) H Q:=
 .inr ⟨_,_,.lst ha (a6B zs),.lst hb (a6B ys),a9H ho,a9H ho',by rw [b1N];exact q⟩
def a8B (t:Adr):Sp:=fun vs H Q _=>∃(g:Addr) (rs:List Rw) (pl:List (Str×Str)),vs=[.ref g]∧a3r t H g rs pl∧∀D xs H',a0j H H'→H D=none→H' D=some (.lst xs)→a1H t H' xs rs→Q (.ref D) H'
theorem a4B {rs:List (SR Str)}:∀n x,x∈sS rs [] n→∃b,(true,x,b)∈rs
 | 0,x,h=>by cases h
 | n+1,x,h=>by
  rcases a3Q.mp h with z | z
  ·exact a4B n x z
  ·obtain ⟨_,b,hr,_⟩:=a2Z.mp z
   exact ⟨b,hr⟩
theorem b7w {rs:List Rw} (hO:∀r∈rs,a2j r):∀p∈FIN (rs.map srW) [],OkS p.1:=fun p hp=>by
 obtain ⟨b,hb⟩:=a4B _ p.1 ((b0H p.1).mp (Qf.mpr ⟨p,hp,rfl⟩))
 obtain ⟨r,hr,e⟩:=Qf.mp hb
 have e2:r.2.2.1=p.1:=congrArg (fun z:SR Str=>z.2.1) e
 rw [←e2];exact (hO r hr).2.2.2.1
theorem b0X (rs:List Rw):(FIN (rs.map srW) []).length≤rs.length:=by
 have:=b3e (rs:=rs.map srW) (kn:=[]) (by simp) (rs.map srW).length
 show (sR (rs.map srW) [] (rs.map srW).length).length≤rs.length
 simpa using this
theorem b4k (F:List (Str×Nat)):(dv F).map (·.1)=(F.map (·.1)).map Sum.inr:=by unfold dv;rw [Qy,Qy];rfl
def gF (RS:List (SR Str)) (x:Str):Int:=(((lk (FIN RS []) x).getD 0:Nat):Int)
def a9r (RS:List (SR Str)) (l:List Str):Prop:=l.Perm ((FIN RS []).map (·.1))∧l.Pairwise (fun x y=>ltG (gF RS) x y=true)
theorem a9X {rs:List Rw} {l:List Str} (h:a9r (rs.map srW) l):l.length≤rs.length:=by
 have:=h.1.length_eq
 rw [Qd] at this
 rw [this];exact b0X rs
theorem b9w {rs:List Rw} {l:List Str} (hO:∀r∈rs,a2j r) (h:a9r (rs.map srW) l):∀z∈l,OkS z:=fun z hz=>by
 obtain ⟨p,hp,rfl⟩:=Qf.mp (h.1.mem_iff.mp hz)
 exact b7w hO p hp
def b2h (T:Addr) (H:Hp):Hp:=fun a=>if a=T then none else H a
theorem a0T {T x:Addr} {H:Hp} {o:HO} {ps:Array Value} (hT:H T=some (.tbl ps)) (h:H x=some o) (n:∀ps,o≠.tbl ps):b2h T H x=some o:=by
 unfold b2h
 rw [if_neg (fun z=>by rw [z,hT] at h;cases h;exact n _ rfl)]
 exact h
theorem a4T {T:Addr} {H H':Hp} (k:∀a o,a≠T→H a=some o→H' a=some o):a0j (b2h T H) H':=fun a o e=>by
 unfold b2h at e
 by_cases z:a=T
 ·rw [if_pos z] at e;cases e
 ·rw [if_neg z] at e;exact k a o z e
section
variable {T:Addr} {H:Hp} {pt:Array Value} (hT:H T=some (.tbl pt))
include hT
theorem b5c {K:Qc} {a:Addr} {xs:List V} (h:SqL K H a xs):SqL K (b2h T H) a xs:=by
 rcases h with (h | ⟨o,h⟩) | h
 ·exact .inl (.inl (a0T hT h (fun _ z=>nomatch z)))
 ·exact .inl (.inr ⟨o,a0T hT h (fun _ z=>nomatch z)⟩)
 ·exact .inr h
theorem b9H {xs:List V} {rs:List Rw} (h:a3a H xs rs):a3a (b2h T H) xs rs:=⟨h.len,fun i r e=>let ⟨x,a,p,t,b,c,d⟩:=h.get i r e;⟨x,a,p,t,b,a0T hT c (fun _ z=>nomatch z),a0T hT d (fun _ z=>nomatch z)⟩⟩
theorem b3s {t:Adr} {xs:List V} {rs:List Rw} (h:a1H t H xs rs):a1H t (b2h T H) xs rs:=⟨h.len,fun i r e=>let ⟨x,a,p,b,d,t0,c,f⟩:=h.get i r e;⟨x,a,p,b,d,t0,a0T hT c (fun _ z=>nomatch z),a0T hT f (fun _ z=>nomatch z)⟩⟩
theorem b4g {xs:List V} {pl:List (Str×Str)} (h:a1t H xs pl):a1t (b2h T H) xs pl:=let ⟨as,a,b,c⟩:=h;⟨as,a,b,fun i x p e1 e2=>a0T hT (c i x p e1 e2) (fun _ z=>nomatch z)⟩
theorem b3f {t:Adr} {g:Addr} {rs:List Rw} {pl:List (Str×Str)} (h:a3r t H g rs pl):a3r t (b2h T H) g rs pl:=by
 obtain ⟨dx,io,bh,pr,xs,kvs,kps,a,b,c,d,e,f,k⟩:=h
 refine ⟨dx,io,bh,pr,xs,kvs,kps,a0T hT a (fun _ z=>nomatch z),a0T hT b (fun _ z=>nomatch z),b3s hT c,a0T hT d (fun _ z=>nomatch z),fun h=>?_,a0T hT f (fun _ z=>nomatch z),k⟩
 rcases e h with z | ⟨L,ys,z1,z2,z3⟩
 ·exact .inl z
 ·exact .inr ⟨L,ys,z1,a0T hT z2 (fun _ z=>nomatch z),b3s hT z3⟩
end
theorem b9A {t:Adr} {T:Addr} {q:Str} {H H':Hp} {g:Addr} {rs:List Rw} {pl:List (Str×Str)} (lt:a3V T q H) (k:∀a o,a≠T→H a=some o→H' a=some o) (h:a3r t H g rs pl):a3r t H' g rs pl:=by
 obtain ⟨pt,hT,_⟩:=lt
 exact (b3f hT h).same (a4T k)
theorem a6L {T:Addr} {q:Str} {H H':Hp} {x:Addr} {o:HO} (lt:a3V T q H) (k:∀a o,a≠T→H a=some o→H' a=some o) (h:H x=some o) (n:∀ps,o≠.tbl ps):H' x=some o:=by
 obtain ⟨pt,hT,_⟩:=lt
 exact a4T k _ _ (a0T hT h n)
def b4G (t:Adr):Sp:=fun vs H Q _=>∃(g:Addr) (rs:List Rw) (pl:List (Str×Str)),vs=[.ref g]∧a3r t H g rs pl∧(∀r∈rs,a2j r)∧rs.length≤63∧a3V t.TB_z0u a1P H∧
 ∀l ss H',a3V t.TB_z0u a1P H'→(∀a o,a≠t.TB_z0u→H a=some o→H' a=some o)→H l=none→H' l=some (.lst (ss.map V.str))→a9r (rs.map srW) ss→Q (.ref l) H'
theorem b4n {t:Adr} {H:Hp} {R:Addr→Hp→Prop} {E:XK} {L Pr:Addr} {zs ps:List V} {rs:List Rw} {pl:List (Str×Str)} (hL:H L=some (.lst zs)) (hU:a1H t H zs rs) (hO:∀r∈rs,a2j r) (hl:rs.length≤63) (hP:H Pr=some (.lst ps)) (hQ:a1t H ps pl) (hp:pl.length≤200)
  (q:∀g H',a0j H H'→H g=none→a3r t H' g rs pl→R g H'):∀x dx,H x=none→H dx=none→dx≠x→b6v t [.ref x,.ref L,.ref Pr] (upd (upd H dx (.own x)) x (.ins t.C_Ground dx [])) (fun v H2=>v=.non∧R x H2) E:=by
 intro g dx ng ndx ne
 obtain ⟨H4,e4,s4,h4⟩:∃H4,upd (upd H dx (.own g)) g (.ins t.C_Ground dx [])=H4∧a0j H H4∧H4 g=some (.ins t.C_Ground dx []):=⟨_,rfl,fun c o e=>by rw [a0a (a0b e ng),a0a (a0b e ndx)];exact e,a0d⟩
 rw [e4]
 exact ⟨g,dx,L,Pr,zs,rs,ps,pl,rfl,h4,s4 _ _ hL,hU.same s4,hO,hl,s4 _ _ hP,a1t.same s4 hQ,hp,fun H5 k5 hG5=>⟨rfl,q g H5 (fun c o e=>k5 c o (s4 _ _ e) (a0b e ng)) ng hG5⟩⟩
/-! ### rounds -/
def stt (rs:List Rw) (pl:List (Str×Str)) (S U D:List Str) (q:Str):Option Bool:=if a1I rs pl S U D q=true then some true else if a6b rs pl S U D q=true then some false else none
def tch (rs:List Rw) (came:List Str) (q:Str):Prop:=∃r∈rs,(∃p∈r.2.2.2,p∈came)∧(q=r.2.2.1∨q=a0y r.2.2.1)
def Ext (U came U':List Str):Prop:=∀x,x∉came→(x∈U'↔x∈U)
theorem a7m {b U U' came:List Str} (h:Ext U came U') (hb:∀p∈b,p∉came):a3W b U'=a3W b U:=by
 unfold a3W
 rw [Yl,Zu,Zu]
 exact ⟨fun z p hp=>decide_eq_true ((h p (hb p hp)).mp (of_decide_eq_true (z p hp))),fun z p hp=>decide_eq_true ((h p (hb p hp)).mpr (of_decide_eq_true (z p hp)))⟩
theorem a7j {b U U' came:List Str} (h:Ext U came U') (hb:∀p∈b,p∉came):a3J b U'=a3J b U:=by
 unfold a3J
 rw [Yl,Zk,Zk]
 exact ⟨fun ⟨p,hp,z⟩=>⟨p,hp,decide_eq_true ((h p (hb p hp)).mp (of_decide_eq_true z))⟩,fun ⟨p,hp,z⟩=>⟨p,hp,decide_eq_true ((h p (hb p hp)).mpr (of_decide_eq_true z))⟩⟩
theorem a4U {rs:List Rw} {pl:List (Str×Str)} {S U U' D D' came:List Str} {q:Str} (hU:Ext U came U') (hD:Ext D came D') (ho:a0y (a0y q)=q) (hn:¬tch rs came q):stt rs pl S U' D' q=stt rs pl S U D q:=by
 have h1:∀r∈hdF rs q,∀p∈r.2.2.2,p∉came:=fun r hr p hp hc=>by
  have:=Qv.mp hr
  exact hn ⟨r,this.1,⟨p,hp,hc⟩,.inl (of_decide_eq_true this.2).symm⟩
 have h2:∀r∈hdF rs (a0y q),∀p∈r.2.2.2,p∉came:=fun r hr p hp hc=>by
  have:=Qv.mp hr
  exact hn ⟨r,this.1,⟨p,hp,hc⟩,.inr (by rw [of_decide_eq_true this.2,ho])⟩
 have e1:a1Y rs U' q=a1Y rs U q:=by
  unfold a1Y
  exact Jv fun r hr=>a7m hU (h1 r (Qv.mp hr).1)
 have e2:unf rs D' q=unf rs D q:=by
  unfold unf
  exact Jv fun r hr=>by rw [a7j hD (h1 r (Qv.mp hr).1)]
 have all_congr:∀(l:List Rw) (f g:Rw→Bool),(∀r∈l,f r=g r)→l.all f=l.all g:=fun l f g h=>by
  induction l with
  | nil=>rfl
  | cons a l ih=>rw [Uw,Uw,h a Qn,ih fun r hr=>h r (Qp _ hr)]
 have any_congr:∀(l:List Rw) (f g:Rw→Bool),(∀r∈l,f r=g r)→l.any f=l.any g:=fun l f g h=>by
  induction l with
  | nil=>rfl
  | cons a l ih=>rw [Zw,Zw,h a Qn,ih fun r hr=>h r (Qp _ hr)]
 have e3:a1I rs pl S U' D' q=a1I rs pl S U D q:=by
  unfold a1I
  rw [e1,all_congr _ _ (fun r=>a3J r.2.2.2 D || btn pl (a1Y rs U q) r) fun r hr=>by rw [a7j hD (h2 r hr)]]
 have e4:a6b rs pl S U' D' q=a6b rs pl S U D q:=by
  unfold a6b
  rw [e2,any_congr _ _ (fun r=>a3W r.2.2.2 U && !btn pl (unf rs D q) r) fun r hr=>by rw [a7m hU (h2 r hr)]]
 unfold stt
 rw [e3,e4]
structure RdS where
 T:List (Str×Bool×Nat)
 U:List Str
 D:List Str
def fresh (rs:List Rw) (pl:List (Str×Str)) (S some:List Str) (s:RdS):List (Str×Bool):=some.filterMap fun q=>if q∈s.T.map (·.1) then none else (stt rs pl S s.U s.D q).map fun w=>(q,w)
def ups (F:List (Str×Bool)):List Str:=(F.filter (·.2)).map (·.1)
def a0P (F:List (Str×Bool)):List Str:=(F.filter fun p=>!p.2).map (·.1)
def next (n:Nat) (s:RdS) (F:List (Str×Bool)):RdS:=⟨s.T++F.map fun p=>(p.1,p.2,n),s.U++ups F,s.D++a0P F⟩
def rds (rs:List Rw) (pl:List (Str×Str)) (S some U D:List Str):Nat→RdS
 | 0=>⟨[],U,D⟩
 | n+1=>next (n+1) (rds rs pl S some U D n) (fresh rs pl S some (rds rs pl S some U D n))
theorem a0o {rs:List Rw} {pl:List (Str×Str)} {S some:List Str} {s:RdS} {q:Str} {w:Bool}:(q,w)∈fresh rs pl S some s↔q∈some∧q∉s.T.map (·.1)∧stt rs pl S s.U s.D q=Option.some w:=by
 unfold fresh
 rw [Zx]
 constructor
 ·rintro ⟨x,hx,e⟩
  split at e
  ·cases e
  ·rename_i hn
   obtain ⟨y,hy,e⟩:=Jw.mp e
   cases e
   exact ⟨hx,hn,hy⟩
 ·rintro ⟨h1,h2,h3⟩
  exact ⟨q,h1,by rw [if_neg h2,h3];rfl⟩
theorem a1C {F:List (Str×Bool)} {q:Str}:q∈ups F↔(q,true)∈F:=by
 unfold ups
 rw [Qf]
 constructor
 ·rintro ⟨⟨x,b⟩,h,rfl⟩
  have:=Qv.mp h
  have hb:b=true:=this.2
  subst hb;exact this.1
 ·exact fun h=>⟨_,Qv.mpr ⟨h,rfl⟩,rfl⟩
theorem a0O {F:List (Str×Bool)} {q:Str}:q∈a0P F↔(q,false)∈F:=by
 unfold a0P
 rw [Qf]
 constructor
 ·rintro ⟨⟨x,b⟩,h,rfl⟩
  have:=Qv.mp h
  have hb:b=false:=by simpa using this.2
  subst hb;exact this.1
 ·exact fun h=>⟨_,Qv.mpr ⟨h,rfl⟩,rfl⟩
theorem a9N {rs:List Rw} {pl:List (Str×Str)} {S some U D:List Str} (n:Nat) {q:Str} {w:Bool} (ho:∀q∈some,a0y (a0y q)=q) (h:(q,w)∈fresh rs pl S some (rds rs pl S some U D (n+1))):tch rs ((fresh rs pl S some (rds rs pl S some U D n)).map (·.1)) q:=by
 obtain ⟨h1,h2,h3⟩:=a0o.mp h
 refine Classical.byContradiction fun hn=>?_
 have hT:q∉(rds rs pl S some U D n).T.map (·.1)∧∀w,(q,w)∉fresh rs pl S some (rds rs pl S some U D n):=by
  constructor
  ·intro z
   exact h2 (by show q∈((rds rs pl S some U D n).T++_).map _;rw [Xf];exact Xl _ z)
  ·intro w' z
   refine h2 ?_
   show q∈((rds rs pl S some U D n).T++_).map _
   rw [Xf]
   exact Qt _ (Qf.mpr ⟨_,Qf.mpr ⟨_,z,rfl⟩,rfl⟩)
 have hE:∀(F:List (Str×Bool)) (A B:List Str),(∀x∈B,x∈F.map (·.1))→Ext A (F.map (·.1)) (A++B):=fun F A B hB x hx=>by
  rw [Qq]
  exact ⟨fun z=>z.resolve_right fun y=>hx (hB x y),.inl⟩
 have e:=a4U (pl:=pl) (S:=S) (U:=(rds rs pl S some U D n).U) (D:=(rds rs pl S some U D n).D) (U':=(rds rs pl S some U D (n+1)).U) (D':=(rds rs pl S some U D (n+1)).D) (q:=q)
  (hE _ _ _ fun x hx=>Qf.mpr ⟨_,a1C.mp hx,rfl⟩) (hE _ _ _ fun x hx=>Qf.mpr ⟨_,a0O.mp hx,rfl⟩) (ho q h1) hn
 rw [h3] at e
 exact hT.2 w (a0o.mpr ⟨h1,hT.1,e.symm⟩)
theorem a1X {rs:List Rw} {pl:List (Str×Str)} {S some U D:List Str} {n:Nat} (h:fresh rs pl S some (rds rs pl S some U D n)=[]):∀k,rds rs pl S some U D (n+k)=rds rs pl S some U D n
 | 0=>rfl
 | k+1=>by
  have ih:=a1X h k
  show next _ (rds rs pl S some U D (n+k)) (fresh rs pl S some (rds rs pl S some U D (n+k)))=_
  rw [ih,h]
  unfold next ups a0P
  simp
def b4h (TB:Addr) (K:Qc):Sp:=fun vs H Q _=>∃(a:Addr) (ns:List Int),vs=[.ref a]∧SqL K H a (ns.map V.int)∧ns.length≤63∧a3V TB a1P H∧∀H',Q (.bl true) H'
theorem b1D {TB:Addr} {K:Qc} {H:Hp} {a:Addr} {ns:List Int} (hl:ns.length≤63) (hO:b2l TB H) (hS:SqL K H a (ns.map V.int)):b4h TB K [.ref a] H (fun v _=>v=.bl true) fun _ _ _=>False:=⟨a,ns,rfl,hS,hl,a3V.start hO.1,fun _=>rfl⟩
/-! ### walks of lists and dicts -/
structure a2d (H:Hp) (v:V) (H0:Hp):Prop where
 keep:∀b o,H b=some o→v≠.ref b→H0 b=some o
 non:∀b,H0 b=none→H b=none
 new:∀b,H b=none→H0 b=none
theorem a2d.refl (H:Hp) (v:V):a2d H v H:=⟨fun _ _ e _=>e,fun _ e=>e,fun _ e=>e⟩
theorem a2d.frz {H:Hp} {a:Addr} {o:HO} {x:HO} (h:H a=some o):a2d H (.ref a) (upd H a x):=⟨fun b o e n=>by rw [a0a (fun z=>n (by rw [z]))];exact e,fun b e=>by
 by_cases z:b=a
 ·rw [z,a0d] at e;cases e
 ·rw [a0a z] at e;exact e,fun b e=>by rw [a0a (fun z=>by rw [z,h] at e;cases e)];exact e⟩
def a3n (H:Hp) (D:Addr) (H':Hp):Prop:=∀b o,H b=some o→b≠D→H' b=some o
theorem a3n.refl (H:Hp) (D:Addr):a3n H D H:=fun _ _ e _=>e
theorem a9V {te:TE} {g:TG} {tb:TS} {E:a7M} {σ:St} {H:Hp} {a:Addr} {kvs:List (Key×V)} {kn:List Str} (Pv:Hp→Nat→St→Hp→Prop) (hH:H a=some (.dK kvs)) (hk:kvs.map (·.1)=kn.map (Sum.inr:Str→Key)) (hte:∀R:VK,R (.ref a) H→te σ H R)
  (h0:∀o,Pv (upd H a (.frz o (.dK kvs))) 0 σ (upd H a (.frz o (.dK kvs))))
  (hp:∀o i σ' H',Pv (upd H a (.frz o (.dK kvs))) i σ' H'→H' a=some (.frz o (.dK kvs)))
  (hs:∀o i (hi:i < kn.length) σ' H' rt bk,Pv (upd H a (.frz o (.dK kvs))) i σ' H'→g (.str kn[i]) σ' H' fun σ2 H2=>tb ⟨Pv (upd H a (.frz o (.dK kvs))) (i+1),rt,bk,Pv (upd H a (.frz o (.dK kvs))) (i+1)⟩ σ2 H2)
  (hd:∀o σ' H',Pv (upd H a (.frz o (.dK kvs))) kn.length σ' H'→E.nx σ' (upd H' a (.dK kvs))):b5r (b9l (a9E te) g tb) E σ H:=by
 have hlen:kvs.length=kn.length:=by have:=congrArg Yp hk;simpa using this
 refine ⟨a,kvs,hH,?_⟩
 rw [a0Q]
 refine hte _ ⟨a,kvs,rfl,hH,fun o=>?_⟩
 refine ⟨fun i m σ' H'=>m=kn.length - i∧i≤kn.length∧Pv (upd H a (.frz o (.dK kvs))) i σ' H',⟨_,rfl,Xm _,h0 o⟩,?_⟩
 rintro i m σ' H' ⟨rfl,hi,p⟩
 have hf:=hp o i σ' H' p
 by_cases hlt:i < kn.length
 ·refine .inr ⟨⟨hf,by omega⟩,Pv (upd H a (.frz o (.dK kvs))) (i+1),fun σ2 H2 p2=>⟨kn.length - (i+1),by omega,rfl,hlt,p2⟩,?_⟩
  rintro x H2 ⟨rfl,k,v,e,rfl⟩
  have ek:k=Sum.inr kn[i]:=by
   have e1:(kvs.map (·.1))[i]?=some k:=by rw [Qo,e];rfl
   rw [hk,Qo,Qe hlt] at e1
   exact (Option.some.inj e1).symm
  rw [ek]
  exact hs o i hlt σ' _ _ _ p
 ·have ei:i=kn.length:=by omega
  subst ei
  exact .inl ⟨⟨hf,by omega⟩,o,hf,hd o σ' H' p⟩
theorem a4y {K:Qc} {te:TE} {g:TG} {tb:TS} {E:a7M} {σ:St} {H:Hp} {v:V} {kn:List Str} (Pv:Hp→Nat→St→Hp→Prop) (h:a2R K H v kn) (hte:∀R:VK,R v H→te σ H R)
  (h0:∀H0,a2d H v H0→Pv H0 0 σ H0) (hk:∀H0 i σ' H' b o,Pv H0 i σ' H'→v=.ref b→H0 b=some o→H' b=some o)
  (hs:∀H0 i (hi:i < kn.length) σ' H' rt bk,a2d H v H0→Pv H0 i σ' H'→g (.str kn[i]) σ' H' fun σ2 H2=>tb ⟨Pv H0 (i+1),rt,bk,Pv H0 (i+1)⟩ σ2 H2)
  (hd:∀H0 σ' H' H'',a2d H v H0→Pv H0 kn.length σ' H'→(∀b o,H' b=some o→v≠.ref b→H'' b=some o)→(∀b o,v=.ref b→H b=some o→H'' b=some o)→E.nx σ' H''):c1n (b5r (b9l (a9E te) g tb)) (b9l (a2E K te) g tb) E σ H:=by
 rcases h with ⟨a,rfl,ha⟩ | ⟨a,kvs,rfl,ha,hkn⟩
 ·refine .inr ?_
  rw [a0Q]
  refine hte _ ⟨a,rfl,⟨_,SqL.of ha⟩,?_⟩
  have hP:∀i σ' H',i≤(kn.map V.str).length→Pv H i σ' H'→SqL K H' a (kn.map V.str):=fun i σ' H' _ p=>by
   exact SqL.of (hk H i σ' H' a _ p rfl ha)
  refine a2w (K:=K) (a:=a) (xs:=kn.map V.str) (Pv H) (h0 H (a2d.refl _ _)) hP (fun i x σ' H' hi p=>?_) (fun σ' H' p=>?_)
  ·have hil:i < kn.length:=by simpa using (Qr.mp hi).1
   have ex:x=V.str kn[i]:=by
    rw [Qo,Qe hil] at hi
    exact (Option.some.inj hi).symm
   subst ex
   exact hs H i hil σ' H' _ _ (a2d.refl _ _) p
  ·rw [Qd] at p
   exact hd H σ' H' H' (a2d.refl _ _) p (fun _ _ e _=>e) fun b o z e=>hk H _ σ' H' b o p z e
 ·refine .inl (a9V Pv ha hkn hte (fun o=>h0 _ (a2d.frz ha)) (fun o i σ' H' p=>hk _ i σ' H' a _ p rfl a0d) (fun o i hi σ' H' rt bk p=>hs _ i hi σ' H' rt bk (a2d.frz ha) p) (fun o σ' H' p=>hd _ σ' H' _ (a2d.frz ha) p (fun b o e n=>?_) fun b o z e=>?_))
  ·rw [a0a (fun z=>n (by rw [z]))];exact e
  ·cases z;rw [a0d,←ha];exact e
theorem a2v {te:TE} {js:List (Option Nat)} {tt:TT} {σ:St} {H:Hp} {Q:VK} {a:Addr} {kvs:List (Key×V)} {kn:List Str} (hH:H a=some (.dK kvs)) (hk:kvs.map (·.1)=kn.map (Sum.inr:Str→Key)) (hl:kn.length≤1000) (hte:∀R:VK,R (.ref a) H→te σ H R) (σr:St) (hσ:a1r js σ=none::σr) (P:Str→Bool)
  (hs:∀q H0 H' (R:Bool→Hp→Prop),q∈kn→a2d H (.ref a) H0→Rd H' a (.dK kvs)→a0j H0 H'→(∀H'',a0j H' H''→R (P q) H'')→tt (some (.str q)::σr) H' R)
  (hd:∀D H',H D=none→a0j H H'→H' D=some (.lst ((kn.filter P).map V.str))→Q (.ref D) H'):b7b (b1q js (a9E te) (a0l 0) tt (a0k 0)) σ H Q:=by
 have hlen:kvs.length=kn.length:=by have:=congrArg Yp hk;simpa using this
 refine ⟨a,kvs,hH,?_⟩
 rw [a0C]
 refine hte _ ⟨a,kvs,rfl,hH,fun o=>?_⟩
 have hO:a2d H (.ref a) (upd H a (.frz o (.dK kvs))):=a2d.frz hH
 have hf:upd H a (.frz o (.dK kvs)) a=some (.frz o (.dK kvs)):=a0d
 generalize upd H a (.frz o (.dK kvs))=H0 at hO hf
 have ef:∀i,i < kvs.length→∃hi:i < kn.length,((kvs[i]?.map fun p=>kV p.1).getD .non)=.str kn[i]:=fun i hi=>by
  have hi':i < kn.length:=by omega
  refine ⟨hi',?_⟩
  have e1:(kvs.map (·.1))[i]?=some (Sum.inr kn[i]):=by rw [hk,Qo,Qe hi'];rfl
  rw [Qo] at e1
  rw [Qe hi] at e1 ⊢
  have e2:=Option.some.inj e1
  show kV kvs[i].1=_
  rw [show kvs[i].1=Sum.inr kn[i] from e2];rfl
 refine a6K (a6O (o:=o) (a:=a) (kvs:=kvs)) (Qh (show kvs.length≤1000 by omega) (by decide)) σr hσ (fun i=>P ((kn[i]?).getD "")) (fun i=>V.str ((kn[i]?).getD "")) (fun H' s=>s _ _ hf) (fun i H' R hi s hR=>?_) (fun i H' R hi s hR=>?_) (fun D H' hD s h=>?_)
 ·obtain ⟨hi',e⟩:=ef i hi
  rw [e]
  rw [Qe hi',Xs] at hR
  exact hs _ H0 H' R (Xi hi') hO (.inr ⟨o,s _ _ hf⟩) s hR
 ·obtain ⟨hi',e⟩:=ef i hi
  rw [e]
  rw [Qe hi',Xs] at hR
  exact ⟨_,rfl,hR _ (a0j.refl _)⟩
 ·rw [hlen,a1O ("":Str) P V.str kn] at h
  refine ⟨o,s _ _ hf,hd D _ (hO.non _ hD) (fun b u e=>?_) ?_⟩
  ·by_cases z:b=a
   ·rw [z,a0d,←hH,←z];exact e
   ·rw [a0a z];exact s _ _ (hO.keep _ _ e fun w=>z (by cases w;rfl))
  ·rw [a0a (fun z=>by rw [z,hf] at hD;cases hD)];exact h
theorem c5J {H:Hp} {a:Addr} {S:List Str} (h:H a=some (.dK (bv S))):a1k H (.ref a) S:=.inr ⟨a,_,rfl,h,fun x=>by
 rw [a2g]
 by_cases z:x∈S
 ·rw [if_pos z,decide_eq_true z];rfl
 ·rw [if_neg z,decide_eq_false z];rfl⟩
theorem a2U (S:List Str):(bv S).map (·.1)=S.map (Sum.inr:Str→Key):=by
 unfold bv;rw [Qy];rfl
theorem b0C {js:List (Option Nat)} {tt:TT} {Q':VK} {σ:St} {H H1:Hp} {a:Addr} {kvs:List (Key×V)} {kn:List Str} (hH:H1 a=some (.dK kvs)) (hk:kvs.map (·.1)=kn.map (Sum.inr:Str→Key)) (hl:kn.length≤1000) (hs1:a0j H H1) (σr:St) (hσ:a1r js σ=none::σr) (P:Str→Bool)
  (hs:∀q H0 H' (R:Bool→Hp→Prop),q∈kn→a2d H1 (.ref a) H0→a0j H0 H'→(∀H'',a0j H' H''→R (P q) H'')→tt (some (.str q)::σr) H' R)
  (hd:∀D H',H1 D=none→a0j H1 H'→H' D=some (.lst ((kn.filter P).map V.str))→Q' (.ref D) H'):∃(a':Addr) (kvs':List (Key×V)),V.ref a=.ref a'∧H1 a'=some (.dK kvs')∧∀o,a4C (Itk o a' kvs') js (a0l 0) tt (a0k 0) σ (upd H1 a' (.frz o (.dK kvs'))) fun v H'=>a5H H (Q' v) H':=by
 have hlen:kvs.length=kn.length:=by have:=congrArg Yp hk;simpa using this
 refine ⟨a,kvs,rfl,hH,fun o=>?_⟩
 have hO:a2d H1 (.ref a) (upd H1 a (.frz o (.dK kvs))):=a2d.frz hH
 have hf:upd H1 a (.frz o (.dK kvs)) a=some (.frz o (.dK kvs)):=a0d
 generalize upd H1 a (.frz o (.dK kvs))=H0 at hO hf
 have ef:∀i,i < kvs.length→∃hi:i < kn.length,((kvs[i]?.map fun p=>kV p.1).getD .non)=.str kn[i]:=fun i hi=>by
  have hi':i < kn.length:=by omega
  refine ⟨hi',?_⟩
  have e1:(kvs.map (·.1))[i]?=some (Sum.inr kn[i]):=by rw [hk,Qo,Qe hi'];rfl
  rw [Qo] at e1
  rw [Qe hi] at e1 ⊢
  have e2:=Option.some.inj e1
  show kV kvs[i].1=_
  rw [show kvs[i].1=Sum.inr kn[i] from e2];rfl
 refine a6K (a6O (o:=o) (a:=a) (kvs:=kvs)) (Qh (show kvs.length≤1000 by omega) (by decide)) σr hσ (fun i=>P ((kn[i]?).getD "")) (fun i=>V.str ((kn[i]?).getD "")) (fun H' s=>s _ _ hf) (fun i H' R hi s hR=>?_) (fun i H' R hi s hR=>?_) (fun D H' hD s h=>?_)
 ·obtain ⟨hi',e⟩:=ef i hi
  rw [e]
  rw [Qe hi',Xs] at hR
  exact hs _ H0 H' R (Xi hi') hO s hR
 ·obtain ⟨hi',e⟩:=ef i hi
  rw [e]
  rw [Qe hi',Xs] at hR
  exact ⟨_,rfl,hR _ (a0j.refl _)⟩
 ·rw [hlen,a1O ("":Str) P V.str kn] at h
  refine ⟨a,o,kvs,fun ob u z=>?_,s _ _ hf,hd D _ (hO.non _ hD) (fun b u e=>?_) ?_⟩
  ·have:=hs1 _ _ z;rw [hH] at this;cases this
  ·by_cases z:b=a
   ·rw [z,a0d,←hH,←z];exact e
   ·rw [a0a z];exact s _ _ (hO.keep _ _ e fun w=>z (by cases w;rfl))
  ·rw [a0a (fun z=>by rw [z,hf] at hD;cases hD)];exact h
/-! ### the words of a round -/
def wd:Bool→Str
 | true=>"held"
 | false=>"refused"
def wv (F:List (Str×Bool)):List (Key×V):=F.map fun p=>(Sum.inr p.1,V.str (wd p.2))
theorem a2I (F:List (Str×Bool)):(wv F).map (·.1)=(F.map (·.1)).map (Sum.inr:Str→Key):=by
 unfold wv;rw [Qy,Qy];rfl
theorem a7y {F:List (Str×Bool)} (hn:(F.map (·.1)).Nodup) {q:Str} {b:Bool} (h:(q,b)∈F):a0R (wv F) (Sum.inr q:Key)=some (.str (wd b)):=by
 induction F with
 | nil=>cases h
 | cons p F ih=>
  rw [Xg,Yv] at hn
  rcases Qw.mp h with z | z
  ·subst z;exact a0D rfl
  ·rw [show wv (p::F)=(Sum.inr p.1,V.str (wd p.2))::wv F from rfl,a0t (fun w=>hn.1 (by rw [Sum.inr.inj w];exact Qf.mpr ⟨_,z,rfl⟩)),ih hn.2 z]
theorem b5g {F:List (Str×Bool)} {q:Str} (h:q∉F.map (·.1)):a0R (wv F) (Sum.inr q:Key)=none:=by
 induction F with
 | nil=>rfl
 | cons p F ih=>
  rw [Xg,Qw] at h
  rw [show wv (p::F)=(Sum.inr p.1,V.str (wd p.2))::wv F from rfl,a0t (fun w=>h (.inl (Sum.inr.inj w).symm)),ih fun z=>h (.inr z)]
theorem b9R {H:Hp} {D:Addr} {F:List (Str×Bool)} (h:H D=some (.dK (wv F))) (hl:F.length≤100000) {x:Str} (hx:x∉F.map (·.1)) (b:Bool):a6a H D (.str x) (V.str (wd b)) (upd H D (.dK (wv (F++[(x,b)])))):=by
 have:=a6a.k (k:=(Sum.inr x:Key)) (v:=V.str (wd b)) h (by unfold wv;rw [Qd];exact Xp hl (by decide))
 rw [a4X _ (b5g hx)] at this
 rw [show wv (F++[(x,b)])=wv F++[(Sum.inr x,V.str (wd b))] from by unfold wv;rw [Xf];rfl]
 exact this
def wds (rs:List Rw) (pl:List (Str×Str)) (S U D ask:List Str):List (Str×Bool):=ask.filterMap fun q=>(stt rs pl S U D q).map fun w=>(q,w)
theorem a6y {rs:List Rw} {pl:List (Str×Str)} {S U D ask:List Str} {q:Str} {w:Bool}:(q,w)∈wds rs pl S U D ask↔q∈ask∧stt rs pl S U D q=some w:=by
 unfold wds
 rw [Zx]
 constructor
 ·rintro ⟨x,hx,e⟩
  obtain ⟨y,hy,e⟩:=Jw.mp e
  cases e
  exact ⟨hx,hy⟩
 ·rintro ⟨h1,h2⟩
  exact ⟨q,h1,by rw [h2];rfl⟩
theorem b2p {rs:List Rw} {pl:List (Str×Str)} {S U D ask:List Str} {q:Str} (h:q∈(wds rs pl S U D ask).map (·.1)):q∈ask:=by
 obtain ⟨⟨x,w⟩,hx,rfl⟩:=Qf.mp h
 exact (a6y.mp hx).1
theorem a4J (rs:List Rw) (pl:List (Str×Str)) (S U D:List Str):∀ask:List Str,((wds rs pl S U D ask).map (·.1)).Sublist ask
 | []=>List.Sublist.refl _
 | q::ask=>by
  have ih:=a4J rs pl S U D ask
  unfold wds at ih ⊢
  rw [Yy]
  cases stt rs pl S U D q with
  | none=>exact ih.cons q
  | some w=>exact ih.cons₂ q
theorem b1H (rs:List Rw) (pl:List (Str×Str)) (S U D ask:List Str) (q:Str):wds rs pl S U D (ask++[q])=wds rs pl S U D ask++((stt rs pl S U D q).map fun w=>(q,w)).toList:=by
 unfold wds
 rw [Wj,Yy]
 cases stt rs pl S U D q<;>rfl
def Off (H:Hp) (v:V) (H':Hp):Prop:=∀b o,H b=some o→v≠.ref b→H' b=some o
theorem Off.same {H H1 H':Hp} {a:Addr} (h:Off H1 (.ref a) H') (s:a0j H H1) (n:H a=none):a0j H H':=fun b o e=>h b o (s _ _ e) fun z=>by cases z;rw [n] at e;cases e
def b5f (K:Qc) (t:Adr):Sp:=fun vs H Q _=>∃(g:Addr) (v1 v2 v3 va:V) (rs:List Rw) (pl:List (Str×Str)) (S U D ask:List Str),vs=[.ref g,v1,v2,v3,va]∧(∀H',Off H va H'→a3r t H' g rs pl∧a1k H' v1 S∧a1k H' v2 U∧a1k H' v3 D)∧(∀r∈rs,a2j r)∧rs.length≤63∧a2R K H va ask∧ask.Nodup∧ask.length≤1000∧(∀q∈ask,q.length≤100)∧∀W H',a0j H H'→H W=none→H' W=some (.dK (wv (wds rs pl S U D ask)))→Q (.ref W) H'
/-! ### premises and heads -/
def a3E (H:Hp) (d:Addr) (rs:List Rw):Prop:=∃kvs,H d=some (.dK kvs)∧∀p:Str,(a0R kvs (Sum.inr p:Key)=none∧∀r∈rs,p∉r.2.2.2)∨∃(L:Addr) (hs:List Str),a0R kvs (Sum.inr p:Key)=some (.ref L)∧H L=some (.lst (hs.map V.str))∧hs.length≤300∧∀h:Str,h∈hs↔∃r∈rs,p∈r.2.2.2∧r.2.2.1=h
theorem a3E.same {H H':Hp} {d:Addr} {rs:List Rw} (s:a0j H H') (h:a3E H d rs):a3E H' d rs:=let ⟨k,a,b⟩:=h;⟨k,s _ _ a,fun p=>(b p).imp id fun ⟨L,hs,c,d,e⟩=>⟨L,hs,c,s _ _ d,e⟩⟩
def b4s (t:Adr):Sp:=fun vs H Q _=>∃(g:Addr) (rs:List Rw) (pl:List (Str×Str)),vs=[.ref g]∧a3r t H g rs pl∧(∀r∈rs,a2j r)∧rs.length≤63∧∀D H',a0j H H'→H D=none→a3E H' D rs→Q (.ref D) H'
def a8w:Sp:=fun vs H Q _=>∃(hd cm:Addr) (rs:List Rw) (F:List (Str×Bool)),vs=[.ref hd,.ref cm]∧(∀H',Off H (.ref cm) H'→a3E H' hd rs)∧H cm=some (.dK (wv F))∧F.length≤100∧(∀r∈rs,a2j r)∧rs.length≤63∧
 ∀D kn H',a0j H H'→H D=none→H' D=some (.dK (bv kn))→kn.Nodup→kn.length≤1000→(∀x,x∈kn↔tch rs (F.map (·.1)) x)→Q (.ref D) H'
def a7Z (L:List (Str×Str)) (p:Str):List Str:=(L.filter fun x=>decide (x.1=p)).map (·.2)
theorem b1l (L:List (Str×Str)) (p:Str):(a7Z L p).length≤L.length:=by
 unfold a7Z;rw [Qd];exact Xa _ _
theorem a5W (L:List (Str×Str)) (p h x:Str):a7Z (L++[(p,h)]) x=a7Z L x++if p=x then [h] else []:=by
 unfold a7Z
 rw [Zm,Xf,Yc]
 by_cases e:p=x
 ·rw [if_pos e,if_pos (decide_eq_true e)];rfl
 ·rw [if_neg e,if_neg (by simpa using e)];rfl
structure a7P (H H':Hp) (D:Addr) (kvs:List (Key×V)) (L:List (Str×Str)):Prop where
 d:H' D=some (.dK kvs)
 len:kvs.length≤L.length
 at_:∀p:Str,(a0R kvs (Sum.inr p:Key)=none∧a7Z L p=[])∨∃N,a0R kvs (Sum.inr p:Key)=some (.ref N)∧H N=none∧H' N=some (.lst ((a7Z L p).map V.str))
 inj:∀(p p':Str) (N:Addr),a0R kvs (Sum.inr p:Key)=some (.ref N)→a0R kvs (Sum.inr p':Key)=some (.ref N)→p=p'
theorem a7P.same {H H' H'':Hp} {D:Addr} {kvs:List (Key×V)} {L:List (Str×Str)} (s:a0j H' H'') (h:a7P H H' D kvs L):a7P H H'' D kvs L:=⟨s _ _ h.d,h.len,fun p=>(h.at_ p).imp id fun ⟨N,a,b,c⟩=>⟨N,a,b,s _ _ c⟩,h.inj⟩
theorem a7P.old {H H':Hp} {D N:Addr} {kvs:List (Key×V)} {L:List (Str×Str)} {p h:Str} (I:a7P H H' D kvs L) (e:a0R kvs (Sum.inr p:Key)=some (.ref N)):H' N=some (.lst ((a7Z L p).map V.str))∧H N=none∧a7P H (upd H' N (.lst ((a7Z L p).map V.str++[V.str h]))) D kvs (L++[(p,h)]):=by
 rcases I.at_ p with ⟨z,_⟩ | ⟨N',e',n',hN⟩
 ·rw [z] at e;cases e
 rw [e] at e';cases e'
 refine ⟨hN,n',⟨by rw [a0a (a0B hN I.d (by intro z;cases z)).symm];exact I.d,by have:=I.len;simp;omega,fun x=>?_,I.inj⟩⟩
 rw [a5W]
 by_cases z:p=x
 ·subst z
  rw [if_pos rfl]
  exact .inr ⟨N,e,n',by rw [a0d,Xf];rfl⟩
 ·rw [if_neg z,Qg]
  rcases I.at_ x with w | ⟨M,a,b,c⟩
  ·exact .inl w
  ·exact .inr ⟨M,a,b,by rw [a0a (fun w=>z (I.inj p x N e (by rw [←w];exact a)))];exact c⟩
theorem a7P.new {H H':Hp} {D N:Addr} {kvs:List (Key×V)} {L:List (Str×Str)} {p h:Str} (I:a7P H H' D kvs L) (e:a0R kvs (Sum.inr p:Key)=none) (hN:H' N=none) (n:H N=none) (o:HO):a7P H (upd (upd (upd H' N o) D (.dK (a2C kvs (Sum.inr p) (.ref N)))) N (.lst ([]++[V.str h]))) D (a2C kvs (Sum.inr p) (.ref N)) (L++[(p,h)]):=by
 have hDN:D≠N:=fun z=>by rw [←z,I.d] at hN;cases hN
 have hk:=a0X kvs (Sum.inr p:Key) (V.ref N)
 refine ⟨by rw [a0a hDN,a0d],by have:=I.len;simp;omega,fun x=>?_,fun x y M a b=>?_⟩
 ·rw [a5W,a2z]
  by_cases z:p=x
  ·subst z
   rw [if_pos rfl,if_pos rfl]
   rcases I.at_ p with ⟨_,w⟩ | ⟨M,a,_⟩
   ·rw [w];exact .inr ⟨N,rfl,n,a0d⟩
   ·rw [e] at a;cases a
  ·rw [if_neg (fun w=>z (Sum.inr.inj w).symm),if_neg z,Qg]
   rcases I.at_ x with w | ⟨M,a,b,c⟩
   ·exact .inl w
   ·have hMN:M≠N:=fun w=>by rw [w,hN] at c;cases c
    exact .inr ⟨M,a,b,by rw [a0a hMN,a0a (a0B c I.d (by intro z;cases z)),a0a hMN];exact c⟩
 ·have nope:∀y:Str,a0R kvs (Sum.inr y:Key)≠some (.ref N):=fun y w=>by
   rcases I.at_ y with ⟨c,_⟩ | ⟨M',c,_,d⟩
   ·rw [c] at w;cases w
   ·rw [c] at w;cases w;rw [hN] at d;cases d
  rw [a2z] at a b
  by_cases z1:(Sum.inr x:Key)=Sum.inr p
  ·by_cases z2:(Sum.inr y:Key)=Sum.inr p
   ·rw [Sum.inr.inj z1,Sum.inr.inj z2]
   ·rw [if_pos z1] at a;cases a
    rw [if_neg z2] at b;exact absurd b (nope y)
  ·rw [if_neg z1] at a
   by_cases z2:(Sum.inr y:Key)=Sum.inr p
   ·rw [if_pos z2] at b;cases b;exact absurd a (nope x)
   ·rw [if_neg z2] at b;exact I.inj x y M a b
def phs (rs:List Rw):List (Str×Str):=rs.flatMap fun r=>r.2.2.2.map fun p=>(p,r.2.2.1)
theorem a6q:∀{rs:List Rw},(∀r∈rs,a2j r)→(phs rs).length≤4 * rs.length
 | [],_=>Qk _
 | r::rs,h=>by
  have h1:=a6q (rs:=rs) fun x hx=>h x (Qp _ hx)
  have h2:=(h r Qn).2.2.2.2.2
  unfold phs at h1 ⊢
  rw [List.flatMap_cons,Xn,Qd,Qs]
  omega
theorem a7P.hds {H H':Hp} {D:Addr} {kvs:List (Key×V)} {rs:List Rw} (I:a7P H H' D kvs (phs rs)) (hO:∀r∈rs,a2j r) (hl:rs.length≤63):a3E H' D rs:=by
 have hm:∀p h,h∈a7Z (phs rs) p↔∃r∈rs,p∈r.2.2.2∧r.2.2.1=h:=fun p h=>by
  unfold a7Z phs
  rw [Qf]
  constructor
  ·rintro ⟨⟨x,y⟩,hx,rfl⟩
   obtain ⟨h1,h2⟩:=Qv.mp hx
   obtain ⟨r,hr,h3⟩:=Za.mp h1
   obtain ⟨p',hp,e⟩:=Qf.mp h3
   cases e
   have:x=p:=of_decide_eq_true h2
   exact ⟨r,hr,this ▸ hp,rfl⟩
  ·rintro ⟨r,hr,hp,rfl⟩
   exact ⟨(p,r.2.2.1),Qv.mpr ⟨Za.mpr ⟨r,hr,Qf.mpr ⟨p,hp,rfl⟩⟩,decide_eq_true rfl⟩,rfl⟩
 refine ⟨kvs,I.d,fun p=>?_⟩
 rcases I.at_ p with ⟨a,b⟩ | ⟨N,a,_,c⟩
 ·refine .inl ⟨a,fun r hr hp=>?_⟩
  have:=(hm p r.2.2.1).mpr ⟨r,hr,hp,rfl⟩
  rw [b] at this;cases this
 ·refine .inr ⟨N,_,a,c,?_,hm p⟩
  have h1:(a7Z (phs rs) p).length≤(phs rs).length:=by
   unfold a7Z;rw [Qd];exact Xa _ _
  have:=a6q hO
  omega
theorem a8F:∀rs:List Rw,(rs.flatMap fun r=>[r.2.2.1,a0y r.2.2.1]).length=2 * rs.length
 | []=>rfl
 | r::rs=>by rw [List.flatMap_cons,Xn,a8F rs];simp;omega
/-! ### the rounds told -/
abbrev Tr:=Str×Bool×Nat
def TAt (H:Hp) (D:Addr) (T:List Tr):Prop:=∃A:List (Addr×Tr),A.map (·.2)=T∧H D=some (.dK (A.map fun e=>(Sum.inr e.2.1,.ref e.1)))∧∀e∈A,H e.1=some (.tup [.str (wd e.2.2.1),.int e.2.2.2])
theorem TAt.same {H H':Hp} {D:Addr} {T:List Tr} (s:a0j H H') (h:TAt H D T):TAt H' D T:=let ⟨A,a,b,c⟩:=h;⟨A,a,s _ _ b,fun e he=>s _ _ (c e he)⟩
theorem b0q {A:List (Addr×Tr)} {q:Str} (h:q∉A.map fun e=>e.2.1):a0R (A.map fun e=>((Sum.inr e.2.1:Key),V.ref e.1)) (Sum.inr q:Key)=none:=by
 induction A with
 | nil=>rfl
 | cons p A ih=>
  rw [Xg,Qw] at h
  rw [Xg,a0t (fun w=>h (.inl (Sum.inr.inj w).symm)),ih fun z=>h (.inr z)]
theorem a6r {A:List (Addr×Tr)} (hn:(A.map fun e=>e.2.1).Nodup) {e:Addr×Tr} (h:e∈A):a0R (A.map fun e=>((Sum.inr e.2.1:Key),V.ref e.1)) (Sum.inr e.2.1:Key)=some (.ref e.1):=by
 induction A with
 | nil=>cases h
 | cons p A ih=>
  rw [Xg,Yv] at hn
  rcases Qw.mp h with z | z
  ·subst z;exact a0D rfl
  ·rw [Xg,a0t (fun w=>hn.1 (by rw [Sum.inr.inj w];exact Qf.mpr ⟨_,z,rfl⟩)),ih hn.2 z]
theorem TAt.keys {H:Hp} {D:Addr} {T:List Tr} (h:TAt H D T):∃kvs,H D=some (.dK kvs)∧kvs.map (·.1)=(T.map (·.1)).map (Sum.inr:Str→Key)∧∀x:Str,(a0R kvs (Sum.inr x:Key)).isSome=decide (x∈T.map (·.1)):=by
 obtain ⟨A,rfl,hD,_⟩:=h
 refine ⟨_,hD,by rw [Qy,Qy,Qy];rfl,fun x=>?_⟩
 rw [←a1L,Yl,Zk,decide_eq_true_eq,Qy]
 constructor
 ·rintro ⟨p,hp,e⟩
  obtain ⟨y,hy,rfl⟩:=Qf.mp hp
  exact Qf.mpr ⟨y,hy,Sum.inr.inj (of_decide_eq_true e)⟩
 ·intro h
  obtain ⟨y,hy,e⟩:=Qf.mp h
  exact ⟨_,Qf.mpr ⟨y,hy,rfl⟩,decide_eq_true (by rw [←e];rfl)⟩
theorem TAt.put {H H1:Hp} {D p:Addr} {T:List Tr} {q:Str} {b:Bool} {n:Nat} (h:TAt H D T) (s:a0j H H1) (hp:H1 p=some (.tup [.str (wd b),.int n])) (hq:q∉T.map (·.1)) (hl:T.length≤100000):∃kvs',a6a H1 D (.str q) (.ref p) (upd H1 D (.dK kvs'))∧TAt (upd H1 D (.dK kvs')) D (T++[(q,b,n)]):=by
 obtain ⟨A,rfl,hD,hA⟩:=h
 have hq':q∉A.map fun e=>e.2.1:=by rw [Qy] at hq;exact hq
 have hD1:=s _ _ hD
 refine ⟨(A.map fun e=>((Sum.inr e.2.1:Key),V.ref e.1))++[(Sum.inr q,V.ref p)],?_,A++[(p,q,b,n)],by rw [Xf];rfl,by rw [a0d,Xf];rfl,fun e he=>?_⟩
 ·have:=a6a.k (k:=(Sum.inr q:Key)) (v:=V.ref p) hD1 (by rw [Qd];rw [Qd] at hl;exact Xp hl (by decide))
  rw [a4X _ (b0q hq')] at this
  exact this
 ·rcases Qq.mp he with z | z
  ·rw [a0a (a0B (s _ _ (hA e z)) hD1 (by intro z;cases z))];exact s _ _ (hA e z)
  ·rw [Qz.mp z,a0a (a0B hp hD1 (by intro z;cases z))];exact hp
theorem a7X {H:Hp} {a:Addr} {S S':List Str} (h:H a=some (.dK (bv S'))) (hs:∀x,x∈S'↔x∈S):DAt H a S:=⟨_,h,fun x=>by
 rw [a2g]
 by_cases z:x∈S
 ·rw [if_pos ((hs x).mpr z),decide_eq_true z];rfl
 ·rw [if_neg (fun w=>z ((hs x).mp w)),decide_eq_false z];rfl⟩
theorem a4c (k:Key):∀(more kvs:List (Key×V)),(a0R (a1B kvs more) k).isSome=((a0R kvs k).isSome || (a0R more k).isSome)
 | [],kvs=>by rw [show a1B kvs []=kvs from rfl,show a0R ([]:List (Key×V)) k=none from rfl];simp
 | p::r,kvs=>by
  rw [show a1B kvs (p::r)=a1B (a2C kvs p.1 p.2) r from rfl,a4c k r,a2z]
  by_cases e:k=p.1
  ·rw [if_pos e,show p::r=(p.1,p.2)::r from rfl,a0D e.symm];simp
  ·rw [if_neg e,show p::r=(p.1,p.2)::r from rfl,a0t (fun z=>e z.symm)]
/-! ### the rounds by what is in them -/
section
variable {rs:List Rw} {pl:List (Str×Str)} {S W U D:List Str}
def IsF (rs:List Rw) (pl:List (Str×Str)) (S W U D:List Str) (n:Nat) (F:List (Str×Bool)):Prop:=∀e,e∈F↔e∈fresh rs pl S W (rds rs pl S W U D n)
def IsT (rs:List Rw) (pl:List (Str×Str)) (S W U D:List Str) (n:Nat) (T:List Tr):Prop:=∀e,e∈T↔e∈(rds rs pl S W U D n).T
theorem a2f {α β:Type} {l m:List (α×β)} (h:∀e,e∈l↔e∈m) (x:α):x∈l.map (·.1)↔x∈m.map (·.1):=by
 constructor
 ·intro z;obtain ⟨e,he,rfl⟩:=Qf.mp z;exact Qf.mpr ⟨e,(h e).mp he,rfl⟩
 ·intro z;obtain ⟨e,he,rfl⟩:=Qf.mp z;exact Qf.mpr ⟨e,(h e).mpr he,rfl⟩
theorem a6M {n:Nat} {T:List Tr} {F:List (Str×Bool)} (hT:IsT rs pl S W U D n T) (hF:IsF rs pl S W U D n F):IsT rs pl S W U D (n+1) (T++F.map fun p=>(p.1,p.2,n+1)):=fun e=>by
 show e∈_↔e∈(rds rs pl S W U D n).T++(fresh rs pl S W (rds rs pl S W U D n)).map fun p=>(p.1,p.2,n+1)
 rw [Qq,Qq,hT e]
 refine or_congr Iff.rfl ?_
 constructor
 ·intro z;obtain ⟨p,hp,rfl⟩:=Qf.mp z;exact Qf.mpr ⟨p,(hF p).mp hp,rfl⟩
 ·intro z;obtain ⟨p,hp,rfl⟩:=Qf.mp z;exact Qf.mpr ⟨p,(hF p).mpr hp,rfl⟩
theorem b1I {n:Nat} {F:List (Str×Bool)} (hF:IsF rs pl S W U D n F) (x:Str):x∈(rds rs pl S W U D (n+1)).U↔x∈(rds rs pl S W U D n).U∨(x,true)∈F:=by
 show x∈(rds rs pl S W U D n).U++ups _↔_
 rw [Qq,a1C,hF]
theorem b2m {n:Nat} {F:List (Str×Bool)} (hF:IsF rs pl S W U D n F) (x:Str):x∈(rds rs pl S W U D (n+1)).D↔x∈(rds rs pl S W U D n).D∨(x,false)∈F:=by
 show x∈(rds rs pl S W U D n).D++a0P _↔_
 rw [Qq,a0O,hF]
theorem b2b:IsF rs pl S W U D 0 (wds rs pl S U D W):=fun ⟨q,w⟩=>by
 rw [a6y,a0o]
 exact ⟨fun ⟨a,b⟩=>⟨a,(fun z=>by cases z),b⟩,fun ⟨a,_,b⟩=>⟨a,b⟩⟩
theorem b1F {n:Nat} {T:List Tr} {F:List (Str×Bool)} {ask:List Str} (ho:∀q∈W,a0y (a0y q)=q) (hT:IsT rs pl S W U D (n+1) T) (hF:IsF rs pl S W U D n F) (ha:∀q,q∈ask↔tch rs (F.map (·.1)) q∧q∈W∧q∉T.map (·.1)):
  IsF rs pl S W U D (n+1) (wds rs pl S (rds rs pl S W U D (n+1)).U (rds rs pl S W U D (n+1)).D ask):=fun ⟨q,w⟩=>by
 rw [a6y,a0o,ha,←a2f hT]
 refine ⟨fun ⟨⟨_,b,c⟩,d⟩=>⟨b,c,d⟩,fun ⟨b,c,d⟩=>⟨⟨?_,b,c⟩,d⟩⟩
 obtain ⟨r,hr,⟨p,hp,hm⟩,hz⟩:=a9N n ho (a0o.mpr ⟨b,(by rw [←a2f hT];exact c),d⟩)
 exact ⟨r,hr,⟨p,hp,(a2f hF p).mpr hm⟩,hz⟩
theorem b4S {n:Nat} (hF:IsF rs pl S W U D n []):fresh rs pl S W (rds rs pl S W U D n)=[]:=by
 cases e:fresh rs pl S W (rds rs pl S W U D n) with
 | nil=>rfl
 | cons x l=>exact absurd ((hF x).mpr (by rw [e];exact Qn)) (by simp)
theorem a1K:∀(n:Nat) (q:Str),q∈(rds rs pl S W U D n).T.map (·.1)→q∈W
 | 0,q,h=>by cases h
 | n+1,q,h=>by
  have h':q∈((rds rs pl S W U D n).T++(fresh rs pl S W (rds rs pl S W U D n)).map fun p=>(p.1,p.2,n+1)).map (·.1):=h
  rw [Xf,Qq] at h'
  rcases h' with z | z
  ·exact a1K n q z
  ·rw [Qy] at z
   obtain ⟨⟨x,w⟩,hp,rfl⟩:=Qf.mp z
   exact (a0o.mp hp).1
end
def b2B (K:Qc) (t:Adr):Sp:=fun vs H Q _=>∃(g:Addr) (v1 v2:V) (kd:Addr) (rs:List Rw) (pl:List (Str×Str)) (sm S:List Str) (kn:List (Str×Bool)),vs=[.ref g,v1,v2,.ref kd]∧a3r t H g rs pl∧(∀r∈rs,a2j r)∧rs.length≤63∧a2R K H v1 sm∧a2R K H v2 S∧H kd=some (.dK (wv kn))∧(kn.map (·.1)).Nodup∧sm.length≤100∧S.length≤100∧kn.length≤100∧(∀q∈sm,q.length≤100∧a0y (a0y q)=q)∧
 ∀D T n H',a0j H H'→H D=none→TAt H' D T→(T.map (·.1)).Nodup→fresh rs pl S (sm.foldl a0V []) (rds rs pl S (sm.foldl a0V []) (ups kn) (a0P kn) n)=[]→IsT rs pl S (sm.foldl a0V []) (ups kn) (a0P kn) n T→Q (.ref D) H'
theorem b7x {b c:Bool} (h:wd b=wd c):b=c:=by
 cases b<;>cases c
 ·rfl
 ·exact absurd h (by decide+kernel)
 ·exact absurd h (by decide+kernel)
 ·rfl
theorem a2Q {K:Qc} {b:Bool} {F:List (Str×Bool)} (hn:(F.map (·.1)).Nodup) {q0:Str} {cm:Addr} {H':Hp} {R:Bool→Hp→Prop} (hq:q0∈F.map (·.1)) (hR:Rd H' cm (.dK (wv F))) (hR':∀H'',a0j H' H''→R (decide ((q0,b)∈F)) H''):a1q (tOp (b8M K) (a8I (a0k 1) (a0k 0)) (tC (V.str (wd b)))) [some (V.str q0),some (V.ref cm)] H' R:=by
 obtain ⟨⟨x,c⟩,hm,rfl⟩:=Qf.mp hq
 have hv:=a7y hn hm
 refine ⟨_,rfl,_,rfl,cm,_,rfl,.inl ⟨_,Sum.inr x,hR,rfl,hv.symm⟩,a2M.mpr ⟨_,rfl,?_⟩⟩
 have:=hR' _ (a0j.refl _)
 rw [show decide (wd c=wd b)=decide ((x,b)∈F) from by
  rw [Yl,decide_eq_true_eq,decide_eq_true_eq]
  refine ⟨fun z=>b7x z ▸ hm,fun z=>?_⟩
  have e:=a7y hn z
  rw [hv] at e
  exact V.str.inj (Option.some.inj e)]
 exact this
theorem a4K {F:List (Str×Bool)} {b:Bool} {x:Str}:x∈((F.map (·.1)).filter fun q=>decide ((q,b)∈F)).foldl a0V []↔(x,b)∈F:=by
 rw [a1D,Qv,decide_eq_true_eq]
 exact ⟨fun h=>h.elim (fun z=>(by cases z)) (·.2),fun h=>.inr ⟨Qf.mpr ⟨_,h,rfl⟩,h⟩⟩
theorem a5c (F:List (Str×Bool)) (b:Bool):((F.map (·.1)).filter fun q=>decide ((q,b)∈F)).length≤F.length:=by
 have:=Xa (fun q=>decide ((q,b)∈F)) (F.map (·.1))
 rw [Qd] at this;exact this
theorem a3E.keep {H H':Hp} {d:Addr} {rs:List Rw} (h:a3E H d rs) (k:∀b o,H b=some o→(b=d∨∃xs,o=.lst xs)→H' b=some o):a3E H' d rs:=let ⟨kv,a,b⟩:=h;⟨kv,k _ _ a (.inl rfl),fun p=>(b p).imp id fun ⟨L,hs,c,d,e⟩=>⟨L,hs,c,k _ _ d (.inr ⟨_,rfl⟩),e⟩⟩
theorem TAt.keep {H H':Hp} {D:Addr} {T:List Tr} (h:TAt H D T) (k:∀b o,H b=some o→(b=D∨∃xs,o=.tup xs)→H' b=some o):TAt H' D T:=let ⟨A,a,b,c⟩:=h;⟨A,a,k _ _ b (.inl rfl),fun e he=>k _ _ (c e he) (.inr ⟨_,rfl⟩)⟩
theorem DAt.merge {kvs:List (Key×V)} {S S':List Str} {F:List (Str×Bool)} {b:Bool} (h:∀x:Str,(a0R kvs (Sum.inr x:Key)).isSome=decide (x∈S)) (hs:∀x,x∈S'↔x∈S∨(x,b)∈F) (x:Str):(a0R (a1B kvs (bv (((F.map (·.1)).filter fun q=>decide ((q,b)∈F)).foldl a0V []))) (Sum.inr x:Key)).isSome=decide (x∈S'):=by
 rw [a4c,h,a2g,Yl,Bool.or_eq_true,decide_eq_true_eq,decide_eq_true_eq,hs]
 refine or_congr Iff.rfl ?_
 by_cases z:(x,b)∈F
 ·rw [if_pos (a4K.mpr z)];exact ⟨fun _=>z,fun _=>rfl⟩
 ·rw [if_neg (fun w=>z (a4K.mp w))];exact ⟨fun w=>(by cases w),fun w=>absurd w z⟩
/-! ### the pairs of a dict walked,its values walked -/
def b9U (H:Hp) (a:Addr) (S:List Str) (n:Nat):Prop:=∃kvs,H a=some (.dK kvs)∧(∀x:Str,(a0R kvs (Sum.inr x:Key)).isSome=decide (x∈S))∧kvs.length≤n
theorem b9U.keep {H H':Hp} {a:Addr} {S:List Str} {n m:Nat} (k:∀o,H a=some o→H' a=some o) (hm:n≤m) (h:b9U H a S n):b9U H' a S m:=let ⟨v,b,c,d⟩:=h;⟨v,k _ b,c,Qh d hm⟩
section
variable {rs:List Rw} {pl:List (Str×Str)} {S U D:List Str}
theorem b1k {U' D':List Str} {q:Str} (hU:∀x,x∈U'↔x∈U) (hD:∀x,x∈D'↔x∈D) (ho:a0y (a0y q)=q):stt rs pl S U' D' q=stt rs pl S U D q:=a4U (came:=[]) (fun x _=>hU x) (fun x _=>hD x) ho (fun ⟨r,_,⟨p,_,z⟩,_⟩=>by cases z)
theorem a7c {W W':List Str} (hW:∀x,x∈W↔x∈W') (ho:∀q∈W,a0y (a0y q)=q):∀n,(∀e,e∈(rds rs pl S W U D n).T↔e∈(rds rs pl S W' U D n).T)∧(∀x,x∈(rds rs pl S W U D n).U↔x∈(rds rs pl S W' U D n).U)∧(∀x,x∈(rds rs pl S W U D n).D↔x∈(rds rs pl S W' U D n).D)
 | 0=>⟨fun _=>Iff.rfl,fun _=>Iff.rfl,fun _=>Iff.rfl⟩
 | n+1=>by
  obtain ⟨hT,hU,hD⟩:=a7c hW ho n
  have hF:∀e,e∈fresh rs pl S W (rds rs pl S W U D n)↔e∈fresh rs pl S W' (rds rs pl S W' U D n):=fun ⟨q,w⟩=>by
   rw [a0o,a0o,a2f hT q,hW q]
   refine and_congr_right fun hq=>and_congr_right fun _=>?_
   rw [b1k hU hD (ho q ((hW q).mpr hq))]
  refine ⟨fun e=>?_,fun x=>?_,fun x=>?_⟩
  ·show e∈(rds rs pl S W U D n).T++_↔e∈(rds rs pl S W' U D n).T++_
   rw [Qq,Qq,hT e]
   refine or_congr Iff.rfl ?_
   constructor
   ·intro z;obtain ⟨p,hp,rfl⟩:=Qf.mp z;exact Qf.mpr ⟨p,(hF p).mp hp,rfl⟩
   ·intro z;obtain ⟨p,hp,rfl⟩:=Qf.mp z;exact Qf.mpr ⟨p,(hF p).mpr hp,rfl⟩
  ·show x∈(rds rs pl S W U D n).U++ups _↔x∈(rds rs pl S W' U D n).U++ups _
   rw [Qq,Qq,hU x,a1C,a1C,hF]
  ·show x∈(rds rs pl S W U D n).D++a0P _↔x∈(rds rs pl S W' U D n).D++a0P _
   rw [Qq,Qq,hD x,a0O,a0O,hF]
theorem b3T {W W':List Str} (hW:∀x,x∈W↔x∈W') (ho:∀q∈W,a0y (a0y q)=q) {n n':Nat} (h:fresh rs pl S W (rds rs pl S W U D n)=[]) (h':fresh rs pl S W' (rds rs pl S W' U D n')=[]) {T T':List Tr} (hT:IsT rs pl S W U D n T) (hT':IsT rs pl S W' U D n' T'):∀e,e∈T↔e∈T':=fun e=>by
 have a1:=a1X h n'
 have a2:=a1X h' n
 rw [hT e,hT' e,←a1,←a2,Nat.add_comm n' n]
 exact (a7c hW ho (n+n')).1 e
end
theorem b9W (b:Bool):Yt (wd b)=true:=by cases b<;>decide+kernel
theorem b4l {K:Qc} {H:Hp} {D D':Addr} {T T':List Tr} (h:TAt H D T) (h':TAt H D' T') (n:(T.map (·.1)).Nodup) (n':(T'.map (·.1)).Nodup) (e:∀e,e∈T↔e∈T'):∃kvs kvs',H D=some (.dK kvs)∧H D'=some (.dK kvs')∧c2M K H kvs kvs':=by
 obtain ⟨A,rfl,hD,hA⟩:=h
 obtain ⟨B,rfl,hD',hB⟩:=h'
 refine ⟨_,_,hD,hD',?_,fun p hp=>?_⟩
 ·have h1:=a1h n fun x hx=>(a2f e x).mp hx
  have h2:=a1h n' fun x hx=>(a2f e x).mpr hx
  simp only [Qd] at h1 h2 ⊢
  omega
 ·obtain ⟨a,ha,rfl⟩:=Qf.mp hp
  obtain ⟨b,hb,eb⟩:=Qf.mp ((e a.2).mp (Qf.mpr ⟨a,ha,rfl⟩))
  refine ⟨.ref b.1,.tuple [.str (wd a.2.2.1),.int a.2.2.2],?_,.tup (SqT.of (hA a ha)) (.cons (.str _) (.cons (.int _) .nil)),.tup (SqT.of (by rw [←eb];exact hB b hb)) (.cons (.str _) (.cons (.int _) .nil)),?_,?_⟩
  ·show a0R _ (Sum.inr a.2.1:Key)=_
   rw [←eb]
   exact a6r (by rw [Qy] at n';exact n') hb
  ·have:=b9W a.2.2.1
   unfold Yn;simp only [Yu,Ju,Ww,PyData.depthAll,this];rfl
  ·exact show (1:Nat)≤60 by decide
/-! ### what lies about -/
structure Sx (K:Qc) (t:Adr) (H:Hp) (a:Addr) (ns:List Int) (R:Addr) (xs:List V) (rs:List Rw) (Pa:Addr) (po:List Str) (Pr:Addr) (ps:List V) (pl:List (Str×Str)) (g:Addr):Prop where
 S:SqL K H a (ns.map V.int)
 B:H R=some (.lst xs)
 A:a3a H xs rs
 P:H Pa=some (.lst (po.map V.str))
 R:H Pr=some (.lst ps)
 Q:a1t H ps pl
 G:a3r t H g rs pl
section
variable {K:Qc} {t:Adr} {H H':Hp} {a:Addr} {ns:List Int} {R:Addr} {xs:List V} {rs:List Rw} {Pa:Addr} {po:List Str} {Pr:Addr} {ps:List V} {pl:List (Str×Str)} {g:Addr}
theorem Sx.same (s:a0j H H') (h:Sx K t H a ns R xs rs Pa po Pr ps pl g):Sx K t H' a ns R xs rs Pa po Pr ps pl g:=⟨s.seq h.S,s _ _ h.B,h.A.same s,s _ _ h.P,s _ _ h.R,a1t.same s h.Q,h.G.same s⟩
theorem Sx.on {T:Addr} {q:Str} (lt:a3V T q H) (k:∀a o,a≠T→H a=some o→H' a=some o) (h:Sx K t H a ns R xs rs Pa po Pr ps pl g):Sx K t H' a ns R xs rs Pa po Pr ps pl g:=by
 obtain ⟨p,hT,_⟩:=id lt
 have s:=a4T k
 exact ⟨s.seq (b5c hT h.S),s _ _ (a0T hT h.B (fun _ z=>nomatch z)),(b9H hT h.A).same s,s _ _ (a0T hT h.P (fun _ z=>nomatch z)),s _ _ (a0T hT h.R (fun _ z=>nomatch z)),a1t.same s (b4g hT h.Q),(b3f hT h.G).same s⟩
end
theorem a2R.list {K:Qc} {H:Hp} {v:V} {S:List Str} {Q:VK} (h:a2R K H v S) (q:∀l,H l=none→Q (.ref l) (upd H l (.lst (S.map V.str)))):b0y K [v] H Q:=by
 rcases h with ⟨a,rfl,ha⟩ | ⟨a,kvs,rfl,ha,hk⟩
 ·exact .inl ⟨a,_,rfl,.inl (SqL.of ha),q⟩
 ·refine .inr ⟨a,_,rfl,.inl ha,fun l hl=>?_⟩
  have:kvs.map (fun kv=>kV kv.1)=S.map V.str:=by
   have:=congrArg (List.map kV) hk
   rw [Qy,Qy] at this;exact this
  rw [this];exact q l hl
/-! ### words that grow,never both,as few as can be -/
section
variable {rs:List Rw} {pl:List (Str×Str)} {S U U' D D':List Str} {q:Str}
theorem a5R {b:List Str} (h:∀x∈U,x∈U') (e:a3W b U=true):a3W b U'=true:=by
 rw [a4Y] at e ⊢;exact fun q hq=>h q (e q hq)
theorem a4E {b:List Str}:a3J b S=true↔∃q∈b,q∈S:=by
 unfold a3J;rw [Zk];simp
theorem a5h {b:List Str} (h:∀x∈U,x∈U') (e:a3J b U=true):a3J b U'=true:=by
 rw [a4E] at e ⊢
 obtain ⟨q,a,c⟩:=e
 exact ⟨q,a,h q c⟩
theorem a4D {bs bs':List Rw} {r:Rw} (h:∀b∈bs,b∈bs') (e:btn pl bs r=true):btn pl bs' r=true:=by
 unfold btn at e ⊢
 rw [Zk] at e ⊢
 obtain ⟨b,hb,c⟩:=e
 exact ⟨b,h b hb,c⟩
theorem a5I {r:Rw}:r∈a1Y rs U q↔(r∈hdF rs q∧spk r=true)∧a3W r.2.2.2 U=true:=by
 unfold a1Y;rw [Qv,Qv]
theorem b0w {r:Rw}:r∈unf rs D q↔(r∈hdF rs q∧spk r=true)∧a3J r.2.2.2 D=false:=by
 unfold unf;rw [Qv,Qv,Yj]
theorem a6t {α:Type} {l m:List α} (h:∀r∈l,r∈m) (e:m=[]):l=[]:=Ug.mpr fun r hr=>by
 have:=h r hr;rw [e] at this;cases this
theorem a5s:a1I rs pl S U D q=true↔q∈S∨(q∉S∧a1Y rs U q≠[]∧a0y q∉S∧∀r∈hdF rs (a0y q),a3J r.2.2.2 D=true∨btn pl (a1Y rs U q) r=true):=by
 unfold a1I
 by_cases h:q∈S
 ·simp [h]
 ·rw [if_neg h]
  by_cases c:a1Y rs U q=[]∨a0y q∈S
  ·rw [if_pos c]
   constructor
   ·intro z;cases z
   ·rintro (z | ⟨_,a,b,_⟩)
    ·exact absurd z h
    ·exact (c.elim a b).elim
  ·rw [if_neg c,Zu]
   rw [not_or] at c
   constructor
   ·intro z;exact .inr ⟨h,c.1,c.2,fun r hr=>Ws.mp (z r hr)⟩
   ·rintro (z | ⟨_,_,_,z⟩)
    ·exact absurd z h
    ·exact fun r hr=>Ws.mpr (z r hr)
theorem a9P:a6b rs pl S U D q=true↔q∉S∧(unf rs D q=[]∨a0y q∈S∨∃r∈hdF rs (a0y q),a3W r.2.2.2 U=true∧btn pl (unf rs D q) r=false):=by
 unfold a6b
 by_cases h:q∈S
 ·simp [h]
 ·rw [if_neg h]
  by_cases c:unf rs D q=[]∨a0y q∈S
  ·rw [if_pos c]
   exact ⟨fun _=>⟨h,c.imp id .inl⟩,fun _=>rfl⟩
  ·rw [if_neg c,Zk]
   rw [not_or] at c
   constructor
   ·rintro ⟨r,hr,z⟩
    rw [Xh,Yj] at z
    exact ⟨h,.inr (.inr ⟨r,hr,z⟩)⟩
   ·rintro ⟨_,z | z | ⟨r,hr,z⟩⟩
    ·exact absurd z c.1
    ·exact absurd z c.2
    ·exact ⟨r,hr,by rw [Xh,Yj];exact z⟩
theorem a8i (hU:∀x∈U,x∈U') (hD:∀x∈D,x∈D') (e:a1I rs pl S U D q=true):a1I rs pl S U' D' q=true:=by
 rw [a5s] at e ⊢
 rcases e with e | ⟨a,b,c,d⟩
 ·exact .inl e
 ·have hs:∀r∈a1Y rs U q,r∈a1Y rs U' q:=fun r hr=>by rw [a5I] at hr ⊢;exact ⟨hr.1,a5R hU hr.2⟩
  exact .inr ⟨a,fun z=>b (a6t hs z),c,fun r hr=>(d r hr).imp (a5h hD) (a4D hs)⟩
theorem b2c (hU:∀x∈U,x∈U') (hD:∀x∈D,x∈D') (e:a6b rs pl S U D q=true):a6b rs pl S U' D' q=true:=by
 rw [a9P] at e ⊢
 have hs:∀r∈unf rs D' q,r∈unf rs D q:=fun r hr=>by
  rw [b0w] at hr ⊢
  refine ⟨hr.1,?_⟩
  cases z:a3J r.2.2.2 D with
  | false=>rfl
  | true=>have:=hr.2;rw [a5h hD z] at this;cases this
 refine ⟨e.1,?_⟩
 rcases e.2 with z | z | ⟨r,hr,a,b⟩
 ·exact .inl (a6t hs z)
 ·exact .inr (.inl z)
 ·refine .inr (.inr ⟨r,hr,a5R hU a,?_⟩)
  cases z:btn pl (unf rs D' q) r with
  | false=>rfl
  | true=>rw [a4D hs z] at b;cases b
theorem a8j (hc:∀x∈U,x∉D) (h:a1I rs pl S U D q=true):a6b rs pl S U D q=false:=by
 cases e:a6b rs pl S U D q with
 | false=>rfl
 | true=>
  exfalso
  rw [a5s] at h;rw [a9P] at e
  rcases h with h | ⟨_,b,c,d⟩
  ·exact e.1 h
  ·have hs:∀r∈a1Y rs U q,r∈unf rs D q:=fun r hr=>by
    rw [a5I] at hr;rw [b0w]
    refine ⟨hr.1,?_⟩
    cases z:a3J r.2.2.2 D with
    | false=>rfl
    | true=>
     obtain ⟨p,hp,hd⟩:=a4E.mp z
     exact absurd hd (hc p (a4Y.mp hr.2 p hp))
   rcases e.2 with z | z | ⟨r,hr,a,b'⟩
   ·exact b (a6t hs z)
   ·exact c z
   ·rcases d r hr with w | w
    ·obtain ⟨p,hp,hd⟩:=a4E.mp w
     exact hc p (a4Y.mp a p hp) hd
    ·rw [a4D hs w] at b';cases b'
theorem b3d (hc:∀x∈U',x∉D') (hU:∀x∈U,x∈U') (hD:∀x∈D,x∈D') {b:Bool} (e:stt rs pl S U D q=some b):stt rs pl S U' D' q=some b:=by
 unfold stt at e ⊢
 by_cases h:a1I rs pl S U D q=true
 ·rw [if_pos h] at e
  rw [if_pos (a8i hU hD h)];exact e
 ·rw [if_neg h] at e
  by_cases h2:a6b rs pl S U D q=true
  ·rw [if_pos h2] at e
   have h3:=b2c hU hD h2
   rw [if_neg (fun z=>by rw [a8j hc z] at h3;cases h3),if_pos h3];exact e
  ·rw [if_neg h2] at e;cases e
end
section
variable {rs:List Rw} {pl:List (Str×Str)} {S W U D:List Str}
theorem a0s:∀n,(∀x,x∈(rds rs pl S W U D n).U↔x∈U∨∃k,(x,true,k)∈(rds rs pl S W U D n).T)∧(∀x,x∈(rds rs pl S W U D n).D↔x∈D∨∃k,(x,false,k)∈(rds rs pl S W U D n).T)
 | 0=>⟨fun x=>⟨.inl,fun h=>h.elim id fun ⟨_,z⟩=>by cases z⟩,fun x=>⟨.inl,fun h=>h.elim id fun ⟨_,z⟩=>by cases z⟩⟩
 | n+1=>by
  obtain ⟨h1,h2⟩:=a0s n
  have key:∀x b,(∃k,(x,b,k)∈(rds rs pl S W U D (n+1)).T)↔(∃k,(x,b,k)∈(rds rs pl S W U D n).T)∨(x,b)∈fresh rs pl S W (rds rs pl S W U D n):=fun x b=>by
   show (∃k,(x,b,k)∈(rds rs pl S W U D n).T++(fresh rs pl S W (rds rs pl S W U D n)).map fun p=>(p.1,p.2,n+1))↔_
   constructor
   ·rintro ⟨k,hk⟩
    rcases Qq.mp hk with z | z
    ·exact .inl ⟨k,z⟩
    ·obtain ⟨p,hp,e⟩:=Qf.mp z
     cases e;exact .inr hp
   ·rintro (⟨k,z⟩ | z)
    ·exact ⟨k,Xl _ z⟩
    ·exact ⟨n+1,Qt _ (Qf.mpr ⟨_,z,rfl⟩)⟩
  constructor
  ·intro x
   show x∈(rds rs pl S W U D n).U++ups _↔_
   rw [Qq,h1,a1C,key,or_assoc]
  ·intro x
   show x∈(rds rs pl S W U D n).D++a0P _↔_
   rw [Qq,h2,a0O,key,or_assoc]
theorem a8m {n:Nat} {e:Tr}:e∈(rds rs pl S W U D (n+1)).T↔e∈(rds rs pl S W U D n).T∨((e.1,e.2.1)∈fresh rs pl S W (rds rs pl S W U D n)∧e.2.2=n+1):=by
 show e∈(rds rs pl S W U D n).T++(fresh rs pl S W (rds rs pl S W U D n)).map (fun p=>(p.1,p.2,n+1))↔_
 rw [Qq]
 refine or_congr Iff.rfl ?_
 constructor
 ·intro z;obtain ⟨p,hp,rfl⟩:=Qf.mp z;exact ⟨hp,rfl⟩
 ·rintro ⟨z,h⟩
  obtain ⟨q,b,k⟩:=e
  have h':k=n+1:=h
  subst h'
  exact Qf.mpr ⟨_,z,rfl⟩
theorem a6s:∀(n:Nat) {q:Str} {b b':Bool} {k k':Nat},(q,b,k)∈(rds rs pl S W U D n).T→(q,b',k')∈(rds rs pl S W U D n).T→b=b'∧k=k'
 | 0,_,_,_,_,_,h,_=>by cases h
 | n+1,q,b,b',k,k',h,h'=>by
  rw [a8m] at h h'
  have no:∀{b k},(q,b,k)∈(rds rs pl S W U D n).T→∀{c},(q,c)∉fresh rs pl S W (rds rs pl S W U D n):=fun {b k} z {c} w=>(a0o.mp w).2.1 (Qf.mpr ⟨_,z,rfl⟩)
  rcases h with h | ⟨h,e⟩<;>rcases h' with h' | ⟨h',e'⟩
  ·exact a6s n h h'
  ·exact absurd h' (no h)
  ·exact absurd h (no h')
  ·have:=(a0o.mp h).2.2
   rw [(a0o.mp h').2.2] at this
   exact ⟨(Option.some.inj this).symm,e.trans e'.symm⟩
theorem a5d (h0:∀x∈U,x∉D) (hW:∀x∈W,x∉U∧x∉D) (n:Nat):∀x∈(rds rs pl S W U D n).U,x∉(rds rs pl S W U D n).D:=fun x hu hd=>by
 rw [(a0s n).1] at hu
 rw [(a0s n).2] at hd
 have kk:∀{b k},(x,b,k)∈(rds rs pl S W U D n).T→x∈W:=fun z=>a1K n x (Qf.mpr ⟨_,z,rfl⟩)
 rcases hu with hu | ⟨k,hu⟩<;>rcases hd with hd | ⟨k',hd⟩
 ·exact h0 x hu hd
 ·exact (hW x (kk hd)).1 hu
 ·exact (hW x (kk hu)).2 hd
 ·exact Bool.noConfusion (a6s n hu hd).1
theorem b2S (n:Nat):(∀x∈(rds rs pl S W U D n).U,x∈(rds rs pl S W U D (n+1)).U)∧∀x∈(rds rs pl S W U D n).D,x∈(rds rs pl S W U D (n+1)).D:=⟨fun x h=>Xl _ h,fun x h=>Xl _ h⟩
theorem b0d (h0:∀x∈U,x∉D) (hW:∀x∈W,x∉U∧x∉D):∀(n:Nat) {q:Str} {b:Bool} {k:Nat},(q,b,k)∈(rds rs pl S W U D n).T→stt rs pl S (rds rs pl S W U D n).U (rds rs pl S W U D n).D q=some b
 | 0,_,_,_,h=>by cases h
 | n+1,q,b,k,h=>by
  refine b3d (a5d h0 hW (n+1)) (b2S n).1 (b2S n).2 ?_
  rw [a8m] at h
  rcases h with h | ⟨h,_⟩
  ·exact b0d h0 hW n h
  ·exact (a0o.mp h).2.2
theorem a1Z (h0:∀x∈U,x∉D) (hW:∀x∈W,x∉U∧x∉D) {n:Nat} (hf:fresh rs pl S W (rds rs pl S W U D n)=[]) {q:Str} {b:Bool} (hq:q∈W) (e:stt rs pl S (rds rs pl S W U D n).U (rds rs pl S W U D n).D q=some b):∃k,(q,b,k)∈(rds rs pl S W U D n).T:=by
 by_cases h:q∈(rds rs pl S W U D n).T.map (·.1)
 ·obtain ⟨⟨x,b',k⟩,hx,rfl⟩:=Qf.mp h
  have:=b0d h0 hW n hx
  rw [e] at this
  cases this
  exact ⟨k,hx⟩
 ·have:=a0o.mpr ⟨hq,h,e⟩
  rw [hf] at this;cases this
theorem a3M {Uf Df:List Str} (hc:∀x∈Uf,x∉Df) (hU:∀x∈U,x∈Uf) (hD:∀x∈D,x∈Df) (hcl:∀q∈W,∀b,stt rs pl S Uf Df q=some b→if b=true then q∈Uf else q∈Df):∀n,(∀x∈(rds rs pl S W U D n).U,x∈Uf)∧(∀x∈(rds rs pl S W U D n).D,x∈Df)∧∀q b k,(q,b,k)∈(rds rs pl S W U D n).T→stt rs pl S Uf Df q=some b
 | 0=>⟨hU,hD,fun q b k h=>by cases h⟩
 | n+1=>by
  obtain ⟨h1,h2,h3⟩:=a3M hc hU hD hcl n
  have h4:∀q b k,(q,b,k)∈(rds rs pl S W U D (n+1)).T→stt rs pl S Uf Df q=some b:=fun q b k h=>by
   rw [a8m] at h
   rcases h with h | ⟨h,_⟩
   ·exact h3 q b k h
   ·exact b3d hc h1 h2 (a0o.mp h).2.2
  refine ⟨fun x hx=>?_,fun x hx=>?_,h4⟩
  ·rw [(a0s (n+1)).1] at hx
   rcases hx with z | ⟨k,z⟩
   ·exact hU x z
   ·have:=hcl x (a1K _ x (Qf.mpr ⟨_,z,rfl⟩)) true (h4 x true k z)
    exact this
  ·rw [(a0s (n+1)).2] at hx
   rcases hx with z | ⟨k,z⟩
   ·exact hD x z
   ·have:=hcl x (a1K _ x (Qf.mpr ⟨_,z,rfl⟩)) false (h4 x false k z)
    exact this
end
/-! ### the statements of the rules,and a pool about them -/
def sts (rs:List Rw):List Str:=rs.flatMap fun r=>(r.2.2.1::r.2.2.2).flatMap fun q=>[q,a0y q]
theorem a2u {rs:List Rw} {x:Str}:x∈sts rs↔∃r∈rs,∃q∈r.2.2.1::r.2.2.2,x=q∨x=a0y q:=by
 unfold sts
 constructor
 ·intro h
  obtain ⟨r,hr,h⟩:=Za.mp h
  obtain ⟨q,hq,h⟩:=Za.mp h
  exact ⟨r,hr,q,hq,by simpa using h⟩
 ·rintro ⟨r,hr,q,hq,h⟩
  exact Za.mpr ⟨r,hr,Za.mpr ⟨q,hq,by simpa using h⟩⟩
section
variable {rs:List Rw} {pl:List (Str×Str)} {S W po:List Str}
theorem a9I {U D:List Str} {q:Str} (hS:∀x∈S,x∈sts rs) (hq:q∉sts rs):stt rs pl S U D q=some false:=by
 have e:hdF rs q=[]:=Wf.mpr fun r hr z=>hq (a2u.mpr ⟨r,hr,_,Qn,.inl (of_decide_eq_true z).symm⟩)
 have e1:a1Y rs U q=[]:=by unfold a1Y;rw [e];rfl
 have e2:unf rs D q=[]:=by unfold unf;rw [e];rfl
 have hqS:q∉S:=fun z=>hq (hS q z)
 unfold stt a1I a6b
 rw [if_neg hqS,if_neg hqS,if_pos (Or.inl e1),if_pos (Or.inl e2),if_neg Qu,if_pos rfl]
theorem a3o (hW:∀x,x∈W↔x∈sts rs) (hpo:∀x∈sts rs,x∈po) (ho:∀q∈po,a0y (a0y q)=q) (hS:∀x∈S,x∈sts rs):∀(n:Nat) (q:Str) (b:Bool) (k:Nat),(q,b,k)∈(rds rs pl S po [] [] n).T↔(q,b,k)∈(rds rs pl S W [] [] n).T∨(0 < n∧q∈po∧q∉sts rs∧b=false∧k=1)
 | 0,q,b,k=>⟨fun h=>(by cases h),fun h=>h.elim (fun z=>(by cases z)) fun z=>absurd z.1 (by omega)⟩
 | n+1,q,b,k=>by
  have ih:=a3o hW hpo ho hS n
  have kW:∀{b k},(q,b,k)∈(rds rs pl S W [] [] n).T→q∈sts rs:=fun z=>(hW q).mp (a1K n q (Qf.mpr ⟨_,z,rfl⟩))
  have hk:q∈sts rs→(q∈(rds rs pl S po [] [] n).T.map (·.1)↔q∈(rds rs pl S W [] [] n).T.map (·.1)):=fun hq=>by
   constructor
   ·intro z;obtain ⟨⟨x,b,k⟩,hx,rfl⟩:=Qf.mp z
    rcases (ih _ _ _).mp hx with w | w
    ·exact Qf.mpr ⟨_,w,rfl⟩
    ·exact absurd hq w.2.2.1
   ·intro z;obtain ⟨⟨x,b,k⟩,hx,rfl⟩:=Qf.mp z
    exact Qf.mpr ⟨_,(ih _ _ _).mpr (.inl hx),rfl⟩
  have hs:q∈sts rs→stt rs pl S (rds rs pl S po [] [] n).U (rds rs pl S po [] [] n).D q=stt rs pl S (rds rs pl S W [] [] n).U (rds rs pl S W [] [] n).D q:=fun hq=>by
   have wd:∀(x:Str) (b:Bool),x∉po.filter (fun z=>decide (z∉sts rs))→((∃k,(x,b,k)∈(rds rs pl S po [] [] n).T)↔∃k,(x,b,k)∈(rds rs pl S W [] [] n).T):=fun x b hx=>by
    constructor
    ·rintro ⟨k,z⟩
     rcases (ih _ _ _).mp z with w | w
     ·exact ⟨k,w⟩
     ·exact absurd (Qv.mpr ⟨w.2.1,decide_eq_true w.2.2.1⟩) hx
    ·rintro ⟨k,z⟩;exact ⟨k,(ih _ _ _).mpr (.inl z)⟩
   refine a4U (came:=po.filter fun z=>decide (z∉sts rs)) (fun x hx=>?_) (fun x hx=>?_) (ho q (hpo q hq)) ?_
   ·rw [(a0s n).1,(a0s n).1];exact or_congr Iff.rfl (wd x true hx)
   ·rw [(a0s n).2,(a0s n).2];exact or_congr Iff.rfl (wd x false hx)
   ·rintro ⟨r,hr,⟨p,hp,hc⟩,_⟩
    exact of_decide_eq_true (Qv.mp hc).2 (a2u.mpr ⟨r,hr,p,Qp _ hp,.inl rfl⟩)
  rw [a8m,a8m,ih]
  show (_∨(q,b)∈_∧k=n+1)↔(_∨(q,b)∈_∧k=n+1)∨_
  rw [a0o,a0o]
  by_cases hq:q∈sts rs
  ·rw [hk hq,hs hq]
   constructor
   ·rintro ((z | z) | ⟨⟨_,z⟩,e⟩)
    ·exact .inl (.inl z)
    ·exact absurd hq z.2.2.1
    ·exact .inl (.inr ⟨⟨(hW q).mpr hq,z⟩,e⟩)
   ·rintro ((z | ⟨⟨_,z⟩,e⟩) | z)
    ·exact .inl (.inl z)
    ·exact .inr ⟨⟨hpo q hq,z⟩,e⟩
    ·exact absurd hq z.2.2.1
  ·constructor
   ·rintro ((z | z) | ⟨⟨hp,hn,z⟩,e⟩)
    ·exact .inl (.inl z)
    ·exact .inr ⟨by omega,z.2⟩
    ·rw [a9I hS hq] at z
     have hb:b=false:=(Option.some.inj z).symm
     have hn0:n=0:=by
      rcases Nat.eq_zero_or_pos n with w | w
      ·exact w
      ·exact absurd (Qf.mpr ⟨_,(ih q false 1).mpr (.inr ⟨w,hp,hq,rfl,rfl⟩),rfl⟩) hn
     exact .inr ⟨by omega,hp,hq,hb,by omega⟩
   ·rintro ((z | ⟨⟨z,_⟩,_⟩) | ⟨_,hp,_,hb,hk1⟩)
    ·exact .inl (.inl z)
    ·exact absurd ((hW q).mp z) hq
    ·rcases Nat.eq_zero_or_pos n with w | w
     ·subst w
      exact .inr ⟨⟨hp,(fun z=>by cases z),by rw [a9I hS hq,hb]⟩,by omega⟩
     ·exact .inl (.inr ⟨w,hp,hq,hb,hk1⟩)
theorem b2J (hW:∀x,x∈W↔x∈sts rs) (hpo:∀x∈sts rs,x∈po) (ho:∀q∈po,a0y (a0y q)=q) (hS:∀x∈S,x∈sts rs) {n:Nat} (hf:fresh rs pl S W (rds rs pl S W [] [] n)=[]):fresh rs pl S po (rds rs pl S po [] [] (n+1))=[]:=by
 refine Ug.mpr fun ⟨q,b⟩ h=>?_
 have h2:(q,b,n+2)∈(rds rs pl S po [] [] (n+2)).T:=by rw [a8m];exact .inr ⟨h,rfl⟩
 rw [a3o hW hpo ho hS] at h2
 rcases h2 with h2 | h2
 ·have e:=a1X hf 2
  rw [e] at h2
  have h3:(q,b,n+2)∈(rds rs pl S po [] [] (n+1)).T:=by
   rw [a3o hW hpo ho hS,a1X hf 1];exact .inl h2
  exact (a0o.mp h).2.1 (Qf.mpr ⟨_,h3,rfl⟩)
 ·omega
theorem b9Y (ho:∀q∈po,a0y (a0y q)=q) {L:List Str} (hL:∀x∈L,x∈po) (hLo:∀x∈L,a0y x∈L) (hLh:∀r∈rs,∀p∈r.2.2.2,p∈L→r.2.2.1∈L) {n:Nat} (hf:fresh rs pl S po (rds rs pl S po [] [] n)=[]) {kn:List (Str×Bool)} (hkn:∀q b,(q,b)∈kn↔q∉L∧∃k,(q,b,k)∈(rds rs pl S po [] [] n).T)
  {n':Nat} (hf':fresh rs pl S L (rds rs pl S L (ups kn) (a0P kn) n')=[]) (q:Str) (b:Bool):(∃k,(q,b,k)∈(rds rs pl S L (ups kn) (a0P kn) n').T)↔q∈L∧∃k,(q,b,k)∈(rds rs pl S po [] [] n).T:=by
 have e0:∀x∈([]:List Str),x∉([]:List Str):=fun x h=>by cases h
 have eW:∀x∈po,x∉([]:List Str)∧x∉([]:List Str):=fun x _=>⟨(fun h=>by cases h),fun h=>by cases h⟩
 have cF:=a5d (rs:=rs) (pl:=pl) (S:=S) (W:=po) e0 eW n
 have k0:∀x∈ups kn,x∉a0P kn:=fun x h h'=>by
  obtain ⟨_,k,a⟩:=(hkn _ _).mp (a1C.mp h)
  obtain ⟨_,k',a'⟩:=(hkn _ _).mp (a0O.mp h')
  exact Bool.noConfusion (a6s n a a').1
 have kW:∀x∈L,x∉ups kn∧x∉a0P kn:=fun x hx=>⟨fun h=>((hkn _ _).mp (a1C.mp h)).1 hx,fun h=>((hkn _ _).mp (a0O.mp h)).1 hx⟩
 have cL:=a5d (rs:=rs) (pl:=pl) (S:=S) (W:=L) k0 kW n'
 have up:∀x∈ups kn,x∈(rds rs pl S po [] [] n).U:=fun x h=>by rw [(a0s n).1];exact .inr ((hkn _ _).mp (a1C.mp h)).2
 have dn:∀x∈a0P kn,x∈(rds rs pl S po [] [] n).D:=fun x h=>by rw [(a0s n).2];exact .inr ((hkn _ _).mp (a0O.mp h)).2
 have clF:∀q∈po,∀b,stt rs pl S (rds rs pl S po [] [] n).U (rds rs pl S po [] [] n).D q=some b→if b=true then q∈(rds rs pl S po [] [] n).U else q∈(rds rs pl S po [] [] n).D:=fun q hq b e=>by
  obtain ⟨k,hk⟩:=a1Z e0 eW hf hq e
  cases b with
  | true=>rw [if_pos rfl,(a0s n).1];exact .inr ⟨k,hk⟩
  | false=>rw [if_neg Qu,(a0s n).2];exact .inr ⟨k,hk⟩
 have kL:∀{x b k},(x,b,k)∈(rds rs pl S L (ups kn) (a0P kn) n').T→x∈L:=fun z=>a1K n' _ (Qf.mpr ⟨_,z,rfl⟩)
 constructor
 ·rintro ⟨k,h⟩
  have hq:=kL h
  exact ⟨hq,a1Z e0 eW hf (hL q hq) ((a3M cF up dn (fun q hq=>clF q (hL q hq)) n').2.2 q b k h)⟩
 ·rintro ⟨hq,k,h⟩
  refine a1Z k0 kW hf' hq ((a3M cL (fun x h=>by cases h) (fun x h=>by cases h) (fun q hq b e=>?_) n).2.2 q b k h)
  have into:(∃k,(q,b,k)∈(rds rs pl S L (ups kn) (a0P kn) n').T)∨(q,b)∈kn→if b=true then q∈(rds rs pl S L (ups kn) (a0P kn) n').U else q∈(rds rs pl S L (ups kn) (a0P kn) n').D:=fun z=>by
   cases b with
   | true=>rw [if_pos rfl,(a0s n').1];exact z.symm.imp a1C.mpr id
   | false=>rw [if_neg Qu,(a0s n').2];exact z.symm.imp a0O.mpr id
  by_cases hqL:q∈L
  ·exact into (.inl (a1Z k0 kW hf' hqL e))
  ·have ex:∀(x:Str) (b:Bool),x∉L→(((x,b)∈kn∨∃k,(x,b,k)∈(rds rs pl S L (ups kn) (a0P kn) n').T)↔∃k,(x,b,k)∈(rds rs pl S po [] [] n).T):=fun x b hx=>
    ⟨fun z=>z.elim (fun w=>((hkn _ _).mp w).2) fun ⟨_,w⟩=>absurd (kL w) hx,fun z=>.inl ((hkn _ _).mpr ⟨hx,z⟩)⟩
   suffices e':stt rs pl S (rds rs pl S L (ups kn) (a0P kn) n').U (rds rs pl S L (ups kn) (a0P kn) n').D q=stt rs pl S (rds rs pl S po [] [] n).U (rds rs pl S po [] [] n).D q by
    rw [e'] at e
    exact into (.inr ((hkn _ _).mpr ⟨hqL,a1Z e0 eW hf hq e⟩))
   refine a4U (came:=L) (fun x hx=>?_) (fun x hx=>?_) (ho q hq) ?_
   ·rw [(a0s n').1,(a0s n).1,a1C,ex x true hx];exact ⟨.inr,fun z=>z.resolve_left fun w=>by cases w⟩
   ·rw [(a0s n').2,(a0s n).2,a0O,ex x false hx];exact ⟨.inr,fun z=>z.resolve_left fun w=>by cases w⟩
   ·rintro ⟨r,hr,⟨p,hp,hc⟩,z⟩
    have hh:=hLh r hr p hp hc
    rcases z with z | z
    ·exact hqL (z ▸ hh)
    ·exact hqL (z ▸ hLo _ hh)
end
/-! ### Answers -/
theorem a4f:∀(l m:List Str),(m++l).Nodup→l.foldl a0V m=m++l
 | [],m,_=>(Qg m).symm
 | x::l,m,h=>by
  have hx:x∉m:=fun z=>(Zg.mp h).2.2 x z x Qn rfl
  rw [Jo,a7g hx,a4f l (m++[x]) (by rw [Zo];exact h),Zo];rfl
theorem a2m {l:List Str} (h:l.Nodup):l.foldl a0V []=l:=a4f l [] h
def c0l (t:Adr):Sp:=fun vs H Q _=>∃(g:Addr) (rs:List Rw) (pl:List (Str×Str)) (po:List Str),vs=[.ref g]∧a3r t H g rs pl∧(∀r∈rs,a2j r)∧rs.length≤63∧(∀x∈sts rs,x∈po)∧po.length≤18∧
 ∀D St H',a0j H H'→H D=none→H' D=some (.lst (St.map V.str))→St.Perm ((sts rs).foldl a0V [])→PyProof.Rows.sortedS St=true→Q (.ref D) H'
def afl (st sk cm:Addr):List (Str×V):=a1j "came" (.ref cm) (a1j "sure_keys" (.ref sk) (a1j "standing" (.ref st) []))
theorem b8n (st sk cm:Addr):(afl st sk cm).lookup ("standing":Str)=some (.ref st):=by
 unfold afl;rw [a0f,if_neg (by decide+kernel),a0f,if_neg (by decide+kernel),a0f,if_pos rfl]
theorem b6q (st sk cm:Addr):(afl st sk cm).lookup ("sure_keys":Str)=some (.ref sk):=by
 unfold afl;rw [a0f,if_neg (by decide+kernel),a0f,if_pos rfl]
theorem b7I (st sk cm:Addr):(afl st sk cm).lookup ("came":Str)=some (.ref cm):=by
 unfold afl;rw [a0f,if_pos rfl]
theorem a3g (st sk cm:Addr) {m:Str} (h1:m≠"came") (h2:m≠"sure_keys") (h3:m≠"standing"):(afl st sk cm).lookup m=none:=by
 unfold afl;rw [a0f,if_neg h1,a0f,if_neg h2,a0f,if_neg h3];rfl
def c4Y (rs:List Rw) (pl:List (Str×Str)) (ss:List Str) (T:List Tr):Prop:=(T.map (·.1)).Nodup∧∃n W,(∀q,q∈W↔q∈sts rs)∧fresh rs pl ss W (rds rs pl ss W [] [] n)=[]∧IsT rs pl ss W [] [] n T
def a6d (t:Adr) (H:Hp) (x:Addr) (rs:List Rw) (ss:List Str) (T:List Tr):Prop:=∃dx st sk cm St,H x=some (.ins t.C_Answers dx (afl st sk cm))∧H st=some (.dK (bv St))∧(∀q,q∈St↔q∈sts rs)∧H sk=some (.dK (bv ss))∧TAt H cm T
theorem a6d.same {t:Adr} {H H':Hp} {x:Addr} {rs:List Rw} {ss:List Str} {T:List Tr} (s:a0j H H') (h:a6d t H x rs ss T):a6d t H' x rs ss T:=let ⟨dx,st,sk,cm,St,a,b,c,d,e⟩:=h;⟨dx,st,sk,cm,St,s _ _ a,s _ _ b,c,s _ _ d,e.same s⟩
def b7n (t:Adr):Sp:=fun vs H Q _=>∃(x dx g:Addr) (rs:List Rw) (pl:List (Str×Str)) (po:List Str) (H0:Hp),vs=[.ref x,.ref g]∧H x=some (.ins t.C_Answers dx [])∧a0j H0 H∧H0 x=none∧a3r t H0 g rs pl∧(∀r∈rs,a2j r)∧rs.length≤63∧(∀z∈sts rs,z∈po)∧po.length≤18∧(∀q∈po,q.length≤100∧a0y (a0y q)=q)∧a3V t.TB_z0u a1P H0∧
 ∀H' ss T,(∀c o,c≠t.TB_z0u→H0 c=some o→H' c=some o)→a3V t.TB_z0u a1P H'→a9r (rs.map srW) ss→c4Y rs pl ss T→a6d t H' x rs ss T→Q .non H'
def wr (rs:List Rw) (T:List Tr) (q:Str):Str×Nat:=if q∈sts rs then ((T.find? fun e=>decide (e.1=q)).map fun e=>(wd e.2.1,e.2.2)).getD (("":Str),0) else (("refused":Str),1)
def c6n (t:Adr):Sp:=fun vs H Q _=>∃(x:Addr) (q:Str) (rs:List Rw) (ss:List Str) (T:List Tr),vs=[.ref x,.str q]∧a6d t H x rs ss T∧(T.map (·.1)).Nodup∧∀p H',a0j H H'→H' p=some (.tup [.str (wr rs T q).1,.int ((wr rs T q).2:Nat)])→Q (.ref p) H'
def b2C (t:Adr) (f:List Rw→List Str→List Tr→Str→V):Sp:=fun vs H Q _=>∃(x:Addr) (q:Str) (rs:List Rw) (ss:List Str) (T:List Tr),vs=[.ref x,.str q]∧a6d t H x rs ss T∧(T.map (·.1)).Nodup∧∀H',a0j H H'→Q (f rs ss T q) H'
def b4v (K:Qc) (t:Adr):Sp:=fun vs H Q _=>∃(x:Addr) (rs:List Rw) (ss:List Str) (T:List Tr),vs=[.ref x]∧a6d t H x rs ss T∧∀D H',a0j H H'→H D=none→H' D=some (.lst (ss.map V.str))→Q (.ref D) H'
theorem b1Z {rs:List Rw} {T:List Tr} (hn:(T.map (·.1)).Nodup) (hk:∀q∈T.map (·.1),q∈sts rs) (q:Str):(∃b n,wr rs T q=(wd b,n)∧((q,b,n)∈T∨q∉sts rs∧b=false∧n=1))∨(wr rs T q=(("":Str),0)∧q∈sts rs∧∀b n,(q,b,n)∉T):=by
 unfold wr
 by_cases h:q∈sts rs
 ·rw [if_pos h]
  cases e:T.find? (fun e=>decide (e.1=q)) with
  | none=>
   refine .inr ⟨rfl,h,fun b n z=>?_⟩
   have:=Us.mp e _ z
   simp at this
  | some x=>
   obtain ⟨q',b,n⟩:=x
   have hm:=Vf e
   have hq:q'=q:=by have:=List.find?_some e;simpa using this
   subst hq
   exact .inl ⟨b,n,rfl,.inl hm⟩
 ·rw [if_neg h]
  exact .inl ⟨false,1,rfl,.inr ⟨h,rfl,rfl⟩⟩
theorem b0r {T:List Tr} (hn:(T.map (·.1)).Nodup) {e:Tr} (he:e∈T):T.find? (fun x=>decide (x.1=e.1))=some e:=by
 induction T with
 | nil=>cases he
 | cons p T ih=>
  rw [Xg,Yv] at hn
  rcases Qw.mp he with z | z
  ·subst z;rw [List.find?_cons_of_pos (by simp)]
  ·rw [List.find?_cons_of_neg (by
    intro w
    have w':p.1=e.1:=by simpa using w
    exact hn.1 (Qf.mpr ⟨e,z,w'.symm⟩)),ih hn.2 z]
theorem b7N (b:Bool):¬wd b=("":Str):=by cases b<;>decide+kernel
def b4L:Sp:=fun vs H Q _=>∃(R a:Addr) (xs:List V) (rs:List Rw) (sm po:List Str),vs=[.ref R,.ref a]∧H R=some (.lst xs)∧a3a H xs rs∧rs.length≤63∧(∀r∈rs,a2j r∧b5R po r)∧H a=some (.lst (sm.map V.str))∧(∀x∈sm,x∈po)∧sm.length≤18∧po.length≤18∧(∀x∈po,a0y x∈po∧x.length≤100)∧
 ∀D (L:List Str) H',a0j H H'→H D=none→H' D=some (.lst (L.map V.str))→L.Nodup→(∀x∈L,x∈po)→(∀x∈L,a0y x∈L)→(∀r∈rs,∀p∈r.2.2.2,p∈L→r.2.2.1∈L)→Q (.ref D) H'
theorem a8u {T x C dx:Addr} {q:Str} {H:Hp} {fs:List (Str×V)} {o:HO} (h:a3V T q H) (hx:H x=some (.ins C dx fs)):a3V T q (upd H x o):=by
 obtain ⟨ps,a,b,c⟩:=h
 refine ⟨ps,by rw [a0a (a0B a hx (by intro z;cases z))];exact a,b,fun pos cv e=>?_⟩
 obtain ⟨c',o',vs,t,z1,z2,z3⟩:=c pos cv e
 exact ⟨c',o',vs,t,z1,by rw [a0a (a0B z2 hx (by intro z;cases z))];exact z2,z3⟩
theorem b2n {K:Qc} {H:Hp} {Q:VK} {z:Str} {a:Addr} {r:List Str} (h:SqT K H a (r.map V.str)) (q:Q (.bl (decide (z∈r))) H):b5O K (.str z) (.ref a) H Q:=
 .inr ⟨a,_,rfl,.inr h,rfl,a5S _,by rw [if_neg Qu,a9v];exact q⟩
theorem a8z (rs:List Rw) (T:List Tr) (q:Str):(wr rs T q).1="held"∨(wr rs T q).1="refused"∨(wr rs T q).1="":=by
 unfold wr
 split
 ·cases T.find? (fun e=>decide (e.1=q)) with
  | none=>exact .inr (.inr rfl)
  | some e=>
   obtain ⟨x,b,n⟩:=e
   cases b
   ·exact .inr (.inl rfl)
   ·exact .inl rfl
 ·exact .inr (.inl rfl)
/-! ### what the law writes down of the answers -/
def rk (rs:List Rw) (T:List Tr) (q:Str):Option Tr:=if (wr rs T q).1="" then none else some (q,decide ((wr rs T q).1="held"),(wr rs T q).2)
def knF (L:List Str) (R:List Tr):List (Str×Bool):=(R.filter fun e=>decide (e.1∉L)).map fun e=>(e.1,e.2.1)
def duF (L:List Str) (R:List Tr):List (Str×Bool):=(R.filter fun e=>decide (e.1∈L)).map fun e=>(e.1,e.2.1)
theorem b2L {rs:List Rw} {T:List Tr} {q:Str} {e:Tr} (h:rk rs T q=some e):e.1=q:=by
 unfold rk at h
 split at h
 ·cases h
 ·cases h;rfl
theorem a5M (rs:List Rw) (T:List Tr):∀l:List Str,((l.filterMap (rk rs T)).map (·.1)).Sublist l
 | []=>List.Sublist.refl _
 | q::l=>by
  have ih:=a5M rs T l
  rw [Yy]
  cases e:rk rs T q with
  | none=>exact ih.cons q
  | some x=>rw [Xg,b2L e];exact ih.cons₂ q
theorem a4M {R:List Tr} (p:Tr→Bool):(((R.filter p).map fun e=>(e.1,e.2.1)).map (·.1)).Sublist (R.map (·.1)):=by
 rw [Qy]
 exact Wt.map _
theorem b5C {L:List Str} {R:List Tr} {q:Str} {b:Bool}:(q,b)∈knF L R↔q∉L∧∃k,(q,b,k)∈R:=by
 unfold knF
 rw [Qf]
 constructor
 ·rintro ⟨⟨x,c,k⟩,h,e⟩
  cases e
  have:=Qv.mp h
  exact ⟨of_decide_eq_true this.2,k,this.1⟩
 ·rintro ⟨h,k,z⟩;exact ⟨_,Qv.mpr ⟨z,decide_eq_true h⟩,rfl⟩
theorem b5G {L:List Str} {R:List Tr} {q:Str} {b:Bool}:(q,b)∈duF L R↔q∈L∧∃k,(q,b,k)∈R:=by
 unfold duF
 rw [Qf]
 constructor
 ·rintro ⟨⟨x,c,k⟩,h,e⟩
  cases e
  have:=Qv.mp h
  exact ⟨of_decide_eq_true this.2,k,this.1⟩
 ·rintro ⟨h,k,z⟩;exact ⟨_,Qv.mpr ⟨z,decide_eq_true h⟩,rfl⟩
theorem b0D (b:Bool):decide (wd b=("held":Str))=b:=by cases b<;>decide+kernel
theorem b1C {rs:List Rw} {pl:List (Str×Str)} {ss W:List Str} {T:List Tr} {n:Nat} (hW:∀q,q∈W↔q∈sts rs) (hT:IsT rs pl ss W [] [] n T):∀q∈T.map (·.1),q∈sts rs:=fun q hq=>by
 rw [a2f hT] at hq
 exact (hW q).mp (a1K n q hq)
theorem b5T {rs:List Rw} {pl:List (Str×Str)} {ss W po:List Str} {T:List Tr} {n:Nat} (hn:(T.map (·.1)).Nodup) (hW:∀q,q∈W↔q∈sts rs) (hf:fresh rs pl ss W (rds rs pl ss W [] [] n)=[]) (hT:IsT rs pl ss W [] [] n T) (hpo:∀x∈sts rs,x∈po) (ho:∀q∈po,a0y (a0y q)=q) (hS:∀x∈ss,x∈sts rs) (e:Tr):e∈po.filterMap (rk rs T)↔e∈(rds rs pl ss po [] [] (n+1)).T:=by
 obtain ⟨q,b,k⟩:=e
 rw [a3o hW hpo ho hS,a1X hf 1,←hT,Zx]
 have hk:=b1C hW hT
 constructor
 ·rintro ⟨q',hq',e⟩
  have eq:q=q':=b2L e
  subst eq
  unfold rk at e
  rcases b1Z hn hk q with ⟨b',n',ew,h⟩ | ⟨ew,_⟩
  ·rw [ew,if_neg (b7N b')] at e
   have e':=Option.some.inj e
   rw [b0D] at e'
   cases e'
   rcases h with h | ⟨h1,h2,h3⟩
   ·exact .inl h
   ·exact .inr ⟨Nat.succ_pos _,hq',h1,h2,h3⟩
  ·rw [ew,if_pos rfl] at e;cases e
 ·intro h
  have hq:q∈po:=h.elim (fun z=>hpo q (hk q (Qf.mpr ⟨_,z,rfl⟩))) fun z=>z.2.1
  refine ⟨q,hq,?_⟩
  have ew:wr rs T q=(wd b,k):=by
   unfold wr
   rcases h with h | ⟨_,_,h1,h2,h3⟩
   ·rw [if_pos (hk q (Qf.mpr ⟨_,h,rfl⟩)),b0r hn h];rfl
   ·rw [if_neg h1,h2,h3];rfl
  unfold rk
  rw [ew,if_neg (b7N b),b0D]
theorem b4b {rs:List Rw} {ss:List Str} (h:a9r (rs.map srW) ss):∀z∈ss,z∈sts rs:=fun z hz=>by
 have h1:=(b0H z).mp (h.1.mem_iff.mp hz)
 obtain ⟨b,hb⟩:=a4B _ z h1
 obtain ⟨r,hr,e⟩:=Qf.mp hb
 have e2:r.2.2.1=z:=congrArg (fun x:SR Str=>x.2.1) e
 exact a2u.mpr ⟨r,hr,_,Qn,.inl e2.symm⟩
def leT (a b:Str):Prop:=¬b.cps.toList < a.cps.toList
theorem b0g {a b c:Str} (h1:leT a b) (h2:leT b c):leT a c:=List.le_trans (show a.cps.toList≤b.cps.toList from h1) (show b.cps.toList≤c.cps.toList from h2)
theorem b2q {a b:Str} (h1:leT a b) (h2:leT b a):a=b:=by
 have e:a.cps.toList=b.cps.toList:=List.le_antisymm (show a.cps.toList≤b.cps.toList from h1) (show b.cps.toList≤a.cps.toList from h2)
 obtain ⟨⟨a⟩⟩:=a
 obtain ⟨⟨b⟩⟩:=b
 have e':a=b:=e
 rw [e']
theorem a5g:∀(l:List Str) (p:Str),PyProof.Rows.risingS p l=true→(p::l).Pairwise leT
 | [],p,_=>by simp
 | x::r,p,h=>by
  have h':(!PySem.Spec.ltCps x.cps.toList p.cps.toList && PyProof.Rows.risingS x r)=true:=h
  rw [Xh,Yj,PyProof.Rows.ltCps_eq,decide_eq_false_iff_not] at h'
  have ih:=a5g r x h'.2
  refine Zn.mpr ⟨fun y hy=>?_,ih⟩
  rcases Qw.mp hy with e | e
  ·rw [e];exact h'.1
  ·exact b0g h'.1 ((Zn.mp ih).1 y e)
theorem a5A:∀{l:List Str},PyProof.Rows.sortedS l=true→l.Pairwise leT
 | [],_=>.nil
 | x::r,h=>a5g r x h
theorem a3B:∀{a b:List Str},a.Perm b→a.Pairwise leT→b.Pairwise leT→a=b
 | [],b,h,_,_=>(h.symm.eq_nil).symm
 | x::a,[],h,_,_=>by have:=h.length_eq;simp at this
 | x::a,y::b,h,ha,hb=>by
  have e:x=y:=by
   rcases Qw.mp (h.mem_iff.mp (Qn (a:=x) (l:=a))) with z | z
   ·exact z
   ·rcases Qw.mp (h.mem_iff.mpr (Qn (a:=y) (l:=b))) with w | w
    ·exact w.symm
    ·exact b2q ((Zn.mp ha).1 y w) ((Zn.mp hb).1 x z)
  subst e
  rw [a3B (List.Perm.cons_inv h) (Zn.mp ha).2 (Zn.mp hb).2]
theorem b1A (L:List Str) (R:List Tr) (q:Str) (b:Bool) (k:Nat):knF L (R++[(q,b,k)])=knF L R++if q∈L then [] else [(q,b)]:=by
 unfold knF
 rw [Zm,Xf,Yc]
 by_cases h:q∈L
 ·rw [if_pos h,if_neg (by simpa using h)];rfl
 ·rw [if_neg h,if_pos (decide_eq_true h)];rfl
theorem b1X (L:List Str) (R:List Tr) (q:Str) (b:Bool) (k:Nat):duF L (R++[(q,b,k)])=duF L R++if q∈L then [(q,b)] else []:=by
 unfold duF
 rw [Zm,Xf,Yc]
 by_cases h:q∈L
 ·rw [if_pos h,if_pos (decide_eq_true h)];rfl
 ·rw [if_neg h,if_neg (by simpa using h)];rfl
theorem b8h {rs:List Rw} {T:List Tr} {q:Str} (h:¬(wr rs T q).1=""):∃b,(wr rs T q).1=wd b∧rk rs T q=some (q,b,(wr rs T q).2):=by
 obtain ⟨b,e⟩:∃b,(wr rs T q).1=wd b:=(a8z rs T q).elim (fun z=>⟨true,z⟩) fun z=>z.elim (fun w=>⟨false,w⟩) fun w=>absurd w h
 refine ⟨b,e,?_⟩
 unfold rk
 rw [if_neg h,e,b0D]
end K46
namespace K46
open PySem L2 Tx
local macro_rules | `(‹$n:num›)=>`(@pv _ $n _ _ (by rfl) (by first | exact c5z rfl | exact c4z rfl | exact c5P rfl) (by decide) (by decide))
local macro_rules | `(tactic| trivial)=>`(tactic| first | exact Or.inl rfl | exact Or.inr rfl | assumption)
set_option hygiene false
local macro_rules | `(‹($x)›)=>`(‹$x›)
local macro_rules | `(‹A0 $a $b›)=>`(@a9m _ _ _ _ _ ‹$a› ‹$b› (by rfl))
local macro_rules | `(‹A1›)=>`(@b3B _)
local macro_rules | `(‹A2 $a $b›)=>`(@b2y _ _ _ _ _ ‹$a› ‹$b›)
local macro_rules | `(‹A3›)=>`(@b8b _ _ _ _)
local macro_rules | `(‹A4 $a›)=>`(@b5M _ _ _ ‹$a›)
local macro_rules | `(‹A5 $a $b $c›)=>`(@c0v _ _ _ _ _ _ _ _ $a ‹$b› ‹$c›)
local macro_rules | `(‹A6 $a $b $c›)=>`(@b8V _ _ $a _ _ _ _ $b rfl (by trivial) ‹$c› (by rfl) (by trivial))
local macro_rules | `(‹A7 $a $b $c $d $e $f›)=>`(@b4M _ _ _ _ _ _ _ _ _ _ _ _ _ _ _ _ $a (hr.mono (by decide)) rfl $b $c $d $e a8Q ‹$f› (by decide) (by rfl) (by rfl))
local macro_rules | `(‹A8 $a›)=>`(@b6j _ _ _ _ ‹$a›)
local macro_rules | `(‹A9 $a $b›)=>`(@b3Y _ _ $a _ $b rfl (by trivial) (by trivial))
local macro_rules | `(‹B0›)=>`(@b7i _ _ _ _)
local macro_rules | `(‹B1 $a $b $c $d›)=>`(@b5E _ _ _ _ _ _ _ _ $a ‹$b› ‹$c› $d)
local macro_rules | `(‹B2 $a $b $c›)=>`(@b9S _ _ _ _ _ _ _ $a ‹$b› ‹$c› (fun _ _=>rfl))
local macro_rules | `(‹B3 $a $b $c›)=>`(@c0p _ _ _ _ _ _ _ _ ‹$a› ‹$b› ‹$c›)
local macro_rules | `(‹B4 $a $b $c $d›)=>`(@a9D _ $a $b $c $d _ rfl rfl (by decide+kernel))
local macro_rules | `(‹B5›)=>`(@b4N _)
local macro_rules | `(‹B6 $a $b $c›)=>`(@b5Z _ _ _ _ _ _ _ _ PassesOwn.never rfl ‹$a› ‹$b› ‹$c› (by intro _;rfl))
local macro_rules | `(‹B7 $a›)=>`(@b4O _ _ _ _ ‹$a›)
local macro_rules | `(‹B8›)=>`(@c0o _ _ _ _)
local macro_rules | `(‹B9 $a $b $c $d›)=>`(@b1L _ _ _ _ _ _ _ _ _ $a rfl $b $c ‹$d› (by decide) (by decide) (by rfl) (by rfl))
local macro_rules | `(‹C0 $a $b $c $d $e›)=>`(@b4R _ _ _ _ _ _ _ _ _ _ _ _ _ ‹$a› rfl ‹$b› (fun _ _ _ _ _=>‹$c›) (fun _ _ _ _ _=>‹$d›) (fun _ _ _ _ _=>‹$e›) (by intro _;rfl))
local macro_rules | `(‹C1 $a›)=>`(@b3J _ _ _ _ _ ‹$a› rfl)
local macro_rules | `(‹C2 $a $b $c›)=>`(@b4W _ _ _ _ _ _ _ _ _ (a3m hr) ‹$a› ‹$b› ‹$c› rfl)
local macro_rules | `(‹C3 $a›)=>`(@b8Y _ _ _ _ _ ‹$a›)
local macro_rules | `(‹C4 $a›)=>`(@b6p _ _ _ _ ‹$a›)
local macro_rules | `(‹C5 $a›)=>`(@b7l _ _ _ ‹$a› (by intro _;rfl))
local macro_rules | `(‹C6›)=>`(@b1y _ _)
local macro_rules | `(‹C7 $a $b $c $d $e›)=>`(@b1u _ _ _ _ _ _ _ _ _ _ _ _ _ _ _ _ _ ‹$a› $b $c $d (hr.mono (by decide)) $e .nil a8Q (by rfl))
local macro_rules | `(‹C8 $a›)=>`(@b3P _ _ _ ‹$a›)
local macro_rules | `(‹C9 $a $b $c $d $e $f›)=>`(@b9X _ _ _ _ _ _ _ _ _ _ _ _ $a $b $c $d ‹$e› ‹$f› (by rfl) (by rfl) (by rfl) (by rfl) (by rfl))
local macro_rules | `(‹D0 $a $b $c $d $e $f›)=>`(@b4o _ _ _ _ _ _ _ _ _ _ _ _ _ _ _ _ _ _ _ _ ‹$a› $b $c $d (hr.mono (by decide)) $e .nil a8Q ‹$f› (by rfl) (by rfl) (by rfl))
local macro_rules | `(‹D1›)=>`(@b4f _)
local macro_rules | `(‹D2 $a›)=>`(@b5F _ _ _ _ ‹$a› (by rfl))
local macro_rules | `(‹D3 $a $b $c›)=>`(@b5d _ _ $a _ _ rfl $b $c (by decide))
local macro_rules | `(‹D4 $a›)=>`(@b5e _ _ _ _ ‹$a›)
local macro_rules | `(‹D5 $a $b $c $d›)=>`(@a9n _ _ _ _ _ _ _ _ _ $a rfl $b $c ‹$d› (by decide) (by decide) (by rfl) (by rfl))
local macro_rules | `(‹D6 $a›)=>`(@b8k _ _ _ _ _ _ $a (by with_unfolding_all rfl))
local macro_rules | `(‹D7 $a›)=>`(@b4Y _ (K) _ _ _ _ rfl ‹$a› rfl)
local macro_rules | `(‹D8 $a›)=>`(@a9Z _ _ _ _ _ _ rfl T.z_range ‹$a› (by rfl))
local macro_rules | `(‹D9 $a $b›)=>`(@b6i _ _ _ _ _ _ _ _ ‹$a› ‹$b› rfl)
local macro_rules | `(‹E0 $a $b›)=>`(@b8H _ _ _ _ ‹$a› ‹$b›)
local macro_rules | `(‹E1 $a $b›)=>`(@b5a _ _ _ _ _ ‹$a› ‹$b›)
local macro_rules | `(‹E2 $a $b›)=>`(@b4u _ _ _ _ _ _ (a3m hr) ‹$a› ‹$b› (fun _ _=>rfl))
local macro_rules | `(‹E3 $a $b $c $d $e $f $g›)=>`(@a7C _ _ _ _ _ _ _ _ _ _ _ _ _ $a _ _ _ ‹$b› rfl ‹$c› (fun _ _ _ _ _=>‹$d›) (fun _ _ _ _ _=>‹$e›) (fun _ _ _ _ _=>‹$f›) $g rfl (by trivial) rfl (by intro _;rfl) (by trivial))
local macro_rules | `(‹E4 $a›)=>`(@b6m _ _ _ _ ‹$a›)
local macro_rules | `(‹E5 $a›)=>`(@PW.pt _ _ _ ‹$a›)
local macro_rules | `(‹E6 $a $b›)=>`(@b1U _ _ _ _ _ ‹$a› ‹$b› (by rfl))
local macro_rules | `(‹E7 $a $b $c $d $e›)=>`(@b3V _ _ _ _ _ _ _ _ _ _ _ _ _ _ _ _ _ $a $b (hr.mono (by decide)) rfl $c $d .nil a8Q ‹$e› (by decide) (by rfl) (by rfl))
local macro_rules | `(‹E8 $a $b $c $d›)=>`(@b5o _ _ _ _ _ _ _ _ $a ‹$b› ‹$c› $d)
local macro_rules | `(‹E9 $a›)=>`(@b5p _ _ _ ‹$a›)
local macro_rules | `(‹F0 $a $b›)=>`(@b0j _ _ _ _ _ (a3m hr) ‹$a› ‹$b›)
local macro_rules | `(‹F1 $a›)=>`(@b5m _ _ _ ‹$a›)
local macro_rules | `(‹F2 $a›)=>`(@b5K _ _ _ ‹$a›)
local macro_rules | `(‹F3 $a $b›)=>`(@b6n _ _ _ _ ‹$a› ‹$b›)
local macro_rules | `(‹F4 $a $b $c›)=>`(@b1r _ _ _ _ _ _ _ _ _ _ b6O ‹$a› ‹$b› ‹$c›)
local macro_rules | `(‹F5 $a $b $c›)=>`(@b2o _ _ _ _ _ _ _ _ _ (a3m hr) ‹$a› ‹$b› ‹$c› ⟨rfl,rfl,rfl,rfl⟩)
local macro_rules | `(‹F6 $a›)=>`(@b9s _ _ _ _ _ _ $a (by with_unfolding_all rfl))
local macro_rules | `(‹F7 $a $b›)=>`(@c0k _ _ _ _ _ _ _ ‹$a› ‹$b›)
local macro_rules | `(‹F8 $a›)=>`(@b6g _ _ _ _ ‹$a›)
local macro_rules | `(‹F9 $a $b›)=>`(@b1G _ _ _ _ _ _ PassesOwn.never ‹$a› ‹$b›)
local macro_rules | `(‹G0 $a $b›)=>`(@b8O _ _ _ _ _ _ _ ‹$a› ‹$b›)
local macro_rules | `(‹G1 $a›)=>`(@b5D _ _ _ _ ‹$a›)
local macro_rules | `(‹G2 $a $b $c›)=>`(@b1Q _ _ _ _ _ _ _ _ ‹$a› ‹$b› ‹$c›)
local macro_rules | `(‹G3›)=>`(@b4q _)
local macro_rules | `(‹G4 $a $b›)=>`(@b7K _ _ _ _ ‹$a› ‹$b›)
local macro_rules | `(‹G5 $a $b $c›)=>`(@b2z _ _ _ _ _ _ _ _ _ ‹$a› ‹$b› ‹$c› ⟨rfl,rfl,rfl,rfl⟩)
local macro_rules | `(‹G6 $a›)=>`(@b9o _ _ _ _ _ ‹$a›)
local macro_rules | `(‹G7›)=>`(@b3X _)
local macro_rules | `(‹G8 $a $b›)=>`(@c0w _ _ _ _ _ _ _ ‹$a› ‹$b›)
local macro_rules | `(‹G9 $a›)=>`(@b8s _ _ _ _ ‹$a›)
local macro_rules | `(‹H0 $a $b›)=>`(@b8p _ _ _ _ _ _ _ ‹$a› ‹$b›)
local macro_rules | `(‹H1 $a›)=>`(@b5X _ _ _ _ ‹$a›)
local macro_rules | `(‹H2 $a›)=>`(@b2j _ _ _ ‹$a›)
local macro_rules | `(‹H3›)=>`(@b8e _ _ _)
local macro_rules | `(‹H4 $a $b $c $d $e $f $g $h $i $j $k $l $m $n $o $p $q $r $s $t $u›)=>`(@b1R _ _ _ _ _ _ _ $a _ _ _ _ _ $b $c _ $d $e $f $g $h $i $j $k $l ‹$m› ‹$n› $o $p $q $r $s $t $u (by rfl))
local macro_rules | `(‹H5›)=>`(@b2x _ _)
local macro_rules | `(‹H6 $a $b $c $d $e›)=>`(@b7r _ _ _ _ _ _ _ _ _ $a $b $c $d ‹$e› (by rfl) (by rfl))
local macro_rules | `(‹H7 $a $b $c $d $e $f $g $h›)=>`(@b1E _ _ _ _ _ _ _ _ _ _ _ _ _ _ _ _ _ _ _ _ ‹$a› $b $c $d $e $f $g ‹$h› (by rfl) (by rfl) (by rfl))
local macro_rules | `(‹H8 $a $b›)=>`(@b7R _ _ _ _ _ _ ‹$a› ‹$b› (by rfl) (by rfl) (by rfl))
local macro_rules | `(‹H9 $a $b›)=>`(@b3M _ _ _ _ _ _ $a ‹$b› (by rfl) (by rfl))
local macro_rules | `(‹J0 $a $b $c›)=>`(@a8H _ _ _ _ _ _ _ $a $b ‹$c› (by rfl) (by rfl))
local macro_rules | `(‹J1 $a $b $c›)=>`(@b4t _ _ _ _ _ _ _ _ $a $b ‹$c› (by rfl))
local macro_rules | `(‹J2 $a $b $c $d $e›)=>`(@b5L _ $a _ _ _ _ $b $c $d ‹$e› (by rfl) (by rfl))

section
variable {P:Program} {w:World} {K:Qc} {mg:Str→Option Value} {base:Heap} {t:Adr}
theorem a3C (T:Txt K mg t):a0W P w K mg base CX0 1 t.f_z1d t.fd_z1d ["statement"] b4B:=by
 refine T.F_z1d.ok b8X (fun vs H Q E h=>?_) (fun cdv A outer s H vs Q E hr h=>?_)
 ·obtain ⟨z,rfl,hz,q⟩:=h;rfl
 ·obtain ⟨z,rfl,hz,q⟩:=h
  refine ⟨_,‹A4 (A8 (G2 (C5 (C9 Wg Ut Uu a5N 0 (A0 B0 A1))) (F4 0 (F1 A3) G3) (A5 a0p B0 0)))›,?_⟩
  rw [show start b7L [V.str z]=[some (V.str z)] from rfl]
  unfold a0y at q
  try simp only [a1o,tIf,tB,tBM,a0k,Qa,a0i,tC,a0u,tSl,b1v,a6x,b4m,a0e,a7z,tOp,a1n,a4g,a2i,a9W]
  refine a2k (fun c=>?_) (fun c=>?_)
  ·rw [if_pos c] at q
   exact ⟨a3q (by omega),q⟩
  ·rw [if_neg c] at q
   exact ⟨Qh (Nat.add_le_add (show (Ud "-").length≤1 by decide+kernel) hz) (by decide),q⟩
theorem b3A (T:Txt K mg t):a0W P w K mg base CX0 2 t.f_z01 t.fd_z01 ["self"] (c0l t):=by
 refine T.F_z01.ok a7b (fun vs H Q E h=>?_) (fun cdv A outer s H vs Q E hr h=>?_)
 ·obtain ⟨g,rs,pl,po,rfl,hG,hO,hrl,hpo,hpl,q⟩:=h;rfl
 ·obtain ⟨g,rs,pl,po,rfl,hG,hO,hrl,hpo,hpl,q⟩:=h
  refine ⟨_,‹A2 (A6 1 a7b.nd C6) (A2 (B6 (E4 (C1 0)) (A9 2 a7b.nd) (A4 (B6 (E4 (A5 a0p (C3 (A0 (C1 2) A1)) (C1 2))) (A9 3 a7b.nd) (A2 (C2 1 3 B8) (A4 (C2 1 (A7 (a3C T) T.g_z1d T.F_z1d.kp T.b_z1d .nil (A0 3 A1)) B8)))))) (A4 (A8 (B9 (a2W rfl) T.z_sorted a1N (A0 1 A1)))))›,?_⟩
  rw [show start b6T [V.ref g]=[some (V.ref g),none,none,none] from rfl]
  obtain ⟨dx,io,bh,pr,xs,_,_,h1,h2,h3,_⟩:=id hG
  try simp only [a1u,a2b,a1T,a0l,Qi,Qj,a0Q,b5n,a3l,a0k,Qa,a0e]
  intro D hD
  obtain ⟨H1,e1,s1,hD1⟩:=a1p hD (.dK []);rw [e1]
  have hioD:io≠D:=a0b h2 hD
  have hsz:∀A:List Str,(∀x∈A,x∈po)→(A.foldl a0V []).length≤18:=fun A hA=>Qh (a1h (a1v A Zj) (m:=po) fun x hx=>by
   rcases a1D.mp hx with z | z
   ·cases z
   ·exact hA x z) hpl
  refine ⟨g,_,dx,_,_,rfl,s1 _ _ h1,T.cl_Ground,T.nf_Ground_in_order,b2P _ _ _,?_⟩
  try simp only [a1i]
  refine ⟨⟨_,SqT.of (s1 _ _ h2)⟩,?_⟩
  refine a4z (K:=K) (a:=io) (xs:=xs) (fun i σ H'=>∃(x y:Option V),σ=[some (V.ref g),some (V.ref D),x,y]∧a3n H1 D H'∧H' D=some (.dK (bv ((sts (rs.take i)).foldl a0V []))))
   ⟨_,_,rfl,a3n.refl _ _,hD1⟩ (fun i σ H' _ ⟨_,_,_,k,_⟩=>SqT.of (k _ _ (s1 _ _ h2) hioD)) ?_ ?_
  ·rintro i v σ H3 hi ⟨x,y,rfl,k3,hD3⟩
   have hil:i < rs.length:=by rw [←h3.len];exact (Qr.mp hi).1
   obtain ⟨v',ev,p,rfl,hp⟩:=h3.get i rs[i] (Qe hil)
   rw [hi] at ev;cases ev
   have hrm:=Xi hil
   have hro:=hO _ hrm
   have CF:=a7Y T hro.1
   have esn:sts (rs.take (i+1))=sts (rs.take i)++(rs[i].2.2.1::rs[i].2.2.2).flatMap fun q=>[q,a0y q]:=by
    unfold sts
    rw [Xb hil,Ul];simp
   have hA0:∀x∈sts (rs.take i),x∈po:=fun x hx=>hpo x (by
    obtain ⟨r,hr,z⟩:=a2u.mp hx
    exact a2u.mpr ⟨r,Zq hr,z⟩)
   have hA1:∀q∈rs[i].2.2.1::rs[i].2.2.2,q∈po∧a0y q∈po∧q.length≤100:=fun q hq=>⟨hpo q (a2u.mpr ⟨_,hrm,q,hq,.inl rfl⟩),hpo _ (a2u.mpr ⟨_,hrm,q,hq,.inr rfl⟩),by
    rcases Qw.mp hq with z | z
    ·rw [z];have:=hro.2.2.2.1.2;omega
    ·have:=(hro.2.2.2.2.1 q z).2;omega⟩
   generalize rs[i]=r at hp hro CF esn hA1
   generalize sts (rs.take i)=A0 at hD3 esn hA0
   rw [esn]
   clear esn
   obtain ⟨dx',t0,hp1,hp2⟩:=hp
   have hp1':=s1 _ _ hp1
   have hp2':=s1 _ _ hp2
   have hpD:p≠D:=a0b hp1 hD
   have htD:t0≠D:=a0b hp2 hD
   have hbl:=hro.2.2.2.2.2
   try simp only [a0l,Qi,Qj,a0Q,b5n,tOp,a8b,a0i,a3l,a0k,Qb,Qa,a0u,a0e]
   refine ⟨p,_,dx',_,_,rfl,k3 _ _ hp1' hpD,CF.cl,CF.nh,a1f _ _ _,by simp only [Qs,Xk];decide,fun c hc=>?_⟩
   obtain ⟨H4,e4,s4,h4⟩:=a1p hc (.tup [V.str r.2.2.1]);rw [e4]
   have walk:∀(c2:Addr) (H5:Hp),a0j H3 H5→H5 c2=some (.tup ((r.2.2.1::r.2.2.2).map V.str))→c0V (Itt K c2) (a0l 3) (a1u (a3b (a0k 1) (a0k 3) (tC (V.bl true))) (a3b (a0k 1) (a0K b4B [] E0 (a0i (a0k 3) a0u)) (tC (V.bl true)))) {nx:=fun σ H'=>∃(x y:Option V),σ=[some (V.ref g),some (V.ref D),x,y]∧a3n H1 D H'∧H' D=some (.dK (bv ((A0++(r.2.2.1::r.2.2.2).flatMap fun q=>[q,a0y q]).foldl a0V []))),rt:=Q,bk:=a1o (tCB (b2T K) (a0i (a0k 1) a0u)) {nx:=fun x H'=>Q V.non H',rt:=Q},ct:=fun σ H'=>∃(x y:Option V),σ=[some (V.ref g),some (V.ref D),x,y]∧a3n H1 D H'∧H' D=some (.dK (bv ((A0++(r.2.2.1::r.2.2.2).flatMap fun q=>[q,a0y q]).foldl a0V [])))} [some (V.ref g),some (V.ref D),some (V.ref p),y] H5:=fun c2 H5 s5 h5=>by
    have hcD:c2≠D:=a0B h5 (s5 _ _ hD3) (by intro z;cases z)
    generalize r.2.2.1::r.2.2.2=qs at h5 hA1
    refine a4z (K:=K) (a:=c2) (xs:=qs.map V.str) (fun j σ H'=>∃(y:Option V),σ=[some (V.ref g),some (V.ref D),some (V.ref p),y]∧a3n H5 D H'∧H' D=some (.dK (bv ((A0++(qs.take j).flatMap fun q=>[q,a0y q]).foldl a0V []))))
     ⟨_,rfl,a3n.refl _ _,by rw [Uq,List.flatMap_nil,Qg];exact s5 _ _ hD3⟩ (fun j σ H' _ ⟨_,_,k,_⟩=>SqT.of (k _ _ h5 hcD)) ?_ ?_
    ·rintro j v σ H6 hj ⟨y,rfl,k6,hD6⟩
     have hjl:j < qs.length:=by simpa using (Qr.mp hj).1
     have ex:v=V.str qs[j]:=by
      rw [Qo,Qe hjl] at hj
      exact (Option.some.inj hj).symm
     subst ex
     have hq1:=hA1 _ (Xi hjl)
     have hA2:∀x∈A0++(qs.take j).flatMap (fun q=>[q,a0y q]),x∈po:=fun x hx=>by
      rcases Qq.mp hx with z | z
      ·exact hA0 x z
      ·obtain ⟨q,hq,w⟩:=Za.mp z
       have:=hA1 q (Zq hq)
       simp only [Qw,Zl,or_false] at w
       rcases w with w | w
       ·rw [w];exact this.1
       ·rw [w];exact this.2.1
     have ej:A0++(qs.take (j+1)).flatMap (fun q=>[q,a0y q])=(A0++(qs.take j).flatMap fun q=>[q,a0y q])++[qs[j],a0y qs[j]]:=by
      rw [Xb hjl,Ul,←Zo];simp
     rw [ej]
     generalize (A0++(qs.take j).flatMap fun q=>[q,a0y q])=A1 at hD6 hA2
     generalize qs[j]=q0 at hq1
     have l1:=hsz A1 hA2
     have l2:=hsz (A1++[q0]) fun x hx=>by
      rcases Qq.mp hx with z | z
      ·exact hA2 x z
      ·rw [Qz.mp z];exact hq1.1
     try simp only [a0l,a1u,a3b,tC,a0k,Qi,Qj,Qb,Qa,a0K,a0i,a0u,Qg,a0e]
     refine ⟨D,_,rfl,b4D hD6 (by omega) q0,q0,rfl,hq1.2.2,D,_,rfl,b4D (x:=a0y q0) (S:=(A1++[q0]).foldl a0V []) (by rw [a0d,Zp];rfl) (by omega),_,rfl,fun b o e n=>?_,?_⟩
     ·rw [a0a n,a0a n];exact k6 _ _ e n
     ·rw [a0d,Zp,Zp];rfl
    ·rintro σ H6 ⟨y,rfl,k6,hD6⟩
     rw [Qd,Xz] at hD6
     exact ⟨_,_,rfl,fun b o e n=>k6 _ _ (s5 _ _ (k3 _ _ e n)) n,hD6⟩
   refine ⟨p,_,dx',_,_,rfl,s4 _ _ (k3 _ _ hp1' hpD),CF.cl,CF.nb,a1E _ _ _,.inr (.inr (.inr ⟨c,t0,_,_,rfl,rfl,SqT.of h4,SqT.of (s4 _ _ (k3 _ _ hp2' htD)),by simp,Qh (show _≤1000 by simp;omega) (by decide),fun e=>?_,fun e c2 hc2=>?_⟩))⟩
   ·refine ⟨c,rfl,⟨_,SqT.of h4⟩,walk c H4 s4 ?_⟩
    rw [Xg,e];exact h4
   ·obtain ⟨H5,e5,s5,h5⟩:=a1p hc2 (.tup ([V.str r.2.2.1]++r.2.2.2.map V.str));rw [e5]
    exact ⟨c2,rfl,⟨_,SqT.of h5⟩,walk c2 H5 (s4.trans s5) h5⟩
  ·rintro σ H3 ⟨x,y,rfl,k3,hD3⟩
   rw [show rs.take xs.length=rs by rw [h3.len];exact Xz] at hD3
   have hl:=hsz (sts rs) hpo
   try simp only [a1o,tCB,a0i,a0k,Qb,Qa,a0u,a0e]
   refine .inr (.inl ⟨D,_,_,rfl,.inl hD3,a2U _,by omega,fun l ss hl' hp hs=>?_⟩)
   have s3:a0j H H3:=fun b o e=>k3 _ _ (s1 _ _ e) (a0b e hD)
   obtain ⟨H4,e4,s4,h4⟩:=a1p hl' (.lst (ss.map V.str));rw [e4]
   exact q l ss H4 (s3.trans s4) (none_of s3 hl') h4 hp hs
theorem a2J (T:Txt K mg t):a0W P w K mg base CX0 1 t.f_z1r t.fd_z1r ["some"] (b4I K):=by
 refine T.F_z1r.ok a6R (fun vs H Q E h=>?_) (fun cdv A outer s H vs Q E hr h=>?_)
 ·obtain ⟨v,kn,rfl,ha,hl,q⟩:=h;rfl
 ·obtain ⟨v,kn,rfl,ha,hl,q⟩:=h
  refine ⟨_,‹A2 (A6 1 a6R.nd C6) (A2 (G4 (F2 (B6 (D4 0) (A9 2 a6R.nd) (A4 (C2 1 2 B8)))) (B6 (B7 0) (A9 2 a6R.nd) (A4 (C2 1 2 B8)))) (A4 (A8 1)))›,?_⟩
  rw [show start b8E [v]=[some (v),none,none] from rfl]
  try simp only [a1u,a2b,a1T,a0l,Qi,Qj]
  intro D hD
  obtain ⟨H1,e1,s1,h1⟩:=a1p hD (.dK []);rw [e1]
  have hvD:v≠.ref D:=fun z=>by
   obtain ⟨b,o,e,hb⟩:=ha.at
   rw [z] at e;cases e;rw [hD] at hb;cases hb
  refine a4y (fun H0 i σ' H'=>∃x,σ'=[some v,some (V.ref D),x]∧a3n H0 D H'∧H' D=some (.dK (bv ((kn.take i).foldl a0V [])))) (ha.same s1) (a0E rfl) (fun H0 h0=>⟨_,rfl,a3n.refl _ _,h0.keep _ _ h1 hvD⟩) ?_ ?_ ?_
  ·rintro H0 i σ' H' b o ⟨x,rfl,k,_⟩ z e
   exact k _ _ e fun w=>hvD (by rw [z,w])
  ·rintro H0 i hi σ' H' rt bk h0 ⟨x,rfl,k,hD'⟩
   have hlen:=a1b (kn.take i) []
   try simp only [a0l,a3b,tC,a0k,Qi,Qj,Qb,Qa,a0e]
   refine ⟨D,_,rfl,b4D hD' (by simp at hlen;omega) kn[i],_,rfl,fun b o e n=>?_,?_⟩
   ·rw [a0a n];exact k _ _ e n
   ·rw [a0d,Xb hi,Zp];rfl
  ·rintro H0 σ' H' H'' h0 ⟨x,rfl,k,hD'⟩ k1 k2
   rw [Xz] at hD'
   try simp only [a1o,a0k,Qb,Qa,a0e]
   refine q D H'' (fun b o e=>?_) hD (k1 _ _ hD' hvD)
   by_cases z:v=.ref b
   ·exact k2 b o z (s1 _ _ e)
   ·exact k1 b o (k b o (h0.keep _ _ (s1 _ _ e) z) (a0b e hD)) z
theorem b3F (T:Txt K mg t):a0W P w K mg base CX0 1 t.f_z0l t.fd_z0l ["self"] (a8B t):=by
 refine T.F_z0l.ok b7u (fun vs H Q E h=>?_) (fun cdv A outer s H vs Q E hr h=>?_)
 ·obtain ⟨g,rs,pl,rfl,hG,q⟩:=h;rfl
 ·obtain ⟨g,rs,pl,rfl,hG,q⟩:=h
  refine ⟨_,‹A4 (A8 (D5 a1z T.z_list a1w (A0 (C1 0) A1)))›,?_⟩
  rw [show start b9a [V.ref g]=[some (V.ref g)] from rfl]
  obtain ⟨dx,io,bh,pr,xs,kvs,kps,h1,h2,h3,h4,h5,h6',h7'⟩:=hG
  try simp only [a1o,tCB,a0i,a3l,a0k,Qa,a0u,a0e]
  refine ⟨g,_,dx,_,_,rfl,h1,T.cl_Ground,T.nf_Ground_in_order,b2P _ _ _,io,_,rfl,.inr (SqT.of h2),fun l hl=>?_⟩
  obtain ⟨H6,e6,s6,h6⟩:=a1p hl (.lst xs);rw [e6]
  exact q l xs _ s6 hl h6 (h3.same s6)
theorem b9m (T:Txt K mg t):a0W P w K mg base CX0 2 t.f_z03 t.fd_z03 ["ground"] (b4s t):=by
 refine T.F_z03.ok a7l (fun vs H Q E h=>?_) (fun cdv A outer s H vs Q E hr h=>?_)
 ·obtain ⟨g,rs,pl,rfl,hG,hO,hrl,q⟩:=h;rfl
 ·obtain ⟨g,rs,pl,rfl,hG,hO,hrl,q⟩:=h
  refine ⟨_,‹A2 (A6 1 a7l.nd C6) (A2 (B6 (B7 (C7 0 T.cl_Ground T.me_Ground_rules (b3F T) T.b_z0l)) (A9 2 a7l.nd) (A4 (B6 (E4 (C1 2)) (A9 3 a7l.nd) (A4 (D2 (C9 Xv Yd Ye a1g (G5 1 3 (C4 A1)) (A0 (C1 2) A1))))))) (A4 (A8 1)))›,?_⟩
  rw [show start b6M [V.ref g]=[some (V.ref g),none,none,none] from rfl]
  obtain ⟨dx,io,bh,pr,_,_,_,hg1,_⟩:=id hG
  try simp only [a1u,a2b,a1T,a0l,Qi,Qj,a0Q,a2E,a1G,a0k,Qa,a0u,Qg,a0e]
  intro D hD
  obtain ⟨H1,e1,s1,h1⟩:=a1p hD (.dK []);rw [e1]
  refine ⟨g,dx,_,rfl,s1 _ _ hg1,a2q _ _ _ (by decide+kernel) (by decide+kernel) (by decide+kernel),g,rs,pl,rfl,hG.same s1,fun W ys H2 s2 hWn hW2 hR2=>?_⟩
  have hWD:W≠D:=fun z=>by have e:=s2 _ _ h1;rw [←z,hW2] at e;cases e
  have s02:=s1.trans s2
  have hDn:=s2 _ _ h1
  have hyl:=hR2.len
  try simp only [a1i]
  refine ⟨⟨_,SqL.of hW2⟩,?_⟩
  refine a2w (K:=K) (a:=W) (xs:=ys) (fun i σ H'=>∃(kvs:List (Key×V)) (x y:Option V),σ=[some (V.ref g),some (V.ref D),x,y]∧a3n H2 D H'∧a7P H2 H' D kvs (phs (rs.take i)))
   ⟨[],_,_,rfl,a3n.refl _ _,⟨hDn,Qk _,fun p=>.inl ⟨rfl,rfl⟩,fun p p' N e=>by cases e⟩⟩ (fun i σ H' _ h=>by obtain ⟨_,_,_,_,k,_⟩:=h;exact SqL.of (k _ _ hW2 hWD)) ?_ ?_
  ·rintro i v σ H3 hi ⟨kvs,x,y,rfl,k3,I3⟩
   have hil:i < rs.length:=by rw [←hyl];exact (Qr.mp hi).1
   obtain ⟨v',ev,p,rfl,hp⟩:=hR2.get i rs[i] (Qe hil)
   rw [hi] at ev;cases ev
   have hro:=hO _ (Xi hil)
   have CF:=a7Y T hro.1
   have esn:phs (rs.take (i+1))=phs (rs.take i)++rs[i].2.2.2.map fun p=>(p,rs[i].2.2.1):=by
    unfold phs
    rw [Xb hil,Ul];simp
   have hphl:(phs (rs.take i)).length≤252:=by
    have:=a6q (rs:=rs.take i) (fun r hr=>hO r (Zq hr))
    rw [Yb] at this;omega
   generalize rs[i]=r at hp hro CF esn
   generalize phs (rs.take i)=L0 at I3 esn hphl
   obtain ⟨dx',t0,hp1,hp2⟩:=hp
   have hpD:p≠D:=a0B hp1 hDn (by intro z;cases z)
   have htD:t0≠D:=a0B hp2 hDn (by intro z;cases z)
   have hbl:=hro.2.2.2.2.2
   try simp only [a0l,Qi,Qj,a0Q,b5n,a3l,a0k,Qb,Qa,a0e]
   refine ⟨p,_,dx',_,_,rfl,k3 _ _ hp1 hpD,CF.cl,CF.nb,a1E _ _ _,?_⟩
   try simp only [a1i]
   refine ⟨⟨_,SqT.of (k3 _ _ hp2 htD)⟩,?_⟩
   refine a4z (K:=K) (a:=t0) (xs:=r.2.2.2.map V.str) (fun j σ H'=>∃(kvs:List (Key×V)) (y:Option V),σ=[some (V.ref g),some (V.ref D),some (V.ref p),y]∧a3n H2 D H'∧a7P H2 H' D kvs (L0++(r.2.2.2.take j).map fun p=>(p,r.2.2.1)))
    ⟨kvs,_,rfl,k3,by rw [Uq,Jq,Qg];exact I3⟩ (fun i σ H' _ h=>by obtain ⟨_,_,_,k,_⟩:=h;exact SqT.of (k _ _ hp2 htD)) ?_ ?_
   ·clear I3 k3
    rintro j v σ H4 hj ⟨kvs,y,rfl,k4,I4⟩
    have hjl:j < r.2.2.2.length:=by simpa using (Qr.mp hj).1
    have ex:v=V.str r.2.2.2[j]:=by
     rw [Qo,Qe hjl] at hj
     exact (Option.some.inj hj).symm
    subst ex
    have ej:L0++(r.2.2.2.take (j+1)).map (fun p=>(p,r.2.2.1))=(L0++(r.2.2.2.take j).map fun p=>(p,r.2.2.1))++[(r.2.2.2[j],r.2.2.1)]:=by
     rw [Xb hjl,Xf,←Zo];rfl
    have hll:(L0++(r.2.2.2.take j).map fun p=>(p,r.2.2.1)).length≤256:=by
     rw [Xn,Qd,Yb];omega
    rw [ej]
    generalize (L0++(r.2.2.2.take j).map fun p=>(p,r.2.2.1))=L1 at I4 hll
    generalize r.2.2.2[j]=pq
    have hp4:=k4 _ _ hp1 hpD
    have hkl:=I4.len
    try simp only [a0l,a3Y,tBM,b0i,a0k,Qi,Qj,Qb,Qa,a5Z,a0u,a0i,a3l,a0e,a1i]
    refine ⟨a5E I4.d,by decide,fun N hN=>?_⟩
    obtain ⟨H6,e6,s6,h6⟩:=a1p hN (.lst []);rw [e6]
    have hNn:H2 N=none:=by
     cases e:H2 N with
     | none=>rfl
     | some o=>
      by_cases z:N=D
      ·rw [z,I4.d] at hN;cases hN
      ·rw [k4 _ _ e z] at hN;cases hN
    have hND:N≠D:=fun z=>by rw [z,I4.d] at hN;cases hN
    have hNp:N≠p:=fun z=>by rw [z,hp4] at hN;cases hN
    refine ⟨kvs,Sum.inr pq,s6 _ _ I4.d,rfl,Xp (show kvs.length≤1000 by omega) (by decide),fun u hu=>?_,fun hu=>?_⟩
    ·rcases I4.at_ pq with ⟨e,_⟩ | ⟨M,e,_⟩
     ·rw [e] at hu;cases hu
     rw [e] at hu;cases hu
     obtain ⟨hM,hMn,I7⟩:=(I4.same s6).old (h:=r.2.2.1) e
     have hsz:=b1l L1 pq
     try skip
     refine ⟨.inl ⟨rfl,_,SqL.of hM⟩,p,_,dx',_,_,rfl,s6 _ _ hp4,CF.cl,CF.nh,a1f _ _ _,M,_,_,rfl,rfl,hM,Xp (show _≤1000 by rw [Qd];omega) (by decide),?_⟩
     exact ⟨kvs,_,rfl,fun b o e n=>by rw [a0a (a0b e hMn)];exact s6 _ _ (k4 _ _ e n),I7⟩
    ·have I7:=I4.new (h:=r.2.2.1) hu hN hNn (.lst [])
     rw [e6] at I7
     have hN7:upd H6 D (.dK (a2C kvs (Sum.inr pq) (V.ref N))) N=some (.lst []):=by rw [a0a hND];exact h6
     try skip
     refine ⟨.inl ⟨rfl,_,SqL.of hN7⟩,p,_,dx',_,_,rfl,(by rw [a0a hpD];exact s6 _ _ hp4),CF.cl,CF.nh,a1f _ _ _,N,_,_,rfl,rfl,hN7,by decide,?_⟩
     exact ⟨_,_,rfl,fun b o e n=>by rw [a0a (a0b e hNn),a0a n];exact s6 _ _ (k4 _ _ e n),I7⟩
   ·rintro σ H4 ⟨kvs,y,rfl,k4,I4⟩
    rw [Qd,Xz,←esn] at I4
    exact ⟨kvs,_,_,rfl,k4,I4⟩
  ·rintro σ H3 ⟨kvs,x,y,rfl,k3,I3⟩
   rw [show rs.take ys.length=rs by rw [hyl];exact Xz] at I3
   try simp only [a1o,a0k,Qb,Qa,a0e]
   exact q D H3 (fun c o e=>k3 _ _ (s02 _ _ e) (a0b e hD)) hD (I3.hds hO hrl)
theorem b7m (T:Txt K mg t):a0W P w K mg base CX0 2 t.f_z1i t.fd_z1i ["heads","came"] a8w:=by
 refine T.F_z1i.ok a7a (fun vs H Q E h=>?_) (fun cdv A outer s H vs Q E hr h=>?_)
 ·obtain ⟨hd,cm,rs,F,rfl,hoff,hcm,hFl,hO,hrl,q⟩:=h;rfl
 ·obtain ⟨hd,cm,rs,F,rfl,hoff,hcm,hFl,hO,hrl,q⟩:=h
  refine ⟨_,‹A2 (A6 2 a7a.nd C6) (A2 (F2 (B6 (D4 1) (A9 3 a7a.nd) (A4 (B6 (B7 (F5 0 3 (C4 A1))) (A9 4 a7a.nd) (A2 (C2 2 4 B8) (A4 (C2 2 (A7 (a3C T) T.g_z1d T.F_z1d.kp T.b_z1d .nil (A0 4 A1)) B8))))))) (A4 (A8 2)))›,?_⟩
  rw [show start b7v [V.ref hd,V.ref cm]=[some (V.ref hd),some (V.ref cm),none,none,none] from rfl]
  try simp only [a1u,a2b,a1T,a0l,Qi,Qj]
  intro D hD
  obtain ⟨H1,e1,s1,h1⟩:=a1p hD (.dK []);rw [e1]
  have hcD:cm≠D:=fun z=>by rw [z,hD] at hcm;cases hcm
  refine a9V (kn:=F.map (·.1)) (fun H0 i σ' H'=>∃(x y:Option V) (T:List Str),σ'=[some (V.ref hd),some (V.ref cm),some (V.ref D),x,y]∧a3n H0 D H'∧H' D=some (.dK (bv T))∧T.Nodup∧T.length≤600 * i∧∀z,z∈T↔tch rs ((F.map (·.1)).take i) z) (s1 _ _ hcm) (a2I F) (a0E rfl) (fun o=>⟨_,_,[],rfl,a3n.refl _ _,by rw [a0a hcD.symm];exact h1,Zj,Xm _,fun z=>⟨fun w=>(by cases w),fun ⟨r,_,⟨p,_,w⟩,_⟩=>(by cases w)⟩⟩) ?_ ?_ ?_
  ·rintro o i σ' H' ⟨x,y,T,rfl,k,_⟩
   exact k _ _ a0d hcD
  ·rintro o i hi σ' H' rt bk ⟨x,y,T,rfl,k,hT,hnd,hTl,hTm⟩
   have hoff':∀H2,a3n H' D H2→a3E H2 hd rs:=fun H2 k2=>hoff H2 fun b o e n=>k2 _ _ (k _ _ (by rw [a0a (fun z=>n (by rw [z]))];exact s1 _ _ e) (a0b e hD)) (a0b e hD)
   have hi100:i < 100:=by rw [Qd] at hi;omega
   have esn:∀z,tch rs ((F.map (·.1)).take (i+1)) z↔tch rs ((F.map (·.1)).take i) z∨∃r∈rs,(F.map (·.1))[i]∈r.2.2.2∧(z=r.2.2.1∨z=a0y r.2.2.1):=fun z=>by
    rw [Xb hi]
    constructor
    ·rintro ⟨r,hr,⟨p,hp,hm⟩,hz⟩
     rcases Qq.mp hm with w | w
     ·exact .inl ⟨r,hr,⟨p,hp,w⟩,hz⟩
     ·exact .inr ⟨r,hr,Qz.mp w ▸ hp,hz⟩
    ·rintro (⟨r,hr,⟨p,hp,hm⟩,hz⟩ | ⟨r,hr,hp,hz⟩)
     ·exact ⟨r,hr,⟨p,hp,Xl _ hm⟩,hz⟩
     ·exact ⟨r,hr,⟨_,hp,Qt _ (Qz.mpr rfl)⟩,hz⟩
   generalize (F.map (·.1))[i]=pq at esn
   obtain ⟨kvs,hk,hv⟩:=hoff' H' (a3n.refl _ _)
   have hdD:hd≠D:=fun z=>by
    obtain ⟨kvs2,hk2,_⟩:=hoff H (fun _ _ e _=>e)
    rw [z,hD] at hk2;cases hk2
   try simp only [a0l,Qi,Qj,a0Q,a2E,a6N,a0k,Qa,Qb,a5Z,a0u,a0e,a1i]
   refine ⟨a5E hk,by decide,fun N hN=>?_⟩
   obtain ⟨H2,e2,s2,h2⟩:=a1p hN (.lst []);rw [e2]
   refine ⟨_,a2S.k (k:=(Sum.inr pq:Key)) (s2 _ _ hk),?_⟩
   have hND:N≠D:=fun z=>by rw [z,hT] at hN;cases hN
   have hcase:∃(L:Addr) (hs:List Str),(a0R kvs (Sum.inr pq:Key)).getD (.ref N)=.ref L∧H2 L=some (.lst (hs.map V.str))∧hs.length≤300∧∀h:Str,h∈hs↔∃r∈rs,pq∈r.2.2.2∧r.2.2.1=h:=by
    rcases hv pq with ⟨e,g⟩ | ⟨L,hs,e,g1,g2,g3⟩
    ·rw [e];exact ⟨N,[],rfl,h2,Xm _,fun h=>⟨fun w=>(by cases w),fun ⟨r,hr,hp,_⟩=>absurd hp (g r hr)⟩⟩
    ·rw [e];exact ⟨L,hs,rfl,s2 _ _ g1,g2,g3⟩
   obtain ⟨L,hs,eL,hL,hsl,hsm⟩:=hcase
   have hT2:=s2 _ _ hT
   have hLD:L≠D:=a0B hL hT2 (by intro z;cases z)
   have hho:∀h∈hs,h.length≤40:=fun h hh=>by
    obtain ⟨r,hr,_,rfl⟩:=(hsm h).mp hh
    exact (hO r hr).2.2.2.1.2
   rw [eL]
   try simp only [a1i]
   refine ⟨⟨_,SqL.of hL⟩,?_⟩
   refine a2w (K:=K) (a:=L) (xs:=hs.map V.str) (fun j σ H'=>∃(y:Option V) (T':List Str),σ=[some (V.ref hd),some (V.ref cm),some (V.ref D),some (V.str pq),y]∧a3n H2 D H'∧H' D=some (.dK (bv T'))∧T'.Nodup∧T'.length≤600 * i+2 * j∧∀z,z∈T'↔z∈T∨∃h∈hs.take j,z=h∨z=a0y h)
    ⟨_,T,rfl,a3n.refl _ _,hT2,hnd,by omega,fun z=>⟨.inl,fun w=>w.elim id fun ⟨_,h,_⟩=>(by cases h)⟩⟩ (fun j σ H' _ h=>by obtain ⟨_,_,_,k,_⟩:=h;exact SqL.of (k _ _ hL hLD)) ?_ ?_
   ·rintro j v σ H3 hj ⟨y,T',rfl,k3,hT3,hnd3,hTl3,hTm3⟩
    have hjl:j < hs.length:=by simpa using (Qr.mp hj).1
    have ex:v=V.str hs[j]:=by
     rw [Qo,Qe hjl] at hj
     exact (Option.some.inj hj).symm
    subst ex
    have hho':=hho _ (Xi hjl)
    rw [Xb hjl]
    generalize hs[j]=h0 at hho'
    have l1:=a1b [h0] T'
    have l2:=a1b [a0y h0] (a0V T' h0)
    try simp only [a0l,a1u,a3b,tC,a0k,Qi,Qj,Qb,Qa,a0K,a0i,a0u,Qg,a0e]
    refine ⟨D,_,rfl,b4D hT3 (by omega) h0,h0,rfl,by omega,?_⟩
    try simp only []
    refine ⟨D,_,rfl,b4D a0d (by simp at l1;show (a0V T' h0).length≤_;omega) (a0y h0),_,a0V (a0V T' h0) (a0y h0),rfl,fun b o e n=>?_,a0d,?_,?_,fun z=>?_⟩
    ·rw [a0a n,a0a n];exact k3 _ _ e n
    ·exact a1v [h0,a0y h0] hnd3
    ·have:=a1b [h0,a0y h0] T'
     simp at this
     show (a0V (a0V T' h0) (a0y h0)).length≤_
     omega
    ·rw [a5a,a5a,hTm3]
     constructor
     ·rintro (((w | ⟨h,hh,w⟩) | w) | w)
      ·exact .inl w
      ·exact .inr ⟨h,Xl _ hh,w⟩
      ·exact .inr ⟨h0,Qt _ (Qz.mpr rfl),.inl w⟩
      ·exact .inr ⟨h0,Qt _ (Qz.mpr rfl),.inr w⟩
     ·rintro (w | ⟨h,hh,w⟩)
      ·exact .inl (.inl (.inl w))
      ·rcases Qq.mp hh with m | m
       ·exact .inl (.inl (.inr ⟨h,m,w⟩))
       ·rw [Qz.mp m] at w
        exact w.elim (fun w=>.inl (.inr w)) .inr
   ·rintro σ H3 ⟨y,T',rfl,k3,hT3,hnd3,hTl3,hTm3⟩
    rw [Qd,Xz] at hTm3
    refine ⟨_,_,T',rfl,fun b o e n=>k3 _ _ (s2 _ _ (k _ _ e n)) n,hT3,hnd3,by rw [Qd] at hTl3;omega,fun z=>?_⟩
    rw [hTm3,hTm,esn]
    refine or_congr Iff.rfl ⟨fun ⟨h,hh,w⟩=>?_,fun ⟨r,hr,hp,w⟩=>⟨r.2.2.1,(hsm _).mpr ⟨r,hr,hp,rfl⟩,w⟩⟩
    obtain ⟨r,hr,hp,rfl⟩:=(hsm h).mp hh
    exact ⟨r,hr,hp,w⟩
  ·rintro o σ' H' ⟨x,y,T,rfl,k,hT,hnd,hTl,hTm⟩
   rw [Xz] at hTm
   try simp only [a1o,a0k,Qb,Qa,a0e]
   refine q D T _ (fun b u e=>?_) hD (by rw [a0a hcD.symm];exact hT) hnd ?_ hTm
   ·by_cases z:b=cm
    ·subst z;rw [a0d,←hcm];exact e
    ·rw [a0a z];exact k _ _ (by rw [a0a z];exact s1 _ _ e) (a0b e hD)
   ·have:=a1h hnd (m:=rs.flatMap fun r=>[r.2.2.1,a0y r.2.2.1]) fun z hz=>by
     obtain ⟨r,hr,_,w⟩:=(hTm z).mp hz
     exact Za.mpr ⟨r,hr,by simpa using w⟩
    have h2:=a8F rs
    omega
theorem b3c (T:Txt K mg t):a0W P w K mg base CX0 1 t.f_z0b t.fd_z0b ["self","statement"] (a8l t):=by
 refine T.F_z0b.ok b7T (fun vs H Q E h=>?_) (fun cdv A outer s H vs Q E hr h=>?_)
 ·obtain ⟨g,h,rs,pl,rfl,hG,q⟩:=h;rfl
 ·obtain ⟨g,h,rs,pl,rfl,hG,q⟩:=h
  refine ⟨_,‹A4 (A8 (D5 a1z T.z_list a1w (A0 (F5 (C1 0) 1 (C4 A1)) A1)))›,?_⟩
  rw [show start b8l [V.ref g,V.str h]=[some (V.ref g),some (V.str h)] from rfl]
  obtain ⟨dx,io,bh,pr,xs,kvs,kps,h1,h2,h3,h4,h5,_⟩:=hG
  try simp only [a1o,tCB,a0i,a6N,a3l,a0k,Qa,Qb,a5Z,a0u,a0e]
  refine ⟨g,_,dx,_,_,rfl,h1,T.cl_Ground,T.nf_Ground_by_head,b7q _ _ _,?_⟩
  try simp only [a1i]
  refine ⟨a5E h4,by decide,fun N hN=>?_⟩
  obtain ⟨H6,e6,s6,h6⟩:=a1p hN (.lst []);rw [e6]
  refine ⟨_,a2S.k (k:=(Sum.inr h:Key)) (s6 _ _ h4),?_⟩
  rcases h5 h with ⟨e,g5⟩ | ⟨L,ys,e,g2,g4⟩
  ·rw [e]
   refine ⟨N,_,rfl,.inl (SqL.of h6),fun l hl=>?_⟩
   obtain ⟨H7,e7,s7,h7⟩:=a1p hl (.lst []);rw [e7]
   refine q l [] _ (s6.trans s7) (none_of s6 hl) h7 ?_
   rw [g5];exact ⟨rfl,fun i r e=>by simp at e⟩
  ·rw [e]
   refine ⟨L,_,rfl,.inl (SqL.of (s6 _ _ g2)),fun l hl=>?_⟩
   obtain ⟨H7,e7,s7,h7⟩:=a1p hl (.lst ys);rw [e7]
   exact q l ys _ (s6.trans s7) (none_of s6 hl) h7 (g4.same (s6.trans s7))
theorem b3y (T:Txt K mg t):a0W P w K mg base CX0 2 t.f_z09 t.fd_z09 ["self","statement"] (a8O t):=by
 refine T.F_z09.ok b8A (fun vs H Q E h=>?_) (fun cdv A outer s H vs Q E hr h=>?_)
 ·obtain ⟨g,h,rs,pl,rfl,hG,hO,hhl,q⟩:=h;rfl
 ·obtain ⟨g,h,rs,pl,rfl,hG,hO,hhl,q⟩:=h
  refine ⟨_,‹A4 (A8 (D0 0 T.cl_Ground T.me_Ground_ruling (b3c T) T.b_z0b (A0 (A7 (a3C T) T.g_z1d T.F_z1d.kp T.b_z1d .nil (A0 1 A1)) A1)))›,?_⟩
  rw [show start b9j [V.ref g,V.str h]=[some (V.ref g),some (V.str h)] from rfl]
  obtain ⟨dx,io,bh,pr,_,_,_,hg1,_⟩:=id hG
  try simp only [a1o,a1G,a0k,Qa,a0i,a0K,Qb,a0u,Qg,a0e]
  refine ⟨g,dx,_,rfl,hg1,a2q _ _ _ (by decide+kernel) (by decide+kernel) (by decide+kernel),h,rfl,hhl,?_⟩
  refine ⟨g,a0y h,rs,pl,rfl,hG,fun W ys H3 s3 hWn hW3 hR3=>?_⟩
  obtain ⟨zr,ez1,ez2,hz⟩:=hR3.zip (fun r hr=>hO r (Qv.mp hr).1)
  subst ez1
  exact q W zr H3 s3 hWn hW3 hz ez2
theorem b7F (T:Txt K mg t):a0W P w K mg base CX0 1 t.f_z0k t.fd_z0k ["self"] (a0U false):=by
 refine T.F_z0k.ok b6R (fun vs H Q E h=>?_) (fun cdv A outer s H vs Q E hr h=>?_)
 ·obtain ⟨x,rfl,q⟩:=h;rfl
 ·obtain ⟨x,rfl,q⟩:=h
  refine ⟨_,‹A4 (A8 B8)›,?_⟩
  rw [show start b8U [x]=[some (x)] from rfl]
  try simp only [a1o,tC]
  exact q
theorem a9M (T:Txt K mg t):a0W P w K mg base CX0 1 t.f_z0p t.fd_z0p ["self"] (a0U true):=by
 refine T.F_z0p.ok b9B (fun vs H Q E h=>?_) (fun cdv A outer s H vs Q E hr h=>?_)
 ·obtain ⟨x,rfl,q⟩:=h;rfl
 ·obtain ⟨x,rfl,q⟩:=h
  refine ⟨_,‹A4 (A8 B8)›,?_⟩
  rw [show start b7t [x]=[some (x)] from rfl]
  try simp only [a1o,tC]
  exact q
theorem b3E (T:Txt K mg t):a0W P w K mg base CX0 2 t.f_z05 t.fd_z05 ["self","statement"] (a8d t):=by
 refine T.F_z05.ok b7k (fun vs H Q E h=>?_) (fun cdv A outer s H vs Q E hr h=>?_)
 ·obtain ⟨g,h,rs,pl,rfl,hG,hO,hrl,q⟩:=h;rfl
 ·obtain ⟨g,h,rs,pl,rfl,hG,hO,hrl,q⟩:=h
  refine ⟨_,‹A4 (A8 (C0 (B4 (a0c a8n) b5l ["rule"] [none]) (B7 (D0 0 T.cl_Ground T.me_Ground_ruling (b3c T) T.b_z0b (A0 1 A1))) (A9 0 (show Xo (["rule"]:List Str) by decide+kernel)) (C8 (C5 (E0 (C7 0 T.cl_Fact T.me_Fact_speaks (a9M T) T.b_z0p) (E0 (C7 0 T.cl_Sure T.me_Sure_speaks (a9M T) T.b_z0p) (E0 (C7 0 T.cl_Most T.me_Most_speaks (a9M T) T.b_z0p) (C7 0 T.cl_Block T.me_Block_speaks (b7F T) T.b_z0k)))))) 0))›,?_⟩
  rw [show start b5l [V.ref g,V.str h]=[some (V.ref g),some (V.str h)] from rfl]
  obtain ⟨dx,io,bh,pr,_,_,_,hg1,_⟩:=id hG
  try simp only [a1o,a0C,a2E,a1G,a0k,Qa,a0i,Qb,a0u,Qg,a0e]
  refine ⟨g,dx,_,rfl,hg1,a2q _ _ _ (by decide+kernel) (by decide+kernel) (by decide+kernel),g,h,rs,pl,rfl,hG,fun W ys H3 s3 hWn hW3 hR3=>?_⟩
  obtain ⟨zr,ez1,ez2,hz⟩:=hR3.zip (fun r hr=>hO r (Qv.mp hr).1)
  subst ez1
  have hzl:zr.length≤63:=by
   have:=congrArg Yp ez2
   rw [Qd] at this
   rw [this];exact Qh (Xa _ _) hrl
  try simp only [a1i]
  refine ⟨⟨_,SqL.of hW3⟩,?_⟩
  refine a1Q zr hW3 (by omega) hz [] rfl spk (fun p=>p.1) (fun x r H' R ho hr s' hR=>?_) (fun x r H' R ho hr s' hR=>?_) (fun W2 H4 hW2n s4 hW4=>?_)
  ·try simp only [tB]
   refine c2p ho.1 (a0E rfl) hr ⟨by decide+kernel,by decide+kernel,by decide+kernel⟩ ?_
   rw [a6p ho.1]
   try simp only [a4p,a2i]
   exact hR _ (a0j.refl _)
  ·try simp only [a0k,Qa,a0e]
   exact hR _ (a0j.refl _)
  refine q W2 (zr.filter fun p=>spk p.2) H4 (s3.trans s4) (none_of s3 hW2n) hW4 (fun p hp=>(hz.same s4) p (Qv.mp hp).1) ?_
  rw [←ez2,Zz];rfl
theorem a7k (T:Txt K mg t):a0W P w K mg base CX0 1 t.f_z11 t.fd_z11 ["statements","some"] a6T:=by
 refine T.F_z11.ok b9g (fun vs H Q E h=>?_) (fun cdv A outer s H vs Q E hr h=>?_)
 ·obtain ⟨t0,v,bd,S,rfl,ht,hl,hD,q⟩:=h;rfl
 ·obtain ⟨t0,v,bd,S,rfl,ht,hl,hD,q⟩:=h
  refine ⟨_,‹A4 (A8 (B9 (a2H rfl) T.z_all a5w (A0 (C0 (B4 (a0c a7T) b5u ["statement","some"] [none,some 1]) (E4 0) (A9 0 (show Xo (["statement","some"]:List Str) by decide+kernel)) D1 (E0 (F6 (a3f (a3m hr) ‹0› ‹1›)) (E8 (a9y (K:=K) rfl) 0 1 (by with_unfolding_all rfl)))) A1)))›,?_⟩
  rw [show start b5u [V.ref t0,v]=[some (V.ref t0),some (v)] from rfl]
  try simp only [a1o,tCB,a0i,a0u,a0C,b5n,a0k,Qa,a0e,a1i]
  refine ⟨⟨_,SqT.of ht⟩,?_⟩
  refine a3R (a9b (xs:=bd.map V.str)) (Qh (show (bd.map V.str).length≤1000 by simpa using hl) (by decide)) [some v] rfl (fun i v=>∃hi:i < bd.length,v=.bl (decide (bd[i]∈S))) (fun H' s=>SqT.of (s _ _ ht)) (fun i H' R hi s hR=>?_) (fun E1 H1 ys hEn s1 hE hl1 hv1=>?_)
  ·have hi':i < bd.length:=by simpa using hi
   have e2:((bd.map V.str)[i]?).getD .non=V.str bd[i]:=by rw [Qo,Qe hi'];rfl
   rw [e2]
   exact a8t (hD.same s) (a0E rfl) (a0E rfl) (hR _ _ (a0j.refl _) ⟨hi',rfl⟩)
  have eys:ys=(bd.map fun q=>decide (q∈S)).map V.bl:=by
   refine Vb fun i=>?_
   rw [Qo,Qo]
   by_cases hi:i < ys.length
   ·obtain ⟨hi',e⟩:=hv1 i _ (Qe hi)
    rw [Qe hi,e,Qe hi'];rfl
   ·rw [Yk (by omega),Yk (by rw [Qd] at hl1;omega)];rfl
  subst eys
  refine ⟨E1,_,rfl,SqL.of hE,?_⟩
  have:=q _ s1
  rw [Wy];exact this
theorem b2Y (T:Txt K mg t):a0W P w K mg base CX0 1 t.f_z12 t.fd_z12 ["statements","some"] b8d:=by
 refine T.F_z12.ok b7B (fun vs H Q E h=>?_) (fun cdv A outer s H vs Q E hr h=>?_)
 ·obtain ⟨t0,v,bd,S,rfl,ht,hl,hD,q⟩:=h;rfl
 ·obtain ⟨t0,v,bd,S,rfl,ht,hl,hD,q⟩:=h
  refine ⟨_,‹A4 (A8 (B9 (a1R rfl) T.z_any a3L (A0 (C0 (B4 (a0c a8h) b4V ["statement","some"] [none,some 1]) (E4 0) (A9 0 (show Xo (["statement","some"]:List Str) by decide+kernel)) D1 (E0 (F6 (a3f (a3m hr) ‹0› ‹1›)) (E8 (a9y (K:=K) rfl) 0 1 (by with_unfolding_all rfl)))) A1)))›,?_⟩
  rw [show start b4V [V.ref t0,v]=[some (V.ref t0),some (v)] from rfl]
  try simp only [a1o,tCB,a0i,a0u,a0C,b5n,a0k,Qa,a0e,a1i]
  refine ⟨⟨_,SqT.of ht⟩,?_⟩
  refine a3R (a9b (xs:=bd.map V.str)) (Qh (show (bd.map V.str).length≤1000 by simpa using hl) (by decide)) [some v] rfl (fun i v=>∃hi:i < bd.length,v=.bl (decide (bd[i]∈S))) (fun H' s=>SqT.of (s _ _ ht)) (fun i H' R hi s hR=>?_) (fun E1 H1 ys hEn s1 hE hl1 hv1=>?_)
  ·have hi':i < bd.length:=by simpa using hi
   have e2:((bd.map V.str)[i]?).getD .non=V.str bd[i]:=by rw [Qo,Qe hi'];rfl
   rw [e2]
   exact a8t (hD.same s) (a0E rfl) (a0E rfl) (hR _ _ (a0j.refl _) ⟨hi',rfl⟩)
  have eys:ys=(bd.map fun q=>decide (q∈S)).map V.bl:=by
   refine Vb fun i=>?_
   rw [Qo,Qo]
   by_cases hi:i < ys.length
   ·obtain ⟨hi',e⟩:=hv1 i _ (Qe hi)
    rw [Qe hi,e,Qe hi'];rfl
   ·rw [Yk (by omega),Yk (by rw [Qd] at hl1;omega)];rfl
  subst eys
  refine ⟨E1,_,rfl,SqL.of hE,?_⟩
  have:=q _ s1
  rw [Uh];exact this
theorem b9x (T:Txt K mg t):a0W P w K mg base CX0 1 t.f_z0m t.fd_z0m ["self","one","other"] (b4w t):=by
 refine T.F_z0m.ok b7j (fun vs H Q E h=>?_) (fun cdv A outer s H vs Q E hr h=>?_)
 ·obtain ⟨g,x,y,rs,pl,r1,r2,rfl,hG,h1,h2,o1,o2,q⟩:=h;rfl
 ·obtain ⟨g,x,y,rs,pl,r1,r2,rfl,hG,h1,h2,o1,o2,q⟩:=h
  refine ⟨_,‹A4 (A8 (F6 (a3f (a3m hr) ‹C3 (A0 (C1 1) (A0 (C1 2) A1))› ‹C1 0›)))›,?_⟩
  rw [show start b8G [V.ref g,V.ref x,V.ref y]=[some (V.ref g),some (V.ref x),some (V.ref y)] from rfl]
  obtain ⟨dx,io,bh,pr,_,_,kps,hg1,_,_,_,_,hk,hp⟩:=id hG
  obtain ⟨_,e1,dx1,t1,a1,b1⟩:=h1
  cases e1
  obtain ⟨_,e2,dx2,t2,a2,b2⟩:=h2
  cases e2
  have C1:=a7Y T o1.1
  have C2:=a7Y T o2.1
  try simp only [a1o,b7y,a8b,a0i,a3l,a0k,Qb,Qa,a0u,a0e]
  refine ⟨x,_,dx1,_,_,rfl,a1,C1.cl,C1.nl,a4w _ _ _,y,_,dx2,_,_,rfl,a2,C2.cl,C2.nl,a4w _ _ _,by simp only [Qs,Xk];decide,fun c hc=>?_⟩
  obtain ⟨H1,e1,s1,h1⟩:=a1p hc (.tup [V.str r1.2.1,V.str r2.2.1]);rw [e1]
  refine ⟨g,_,dx,_,_,rfl,s1 _ _ hg1,T.cl_Ground,T.nf_Ground_pairs,b3K _ _ _,pr,_,rfl,a2S.t (k:=[Sum.inr r1.2.1,Sum.inr r2.2.1]) (s1 _ _ hk) h1,?_⟩
  have:=q _ s1
  rw [hp]
  by_cases z:(r1.2.1,r2.2.1)∈pl
  ·rw [if_pos z];rw [decide_eq_true z] at this;exact this
  ·rw [if_neg z];rw [decide_eq_false z] at this;exact this
theorem b3C (T:Txt K mg t):a0W P w K mg base CX0 2 t.f_z13 t.fd_z13 ["ground","rule","beaters"] (b1o t):=by
 refine T.F_z13.ok b7z (fun vs H Q E h=>?_) (fun cdv A outer s H vs Q E hr h=>?_)
 ·obtain ⟨g,x,L,rs,pl,r,zr,rfl,hG,hx,hro,hL,hz,hzl,q⟩:=h;rfl
 ·obtain ⟨g,x,L,rs,pl,r,zr,rfl,hG,hx,hro,hL,hz,hzl,q⟩:=h
  refine ⟨_,‹A4 (A8 (B9 (a1R rfl) T.z_any a3L (A0 (C0 (B4 (a0c a8f) b3W ["beater","rule","ground"] [none,some 1,some 0]) (B7 2) (A9 0 (show Xo (["beater","rule","ground"]:List Str) by decide+kernel)) D1 (D0 2 T.cl_Ground T.me_Ground_beats (b9x T) T.b_z0m (A0 0 (A0 1 A1)))) A1)))›,?_⟩
  rw [show start b3W [V.ref g,V.ref x,V.ref L]=[some (V.ref g),some (V.ref x),some (V.ref L)] from rfl]
  try simp only [a1o,tCB,a0i,a0u,a0C,a2E,a0k,Qb,Qa,a0e,a1i]
  refine ⟨⟨_,SqL.of hL⟩,?_⟩
  refine a1Q zr hL (by omega) hz [some (V.ref x),some (V.ref g)] rfl (fun _=>true) (fun p=>V.bl (decide ((p.2.2.1,r.2.1)∈pl))) (fun y r' H' R ho hr s' hR=>hR _ (a0j.refl _)) (fun y r' H' R ho hr s' hR=>?_) (fun B H5 hBn s5 hB5=>?_)
  ·obtain ⟨dx,io,bh,pr,_,_,_,hg1,_⟩:=id (hG.same s')
   try simp only [a1G,a0k,Qb,Qa,a0i,a0u,Qg,a0e]
   exact ⟨g,dx,_,rfl,hg1,a2q _ _ _ (by decide+kernel) (by decide+kernel) (by decide+kernel),g,y,x,rs,pl,r',r,rfl,hG.same s',⟨y,rfl,hr⟩,hx.same s',ho,hro,fun H'' s''=>hR _ s''⟩
  have hB5':H5 B=some (.lst ((zr.map fun p=>decide ((p.2.2.1,r.2.1)∈pl)).map V.bl)):=by
   rw [hB5,Um.mpr (fun _ _=>rfl),Qy];rfl
  refine ⟨B,_,rfl,SqL.of hB5',?_⟩
  have:=q _ s5
  rw [show ((zr.map fun p=>decide ((p.2.2.1,r.2.1)∈pl)).any id)=btn pl (zr.map (·.2)) r from by unfold btn;rw [Uh,Uh];rfl]
  exact this
theorem b3m (T:Txt K mg t):a0W P w K mg base CX0 3 t.f_z1e t.fd_z1e ["ground","sures","held","refused","q"] (a8S t a1I):=by
 refine T.F_z1e.ok b3H (fun vs H Q E h=>?_) (fun cdv A outer s H vs Q E hr h=>?_)
 ·obtain ⟨g,v1,v2,v3,q0,rs,pl,S,U,D,rfl,hG,hO,hrl,h1,h2,h3,hql,q⟩:=h;rfl
 ·obtain ⟨g,v1,v2,v3,q0,rs,pl,S,U,D,rfl,hG,hO,hrl,h1,h2,h3,hql,q⟩:=h
  refine ⟨_,‹A2 (B3 (F3 (D6 (a3f (a3m hr) ‹4› ‹1›)) (B1 a4k 4 1 (by with_unfolding_all rfl))) (A4 (A8 B8)) B5) (A2 (A6 5 b3H.nd (C0 (B4 (a0c a6w) b1S ["rule","held"] [none,some 2]) (B7 (D0 0 T.cl_Ground T.me_Ground_speaking (b3E T) T.b_z05 (A0 4 A1))) (A9 0 (show Xo (["rule","held"]:List Str) by decide+kernel)) (C8 (C5 (A7 (a7k T) T.g_z11 T.F_z11.kp T.b_z11 .nil (A0 (D7 0) (A0 1 A1))))) 0)) (E1 (B3 (E5 (F7 (B1 (a1W hr.units) (B9 a1a T.z_len a1c (A0 5 A1)) A3 (a0v _)) (F8 (F3 (D6 (a3f (a3m hr) ‹A7 (a3C T) T.g_z1d T.F_z1d.kp T.b_z1d .nil (A0 4 A1)› ‹1›)) (B1 a4k (A7 (a3C T) T.g_z1d T.F_z1d.kp T.b_z1d .nil (A0 4 A1)) 1 (by with_unfolding_all rfl)))))) (A4 (A8 B8)) B5) (A4 (A8 (B9 (a2H rfl) T.z_all a5w (A0 (C0 (B4 (a0c a6w) b1S ["rule","refused","ground","standing"] [none,some 3,some 0,some 5]) (B7 (D0 0 T.cl_Ground T.me_Ground_against (b3y T) T.b_z09 (A0 4 A1))) (A9 0 (show Xo (["rule","refused","ground","standing"]:List Str) by decide+kernel)) D1 (G8 (A7 (b2Y T) T.g_z12 T.F_z12.kp T.b_z12 .nil (A0 (D7 0) (A0 1 A1))) (G6 (A7 (b3C T) T.g_z13 T.F_z13.kp T.b_z13 .nil (A0 2 (A0 0 (A0 3 A1))))))) A1))))))›,?_⟩
  rw [show start b1S [V.ref g,v1,v2,v3,V.str q0]=[some (V.ref g),some (v1),some (v2),some (v3),some (V.str q0),none] from rfl]
  obtain ⟨dx,io,bh,pr,_,_,_,hg1,_⟩:=id hG
  try simp only [a1u,a3D,a1o,tC,a1F,a2b,a0l,Qi,Qj,a0C,a2E,a1G,a0k,Qa,a0i,Qb,a0u,Qg,a0e]
  refine a3s h1 (a0E rfl) (a0E rfl) ?_
  try simp only [decide_eq_true_eq]
  refine a2k (fun c0=>?_) (fun c0=>?_)
  ·have:=q H (a0j.refl _)
   unfold a1I at this
   rw [if_pos c0] at this
   exact this
  refine ⟨g,dx,_,rfl,hg1,a2q _ _ _ (by decide+kernel) (by decide+kernel) (by decide+kernel),g,q0,rs,pl,rfl,hG,hO,hrl,fun W zr H3 s3 hWn hW3 hz ez=>?_⟩
  have hzl:zr.length≤63:=by
   have:=congrArg Yp ez
   rw [Qd] at this
   rw [this];exact Qh (Xa _ _) (Qh (Xa _ _) hrl)
  try simp only [a1i]
  refine ⟨⟨_,SqL.of hW3⟩,?_⟩
  refine a1Q zr hW3 (by omega) hz [some v2] rfl (fun r=>a3W r.2.2.2 U) (fun p=>p.1) (fun x r H' R ho hr s' hR=>?_) (fun x r H' R ho hr s' hR=>?_) (fun W2 H4 hW2n s4 hW4=>?_)
  ·have CF:=a7Y T ho.1
   obtain ⟨dx',t0,g1,g2⟩:=hr
   try simp only [tB,a0K,a0i,a3l,a0k,Qa,Qb,a0u,Qg,a0e]
   refine ⟨x,_,dx',_,_,rfl,g1,CF.cl,CF.nb,a1E _ _ _,t0,v2,r.2.2.2,U,rfl,g2,by have:=ho.2.2.2.2.2;omega,h2.same (s3.trans s'),fun H'' s''=>?_⟩
   try simp only [a2i]
   exact hR _ s''
  ·try simp only [a0k,Qa,a0e]
   exact hR _ (a0j.refl _)
  have s04:=s3.trans s4
  have hz4:a8r t H4 (zr.filter fun p=>a3W p.2.2.2.2 U):=fun p hp=>(hz.same s4) p (Qv.mp hp).1
  have hzl4:(zr.filter fun p=>a3W p.2.2.2.2 U).length≤63:=Qh (Xa _ _) hzl
  have est:(zr.filter fun p=>a3W p.2.2.2.2 U).map (·.2)=a1Y rs U q0:=by
   unfold a1Y
   rw [←ez,Zz];rfl
  generalize (zr.filter fun p=>a3W p.2.2.2.2 U)=zs at hW4 hz4 hzl4 est
  have hneed:∀H',a0j H H'→(a1Y rs U q0=[]∨a0y q0∈S)→Q (.bl false) H':=fun H' s' hc=>by
   have:=q H' s'
   unfold a1I at this
   rw [if_neg c0,if_pos hc] at this
   exact this
  refine ⟨fun σ' H'=>σ'=[some (V.ref g),some v1,some v2,some v3,some (V.str q0),some (V.ref W2)]∧H'=H4∧¬(a1Y rs U q0=[]∨a0y q0∈S),?_,?_⟩
  ·try simp only [a3D,tOr,a1q,tOp,tCB,a0i,a0k,Qb,Qa,a0u,tC,a1o,a1F,if_true,a0e]
   refine a1A (SqL.of hW4) ?_
   try simp only [a2y,a2i,decide_eq_true_eq]
   refine a2k (fun c1=>?_) (fun c1=>?_)
   ·refine hneed _ s04 (.inl ?_)
    rw [←est]
    have:zs.length=0:=by rw [Qd] at c1;omega
    rw [Jt.mp this];rfl
   refine a3s (h1.same s04) (x:=a0y q0) (fun R hR=>?_) (a0E rfl) ?_
   ·try simp only [a0K,a0i,a0k,Qb,Qa,a0u,Qg,a0e]
    exact ⟨q0,rfl,hql,hR⟩
   try simp only [decide_eq_true_eq]
   refine a2k (fun c2=>hneed _ s04 (.inr c2)) (fun c2=>⟨(by trivial),(by trivial),fun z=>z.elim (fun w=>c1 ?_) c2⟩)
   rw [←est] at w
   have:zs.length=0:=by have:=congrArg Yp w;rw [Qd] at this;exact this
   rw [Qd,this];rfl
  rintro σ' H5 ⟨rfl,rfl,hc⟩
  try simp only [a1o,tCB,a0i,a0u,a0C,a2E,a1G,a0k,Qa,Qb,Qg,a0e]
  refine ⟨g,dx,_,rfl,s04 _ _ hg1,a2q _ _ _ (by decide+kernel) (by decide+kernel) (by decide+kernel),g,q0,rs,pl,rfl,hG.same s04,hO,hql,fun B zb H6 s6 hBn hB6 hzb eb=>?_⟩
  have hbl:zb.length≤63:=by
   have:=congrArg Yp eb
   rw [Qd] at this
   rw [this];exact Qh (Xa _ _) hrl
  have s06:=s04.trans s6
  try simp only [a1i]
  refine ⟨⟨_,SqL.of hB6⟩,?_⟩
  refine a1Q zb hB6 (by omega) hzb [some v3,some (V.ref g),some (V.ref W2)] rfl (fun _=>true) (fun p=>V.bl (a3J p.2.2.2.2 D || btn pl (zs.map (·.2)) p.2)) (fun x r H' R ho hr s' hR=>hR _ (a0j.refl _)) (fun x r H' R ho hr s' hR=>?_) (fun C H7 hCn s7 hC7=>?_)
  ·have CF:=a7Y T ho.1
   have hru:b0J t H' (.ref x) r:=⟨x,rfl,hr⟩
   obtain ⟨dx',t0,g1,g2⟩:=hr
   try simp only [c2X,a0K,a0i,a3l,a0k,Qa,Qb,a0u,Qg,a0e]
   refine ⟨x,_,dx',_,_,rfl,g1,CF.cl,CF.nb,a1E _ _ _,t0,v3,r.2.2.2,D,rfl,g2,by have:=ho.2.2.2.2.2;omega,h3.same (s06.trans s'),fun H'' s''=>?_⟩
   have s48:=(s6.trans s').trans s''
   have hh:=fun H'' s''=>hR H'' s''
   try simp only [a2i]
   refine a2k (fun c5=>?_) (fun c5=>?_)
   ·have:=hR _ s''
    rw [c5,Bool.true_or] at this;exact this
   ·have c6:a3J r.2.2.2 D=false:=by simpa using c5
    rw [c6] at hR
    exact ⟨g,x,W2,rs,pl,r,zs,rfl,(hG.same s04).same s48,hru.same s'',ho,s48 _ _ hW4,hz4.same s48,hzl4,fun H9 s9=>hR _ (s''.trans s9)⟩
  have hC7':H7 C=some (.lst ((zb.map fun p=>(a3J p.2.2.2.2 D || btn pl (zs.map (·.2)) p.2)).map V.bl)):=by
   rw [hC7,Um.mpr (fun _ _=>rfl),Qy];rfl
  refine ⟨C,_,rfl,SqL.of hC7',?_⟩
  have:=q _ (s06.trans s7)
  unfold a1I at this
  rw [if_neg c0,if_neg hc,←eb,Wy,←est] at this
  rw [Wy]
  exact this
theorem b3k (T:Txt K mg t):a0W P w K mg base CX0 3 t.f_z0v t.fd_z0v ["ground","sures","held","refused","q"] (a8S t a6b):=by
 refine T.F_z0v.ok b3w (fun vs H Q E h=>?_) (fun cdv A outer s H vs Q E hr h=>?_)
 ·obtain ⟨g,v1,v2,v3,q0,rs,pl,S,U,D,rfl,hG,hO,hrl,h1,h2,h3,hql,q⟩:=h;rfl
 ·obtain ⟨g,v1,v2,v3,q0,rs,pl,S,U,D,rfl,hG,hO,hrl,h1,h2,h3,hql,q⟩:=h
  refine ⟨_,‹A2 (B3 (F3 (D6 (a3f (a3m hr) ‹4› ‹1›)) (B1 a4k 4 1 (by with_unfolding_all rfl))) (A4 (A8 B8)) B5) (A2 (A6 5 b3w.nd (C0 (B4 (a0c a6D) b1t ["rule","refused"] [none,some 3]) (B7 (D0 0 T.cl_Ground T.me_Ground_speaking (b3E T) T.b_z05 (A0 4 A1))) (A9 0 (show Xo (["rule","refused"]:List Str) by decide+kernel)) (C8 (G9 (C5 (A7 (b2Y T) T.g_z12 T.F_z12.kp T.b_z12 .nil (A0 (D7 0) (A0 1 A1)))))) 0)) (E1 (B3 (E5 (F7 (B1 (a1W hr.units) (B9 a1a T.z_len a1c (A0 5 A1)) A3 (a0v _)) (F8 (F3 (D6 (a3f (a3m hr) ‹A7 (a3C T) T.g_z1d T.F_z1d.kp T.b_z1d .nil (A0 4 A1)› ‹1›)) (B1 a4k (A7 (a3C T) T.g_z1d T.F_z1d.kp T.b_z1d .nil (A0 4 A1)) 1 (by with_unfolding_all rfl)))))) (A4 (A8 B8)) B5) (A4 (A8 (B9 (a1R rfl) T.z_any a3L (A0 (C0 (B4 (a0c a6D) b1t ["rule","held","ground","unfallen"] [none,some 2,some 0,some 5]) (B7 (D0 0 T.cl_Ground T.me_Ground_against (b3y T) T.b_z09 (A0 4 A1))) (A9 0 (show Xo (["rule","held","ground","unfallen"]:List Str) by decide+kernel)) D1 (H0 (A7 (a7k T) T.g_z11 T.F_z11.kp T.b_z11 .nil (A0 (D7 0) (A0 1 A1))) (G6 (H1 (A7 (b3C T) T.g_z13 T.F_z13.kp T.b_z13 .nil (A0 2 (A0 0 (A0 3 A1)))))))) A1))))))›,?_⟩
  rw [show start b1t [V.ref g,v1,v2,v3,V.str q0]=[some (V.ref g),some (v1),some (v2),some (v3),some (V.str q0),none] from rfl]
  obtain ⟨dx,io,bh,pr,_,_,_,hg1,_⟩:=id hG
  try simp only [a1u,a3D,a1o,tC,a1F,a2b,a0l,Qi,Qj,a0C,a2E,a1G,a0k,Qa,a0i,Qb,a0u,Qg,a0e]
  refine a3s h1 (a0E rfl) (a0E rfl) ?_
  try simp only [decide_eq_true_eq]
  refine a2k (fun c0=>?_) (fun c0=>?_)
  ·have:=q H (a0j.refl _)
   unfold a6b at this
   rw [if_pos c0] at this
   exact this
  refine ⟨g,dx,_,rfl,hg1,a2q _ _ _ (by decide+kernel) (by decide+kernel) (by decide+kernel),g,q0,rs,pl,rfl,hG,hO,hrl,fun W zr H3 s3 hWn hW3 hz ez=>?_⟩
  have hzl:zr.length≤63:=by
   have:=congrArg Yp ez
   rw [Qd] at this
   rw [this];exact Qh (Xa _ _) (Qh (Xa _ _) hrl)
  try simp only [a1i]
  refine ⟨⟨_,SqL.of hW3⟩,?_⟩
  refine a1Q zr hW3 (by omega) hz [some v3] rfl (fun r=>!a3J r.2.2.2 D) (fun p=>p.1) (fun x r H' R ho hr s' hR=>?_) (fun x r H' R ho hr s' hR=>?_) (fun W2 H4 hW2n s4 hW4=>?_)
  ·have CF:=a7Y T ho.1
   obtain ⟨dx',t0,g1,g2⟩:=hr
   try simp only [c3H,tB,a0K,a0i,a3l,a0k,Qa,Qb,a0u,Qg,a0e]
   refine ⟨x,_,dx',_,_,rfl,g1,CF.cl,CF.nb,a1E _ _ _,t0,v3,r.2.2.2,D,rfl,g2,by have:=ho.2.2.2.2.2;omega,h3.same (s3.trans s'),fun H'' s''=>?_⟩
   try simp only [a2i]
   exact hR _ s''
  ·try simp only [a0k,Qa,a0e]
   exact hR _ (a0j.refl _)
  have s04:=s3.trans s4
  have hz4:a8r t H4 (zr.filter fun p=>!a3J p.2.2.2.2 D):=fun p hp=>(hz.same s4) p (Qv.mp hp).1
  have hzl4:(zr.filter fun p=>!a3J p.2.2.2.2 D).length≤63:=Qh (Xa _ _) hzl
  have est:(zr.filter fun p=>!a3J p.2.2.2.2 D).map (·.2)=unf rs D q0:=by
   unfold unf
   rw [←ez,Zz];rfl
  generalize (zr.filter fun p=>!a3J p.2.2.2.2 D)=zs at hW4 hz4 hzl4 est
  have hneed:∀H',a0j H H'→(unf rs D q0=[]∨a0y q0∈S)→Q (.bl true) H':=fun H' s' hc=>by
   have:=q H' s'
   unfold a6b at this
   rw [if_neg c0,if_pos hc] at this
   exact this
  refine ⟨fun σ' H'=>σ'=[some (V.ref g),some v1,some v2,some v3,some (V.str q0),some (V.ref W2)]∧H'=H4∧¬(unf rs D q0=[]∨a0y q0∈S),?_,?_⟩
  ·try simp only [a3D,tOr,a1q,tOp,tCB,a0i,a0k,Qb,Qa,a0u,tC,a1o,a1F,if_true,a0e]
   refine a1A (SqL.of hW4) ?_
   try simp only [a2y,a2i,decide_eq_true_eq]
   refine a2k (fun c1=>?_) (fun c1=>?_)
   ·refine hneed _ s04 (.inl ?_)
    rw [←est]
    have:zs.length=0:=by rw [Qd] at c1;omega
    rw [Jt.mp this];rfl
   refine a3s (h1.same s04) (x:=a0y q0) (fun R hR=>?_) (a0E rfl) ?_
   ·try simp only [a0K,a0i,a0k,Qb,Qa,a0u,Qg,a0e]
    exact ⟨q0,rfl,hql,hR⟩
   try simp only [decide_eq_true_eq]
   refine a2k (fun c2=>hneed _ s04 (.inr c2)) (fun c2=>⟨(by trivial),(by trivial),fun z=>z.elim (fun w=>c1 ?_) c2⟩)
   rw [←est] at w
   have:zs.length=0:=by have:=congrArg Yp w;rw [Qd] at this;exact this
   rw [Qd,this];rfl
  rintro σ' H5 ⟨rfl,rfl,hc⟩
  try simp only [a1o,tCB,a0i,a0u,a0C,a2E,a1G,a0k,Qa,Qb,Qg,a0e]
  refine ⟨g,dx,_,rfl,s04 _ _ hg1,a2q _ _ _ (by decide+kernel) (by decide+kernel) (by decide+kernel),g,q0,rs,pl,rfl,hG.same s04,hO,hql,fun B zb H6 s6 hBn hB6 hzb eb=>?_⟩
  have hbl:zb.length≤63:=by
   have:=congrArg Yp eb
   rw [Qd] at this
   rw [this];exact Qh (Xa _ _) hrl
  have s06:=s04.trans s6
  try simp only [a1i]
  refine ⟨⟨_,SqL.of hB6⟩,?_⟩
  refine a1Q zb hB6 (by omega) hzb [some v2,some (V.ref g),some (V.ref W2)] rfl (fun _=>true) (fun p=>V.bl (a3W p.2.2.2.2 U && !btn pl (zs.map (·.2)) p.2)) (fun x r H' R ho hr s' hR=>hR _ (a0j.refl _)) (fun x r H' R ho hr s' hR=>?_) (fun C H7 hCn s7 hC7=>?_)
  ·have CF:=a7Y T ho.1
   have hru:b0J t H' (.ref x) r:=⟨x,rfl,hr⟩
   obtain ⟨dx',t0,g1,g2⟩:=hr
   try simp only [b6P,a0K,a0i,a3l,a0k,Qa,Qb,a0u,Qg,b8z,a0e]
   refine ⟨x,_,dx',_,_,rfl,g1,CF.cl,CF.nb,a1E _ _ _,t0,v2,r.2.2.2,U,rfl,g2,by have:=ho.2.2.2.2.2;omega,h2.same (s06.trans s'),fun H'' s''=>?_⟩
   have s48:=(s6.trans s').trans s''
   try simp only [a2i]
   refine a2k (fun c5=>?_) (fun c5=>?_)
   ·rw [c5,Jk] at hR
    refine ⟨g,x,W2,rs,pl,r,zs,rfl,(hG.same s04).same s48,hru.same s'',ho,s48 _ _ hW4,hz4.same s48,hzl4,fun H9 s9=>?_⟩
    try simp only [a2i]
    exact hR _ (s''.trans s9)
   ·have c6:a3W r.2.2.2 U=false:=by simpa using c5
    have:=hR _ s''
    rw [c6,Js] at this
    exact this
  have hC7':H7 C=some (.lst ((zb.map fun p=>(a3W p.2.2.2.2 U && !btn pl (zs.map (·.2)) p.2)).map V.bl)):=by
   rw [hC7,Um.mpr (fun _ _=>rfl),Qy];rfl
  refine ⟨C,_,rfl,SqL.of hC7',?_⟩
  have:=q _ (s06.trans s7)
  unfold a6b at this
  rw [if_neg c0,if_neg hc,←eb,Uh,←est] at this
  rw [Uh]
  exact this
theorem b3L (T:Txt K mg t):a0W P w K mg base CX0 4 t.f_z14 t.fd_z14 ["ground","sures","held","refused","asked"] (b5f K t):=by
 refine T.F_z14.ok a6X (fun vs H Q E h=>?_) (fun cdv A outer s H vs Q E hr h=>?_)
 ·obtain ⟨g,v1,v2,v3,va,rs,pl,S,U,D,ask,rfl,hoff,hO,hrl,hA,hnd,hal,hql,q⟩:=h;rfl
 ·obtain ⟨g,v1,v2,v3,va,rs,pl,S,U,D,ask,rfl,hoff,hO,hrl,hA,hnd,hal,hql,q⟩:=h
  obtain ⟨_,k_HELD⟩:=T.k_HELD
  obtain ⟨_,k_REFUSED⟩:=T.k_REFUSED
  refine ⟨_,‹A2 (A6 5 a6X.nd C6) (A2 (G4 (F2 (B6 (D4 4) (A9 6 a6X.nd) (A4 (B3 (C5 (A7 (b3m T) T.g_z1e T.F_z1e.kp T.b_z1e .nil (A0 0 (A0 1 (A0 2 (A0 3 (A0 6 A1))))))) (A4 (C2 5 6 (D3 (.str "held") k_HELD ⟨_,rfl⟩))) (A4 (B3 (C5 (A7 (b3k T) T.g_z0v T.F_z0v.kp T.b_z0v .nil (A0 0 (A0 1 (A0 2 (A0 3 (A0 6 A1))))))) (A4 (C2 5 6 (D3 (.str "refused") k_REFUSED ⟨_,rfl⟩))) B5)))))) (B6 (B7 4) (A9 6 a6X.nd) (A4 (B3 (C5 (A7 (b3m T) T.g_z1e T.F_z1e.kp T.b_z1e .nil (A0 0 (A0 1 (A0 2 (A0 3 (A0 6 A1))))))) (A4 (C2 5 6 (D3 (.str "held") k_HELD ⟨_,rfl⟩))) (A4 (B3 (C5 (A7 (b3k T) T.g_z0v T.F_z0v.kp T.b_z0v .nil (A0 0 (A0 1 (A0 2 (A0 3 (A0 6 A1))))))) (A4 (C2 5 6 (D3 (.str "refused") k_REFUSED ⟨_,rfl⟩))) B5)))))) (A4 (A8 5)))›,?_⟩
  rw [show start b7S [V.ref g,v1,v2,v3,va]=[some (V.ref g),some (v1),some (v2),some (v3),some (va),none,none] from rfl]
  try simp only [a1u,a2b,a1T,a0l,Qi,Qj]
  intro W hW
  obtain ⟨H1,e1,s1,h1⟩:=a1p hW (.dK []);rw [e1]
  have hvW:va≠.ref W:=fun z=>by
   obtain ⟨b,o,e,hb⟩:=hA.at
   rw [z] at e;cases e;rw [hW] at hb;cases hb
  refine a4y (fun H0 i σ' H'=>∃x,σ'=[some (V.ref g),some v1,some v2,some v3,some va,some (V.ref W),x]∧a3n H0 W H'∧H' W=some (.dK (wv (wds rs pl S U D (ask.take i))))) (hA.same s1) (a0E rfl) (fun H0 h0=>⟨_,rfl,a3n.refl _ _,h0.keep _ _ h1 hvW⟩) ?_ ?_ ?_
  ·rintro H0 i σ' H' b o ⟨x,rfl,k,_⟩ z e
   exact k _ _ e fun w=>hvW (by rw [z,w])
  ·rintro H0 i hi σ' H' rt bk h0 ⟨x,rfl,k,hW'⟩
   have off:∀H2,a0j H' H2→Off H va H2:=fun H2 s2 b o e n=>s2 _ _ (k _ _ (h0.keep _ _ (s1 _ _ e) n) (a0b e hW))
   have hiq:=hql _ (Xi hi)
   have hlen:(wds rs pl S U D (ask.take i)).length≤1000:=by
    have:=(a4J rs pl S U D (ask.take i)).length_le
    rw [Qd,Yb] at this;omega
   have hnew:ask[i]∉(wds rs pl S U D (ask.take i)).map (·.1):=fun z=>by
    have:=b2p z
    obtain ⟨j,hj,e⟩:=Jm this
    rw [Vd] at e
    rw [Yb] at hj
    have:=(Zt (h₀:=by omega) (h₁:=hi) hnd).mp e
    omega
   have hst:wds rs pl S U D (ask.take (i+1))=wds rs pl S U D (ask.take i)++((stt rs pl S U D ask[i]).map fun w=>(ask[i],w)).toList:=by rw [Xb hi,b1H]
   generalize wds rs pl S U D (ask.take i)=F at hW' hlen hnew hst
   generalize ask[i]=q0 at hiq hnew hst
   have hend:∀(b:Bool) (H2:Hp),a0j H' H2→stt rs pl S U D q0=some b→a6a H2 W (.str q0) (V.str (wd b)) (upd H2 W (.dK (wv (F++[(q0,b)]))))∧(a3n H0 W (upd H2 W (.dK (wv (F++[(q0,b)]))))∧upd H2 W (.dK (wv (F++[(q0,b)]))) W=some (.dK (wv (wds rs pl S U D (ask.take (i+1)))))):=fun b H2 s2 e=>
    ⟨b9R (s2 _ _ hW') (by omega) hnew b,fun c o e n=>by rw [a0a n];exact s2 _ _ (k _ _ e n),by rw [a0d,hst,e];rfl⟩
   obtain ⟨hG,k1,k2,k3⟩:=hoff H' (off H' (a0j.refl _))
   try simp only [a0l,a3D,tB,a0K,a0i,a0k,Qi,Qj,Qa,Qb,a0u,Qg,a3b,tC,a0e,a1F]
   refine ⟨g,v1,v2,v3,q0,rs,pl,S,U,D,rfl,hG,hO,hrl,k1,k2,k3,hiq,fun H2 s2=>?_⟩
   try simp only [a2i]
   refine a2k (fun c1=>?_) (fun c1=>?_)
   ·obtain ⟨a1,a2,a3⟩:=hend true H2 s2 (by unfold stt;rw [if_pos c1])
    exact ⟨W,_,rfl,a1,_,rfl,a2,a3⟩
   obtain ⟨hG,k1,k2,k3⟩:=hoff H2 (off H2 s2)
   refine ⟨g,v1,v2,v3,q0,rs,pl,S,U,D,rfl,hG,hO,hrl,k1,k2,k3,hiq,fun H3 s3=>?_⟩
   try simp only [a2i]
   refine a2k (fun c2=>?_) (fun c2=>?_)
   ·obtain ⟨a1,a2,a3⟩:=hend false H3 (s2.trans s3) (by unfold stt;rw [if_neg c1,if_pos c2])
    exact ⟨W,_,rfl,a1,_,rfl,a2,a3⟩
   ·refine ⟨_,rfl,fun c o e n=>s3 _ _ (s2 _ _ (k _ _ e n)),?_⟩
    rw [hst,show stt rs pl S U D q0=none from by unfold stt;rw [if_neg c1,if_neg c2]]
    show _=some (HO.dK (wv (F++[])))
    rw [Qg];exact s3 _ _ (s2 _ _ hW')
  ·rintro H0 σ' H' H'' h0 ⟨x,rfl,k,hW'⟩ k1 k2
   rw [Xz] at hW'
   try simp only [a1o,a0k,Qb,Qa,a0e]
   refine q W H'' (fun b o e=>?_) hW (k1 _ _ hW' hvW)
   by_cases z:va=.ref b
   ·exact k2 b o z (s1 _ _ e)
   ·exact k1 b o (k b o (h0.keep _ _ (s1 _ _ e) z) (a0b e hW)) z
theorem b0u (T:Txt K mg t):a0W P w K mg base CX0 5 t.f_z0o t.fd_z0o ["ground","some","sures","known"] (b2B K t):=by
 refine T.F_z0o.ok a2a (fun vs H Q E h=>?_) (fun cdv A outer s H vs Q E hr h=>?_)
 ·obtain ⟨g,v1,v2,kd,rs,pl,sm,S,kn,rfl,hG,hO,hrl,h1,h2,hkd,hkn,hsl,hSl,hkl,hsm,q⟩:=h;rfl
 ·obtain ⟨g,v1,v2,kd,rs,pl,sm,S,kn,rfl,hG,hO,hrl,h1,h2,hkd,hkn,hsl,hSl,hkl,hsm,q⟩:=h
  obtain ⟨_,k_HELD⟩:=T.k_HELD
  obtain ⟨_,k_REFUSED⟩:=T.k_REFUSED
  refine ⟨_,‹A2 (A6 4 a2a.nd (A7 (a2J T) T.g_z1r T.F_z1r.kp T.b_z1r .nil (A0 2 A1))) (A2 (A6 5 a2a.nd (A7 (a2J T) T.g_z1r T.F_z1r.kp T.b_z1r .nil (A0 (E9 (C0 (B4 (a0c a4a) a6v ["q","known"] [none,some 3]) (D4 3) (A9 0 (show Xo (["q","known"]:List Str) by decide+kernel)) (C8 (B1 (a7s hr.units (K:=K) rfl) (E2 1 0) (D3 (.str "held") k_HELD ⟨_,rfl⟩) (a0v _))) 0)) A1))) (A2 (A6 6 a2a.nd (A7 (a2J T) T.g_z1r T.F_z1r.kp T.b_z1r .nil (A0 (E9 (C0 (B4 (a0c a4a) a6v ["q","known"] [none,some 3]) (D4 3) (A9 0 (show Xo (["q","known"]:List Str) by decide+kernel)) (C8 (B1 (a7s hr.units (K:=K) rfl) (E2 1 0) (D3 (.str "refused") k_REFUSED ⟨_,rfl⟩) (a0v _))) 0)) A1))) (A2 (A6 7 a2a.nd (A7 (b9m T) T.g_z03 T.F_z03.kp T.b_z03 .nil (A0 0 A1))) (A2 (A6 8 a2a.nd (A7 (a2J T) T.g_z1r T.F_z1r.kp T.b_z1r .nil (A0 1 A1))) (A2 (A6 9 a2a.nd C6) (A2 (A6 10 a2a.nd A3) (A2 (A6 11 a2a.nd (A7 (b3L T) T.g_z14 T.F_z14.kp T.b_z14 .nil (A0 0 (A0 4 (A0 5 (A0 6 (A0 8 A1))))))) (A2 (F9 (B1 b4x (B9 a1a T.z_len a1c (A0 11 A1)) A3 (a0v _)) (A2 (F2 (B6 (D4 11) (A9 12 a2a.nd) (A4 (C2 9 12 (C3 (A0 (E2 11 12) (A0 10 A1))))))) (A2 (D2 (C9 Zv Jr Vs a4d 5 (A0 (A7 (a2J T) T.g_z1r T.F_z1r.kp T.b_z1r .nil (A0 (E9 (C0 (B4 (a0c a4a) a6v ["q","came"] [none,some 11]) (D4 11) (A9 0 (show Xo (["q","came"]:List Str) by decide+kernel)) (C8 (B1 (a7s hr.units (K:=K) rfl) (E2 1 0) (D3 (.str "held") k_HELD ⟨_,rfl⟩) (a0v _))) 0)) A1)) A1))) (A2 (D2 (C9 Zv Jr Vs a4d 6 (A0 (A7 (a2J T) T.g_z1r T.F_z1r.kp T.b_z1r .nil (A0 (E9 (C0 (B4 (a0c a4a) a6v ["q","came"] [none,some 11]) (D4 11) (A9 0 (show Xo (["q","came"]:List Str) by decide+kernel)) (C8 (B1 (a7s hr.units (K:=K) rfl) (E2 1 0) (D3 (.str "refused") k_REFUSED ⟨_,rfl⟩) (a0v _))) 0)) A1)) A1))) (A2 (A6 10 a2a.nd (A5 a0p 10 A3)) (A2 (H2 (E3 13 (B4 (a0c a4a) a6v ["q","wanted","told"] [none,some 8,some 9]) (D4 (A7 (b7m T) T.g_z1i T.F_z1i.kp T.b_z1i .nil (A0 7 (A0 11 A1)))) (A9 0 (show Xo (["q","wanted","told"]:List Str) by decide+kernel)) (C8 (E5 (G0 (D6 (a3f (a3m hr) ‹0› ‹1›)) (G1 (D6 ‹F0 0 2›))))) 0 a2a.nd)) (A4 (A6 11 a2a.nd (A7 (b3L T) T.g_z14 T.F_z14.kp T.b_z14 .nil (A0 0 (A0 4 (A0 5 (A0 6 (A0 13 A1)))))))))))))) (A4 (A8 9))))))))))›,?_⟩
  rw [show start a6v [V.ref g,v1,v2,V.ref kd]=[some (V.ref g),some (v1),some (v2),some (V.ref kd),none,none,none,none,none,none,none,none,none,none] from rfl]
  try simp only [a1u,a2b,a0K,a0i,a0k,Qb,Qa,a0u,Qg,a0l,Qi,Qj,a1T,tC,a0C,a9E,a0e]
  refine ⟨v2,S,rfl,h2,by omega,fun Su H1 s1 hSn hSu=>?_⟩
  have f1:=a5c kn true
  have f2:=a5c kn false
  try simp only []
  refine a2v (s1 _ _ hkd) (a2I kn) (by rw [Qd];omega) (a0E rfl) [some (V.ref kd)] rfl (fun q=>decide ((q,true)∈kn)) (fun q0 H0 H' R hq off hR s hR'=>a2Q (b:=true) hkn hq hR hR') fun L1 H2 hL1 s2 hL2=>?_
  refine ⟨_,_,rfl,.inl ⟨L1,rfl,hL2⟩,by omega,fun He H3 s3 hHen hHe=>?_⟩
  have s13:=s2.trans s3
  try simp only []
  refine a2v ((s1.trans s13) _ _ hkd) (a2I kn) (by rw [Qd];omega) (a0E rfl) [some (V.ref kd)] rfl (fun q=>decide ((q,false)∈kn)) (fun q0 H0 H' R hq off hR s hR'=>a2Q (b:=false) hkn hq hR hR') fun L2 H4 hL2n s4 hL4=>?_
  refine ⟨_,_,rfl,.inl ⟨L2,rfl,hL4⟩,by omega,fun Re H5 s5 hRen hRe=>?_⟩
  have s35:=s4.trans s5
  have s05:=(s1.trans s13).trans s35
  try simp only []
  refine ⟨g,rs,pl,rfl,hG.same s05,hO,hrl,fun Hd H6 s6 hHdn hHd=>?_⟩
  have s06:=s05.trans s6
  have hWl:(sm.foldl a0V []).length≤100:=Qh (a1b sm []) (by simpa using hsl)
  have hWn:(sm.foldl a0V []).Nodup:=a1v sm (by simp)
  have hWm:∀x,x∈sm.foldl a0V []↔x∈sm:=fun x=>by rw [a1D];exact ⟨fun h=>h.elim (fun z=>(by cases z)) id,.inr⟩
  try simp only []
  refine ⟨v1,sm,rfl,h1.same s06,by omega,fun Wa H7 s7 hWan hWa=>?_⟩
  generalize sm.foldl a0V []=W at hWl hWn hWm hWa q
  try skip
  intro To hTo
  obtain ⟨H8,e8,s8,hTo8⟩:=a1p hTo (.dK []);rw [e8]
  have s68:=s7.trans s8
  have s08:=s06.trans s68
  have hHe6:=s6 _ _ (s35 _ _ hHe)
  have hRe6:=s6 _ _ hRe
  have hSu6:=s6 _ _ (s35 _ _ (s13 _ _ hSu))
  have aSu:∀H',a0j H6 H'→a1k H' (.ref Su) S:=fun H' s=>(a7X (s _ _ hSu6) fun x=>by rw [a1D];exact ⟨fun h=>h.elim (fun z=>(by cases z)) id,.inr⟩).some
  have aHe:∀x,x∈((kn.map (·.1)).filter fun q=>decide ((q,true)∈kn)).foldl a0V []↔x∈ups kn:=fun x=>by rw [a4K,a1C]
  have aRe:∀x,x∈((kn.map (·.1)).filter fun q=>decide ((q,false)∈kn)).foldl a0V []↔x∈a0P kn:=fun x=>by rw [a4K,a0O]
  have lHe:=a1b ((kn.map (·.1)).filter fun q=>decide ((q,true)∈kn)) []
  have lRe:=a1b ((kn.map (·.1)).filter fun q=>decide ((q,false)∈kn)) []
  refine ⟨g,_,_,_,_,rs,pl,S,ups kn,a0P kn,W,rfl,fun H' off=>?_,hO,hrl,.inr ⟨Wa,_,rfl,s8 _ _ hWa,a2U _⟩,hWn,by omega,fun q0 hq0=>(hsm q0 ((hWm q0).mp hq0)).1,fun Cm H9 s9 hCmn hCm=>?_⟩
  ·have s6':a0j H6 H':=off.same s68 hWan
   exact ⟨hG.same (s06.trans s6'),aSu _ s6',(a7X (s6' _ _ hHe6) aHe).some,(a7X (s6' _ _ hRe6) aRe).some⟩
  have hHe8:=s68 _ _ hHe6
  have hRe8:=s68 _ _ hRe6
  have nST:Su≠To:=fun z=>by have:=s7 _ _ hSu6;rw [z,hTo] at this;cases this
  have nSH:Su≠He:=fun z=>by rw [←z,s2 _ _ hSu] at hHen;cases hHen
  have nSR:Su≠Re:=fun z=>by rw [←z,s4 _ _ (s13 _ _ hSu)] at hRen;cases hRen
  have nHT:He≠To:=fun z=>by have:=s7 _ _ hHe6;rw [z,hTo] at this;cases this
  have nRT:Re≠To:=fun z=>by have:=s7 _ _ hRe6;rw [z,hTo] at this;cases this
  have nHR:He≠Re:=fun z=>by rw [←z,s4 _ _ hHe] at hRen;cases hRen
  have hHd6:∃o,H6 Hd=some o:=let ⟨k,a,_⟩:=hHd;⟨_,a⟩
  have nDT:Hd≠To:=fun z=>by obtain ⟨o,e⟩:=hHd6;have:=s7 _ _ e;rw [z,hTo] at this;cases this
  have nDH:Hd≠He:=fun z=>by rw [z,s35 _ _ hHe] at hHdn;cases hHdn
  have nDR:Hd≠Re:=fun z=>by rw [z,hRe] at hHdn;cases hHdn
  have nWT:Wa≠To:=fun z=>by rw [z,hTo] at hWa;cases hWa
  have nWH:Wa≠He:=fun z=>by rw [z,hHe6] at hWan;cases hWan
  have nWR:Wa≠Re:=fun z=>by rw [z,hRe6] at hWan;cases hWan
  try simp only []
  obtain ⟨K3,eK3⟩:∃K3:Hp→Prop,K3=fun H'=>∀b o,H8 b=some o→b≠To→b≠He→b≠Re→H' b=some o:=⟨_,rfl⟩
  have k3of:∀H',K3 H'→∀b o,H8 b=some o→b≠To→b≠He→b≠Re→H' b=some o:=fun H' h=>by rw [eK3] at h;exact h
  have k3to:∀H',(∀b o,H8 b=some o→b≠To→b≠He→b≠Re→H' b=some o)→K3 H':=fun H' h=>by rw [eK3];exact h
  have k3H:∀H',K3 H'→a0j H H':=fun H' k b o e=>k3of _ k b o (s08 _ _ e) (a0b e (none_of s06 (none_of s7 hTo))) (a0b e (none_of (s1.trans s2) hHen)) (a0b e (none_of ((s1.trans s13).trans s4) hRen))
  have k3D:∀H',K3 H'→a3E H' Hd rs:=fun H' k=>(hHd.same s68).keep fun b o e hb=>by
   rcases hb with rfl | ⟨xs,rfl⟩
   ·exact k3of _ k _ _ e nDT nDH nDR
   ·exact k3of _ k _ _ e (a0B e hTo8 (by intro z;cases z)) (a0B e hHe8 (by intro z;cases z)) (a0B e hRe8 (by intro z;cases z))
  have k3S:∀H',K3 H'→a1k H' (.ref Su) S:=fun H' k=>(a7X (k3of _ k _ _ (s68 _ _ hSu6) nST nSH nSR) fun x=>by rw [a1D];exact ⟨fun h=>h.elim (fun z=>(by cases z)) id,.inr⟩).some
  refine a6h (fun m σ H'=>∃(n:Nat) (T:List Tr) (F:List (Str×Bool)) (cm:Addr) (x12 x13:Option V) (kH kR:List (Key×V)),σ=[some (V.ref g),some v1,some v2,some (V.ref kd),some (V.ref Su),some (V.ref He),some (V.ref Re),some (V.ref Hd),some (V.ref Wa),some (V.ref To),some (V.int ((n:Int)+1)),some (V.ref cm),x12,x13]∧K3 H'∧TAt H' To T∧(T.map (·.1)).Nodup∧IsT rs pl S W (ups kn) (a0P kn) n T∧H' He=some (.dK kH)∧(∀x:Str,(a0R kH (Sum.inr x:Key)).isSome=decide (x∈(rds rs pl S W (ups kn) (a0P kn) n).U))∧kH.length≤100+T.length∧H' Re=some (.dK kR)∧(∀x:Str,(a0R kR (Sum.inr x:Key)).isSome=decide (x∈(rds rs pl S W (ups kn) (a0P kn) n).D))∧kR.length≤100+T.length∧H' cm=some (.dK (wv F))∧(cm≠To∧cm≠He∧cm≠Re∧cm≠Hd)∧(F.map (·.1)).Nodup∧IsF rs pl S W (ups kn) (a0P kn) n F∧m=W.length - T.length)
   W.length ⟨0,[],_,Cm,_,_,_,_,rfl,k3to _ fun b o e _ _ _=>s9 _ _ e,⟨[],rfl,s9 _ _ hTo8,fun _ h=>by cases h⟩,Zj,fun _=>Iff.rfl,s9 _ _ hHe8,(fun x=>by obtain ⟨k,e,h⟩:=a7X (H:=H8) hHe8 aHe;rw [hHe8] at e;cases e;exact h x),(by unfold bv;rw [Qd];simp at lHe;omega),s9 _ _ hRe8,(fun x=>by obtain ⟨k,e,h⟩:=a7X (H:=H8) hRe8 aRe;rw [hRe8] at e;cases e;exact h x),(by unfold bv;rw [Qd];simp at lRe;omega),hCm,⟨fun z=>(by rw [z,hTo8] at hCmn;cases hCmn),fun z=>(by rw [z,hHe8] at hCmn;cases hCmn),fun z=>(by rw [z,hRe8] at hCmn;cases hCmn),fun z=>(by obtain ⟨o,e⟩:=hHd6;rw [z,s68 _ _ e] at hCmn;cases hCmn)⟩,hWn.sublist (a4J _ _ _ _ _ _),b2b,rfl⟩ ?_
  clear hCm hCmn
  rintro m σ H10 ⟨n,T,F,cm,x12,x13,kH,kR,rfl,kk,hT,hTn,hIT,hH,hHm,hHl,hR,hRm,hRl,hC,⟨nCT,nCH,nCR,nCD⟩,hFn,hIF,hm⟩
  have hkey:∀x,x∈(T++F.map fun p=>(p.1,p.2,n+1)).map (·.1)→x∈W:=fun x hx=>by
   rw [a2f (a6M hIT hIF)] at hx
   exact a1K _ _ hx
  have hnew:∀x∈F.map (·.1),x∉T.map (·.1):=fun x hx=>by
   obtain ⟨⟨y,w⟩,hy,rfl⟩:=Qf.mp hx
   have:=(a0o.mp ((hIF _).mp hy)).2.1
   rw [a2f hIT];exact this
  have hnd:((T++F.map fun p=>(p.1,p.2,n+1)).map (·.1)).Nodup:=by
   rw [Xf,Zg]
   refine ⟨hTn,by rw [Qy];exact hFn,fun x hx y hy z=>hnew y (by rw [Qy] at hy;exact hy) (z ▸ hx)⟩
  have hTF:T.length+F.length≤W.length:=by
   have:=a1h hnd hkey
   simpa using this
  try simp only [a1q,tOp,tCB,a0i,a0k,Qb,Qa,a0u,tC,a1u,a1o,a0e]
  refine .inr ⟨cm,_,rfl,hC,?_⟩
  rw [show (wv F).length=F.length from by unfold wv;rw [Qd]]
  try simp only [a4H,a2i,decide_eq_true_eq]
  refine a2k (fun c1=>?_) (fun c1=>?_)
  ·refine ⟨fun σ H'=>∃m',m' < m∧∃(n:Nat) (T:List Tr) (F:List (Str×Bool)) (cm:Addr) (x12 x13:Option V) (kH kR:List (Key×V)),σ=[some (V.ref g),some v1,some v2,some (V.ref kd),some (V.ref Su),some (V.ref He),some (V.ref Re),some (V.ref Hd),some (V.ref Wa),some (V.ref To),some (V.int ((n:Int)+1)),some (V.ref cm),x12,x13]∧K3 H'∧TAt H' To T∧(T.map (·.1)).Nodup∧IsT rs pl S W (ups kn) (a0P kn) n T∧H' He=some (.dK kH)∧(∀x:Str,(a0R kH (Sum.inr x:Key)).isSome=decide (x∈(rds rs pl S W (ups kn) (a0P kn) n).U))∧kH.length≤100+T.length∧H' Re=some (.dK kR)∧(∀x:Str,(a0R kR (Sum.inr x:Key)).isSome=decide (x∈(rds rs pl S W (ups kn) (a0P kn) n).D))∧kR.length≤100+T.length∧H' cm=some (.dK (wv F))∧(cm≠To∧cm≠He∧cm≠Re∧cm≠Hd)∧(F.map (·.1)).Nodup∧IsF rs pl S W (ups kn) (a0P kn) n F∧m'=W.length - T.length,fun _ _ h=>h,?_⟩
   refine a9V (kn:=F.map (·.1)) (fun H0 i σ' H'=>∃(x12:Option V),σ'=[some (V.ref g),some v1,some v2,some (V.ref kd),some (V.ref Su),some (V.ref He),some (V.ref Re),some (V.ref Hd),some (V.ref Wa),some (V.ref To),some (V.int ((n:Int)+1)),some (V.ref cm),x12,x13]∧a3n H0 To H'∧TAt H' To (T++(F.take i).map fun p=>(p.1,p.2,n+1))) hC (a2I F) (a0E rfl) (fun o=>⟨_,rfl,a3n.refl _ _,?_⟩) ?_ ?_ ?_
   ·rw [Uq,Jq,Qg]
    refine hT.keep fun b o e hb=>?_
    rcases hb with rfl | ⟨xs,rfl⟩
    ·rw [a0a nCT.symm];exact e
    ·rw [a0a (a0B e hC (by intro z;cases z))];exact e
   ·rintro o i σ' H' ⟨_,rfl,k,_⟩
    exact k _ _ a0d nCT
   ·rintro o i hi σ' H' rt bk ⟨_,rfl,k,hT'⟩
    have hi':i < F.length:=by simpa using hi
    have hcm':H' cm=some (.frz o (.dK (wv F))):=k _ _ a0d nCT
    have hv:=a7y hFn (show (F[i].1,F[i].2)∈F from Xi hi')
    have hq:F[i].1∉(T++(F.take i).map fun p=>(p.1,p.2,n+1)).map (·.1):=fun z=>by
     rw [Xf,Qq] at z
     rcases z with z | z
     ·exact hnew _ (Qf.mpr ⟨_,Xi hi',rfl⟩) z
     ·rw [Qy] at z
      obtain ⟨x,hx,e⟩:=Qf.mp z
      obtain ⟨j,hj,rfl⟩:=Jm hx
      rw [Yb] at hj
      have e':(F.map (·.1))[j]'(by rw [Qd];omega)=(F.map (·.1))[i]'hi:=by rw [Ji,Ji,←e,Vd];rfl
      have:=(Zt hFn).mp e'
      omega
    have hll:(T++(F.take i).map fun p=>(p.1,p.2,n+1)).length≤100000:=by
     rw [Xn,Qd,Yb];omega
    rw [Ji,Xb hi',Xf,←Zo]
    try simp only [a0l,a3b,a8b,a0i,a8I,a0k,Qi,Qj,Qb,Qa,a0u,a0e]
    refine ⟨cm,_,rfl,.inl ⟨_,Sum.inr F[i].1,.inr ⟨o,hcm'⟩,rfl,hv.symm⟩,by simp only [Qs,Xk];decide,fun p hp=>?_⟩
    obtain ⟨H11,e11,s11,h11⟩:=a1p hp (.tup [V.str (wd F[i].2),V.int ((n:Int)+1)]);rw [e11]
    obtain ⟨kv,hput,hT2⟩:=hT'.put (n:=n+1) s11 h11 hq hll
    exact ⟨To,_,rfl,hput,_,rfl,fun b o e n=>by rw [a0a n];exact s11 _ _ (k _ _ e n),hT2⟩
   ·rintro o σ' H' ⟨y12,rfl,k,hT'⟩
    rw [Qd,Xz] at hT'
    have k11:∀b o',H10 b=some o'→b≠To→upd H' cm (.dK (wv F)) b=some o':=fun b o' e nb=>by
     by_cases z:b=cm
     ·rw [z,a0d,←hC,←z];exact e
     ·rw [a0a z];exact k _ _ (by rw [a0a z];exact e) nb
    have hT11:TAt (upd H' cm (.dK (wv F))) To (T++F.map fun p=>(p.1,p.2,n+1)):=hT'.keep fun b o' e hb=>by
     have hcf:H' cm=some (.frz o (.dK (wv F))):=k _ _ a0d nCT
     rcases hb with rfl | ⟨xs,rfl⟩
     ·rw [a0a nCT.symm];exact e
     ·rw [a0a (a0B e hcf (by intro z;cases z))];exact e
    generalize upd H' cm (.dK (wv F))=H11 at k11 hT11
    clear hT' k
    have hC11:=k11 _ _ hC nCT
    have hH11:=k11 _ _ hH nHT
    have hR11:=k11 _ _ hR nRT
    have g1:=a5c F true
    have g2:=a5c F false
    have g3:=a1b ((F.map (·.1)).filter fun q=>decide ((q,true)∈F)) []
    have g4:=a1b ((F.map (·.1)).filter fun q=>decide ((q,false)∈F)) []
    have bvl:∀l:List Str,(bv l).length=l.length:=fun l=>by unfold bv;rw [Qd]
    try simp only [a1u,a3Y,tBM,a0k,Qb,Qa,a0i,a0K,a0u,Qg,a2b,tOp,tC,a0l,b3r,Qi,Qj,a0e,a0J]
    refine ⟨.inr (.inr (.inl ⟨rfl,.inl ⟨_,hH11⟩⟩)),a2v hC11 (a2I F) (by rw [Qd];omega) (a0E rfl) [some (V.ref cm)] rfl (fun q=>decide ((q,true)∈F)) (fun q0 H0 H' R hq off hR s hR'=>a2Q (b:=true) hFn hq hR hR') fun L3 H12 hL3 s12 hL12=>?_⟩
    refine ⟨_,_,rfl,.inl ⟨L3,rfl,hL12⟩,by omega,fun KD H13 s13' hKn hKD=>?_⟩
    have s1113:=s12.trans s13'
    have nHK:He≠KD:=fun z=>by rw [←z,s12 _ _ hH11] at hKn;cases hKn
    refine ⟨He,KD,kH,_,rfl,rfl,nHK,s1113 _ _ hH11,hKD,Qh (show _≤1000 by rw [bvl];simp at g3;omega) (by decide),?_⟩
    have hml:=a1s (bv (((F.map (·.1)).filter fun q=>decide ((q,true)∈F)).foldl a0V [])) kH
    obtain ⟨H14,e14,k14,hH14⟩:∃H',upd H13 He (.dK (a1B kH (bv (((F.map (·.1)).filter fun q=>decide ((q,true)∈F)).foldl a0V []))))=H'∧(∀b o,H11 b=some o→b≠He→H' b=some o)∧H' He=some (.dK (a1B kH (bv (((F.map (·.1)).filter fun q=>decide ((q,true)∈F)).foldl a0V [])))):=⟨_,rfl,fun b o e n=>by rw [a0a n];exact s1113 _ _ e,a0d⟩
    rw [e14]
    have hC14:=k14 _ _ hC11 nCH
    have hR14:=k14 _ _ hR11 nHR.symm
    try simp only []
    refine ⟨.inr (.inr (.inl ⟨rfl,.inl ⟨_,hR14⟩⟩)),a2v hC14 (a2I F) (by rw [Qd];omega) (a0E rfl) [some (V.ref cm)] rfl (fun q=>decide ((q,false)∈F)) (fun q0 H0 H' R hq off hR s hR'=>a2Q (b:=false) hFn hq hR hR') fun L4 H15 hL4 s15 hL15=>?_⟩
    refine ⟨_,_,rfl,.inl ⟨L4,rfl,hL15⟩,by omega,fun KE H16 s16 hKEn hKE=>?_⟩
    have s1416:=s15.trans s16
    have nRK:Re≠KE:=fun z=>by rw [←z,s15 _ _ hR14] at hKEn;cases hKEn
    refine ⟨Re,KE,kR,_,rfl,rfl,nRK,s1416 _ _ hR14,hKE,Qh (show _≤1000 by rw [bvl];simp at g4;omega) (by decide),?_⟩
    have hml2:=a1s (bv (((F.map (·.1)).filter fun q=>decide ((q,false)∈F)).foldl a0V [])) kR
    obtain ⟨H17,e17,k17,hR17⟩:∃H',upd H16 Re (.dK (a1B kR (bv (((F.map (·.1)).filter fun q=>decide ((q,false)∈F)).foldl a0V []))))=H'∧(∀b o,H14 b=some o→b≠Re→H' b=some o)∧H' Re=some (.dK (a1B kR (bv (((F.map (·.1)).filter fun q=>decide ((q,false)∈F)).foldl a0V [])))):=⟨_,rfl,fun b o e n=>by rw [a0a n];exact s1416 _ _ e,a0d⟩
    rw [e17]
    rw [bvl] at hml hml2
    have hC17:=k17 _ _ hC14 nCR
    have hH17:=k17 _ _ hH14 nHR
    have hHm17:=DAt.merge hHm (b1I hIF)
    have hRm17:=DAt.merge hRm (b2m hIF)
    have hIT1:=a6M hIT hIF
    have hT17:TAt H17 To (T++F.map fun p=>(p.1,p.2,n+1)):=hT11.keep fun b o' e hb=>by
     rcases hb with rfl | ⟨xs,rfl⟩
     ·exact k17 _ _ (k14 _ _ e nHT.symm) nRT.symm
     ·exact k17 _ _ (k14 _ _ e (a0B e hH11 (by intro z;cases z))) (a0B e hR11 (by intro z;cases z))
    have kk17:K3 H17:=k3to _ fun b o e n1 n2 n3=>k17 _ _ (k14 _ _ (k11 _ _ (k3of _ kk _ _ e n1 n2 n3) n1) n2) n3
    generalize a1B kH (bv (((F.map (·.1)).filter fun q=>decide ((q,true)∈F)).foldl a0V []))=kH' at hml hH17 hHm17
    generalize a1B kR (bv (((F.map (·.1)).filter fun q=>decide ((q,false)∈F)).foldl a0V []))=kR' at hml2 hR17 hRm17
    have hTl1:(T++F.map fun p=>(p.1,p.2,n+1)).length=T.length+F.length:=by rw [Xn,Qd]
    generalize hTe:(T++F.map fun p=>(p.1,p.2,n+1))=T1 at hT17 hIT1 hnd hkey hTl1
    have hW17:=k3of _ kk17 _ _ (s8 _ _ hWa) nWT nWH nWR
    obtain ⟨kT,hkT,_,hkTm⟩:=hT17.keys
    try simp only []
    refine ⟨Hd,cm,rs,F,rfl,fun H' off=>(k3D _ kk17).keep fun b o e hb=>off b o e fun z=>?_,hC17,by omega,hO,hrl,fun Dt kt H18 s18 hDtn hDt hktn hktl hktm=>?_⟩
    ·cases z
     rcases hb with w | ⟨xs,rfl⟩
     ·exact nCD w
     ·rw [hC17] at e;cases e
    refine b0C hDt (a2U kt) hktl s18 [some (V.ref Wa),some (V.ref To)] (by rfl) (fun q=>decide (q∈W) && decide (q∉T1.map (·.1))) (fun q0 H0 H' R hq off s hR'=>?_) fun As H19 hAsn s19 hAs=>?_
    ·have hW':=s _ _ (off.keep _ _ (s18 _ _ hW17) fun z=>by cases z;rw [hW17] at hDtn;cases hDtn)
     have hT':=s _ _ (off.keep _ _ (s18 _ _ hkT) fun z=>by cases z;rw [hkT] at hDtn;cases hDtn)
     have:=hR' _ (a0j.refl _)
     try simp only [b9N,tB,b7y,a0k,Qa,Qb,a2Y,a2i,a0e]
     refine ⟨Wa,_,rfl,a2S.k (k:=(Sum.inr q0:Key)) hW',?_⟩
     rw [a2g]
     by_cases z1:q0∈W
     ·rw [if_pos z1]
      rw [decide_eq_true z1,Jk] at this
      refine ⟨To,_,rfl,a2S.k (k:=(Sum.inr q0:Key)) hT',?_⟩
      rw [hkTm,show (!decide (q0∈T1.map (·.1)))=decide (q0∉T1.map (·.1)) from by simp]
      exact this
     ·rw [if_neg z1]
      rw [decide_eq_false z1,Js] at this
      exact this
    try simp only [a2b,a0K,a0i,a0k,Qa,Qb,a0u,Qg,a0l,Qi,Qj,a0e]
    have ha:∀x,x∈kt.filter (fun q=>decide (q∈W) && decide (q∉T1.map (·.1)))↔tch rs (F.map (·.1)) x∧x∈W∧x∉T1.map (·.1):=fun x=>by
     rw [Qv,hktm,Xh,decide_eq_true_eq,decide_eq_true_eq]
    have hfl:=Xa (fun q=>decide (q∈W) && decide (q∉T1.map (·.1))) kt
    have hfn:(kt.filter (fun q=>decide (q∈W) && decide (q∉T1.map (·.1)))).Nodup:=hktn.sublist Wt
    generalize kt.filter (fun q=>decide (q∈W) && decide (q∉T1.map (·.1)))=ask at ha hfl hfn hAs
    have hlt:W.length - T1.length < m:=by
     have:0 < F.length:=by omega
     omega
    refine ⟨g,_,_,_,_,rs,pl,S,(rds rs pl S W (ups kn) (a0P kn) (n+1)).U,(rds rs pl S W (ups kn) (a0P kn) (n+1)).D,ask,rfl,fun H' off=>?_,hO,hrl,.inl ⟨As,rfl,hAs⟩,hfn,by omega,fun q0 hq0=>(hsm q0 ((hWm q0).mp ((ha q0).mp hq0).2.1)).1,fun C2 H20 s20 hC2n hC2=>?_⟩
    ·have s18':a0j H18 H':=off.same s19 hAsn
     have kk':K3 H':=k3to _ fun b o e n1 n2 n3=>s18' _ _ (s18 _ _ (k3of _ kk17 _ _ e n1 n2 n3))
     exact ⟨hG.same (k3H _ kk'),k3S _ kk',.inr ⟨He,_,rfl,s18' _ _ (s18 _ _ hH17),hHm17⟩,.inr ⟨Re,_,rfl,s18' _ _ (s18 _ _ hR17),hRm17⟩⟩
    have s1720:=(s18.trans s19).trans s20
    have hn19:∀{x:Addr} {o:HO},H17 x=some o→C2≠x:=fun {x o} e z=>by rw [z,s19 _ _ (s18 _ _ e)] at hC2n;cases hC2n
    refine ⟨_,hlt,n+1,T1,_,C2,_,_,kH',kR',rfl,k3to _ fun b o e n1 n2 n3=>s1720 _ _ (k3of _ kk17 _ _ e n1 n2 n3),hT17.same s1720,hnd,hIT1,s1720 _ _ hH17,hHm17,by simp at g3;omega,s1720 _ _ hR17,hRm17,by simp at g4;omega,hC2,⟨hn19 hkT,hn19 hH17,hn19 hR17,?_⟩,hfn.sublist (a4J _ _ _ _ _ _),b1F (fun q0 hq0=>(hsm q0 ((hWm q0).mp hq0)).2) hIT1 hIF ha,rfl⟩
    obtain ⟨kv,e,_⟩:=k3D _ kk17
    exact hn19 e
  ·have hF0:F=[]:=by
    cases F with
    | nil=>rfl
    | cons x l=>exact absurd (by simp only [Qs];omega) c1
   subst hF0
   try skip
   exact q To T n H10 (k3H _ kk) (none_of s06 (none_of s7 hTo)) hT hTn (b4S hIF) hIT
theorem b6b (T:Txt K mg t):a0W P w K mg base CX0 1 t.f_z0i t.fd_z0i ["self"] (a0U true):=by
 refine T.F_z0i.ok b6s (fun vs H Q E h=>?_) (fun cdv A outer s H vs Q E hr h=>?_)
 ·obtain ⟨x,rfl,q⟩:=h;rfl
 ·obtain ⟨x,rfl,q⟩:=h
  refine ⟨_,‹A4 (A8 B8)›,?_⟩
  rw [show start b6x [x]=[some (x)] from rfl]
  try simp only [a1o,tC]
  exact q
theorem b3x (T:Txt K mg t):a0W P w K mg base CX0 1 t.f_z0g t.fd_z0g ["self"] (a0U false):=by
 refine T.F_z0g.ok b8a (fun vs H Q E h=>?_) (fun cdv A outer s H vs Q E hr h=>?_)
 ·obtain ⟨x,rfl,q⟩:=h;rfl
 ·obtain ⟨x,rfl,q⟩:=h
  refine ⟨_,‹A4 (A8 B8)›,?_⟩
  rw [show start b9h [x]=[some (x)] from rfl]
  try simp only [a1o,tC]
  exact q
theorem b6N (T:Txt K mg t):a0W P w K mg base CX0 1 t.f_z0j t.fd_z0j ["self"] (a0U true):=by
 refine T.F_z0j.ok b6H (fun vs H Q E h=>?_) (fun cdv A outer s H vs Q E hr h=>?_)
 ·obtain ⟨x,rfl,q⟩:=h;rfl
 ·obtain ⟨x,rfl,q⟩:=h
  refine ⟨_,‹A4 (A8 B8)›,?_⟩
  rw [show start b8x [x]=[some (x)] from rfl]
  try simp only [a1o,tC]
  exact q
theorem b8T (T:Txt K mg t):a0W P w K mg base CX0 3 t.f_z0n t.fd_z0n ["rules","known"] (b8q K t):=by
 refine T.F_z0n.ok a2F (fun vs H Q E h=>?_) (fun cdv A outer s H vs Q E hr h=>?_)
 ·obtain ⟨a,kv,xs,rs,kn,rfl,ha,hA,hO,hrl,hk,hkl,q⟩:=h;rfl
 ·obtain ⟨a,kv,xs,rs,kn,rfl,ha,hA,hO,hrl,hk,hkl,q⟩:=h
  refine ⟨_,‹E1 (A6 2 a2F.nd (A7 (a2J T) T.g_z1r T.F_z1r.kp T.b_z1r .nil (A0 (G2 (B1 b6l 1 H3 (a0v _)) (C4 A1) 1) A1))) (A2 (E3 3 (B4 (a0c a2B) a7U ["rule","sure"] [none,some 2]) (B7 0) (A9 0 (show Xo (["rule","sure"]:List Str) by decide+kernel)) (C8 (E5 (G0 (C5 (E0 (C7 0 T.cl_Fact T.me_Fact_is_sure (b6b T) T.b_z0i) (E0 (C7 0 T.cl_Sure T.me_Sure_is_sure (b6N T) T.b_z0j) (E0 (C7 0 T.cl_Most T.me_Most_is_sure (b3x T) T.b_z0g) (C7 0 T.cl_Block T.me_Block_is_sure (b3x T) T.b_z0g))))) (G1 (D6 ‹F0 (D7 0) 1›))))) 0 a2F.nd) (A2 (A6 4 a2F.nd C6) (A2 (A6 5 a2F.nd A3) (A2 (E3 6 (B4 (a0c a2B) a7U ["rule","sure"] [none,some 2]) (B7 3) (A9 0 (show Xo (["rule","sure"]:List Str) by decide+kernel)) (C8 (C5 (A7 (a7k T) T.g_z11 T.F_z11.kp T.b_z11 .nil (A0 (D7 0) (A0 1 A1))))) (D7 0) a2F.nd) (A2 (F9 (B1 b4x (B9 a1a T.z_len a1c (A0 6 A1)) A3 (a0v _)) (A2 (B6 (B7 6) (A9 7 a2F.nd) (A2 (C2 4 7 5) (A4 (C2 2 7 B8)))) (A2 (E3 3 (B4 (a0c a2B) a7U ["rule","sure"] [none,some 2]) (B7 3) (A9 0 (show Xo (["rule","sure"]:List Str) by decide+kernel)) (C8 (D6 ‹F0 (D7 0) 1›)) 0 a2F.nd) (A2 (A6 5 a2F.nd (A5 a0p 5 A3)) (A4 (E3 6 (B4 (a0c a2B) a7U ["rule","sure"] [none,some 2]) (B7 3) (A9 0 (show Xo (["rule","sure"]:List Str) by decide+kernel)) (C8 (C5 (A7 (a7k T) T.g_z11 T.F_z11.kp T.b_z11 .nil (A0 (D7 0) (A0 1 A1))))) (D7 0) a2F.nd)))))) (A4 (A8 4)))))))›,?_⟩
  rw [show start a7U [V.ref a,kv]=[some (V.ref a),some (kv),none,none,none,none,none,none] from rfl]
  have hkl':(kn.foldl a0V []).length≤100:=Qh (a1b kn []) (by simpa using hkl)
  have hkn:(kn.foldl a0V []).Nodup:=a1v kn (by simp)
  try simp only [a0C,a2E,a0k]
  refine ⟨fun σ' H'=>∃D,σ'=[some (V.ref a),some kv,some (V.ref D),none,none,none,none,none]∧a0j H H'∧H D=none∧H' D=some (.dK (bv (kn.foldl a0V []))),?_,?_⟩
  ·rcases hk with ⟨rfl,rfl⟩ | ⟨b,rfl,hb⟩
   ·try simp only [a2b,a0K,a0i,tIf,a1q,tOp,a0k,Qb,Qa,tC,a5Z,a0u,Qg,a0l,Qi,Qj,a0e,b1O,a2i,if_true]
    refine ⟨by decide,fun p hp=>?_⟩
    obtain ⟨H1,e1,s1,h1⟩:=a1p hp (.lst []);rw [e1]
    exact ⟨_,[],rfl,.inl ⟨p,rfl,h1⟩,by decide,fun D H' s hD hD'=>⟨D,rfl,s1.trans s,none_of s1 hD,hD'⟩⟩
   ·try simp only [a2b,a0K,a0i,tIf,a1q,tOp,a0k,Qb,Qa,tC,a5Z,a0u,Qg,a0l,Qi,Qj,a0e,b2i,a2i,b3o]
    exact ⟨_,kn,rfl,.inl ⟨b,rfl,hb⟩,by omega,fun D H' s hD hD'=>⟨D,rfl,s,hD,hD'⟩⟩
  rintro σ H1 ⟨D,rfl,s1,hD,hD1⟩
  generalize kn.foldl a0V []=k0 at hD1 hkl' hkn q
  obtain ⟨zr,ez1,ez2,hz⟩:=hA.zip hO
  subst ez1 ez2
  have hzl:zr.length≤100:=by simpa using hrl
  try simp only [a1u,Qa,a2b,a1T,a0l,tC,Qi,Qj,Qb,a0e,a1i]
  refine ⟨⟨_,SqL.of (s1 _ _ ha)⟩,?_⟩
  refine a1Q zr (s1 _ _ ha) (by omega) (hz.same s1) [some (V.ref D)] rfl (fun r=>(srW r).1 && decide ((srW r).2.1∉k0)) (fun p=>p.1) (fun x r H' R ho hr s hR=>?_) (fun x r H' R ho hr s hR=>?_) (fun W H2 hWn s2 hW2=>?_)
  ·try simp only [b9N,tB,a2Y,a3l,a0k,Qa,Qb,a2i,a0e]
   have CF:=a7Y T ho.1
   refine c2p ho.1 (a0E rfl) hr ⟨by decide+kernel,by decide+kernel,by decide+kernel⟩ ?_
   rw [b0k ho.1]
   try simp only [a4p,a2i,decide_eq_true_eq]
   obtain ⟨dx,t0,h1,h2⟩:=hr
   have:=hR _ (a0j.refl _)
   refine a2k (fun c=>?_) (fun c=>?_)
   ·have e1:(srW r).1=true:=decide_eq_true (by have:=c;omega)
    refine ⟨x,_,dx,_,_,rfl,h1,CF.cl,CF.nh,a1f _ _ _,D,_,rfl,c3C (s _ _ hD1) _,?_⟩
    rw [e1,Jk] at this
    by_cases h:r.2.2.1∈k0
    ·rw [if_pos h];rw [decide_eq_false (show ¬¬(srW r).2.1∈k0 from fun z=>z h)] at this;exact this
    ·rw [if_neg h];rw [decide_eq_true (show ¬(srW r).2.1∈k0 from h)] at this;exact this
   ·have e1:(srW r).1=false:=decide_eq_false (by have:=c;omega)
    rw [e1,Js] at this;exact this
  ·try simp only [a0k,Qa,a0e]
   exact hR _ (a0j.refl _)
  try simp only [a1i]
  obtain ⟨RS,eRS⟩:∃RS,(zr.map (·.2)).map srW=RS:=⟨_,rfl⟩
  rw [eRS] at q
  have hRl:RS.length≤100:=by rw [←eRS];simpa using hzl
  intro R hR0
  obtain ⟨H3,e3,s3,hR3⟩:=a1p hR0 (.dK []);rw [e3]
  have hD3:=s3 _ _ (s2 _ _ hD1)
  have hW3:=s3 _ _ hW2
  have s03:=(s1.trans s2).trans s3
  have hRn:H R=none:=none_of (s1.trans s2) hR0
  have hDR:D≠R:=fun z=>by have e:=s2 _ _ hD1;rw [z,hR0] at e;cases e
  refine ⟨⟨_,SqL.of hW3⟩,?_⟩
  have hAm:∀(S:List Str) (x:Addr) (r:Rw) (H':Hp) (R:Bool→Hp→Prop),a2j r→a1M H' x (a3X t r.1) (.str r.2.1) (.str r.2.2.1) (r.2.2.2.map V.str)→H' D=some (.dK (bv S))→(∀H'',a0j H' H''→R ((srW r).2.2.all fun q=>decide (q∈S)) H'')→tB (a0K a6T [] E0 (a0i (a3l K (a0k 0) "body") (a0i (a0k 1) a0u))) [some (V.ref x),some (V.ref D)] H' R:=by
   intro S x r H' R ho hr hD' hR
   have CF:=a7Y T ho.1
   obtain ⟨dx,t0,h1,h2⟩:=hr
   try simp only [tB,a0K,a0i,a3l,a0k,Qa,Qb,a0u,Qg,a0e]
   refine ⟨x,_,dx,_,_,rfl,h1,CF.cl,CF.nb,a1E _ _ _,?_⟩
   refine ⟨t0,_,r.2.2.2,S,rfl,h2,by have:=ho.2.2.2.2.2;omega,c5J hD',fun H'' s''=>?_⟩
   try simp only [a2i]
   exact hR _ s''
  have hHd:∀(x:Addr) (r:Rw) (H':Hp) (R:V→Hp→Prop),a2j r→a1M H' x (a3X t r.1) (.str r.2.1) (.str r.2.2.1) (r.2.2.2.map V.str)→(∀H'',a0j H' H''→R (V.str (srW r).2.1) H'')→a3l K (a0k 0) "head" [some (V.ref x),some (V.ref D)] H' R:=by
   intro x r H' R ho hr hR
   have CF:=a7Y T ho.1
   obtain ⟨dx,t0,h1,h2⟩:=hr
   try simp only [a3l,a0k,Qa,a0e]
   exact ⟨x,_,dx,_,_,rfl,h1,CF.cl,CF.nh,a1f _ _ _,hR _ (a0j.refl _)⟩
  refine a1Q (wat zr k0) hW3 (Qh (a6C _ _) (by omega)) ((b1a hz).same s03) [some (V.ref D)] rfl (fun r=>(srW r).2.2.all fun q=>decide (q∈k0)) (fun p=>V.str (srW p.2).2.1) (fun x r H' R ho hr s hR=>hAm k0 x r H' R ho hr (s _ _ hD3) hR) (fun x r H' R ho hr s hR=>hHd x r H' R ho hr hR) (fun F H4 hFn s4 hF4=>?_)
  rw [a7f,eRS] at hF4
  refine a6h (fun m σ H'=>∃(n:Nat) (W F:Addr) (x7:Option V),σ=[some (V.ref a),some kv,some (V.ref D),some (V.ref W),some (V.ref R),some (V.int ((n:Int)+1)),some (V.ref F),x7]∧a0j H H'∧H' D=some (.dK (bv (sS RS k0 n)))∧H' R=some (.dK (dv (sR RS k0 n)))∧H' W=some (.lst ((wat zr (sS RS k0 n)).map (·.1)))∧H' F=some (.lst ((frs RS (sS RS k0 n)).map V.str))∧m=b2U RS (sS RS k0 n))
   (b2U RS k0) ⟨0,W,F,_,rfl,s03.trans s4,s4 _ _ hD3,s4 _ _ hR3,s4 _ _ hW3,hF4,rfl⟩ ?_
  clear hF4 hFn s4 hW3 hW2 hWn
  rintro m σ H4 ⟨n,W,F,x7,rfl,s4,hD4,hR4,hW4,hF4,hm⟩
  have hfl:=b4i RS (sS RS k0 n)
  have hSl:=b3j (rs:=RS) hkn n
  have hRl':=b3e (rs:=RS) hkn n
  try simp only [a1q,tOp,tCB,a0i,a0k,Qb,Qa,a0u,tC,a1u,a0Q,a2E,a0e,a1i,a1o]
  refine a1A (SqL.of hF4) ?_
  rw [Qd]
  try simp only [a4H,a2i,decide_eq_true_eq]
  refine a2k (fun c1=>?_) (fun c1=>?_)
  ·have hne:frs RS (sS RS k0 n)≠[]:=fun z=>by rw [z] at c1;exact absurd c1 (by decide)
   refine ⟨fun σ' H'=>∃m',m' < m∧∃(n:Nat) (W F:Addr) (x7:Option V),σ'=[some (V.ref a),some kv,some (V.ref D),some (V.ref W),some (V.ref R),some (V.int ((n:Int)+1)),some (V.ref F),x7]∧a0j H H'∧H' D=some (.dK (bv (sS RS k0 n)))∧H' R=some (.dK (dv (sR RS k0 n)))∧H' W=some (.lst ((wat zr (sS RS k0 n)).map (·.1)))∧H' F=some (.lst ((frs RS (sS RS k0 n)).map V.str))∧m'=b2U RS (sS RS k0 n),fun _ _ h=>h,⟨_,SqL.of hF4⟩,?_⟩
   have hFD:F≠D:=a0B hF4 hD4 (by intro z;cases z)
   have hFR:F≠R:=a0B hF4 hR4 (by intro z;cases z)
   have hWD:W≠D:=a0B hW4 hD4 (by intro z;cases z)
   have hWR:W≠R:=a0B hW4 hR4 (by intro z;cases z)
   refine a2w (K:=K) (a:=F) (xs:=(frs RS (sS RS k0 n)).map V.str) (fun j σ H'=>∃(x7:Option V),σ=[some (V.ref a),some kv,some (V.ref D),some (V.ref W),some (V.ref R),some (V.int ((n:Int)+1)),some (V.ref F),x7]∧a0j H H'∧H' D=some (.dK (bv (((frs RS (sS RS k0 n)).take j).foldl a0V (sS RS k0 n))))∧H' R=some (.dK (dv (((frs RS (sS RS k0 n)).take j).foldl (a4b (n+1)) (sR RS k0 n))))∧H' W=some (.lst ((wat zr (sS RS k0 n)).map (·.1)))∧H' F=some (.lst ((frs RS (sS RS k0 n)).map V.str)))
    ⟨_,rfl,s4,hD4,hR4,hW4,hF4⟩ (fun j σ H' _ h=>by obtain ⟨_,_,_,_,_,_,h⟩:=h;exact SqL.of h) ?_ ?_
   ·rintro j x σ H5 hj ⟨x9,rfl,s5,hD5,hR5,hW5,hF5⟩
    have hjl:j < (frs RS (sS RS k0 n)).length:=by simpa using (Qr.mp hj).1
    have ex:x=V.str (frs RS (sS RS k0 n))[j]:=by
     rw [Qo,Qe hjl] at hj
     exact (Option.some.inj hj).symm
    subst ex
    have hnew:=a6o (Xi hjl)
    rw [Xb hjl,Zp,Zp]
    have hlkt:lk (((frs RS (sS RS k0 n)).take j).foldl (a4b (n+1)) (sR RS k0 n)) (frs RS (sS RS k0 n))[j]=none∨lk (((frs RS (sS RS k0 n)).take j).foldl (a4b (n+1)) (sR RS k0 n)) (frs RS (sS RS k0 n))[j]=some (n+1):=by
     rw [a4I fun h hh=>.inl (a6o (Zq hh)),hnew]
     split
     ·exact .inr rfl
     ·exact .inl rfl
    have l1:=a1b ((frs RS (sS RS k0 n)).take j) (sS RS k0 n)
    have l2:=a5o (n+1) ((frs RS (sS RS k0 n)).take j) (sR RS k0 n)
    have l3:((frs RS (sS RS k0 n)).take j).length≤100:=by rw [Yb];omega
    have nd:=a3T (n+1) ((frs RS (sS RS k0 n)).take j) (a0Y (rs:=RS) (kn:=k0) n)
    generalize ((frs RS (sS RS k0 n)).take j).foldl (a4b (n+1)) (sR RS k0 n)=R5 at hR5 l2 nd hlkt
    generalize ((frs RS (sS RS k0 n)).take j).foldl a0V (sS RS k0 n)=S5 at hD5 l1
    try simp only [a0l,a1u,a3b,a0k,Qi,Qj,Qb,Qa,tC,a0e]
    refine ⟨R,_,rfl,c5l (n:=n+1) hR5 (by omega) nd hlkt,?_⟩
    refine ⟨D,_,rfl,b4D (by rw [a0a hDR];exact hD5) (by omega) _,_,rfl,?_,a0d,?_,?_,?_⟩
    ·intro b o e;rw [a0a (a0b e hD),a0a (a0b e hRn)];exact s5 _ _ e
    ·rw [a0a hDR.symm,a0d];rfl
    ·rw [a0a hWD,a0a hWR];exact hW5
    ·rw [a0a hFD,a0a hFR];exact hF5
   ·rintro σ H5 ⟨x9,rfl,s5,hD5,hR5,hW5,hF5⟩
    rw [Qd,Xz] at hD5 hR5
    have hD5':H5 D=some (.dK (bv (sS RS k0 (n+1)))):=hD5
    have hR5':H5 R=some (.dK (dv (sR RS k0 (n+1)))):=hR5
    clear hD5 hR5
    have hsub:∀x,x∈sS RS k0 n→x∈sS RS k0 (n+1):=fun x hx=>a3Q.mpr (.inl hx)
    have hlack:=a5k hne
    try simp only [a1u,Qb,Qa,a2b,tOp,a0k,Qi,Qj,tC,a0l,a0e,a0J,a1i]
    refine ⟨⟨_,SqL.of hW5⟩,?_⟩
    refine a1Q (wat zr (sS RS k0 n)) hW5 (Qh (a6C _ _) (by omega)) ((b1a hz).same s5) [some (V.ref D)] rfl (fun r=>decide ((srW r).2.1∉sS RS k0 (n+1))) (fun p=>p.1) (fun x r H' R ho hr s hR=>?_) (fun x r H' R ho hr s hR=>?_) (fun W' H6 hWn s6 hW6=>?_)
    ·have CF:=a7Y T ho.1
     obtain ⟨dx,t0,h1,h2⟩:=hr
     try simp only [tB,a2Y,a3l,a0k,Qa,Qb,a2i,a0e]
     refine ⟨x,_,dx,_,_,rfl,h1,CF.cl,CF.nh,a1f _ _ _,D,_,rfl,c3C (s _ _ hD5') _,?_⟩
     have:=hR _ (a0j.refl _)
     by_cases h:r.2.2.1∈sS RS k0 (n+1)
     ·rw [if_pos h];rw [decide_eq_false (show ¬¬(srW r).2.1∈sS RS k0 (n+1) from fun z=>z h)] at this;exact this
     ·rw [if_neg h];rw [decide_eq_true (show ¬(srW r).2.1∈sS RS k0 (n+1) from h)] at this;exact this
    ·try simp only [a0k,Qa,a0e]
     exact hR _ (a0j.refl _)
    rw [b7W zr hsub] at hW6
    have hD6:=s6 _ _ hD5'
    try simp only [a1i]
    refine ⟨⟨_,SqL.of hW6⟩,?_⟩
    refine a1Q (wat zr (sS RS k0 (n+1))) hW6 (Qh (a6C _ _) (by omega)) ((b1a hz).same (s5.trans s6)) [some (V.ref D)] rfl (fun r=>(srW r).2.2.all fun q=>decide (q∈sS RS k0 (n+1))) (fun p=>V.str (srW p.2).2.1) (fun x r H' R ho hr s hR=>hAm _ x r H' R ho hr (s _ _ hD6) hR) (fun x r H' R ho hr s hR=>hHd x r H' R ho hr hR) (fun F' H7 hFn s7 hF7=>?_)
    rw [a7f,eRS] at hF7
    have s57:=s6.trans s7
    exact ⟨_,by rw [hm];exact hlack,n+1,W',F',_,rfl,s5.trans s57,s57 _ _ hD5',s57 _ _ hR5',s7 _ _ hW6,hF7,rfl⟩
  ·have he:frs RS (sS RS k0 n)=[]:=by
    cases e:frs RS (sS RS k0 n) with
    | nil=>rfl
    | cons x l=>rw [e] at c1;exact absurd (by simp only [Qs];omega) c1
   rw [b9r he] at hR4
   try skip
   exact q R H4 s4 hRn hR4
theorem b7A (T:Txt K mg t):a0W P w K mg base CX0 4 t.f_z0u t.fd_z0u ["ground"] (b4G t):=by
 refine T.F_z0u.okC b3N (fun vs H Q E h=>?_) (fun A outer s H vs Q E hr h=>?_)
 ·obtain ⟨g,rs,pl,rfl,hG,hO,hrl,lt,q⟩:=h;rfl
 ·obtain ⟨g,rs,pl,rfl,hG,hO,hrl,lt,q⟩:=h
  refine ⟨_,‹A2 (A6 1 b3N.nd (A7 (b8T T) T.g_z0n T.F_z0n.kp T.bd_z0n (.cons (show a0N .non Value.none from rfl) .nil) (A0 (C7 0 T.cl_Ground T.me_Ground_rules (b3F T) T.b_z0l) A1))) (A4 (A8 (H4 ("statement") ["ranks"] [some 1] a1P 0 rfl rfl (hr.mono (by decide)) rfl T.z_sorted T.L_z0u T.LB 1 (B4 (a0c a7F) b4Z ["statement","ranks"] [none,some 1]) rfl rfl rfl (fun _ _ _ _ _ _=>rfl) a2D rfl (fun _ _ _ _ _ _ hr=>‹C3 (A0 (E2 1 0) (A0 0 A1))›))))›,?_⟩
  rw [show start b4Z [V.ref g]=[some (V.ref g),none] from rfl]
  obtain ⟨dx,io,bh,pr,_,_,_,hg1,_⟩:=id hG
  try simp only [a1u,a2b,a0K,a0i,a1G,a0k,Qa,a0u,Qg,Jf,Ue,a0l,a1o,b3D,Qi,Qj,Qb,a0e]
  refine ⟨g,dx,_,rfl,hg1,a2q _ _ _ (by decide+kernel) (by decide+kernel) (by decide+kernel),g,rs,pl,rfl,hG,fun W ys H1 s1 hWn hW1 hR1=>?_⟩
  refine ⟨W,_,ys,rs,[],rfl,hW1,hR1,hO,by omega,.inl ⟨rfl,rfl⟩,by decide,fun Fd H2 s2 hFn hF2=>?_⟩
  obtain ⟨F,eF⟩:∃F,FIN (rs.map srW) []=F:=⟨_,rfl⟩
  have hF2':H2 Fd=some (.dK (dv F)):=by rw [←eF];exact hF2
  have hFn':(F.map (·.1)).Nodup:=by rw [←eF];exact b0f _ _
  have hFl:F.length≤63:=by rw [←eF];exact Qh (b0X rs) hrl
  have lt2:=lt.mono (s1.trans s2)
  try skip
  refine ⟨Fd,dv F,F.map (·.1),gF (rs.map srW),rfl,hF2',b4k F,by rw [Qd];omega,hFn',lt2,fun z hz H3 k3=>?_,fun l H' ss lt' k' hln hl' hp hs=>?_⟩
  ·have hF3:=a6L lt2 k3 hF2' (by intro _ z;cases z)
   try simp only [a8b,a0i,a8I,a0k,Qb,Qa,a0u,a1i,a0e]
   obtain ⟨p0,hp0,rfl⟩:=Qf.mp hz
   have hlk:=a9t hFn' hp0
   have hg:gF (rs.map srW) p0.1=(p0.2:Int):=by unfold gF;rw [eF,hlk];rfl
   have hd:=a2S.k (k:=(Sum.inr p0.1:Key)) hF3
   rw [a4N,hlk] at hd
   exact ⟨_,rfl,Fd,_,rfl,hd,by simp only [Qs,Xk];decide,fun p hp=>⟨by rw [a0d,hg],a0j.upd hp⟩⟩
  ·exact q l ss H' lt' (fun a o n e=>k' a o n (s2 _ _ (s1 _ _ e))) (none_of (s1.trans s2) hln) hl' ⟨by rw [eF];exact hp,hs⟩
theorem b6W (T:Txt K mg t):a0W P w K mg base CX0 6 t.f_z0c t.fd_z0c ["self","ground"] (b7n t):=by
 refine T.F_z0c.ok b6B (fun vs H Q E h=>?_) (fun cdv A outer s H vs Q E hr h=>?_)
 ·obtain ⟨x,dx,g,rs,pl,po,H0,rfl,hx,s0,hxn,hG0,hO,hrl,hpo,hpl,hqs,lt0,q⟩:=h;rfl
 ·obtain ⟨x,dx,g,rs,pl,po,H0,rfl,hx,s0,hxn,hG0,hO,hrl,hpo,hpl,hqs,lt0,q⟩:=h
  refine ⟨_,‹A2 (D9 0 (A7 (a2J T) T.g_z1r T.F_z1r.kp T.b_z1r .nil (A0 (C7 1 T.cl_Ground T.me_Ground_statements (b3A T) T.b_z01) A1))) (A2 (D9 0 (A7 (a2J T) T.g_z1r T.F_z1r.kp T.b_z1r .nil (A0 (A7 (b7A T) T.g_z0u T.F_z0u.kp T.b_z0u .nil (A0 1 A1)) A1))) (A4 (D9 0 (A7 (b0u T) T.g_z0o T.F_z0o.kp T.b_z0o .nil (A0 1 (A0 (C7 1 T.cl_Ground T.me_Ground_statements (b3A T) T.b_z01) (A0 (C1 0) (A0 C6 A1))))))))›,?_⟩
  rw [show start b5W [V.ref x,V.ref g]=[some (V.ref x),some (V.ref g)] from rfl]
  obtain ⟨gx,io,bh,pr,_,_,_,hg0,_⟩:=id hG0
  have ngx:g≠x:=a0b hg0 hxn
  try simp only [a1u,b6E,a0K,a0i,a1G,a0k,Qb,Qa,a0u,Qg,a3l,a1T,a0e]
  refine ⟨g,gx,_,rfl,s0 _ _ hg0,a2q _ _ _ (by decide+kernel) (by decide+kernel) (by decide+kernel),g,rs,pl,po,rfl,hG0.same s0,hO,hrl,hpo,hpl,fun S1 St H1 s1 hS1n hS1 hSp hSs=>?_⟩
  have mem0:∀{l:List Str},l.Perm ((sts rs).foldl a0V [])→(∀q,q∈l↔q∈sts rs)∧l.Nodup∧l.length≤18:=fun {l} h=>by
   have h1:∀q,q∈l↔q∈sts rs:=fun q=>h.mem_iff.trans (by rw [a1D];exact ⟨fun h=>h.elim (fun z=>(by cases z)) id,.inr⟩)
   have h2:=h.nodup_iff.mpr (a1v (sts rs) Zj)
   exact ⟨h1,h2,Qh (a1h h2 fun x hx=>hpo x ((h1 x).mp hx)) hpl⟩
  obtain ⟨hStm,hStn,hStl⟩:=mem0 hSp
  refine ⟨_,St,rfl,.inl ⟨S1,rfl,hS1⟩,by omega,fun st H2 s2 hstn hst=>?_⟩
  rw [a2m hStn] at hst
  have s02:=s1.trans s2
  have nstx:st≠x:=fun z=>by rw [z,s1 _ _ hx] at hstn;cases hstn
  refine ⟨x,t.C_Answers,dx,_,rfl,s02 _ _ hx,T.cl_Answers,T.nf_Answers_standing,by show 0 < 1000;decide,?_⟩
  obtain ⟨H3,e3,s3,h3x,h3st⟩:∃H3,upd H2 x (.ins t.C_Answers dx (a1j "standing" (.ref st) []))=H3∧a0j H0 H3∧H3 x=some (.ins t.C_Answers dx (a1j "standing" (.ref st) []))∧H3 st=some (.dK (bv St)):=⟨_,rfl,fun c o e=>by rw [a0a (a0b e hxn)];exact s02 _ _ (s0 _ _ e),a0d,by rw [a0a nstx];exact hst⟩
  rw [e3]
  have lt3:=lt0.mono s3
  refine ⟨g,rs,pl,rfl,hG0.same s3,hO,hrl,lt3,fun Fo ss H4 lt4 k4 hFn hF4 hdue=>?_⟩
  have hssn:ss.Nodup:=hdue.1.nodup_iff.mpr (a0Y _)
  have hssl:=a9X hdue
  refine ⟨_,ss,rfl,.inl ⟨Fo,rfl,hF4⟩,by omega,fun sk H5 s5 hskn hsk=>?_⟩
  rw [a2m hssn] at hsk
  have h4x:=a6L lt3 k4 h3x (fun _ z=>nomatch z)
  have h4st:=a6L lt3 k4 h3st (fun _ z=>nomatch z)
  have nskx:sk≠x:=fun z=>by rw [z,h4x] at hskn;cases hskn
  refine ⟨x,t.C_Answers,dx,_,rfl,s5 _ _ h4x,T.cl_Answers,T.nf_Answers_sure_keys,by show 1 < 1000;decide,?_⟩
  obtain ⟨H6,e6,k6,lt6,h6x,h6st,h6sk⟩:∃H6,upd H5 x (.ins t.C_Answers dx (a1j "sure_keys" (.ref sk) (a1j "standing" (.ref st) [])))=H6∧(∀c o,c≠t.TB_z0u→H0 c=some o→H6 c=some o)∧a3V t.TB_z0u a1P H6∧H6 x=some (.ins t.C_Answers dx (a1j "sure_keys" (.ref sk) (a1j "standing" (.ref st) [])))∧H6 st=some (.dK (bv St))∧H6 sk=some (.dK (bv ss)):=⟨_,rfl,fun c o n e=>by rw [a0a (a0b e hxn)];exact s5 _ _ (k4 _ _ n (s3 _ _ e)),a8u (lt4.mono s5) (s5 _ _ h4x),a0d,by rw [a0a nstx];exact s5 _ _ h4st,by rw [a0a nskx];exact hsk⟩
  rw [e6]
  try skip
  refine ⟨g,gx,_,rfl,a6L lt0 k6 hg0 (fun _ z=>nomatch z),a2q _ _ _ (by decide+kernel) (by decide+kernel) (by decide+kernel),g,rs,pl,po,rfl,b9A lt0 k6 hG0,hO,hrl,hpo,hpl,fun S2 St2 H7 s7 hS2n hS2 hSp2 hSs2=>?_⟩
  obtain ⟨hStm2,hStn2,hStl2⟩:=mem0 hSp2
  refine ⟨x,_,dx,_,_,rfl,s7 _ _ h6x,T.cl_Answers,T.nf_Answers_sure_keys,by rw [a0f,if_pos rfl],fun kd hkd=>?_⟩
  obtain ⟨H8,e8,s8,h8⟩:=a1p hkd (.dK []);rw [e8]
  have s68:=s7.trans s8
  have k8:∀c o,c≠t.TB_z0u→H0 c=some o→H8 c=some o:=fun c o n e=>s68 _ _ (k6 c o n e)
  refine ⟨g,V.ref S2,V.ref sk,kd,rs,pl,St2,ss,[],rfl,b9A lt0 k8 hG0,hO,hrl,.inl ⟨S2,rfl,s8 _ _ hS2⟩,.inr ⟨sk,_,rfl,s68 _ _ h6sk,a2U _⟩,h8,Zj,by omega,by omega,by decide,fun q hq=>hqs q (hpo q ((hStm2 q).mp hq)),fun cm T0 n H9 s9 hcmn hTA hTn hfr hIT=>?_⟩
  have s69:=s68.trans s9
  have h9x:=s69 _ _ h6x
  refine ⟨x,t.C_Answers,dx,_,rfl,h9x,T.cl_Answers,T.nf_Answers_came,by show 2 < 1000;decide,?_⟩
  have hW:∀q,q∈St2.foldl a0V []↔q∈sts rs:=fun q=>by rw [a2m hStn2];exact hStm2 q
  refine q _ ss T0 (fun c o n e=>?_) (a8u (lt6.mono s69) h9x) hdue ⟨hTn,n,_,hW,hfr,hIT⟩ ⟨dx,st,sk,cm,St,a0d,?_,hStm,?_,hTA.keep fun b o e hb=>?_⟩
  ·rw [a0a (a0b e hxn)];exact s69 _ _ (k6 c o n e)
  ·rw [a0a nstx];exact s69 _ _ h6st
  ·rw [a0a nskx];exact s69 _ _ h6sk
  ·rcases hb with rfl | ⟨xs,rfl⟩
   ·rw [a0a (fun z=>by rw [z,s68 _ _ h6x] at hcmn;cases hcmn)];exact e
   ·rw [a0a (a0B e h9x (by intro z;cases z))];exact e
theorem b0W (T:Txt K mg t):a0W P w K mg base CX0 1 t.f_z00 t.fd_z00 ["self","q"] (c6n t):=by
 refine T.F_z00.ok b9G (fun vs H Q E h=>?_) (fun cdv A outer s H vs Q E hr h=>?_)
 ·obtain ⟨x,z,rs,ss,T0,rfl,hA,hn,q⟩:=h;rfl
 ·obtain ⟨x,z,rs,ss,T0,rfl,hA,hn,q⟩:=h
  obtain ⟨_,k_REFUSED⟩:=T.k_REFUSED
  refine ⟨_,‹A2 (B3 (D6 ‹F0 1 (C1 0)›) (A4 (A8 (C3 (A0 (D3 (.str "refused") k_REFUSED ⟨_,rfl⟩) (A0 A3 A1))))) B5) (A4 (A8 (F5 (C1 0) 1 (C3 (A0 B0 (A0 A3 A1))))))›,?_⟩
  rw [show start b6k [V.ref x,V.str z]=[some (V.ref x),some (V.str z)] from rfl]
  obtain ⟨dx,st,sk,cm,St,hx,hst,hSt,hsk,hcm⟩:=hA
  obtain ⟨A,rfl,hA,hAt⟩:=hcm
  try simp only [a1u,a3D,tB,a2Y,a0k,Qb,Qa,a3l,a1o,a8b,a0i,tC,a0u,a1F,a6N,a0e,a2i,Yj]
  refine ⟨x,_,dx,_,_,rfl,hx,T.cl_Answers,T.nf_Answers_standing,b8n _ _ _,st,_,rfl,a2S.k (k:=(Sum.inr z:Key)) hst,?_⟩
  rw [a2g]
  by_cases hz:z∈sts rs
  ·rw [if_pos ((hSt z).mpr hz)]
   try skip
   refine ⟨x,_,dx,_,_,rfl,hx,T.cl_Answers,T.nf_Answers_came,b7I _ _ _,?_⟩
   try simp only [a1i]
   refine ⟨a5E hA,by simp only [Qs,Xk];decide,fun p hp=>?_⟩
   obtain ⟨H1,e1,s1,h1⟩:=a1p hp (.tup [V.str "",V.int 0]);rw [e1]
   refine ⟨_,a2S.k (k:=(Sum.inr z:Key)) (s1 _ _ hA),?_⟩
   by_cases hm:z∈(A.map (·.2)).map (·.1)
   ·obtain ⟨e0,he0,ez⟩:=Qf.mp hm
    obtain ⟨e,he,rfl⟩:=Qf.mp he0
    rw [←ez,a6r (by rw [Qy] at hn;exact hn) he]
    refine q e.1 H1 s1 ?_
    unfold wr
    rw [if_pos hz,←ez,b0r hn he0];exact s1 _ _ (hAt e he)
   ·rw [b0q (by rw [Qy] at hm;exact hm)]
    refine q p H1 s1 ?_
    unfold wr
    rw [if_pos hz,Us.mpr fun x hx w=>hm (Qf.mpr ⟨x,hx,of_decide_eq_true w⟩)];exact h1
  ·rw [if_neg (fun w=>hz ((hSt z).mp w))]
   try skip
   refine ⟨by simp only [Qs,Xk];decide,fun p hp=>?_⟩
   obtain ⟨H1,e1,s1,h1⟩:=a1p hp (.tup [V.str "refused",V.int 1]);rw [e1]
   refine q p H1 s1 ?_
   unfold wr
   rw [if_neg hz];exact h1
theorem b6Z (T:Txt K mg t):a0W P w K mg base CX0 2 t.f_z0f t.fd_z0f ["self","q"] (b2C t fun rs ss T q=>.int ((wr rs T q).2:Nat)):=by
 refine T.F_z0f.ok b7e (fun vs H Q E h=>?_) (fun cdv A outer s H vs Q E hr h=>?_)
 ·obtain ⟨x,z,rs,ss,T0,rfl,hA,hn,q⟩:=h;rfl
 ·obtain ⟨x,z,rs,ss,T0,rfl,hA,hn,q⟩:=h
  refine ⟨_,‹A4 (A8 (B2 a0G (D0 0 T.cl_Answers T.me_Answers_word_and_rank (b0W T) T.b_z00 (A0 1 A1)) A3))›,?_⟩
  rw [show start b8B [V.ref x,V.str z]=[some (V.ref x),some (V.str z)] from rfl]
  obtain ⟨dx,st,sk,cm,St,hx,_⟩:=id hA
  try simp only [a1o,tOp,a1G,a0k,Qa,a0i,Qb,a0u,Qg,tC,a0e]
  refine ⟨x,dx,_,rfl,hx,a3g _ _ _ (by decide+kernel) (by decide+kernel) (by decide+kernel),x,z,rs,ss,T0,rfl,hA,hn,fun p H1 s1 h1=>a2r (SqT.of h1) rfl ?_⟩
  exact q H1 s1
theorem b3v (T:Txt K mg t):a0W P w K mg base CX0 1 t.f_z0a t.fd_z0a ["self"] (b4v K t):=by
 refine T.F_z0a.ok b6t (fun vs H Q E h=>?_) (fun cdv A outer s H vs Q E hr h=>?_)
 ·obtain ⟨x,rs,ss,T0,rfl,hA,q⟩:=h;rfl
 ·obtain ⟨x,rs,ss,T0,rfl,hA,q⟩:=h
  refine ⟨_,‹A4 (A8 (D5 (a4l rfl) T.z_list a1w (A0 (C1 0) A1)))›,?_⟩
  rw [show start b9z [V.ref x]=[some (V.ref x)] from rfl]
  obtain ⟨dx,st,sk,cm,St,hx,hst,hSt,hsk,hcm⟩:=hA
  try simp only [a1o,tCB,a0i,a3l,a0k,Qa,a0u,a0e]
  refine ⟨x,_,dx,_,_,rfl,hx,T.cl_Answers,T.nf_Answers_sure_keys,b6q _ _ _,a2R.list (K:=K) (S:=ss) (.inr ⟨sk,_,rfl,hsk,a2U _⟩) fun l hl=>?_⟩
  obtain ⟨H1,e1,s1,h1⟩:=a1p hl (.lst (ss.map V.str));rw [e1]
  exact q l H1 s1 hl h1
theorem b6L (T:Txt K mg t):a0W P w K mg base CX0 1 t.f_z0s t.fd_z0s ["self","rules","pairs"] (b6v t):=by
 refine T.F_z0s.ok a8D (fun vs H Q E h=>?_) (fun cdv A outer s H vs Q E hr h=>?_)
 ·obtain ⟨x,dx,b,pb,xs,rs,ps,pl,rfl,hx,hb,hA,hO,hrl,hpb,hPr,hpll,q⟩:=h;rfl
 ·obtain ⟨x,dx,b,pb,xs,rs,ps,pl,rfl,hx,hb,hA,hO,hrl,hpb,hPr,hpll,q⟩:=h
  refine ⟨_,‹A2 (D9 0 (D5 a2x T.z_tuple a2e (A0 1 A1))) (A2 (D9 0 C6) (A2 (B6 (E4 (C1 0)) (A9 3 a8D.nd) (A4 (D2 (C9 Xv Yd Ye a1g (G5 (C1 0) (C1 3) (C4 A1)) (A0 3 A1))))) (A2 (D9 0 H5) (A4 (B6 (B7 2) (A9 4 a8D.nd) (A4 (C2 (C1 0) (C3 (A0 (B2 a0G 4 A3) (A0 (B2 a0G 4 A3) A1))) B8)))))))›,?_⟩
  rw [show start b8c [V.ref x,V.ref b,V.ref pb]=[some (V.ref x),some (V.ref b),some (V.ref pb),none,none] from rfl]
  have hxl:=hA.len
  try simp only [a1u,b6E,tCB,a0i,a0k,Qb,Qa,a0u,a1T,a0Q,b5n,a3l,a0e]
  refine ⟨b,xs,rfl,.inl ⟨SqL.of hb,fun io hio=>?_⟩⟩
  obtain ⟨H1,e1,s1,h1⟩:=a1p hio (.tup xs);rw [e1]
  have hiox:io≠x:=fun z=>by rw [z,hx] at hio;cases hio
  refine ⟨x,t.C_Ground,dx,_,rfl,s1 _ _ hx,T.cl_Ground,T.nf_Ground_in_order,by show 0 < 1000;decide,?_⟩
  obtain ⟨H2,e2,k2,h2x,h2io⟩:∃H',upd H1 x (.ins t.C_Ground dx (a1j "in_order" (.ref io) []))=H'∧(∀c o,H c=some o→c≠x→H' c=some o)∧H' x=some (.ins t.C_Ground dx (a1j "in_order" (.ref io) []))∧H' io=some (.tup xs):=⟨_,rfl,fun c o e hc=>by rw [a0a hc];exact s1 _ _ e,a0d,by rw [a0a hiox];exact h1⟩
  rw [e2]
  intro bh hbh
  obtain ⟨H3,e3,s3,h3⟩:=a1p hbh (.dK []);rw [e3]
  have hbhx:bh≠x:=fun z=>by rw [z,h2x] at hbh;cases hbh
  have hbhn:H bh=none:=by
   cases e:H bh with
   | none=>rfl
   | some o=>rw [k2 _ _ e hbhx] at hbh;cases hbh
  refine ⟨x,t.C_Ground,dx,_,rfl,s3 _ _ h2x,T.cl_Ground,T.nf_Ground_by_head,by show 1 < 1000;decide,?_⟩
  have e2f:a1j "by_head" (V.ref bh) (a1j "in_order" (V.ref io) [])=([("in_order",V.ref io),("by_head",V.ref bh)]:List (Str×V)):=by
   show (if ("in_order":Str)="by_head" then _ else _)=_
   rw [if_neg (by decide+kernel)];rfl
  obtain ⟨H4,e4,k4,h4x,h4io,h4bh⟩:∃H',upd H3 x (.ins t.C_Ground dx (a1j "by_head" (.ref bh) (a1j "in_order" (.ref io) [])))=H'∧(∀c o,H c=some o→c≠x→H' c=some o)∧H' x=some (.ins t.C_Ground dx (a1j "by_head" (.ref bh) (a1j "in_order" (.ref io) [])))∧H' io=some (.tup xs)∧H' bh=some (.dK []):=
   ⟨_,rfl,fun c o e hc=>by rw [a0a hc];exact s3 _ _ (k2 c o e hc),a0d,by rw [a0a hiox];exact s3 _ _ h2io,by rw [a0a hbhx];exact h3⟩
  rw [e4]
  have lio:(a1j "by_head" (V.ref bh) (a1j "in_order" (V.ref io) [])).lookup ("in_order":Str)=some (V.ref io):=by rw [a0f,if_neg (by decide+kernel),a0f,if_pos rfl]
  have lbh:(a1j "by_head" (V.ref bh) (a1j "in_order" (V.ref io) [])).lookup ("by_head":Str)=some (V.ref bh):=by rw [a0f,if_pos rfl]
  refine ⟨x,_,dx,_,_,rfl,h4x,T.cl_Ground,T.nf_Ground_in_order,lio,?_⟩
  try simp only [a1i]
  refine ⟨⟨_,SqT.of h4io⟩,?_⟩
  refine a4z (K:=K) (a:=io) (xs:=xs) (fun i σ H'=>∃(kvs:List (Key×V)) (y3:Option V),σ=[some (V.ref x),some (V.ref b),some (V.ref pb),y3,none]∧(∀c o,H c=some o→c≠x→H' c=some o)∧H' x=some (.ins t.C_Ground dx (a1j "by_head" (.ref bh) (a1j "in_order" (.ref io) [])))∧H' io=some (.tup xs)∧H' bh=some (.dK kvs)∧kvs.length≤i∧
    (∀h:Str,(a0R kvs (Sum.inr h:Key)=none∧hdF (rs.take i) h=[])∨∃L ys,a0R kvs (Sum.inr h:Key)=some (.ref L)∧H L=none∧H' L=some (.lst ys)∧ys.length≤i∧a1H t H ys (hdF (rs.take i) h))∧
    (∀(h h':Str) (L:Addr),a0R kvs (Sum.inr h:Key)=some (.ref L)→a0R kvs (Sum.inr h':Key)=some (.ref L)→h=h'))
   ⟨[],_,rfl,k4,h4x,h4io,h4bh,Qk _,fun h=>.inl ⟨rfl,rfl⟩,fun h h' L e=>by cases e⟩ (fun i σ H' _ h=>by obtain ⟨_,_,_,_,_,h,_⟩:=h;exact SqT.of h) ?_ ?_
  ·rintro i v σ H5 hi ⟨kvs,y3,rfl,k5,h5x,h5io,h5bh,hkl,hF,hinj⟩
   have hil:i < rs.length:=by rw [←hA.len];exact (Qr.mp hi).1
   obtain ⟨v',ev,p,rfl,hp⟩:=hA.get i rs[i] (Qe hil)
   rw [hi] at ev;cases ev
   have hro:=hO _ (Xi hil)
   have CF:=a7Y T hro.1
   have hru:b0J t H (.ref p) rs[i]:=⟨p,rfl,hp⟩
   have esn:∀h,hdF (rs.take (i+1)) h=hdF (rs.take i) h++(if rs[i].2.2.1=h then [rs[i]] else []):=fun h=>by
    unfold hdF
    rw [Xb hil,Zm,Yc]
    by_cases z:rs[i].2.2.1=h
    ·rw [if_pos z,if_pos (decide_eq_true z)];rfl
    ·rw [if_neg z,if_neg (by simpa using z)];rfl
   generalize rs[i]=r at hp hro CF hru esn
   obtain ⟨dx',t0,hp1,hp2⟩:=hp
   have hpx:p≠x:=fun z=>by
    rw [z,hx] at hp1
    injection hp1 with hp1
    injection hp1 with _ _ h3
    have:=a1f (.str r.2.1) (.str r.2.2.1) t0
    rw [←h3] at this;cases this
   have hp5:=k5 _ _ hp1 hpx
   try simp only [a0l,a3Y,tBM,b0i,a3l,a0k,Qi,Qj,Qa,Qb,a5Z,a0u,a0i,a0e]
   refine ⟨x,_,dx,_,_,rfl,h5x,T.cl_Ground,T.nf_Ground_by_head,lbh,?_⟩
   try simp only [a1i]
   refine ⟨a5E h5bh,p,_,dx',_,_,rfl,hp5,CF.cl,CF.nh,a1f _ _ _,by decide,fun N hN=>?_⟩
   obtain ⟨H6,e6,s6,h6⟩:=a1p hN (.lst []);rw [e6]
   have hNx:N≠x:=fun z=>by rw [z,h5x] at hN;cases hN
   have hNio:N≠io:=fun z=>by rw [z,h5io] at hN;cases hN
   have hNbh:N≠bh:=fun z=>by rw [z,h5bh] at hN;cases hN
   have hNn:H N=none:=by
    cases e:H N with
    | none=>rfl
    | some o=>rw [k5 _ _ e hNx] at hN;cases hN
   refine ⟨kvs,Sum.inr r.2.2.1,s6 _ _ h5bh,rfl,Xp (show kvs.length≤1000 by omega) (by decide),fun u hu=>?_,fun hu=>?_⟩
   ·rcases hF r.2.2.1 with ⟨e,_⟩ | ⟨L,ys,e,hLn,hL5,hyl,hR⟩
    ·rw [e] at hu;cases hu
    rw [e] at hu;cases hu
    have hL6:=s6 _ _ hL5
    have hLx:L≠x:=a0B hL5 h5x (by intro z;cases z)
    have hLio:L≠io:=a0B hL5 h5io (by intro z;cases z)
    have hLbh:L≠bh:=a0B hL5 h5bh (by intro z;cases z)
    try skip
    refine ⟨.inl ⟨rfl,_,SqL.of hL6⟩,L,_,_,rfl,rfl,hL6,Xp (show ys.length≤1000 by omega) (by decide),?_⟩
    refine ⟨kvs,_,rfl,fun c o e hc=>?_,?_,?_,?_,by omega,fun h=>?_,hinj⟩
    ·rw [a0a (a0b e hLn)];exact s6 _ _ (k5 c o e hc)
    ·rw [a0a hLx.symm];exact s6 _ _ h5x
    ·rw [a0a hLio.symm];exact s6 _ _ h5io
    ·rw [a0a hLbh.symm];exact s6 _ _ h5bh
    ·rw [esn]
     by_cases z:r.2.2.1=h
     ·subst z
      rw [if_pos rfl]
      refine .inr ⟨L,ys++[V.ref p],e,hLn,a0d,by simp;omega,?_⟩
      refine ⟨by simp [hR.len],fun j r' ej=>?_⟩
      by_cases hj:j < (hdF (rs.take i) r.2.2.1).length
      ·rw [Yi hj] at ej
       rw [Yi (by rw [hR.len];exact hj)]
       exact hR.get j r' ej
      ·rw [Yg (by omega)] at ej
       rw [Yg (by rw [hR.len];omega),hR.len]
       have hj0:=(Qr.mp ej).1
       have ej0:j - (hdF (rs.take i) r.2.2.1).length=0:=by simp at hj0;omega
       rw [ej0] at ej ⊢
       cases ej
       exact ⟨_,rfl,hru⟩
     ·rw [if_neg z,Qg]
      rcases hF h with ⟨e',g⟩ | ⟨L',ys',e',g1,g2,g3,g4⟩
      ·exact .inl ⟨e',g⟩
      ·refine .inr ⟨L',ys',e',g1,?_,by omega,g4⟩
       have:L'≠L:=fun w=>z (hinj _ _ L e (by rw [←w];exact e'))
       rw [a0a this];exact s6 _ _ g2
   ·try skip
    have hbN:bh≠N:=hNbh.symm
    refine ⟨.inl ⟨rfl,_,SqL.of (show upd H6 bh (.dK (a2C kvs (Sum.inr r.2.2.1) (V.ref N))) N=some (.lst []) by rw [a0a hNbh];exact h6)⟩,N,_,_,rfl,rfl,(by rw [a0a hNbh];exact h6),by decide,?_⟩
    have kvl:=a0X kvs (Sum.inr r.2.2.1:Key) (V.ref N)
    refine ⟨a2C kvs (Sum.inr r.2.2.1) (V.ref N),_,rfl,fun c o e hc=>?_,?_,?_,?_,by omega,fun h=>?_,fun h h' L e1 e2=>?_⟩
    ·rw [a0a (a0b e hNn),a0a (a0b e hbhn)];exact s6 _ _ (k5 c o e hc)
    ·rw [a0a hNx.symm,a0a hbhx.symm];exact s6 _ _ h5x
    ·rw [a0a hNio.symm,a0a (a0B h5io h5bh (by intro z;cases z))];exact s6 _ _ h5io
    ·rw [a0a hbN,a0d]
    ·rw [esn,a2z]
     by_cases z:r.2.2.1=h
     ·subst z
      rw [if_pos rfl,if_pos rfl]
      rcases hF r.2.2.1 with ⟨e',g⟩ | ⟨L',ys',e',_⟩
      ·rw [g]
       refine .inr ⟨N,[V.ref p],rfl,hNn,a0d,by simp,⟨rfl,fun j r' ej=>?_⟩⟩
       cases j with
       | zero=>cases ej;exact ⟨_,rfl,hru⟩
       | succ j=>simp at ej
      ·rw [e'] at hu;cases hu
     ·rw [if_neg z,Qg,if_neg (fun w=>z (Sum.inr.inj w).symm)]
      rcases hF h with ⟨e',g⟩ | ⟨L',ys',e',g1,g2,g3,g4⟩
      ·exact .inl ⟨e',g⟩
      ·refine .inr ⟨L',ys',e',g1,?_,by omega,g4⟩
       have hLN:L'≠N:=fun w=>by rw [w,hN] at g2;cases g2
       rw [a0a hLN,a0a (a0B g2 h5bh (by intro z;cases z))];exact s6 _ _ g2
    ·rw [a2z] at e1 e2
     by_cases z1:(Sum.inr h:Key)=Sum.inr r.2.2.1
     ·by_cases z2:(Sum.inr h':Key)=Sum.inr r.2.2.1
      ·rw [Sum.inr.inj z1,Sum.inr.inj z2]
      ·rw [if_pos z1] at e1;cases e1
       rw [if_neg z2] at e2
       rcases hF h' with ⟨e',_⟩ | ⟨L',ys',e',_,g2,_⟩
       ·rw [e'] at e2;cases e2
       ·rw [e'] at e2;cases e2;rw [hN] at g2;cases g2
     ·rw [if_neg z1] at e1
      by_cases z2:(Sum.inr h':Key)=Sum.inr r.2.2.1
      ·rw [if_pos z2] at e2;cases e2
       rcases hF h with ⟨e',_⟩ | ⟨L',ys',e',_,g2,_⟩
       ·rw [e'] at e1;cases e1
       ·rw [e'] at e1;cases e1;rw [hN] at g2;cases g2
      ·rw [if_neg z2] at e2
       exact hinj _ _ L e1 e2
  rintro σ H5 ⟨kvs,y3,rfl,k5,h5x,h5io,h5bh,hkl,hF,hinj⟩
  rw [show rs.take xs.length=rs by rw [hxl];exact Xz] at hF
  try simp only [a1u,b6E,a0k,Qa,a0Q,a2E,Qb,a0e,a1i]
  intro pr hpr
  obtain ⟨H6,e6,s6,h6⟩:=a1p hpr (.dT []);rw [e6]
  have hprx:pr≠x:=fun z=>by rw [z,h5x] at hpr;cases hpr
  have hprn:H pr=none:=by
   cases e:H pr with
   | none=>rfl
   | some o=>rw [k5 _ _ e hprx] at hpr;cases hpr
  refine ⟨x,t.C_Ground,dx,_,rfl,s6 _ _ h5x,T.cl_Ground,T.nf_Ground_pairs,by rw [e2f];show 2 < 1000;decide,?_⟩
  rw [show a1j "pairs" (V.ref pr) (a1j "by_head" (V.ref bh) (a1j "in_order" (V.ref io) []))=gfl io bh pr from rfl]
  obtain ⟨as,eas,hal,hat⟩:=hPr
  have hiopr:io≠pr:=fun z=>by rw [z,hpr] at h5io;cases h5io
  have hbhpr:bh≠pr:=fun z=>by rw [z,hpr] at h5bh;cases h5bh
  have base:∀H',(∀c o,upd H6 x (.ins t.C_Ground dx (gfl io bh pr)) c=some o→c≠pr→H' c=some o)→(∀c o,H c=some o→c≠x→H' c=some o)∧(∀kps,H' pr=some (.dT kps)→c0B kps pl→a3r t H' x rs pl):=fun H' kk=>by
   have k7:∀c o,H c=some o→c≠x→H' c=some o:=fun c o e hc=>kk c o (by rw [a0a hc];exact s6 _ _ (k5 c o e hc)) (a0b e hprn)
   refine ⟨k7,fun kps hk hp=>⟨dx,io,bh,pr,xs,kvs,kps,kk _ _ a0d hprx.symm,kk _ _ (by rw [a0a hiox];exact s6 _ _ h5io) hiopr,hA.refs hx k7,kk _ _ (by rw [a0a hbhx];exact s6 _ _ h5bh) hbhpr,fun h=>?_,hk,hp⟩⟩
   rcases hF h with z | ⟨L,ys,e,_,g2,_,g4⟩
   ·exact .inl z
   ·exact .inr ⟨L,ys,e,kk _ _ (by rw [a0a (a0B g2 h5x (by intro z;cases z))];exact s6 _ _ g2) (fun z=>by rw [z,hpr] at g2;cases g2),g4.refs hx k7⟩
  have hpb7:upd H6 x (.ins t.C_Ground dx (gfl io bh pr)) pb=some (.lst ps):=by
   have hpx:=a0B hpb hx (by intro z;cases z)
   rw [a0a hpx];exact s6 _ _ (k5 _ _ hpb hpx)
  have hpr7:upd H6 x (.ins t.C_Ground dx (gfl io bh pr)) pr=some (.dT []):=by rw [a0a hprx];exact h6
  have hx7:upd H6 x (.ins t.C_Ground dx (gfl io bh pr)) x=some (.ins t.C_Ground dx (gfl io bh pr)):=a0d
  have hpbpr:pb≠pr:=a0b hpb hprn
  obtain ⟨H7,e7⟩:∃H7,upd H6 x (.ins t.C_Ground dx (gfl io bh pr))=H7:=⟨_,rfl⟩
  rw [e7] at base hpb7 hpr7 hx7 ⊢
  refine ⟨⟨_,SqL.of hpb7⟩,?_⟩
  refine a2w (K:=K) (a:=pb) (xs:=ps) (fun i σ H'=>∃(kps:List (List Key×V)) (y4:Option V),σ=[some (V.ref x),some (V.ref b),some (V.ref pb),y3,y4]∧(∀c o,H7 c=some o→c≠pr→H' c=some o)∧H' pr=some (.dT kps)∧kps.length≤i∧c0B kps (pl.take i))
   ⟨[],_,rfl,fun c o e _=>e,hpr7,Qk _,fun a b=>by rw [Uq,if_neg (by simp)];rfl⟩ (fun i σ H' _ h=>by obtain ⟨_,_,_,kk,_⟩:=h;exact SqL.of (kk _ _ hpb7 hpbpr)) ?_ ?_
  ·rintro i v σ H8 hi ⟨kps,y4,rfl,kk,h8,hkl8,hpo⟩
   have hil:i < as.length:=by
    have:=(Qr.mp hi).1
    rw [eas,Qd] at this;exact this
   have hil':i < pl.length:=by omega
   have ev:v=V.ref as[i]:=by
    rw [eas,Qo,Qe hil] at hi
    exact (Option.some.inj hi).symm
   subst ev
   have hp:=hat i _ _ (Qe hil) (Qe hil')
   have hp8:=(base H8 kk).1 _ _ hp (a0B hp hx (by intro z;cases z))
   have hx8:=kk _ _ hx7 hprx.symm
   rw [Xb hil']
   generalize pl[i]=pp at hp hp8
   generalize pl.take i=pt at hpo
   try simp only [a0l,a3b,tC,a3l,a0k,Qi,Qj,Qa,a8b,a0i,tOp,Qb,a0u,a0e]
   refine ⟨x,_,dx,_,_,rfl,hx8,T.cl_Ground,T.nf_Ground_pairs,b3K _ _ _,?_⟩
   refine a2r (SqT.of hp8) rfl (a2r (SqT.of hp8) rfl ⟨by simp only [Qs,Xk];decide,fun c hc=>?_⟩)
   obtain ⟨H9,e9,s9,h9⟩:=a1p hc (.tup [V.str pp.1,V.str pp.2]);rw [e9]
   refine ⟨pr,_,rfl,a6a.t (k:=[Sum.inr pp.1,Sum.inr pp.2]) (s9 _ _ h8) h9 (Xp (show kps.length≤1000 by omega) (by decide)),a2C kps [Sum.inr pp.1,Sum.inr pp.2] (V.bl true),_,rfl,?_,a0d,by have:=a0X kps ([Sum.inr pp.1,Sum.inr pp.2]:List Key) (V.bl true);omega,fun a b=>?_⟩
   ·intro d o e hd;rw [a0a hd];exact s9 _ _ (kk d o e hd)
   ·rw [a2z,hpo]
    by_cases z:(a,b)=pp
    ·rw [if_pos (by rw [←z]),if_pos (by rw [←z];simp)]
    ·rw [if_neg (fun w=>z (by
      have w1:=congrArg (fun l:List Key=>l.head?) w
      have w2:=congrArg (fun l:List Key=>l.getLast?) w
      simp at w1 w2
      exact Prod.ext w1 w2))]
     by_cases y:(a,b)∈pt
     ·rw [if_pos y,if_pos (Xl _ y)]
     ·rw [if_neg y,if_neg (by simp [y,z])]
  ·rintro σ H8 ⟨kps,y4,rfl,kk,h8,hkl8,hpo⟩
   rw [show pl.take ps.length=pl by rw [eas,Qd,hal,Xz]] at hpo
   try simp only []
   obtain ⟨b1,b2⟩:=base H8 kk
   exact q _ b1 (b2 kps h8 hpo)
theorem b9d (T:Txt K mg t):a0W P w K mg base CX0 1 t.f_z1k t.fd_z1k ["_law_q"] b4B:=by
 refine T.F_z1k.ok b8r (fun vs H Q E h=>?_) (fun cdv A outer s H vs Q E hr h=>?_)
 ·obtain ⟨z,rfl,hz,q⟩:=h;rfl
 ·obtain ⟨z,rfl,hz,q⟩:=h
  refine ⟨_,‹A2 (B3 (C5 (C9 Wg Ut Uu a5N 0 (A0 B0 A1))) (A4 (A8 (F4 0 (F1 A3) G3))) B5) (A4 (A8 (A5 a0p B0 0)))›,?_⟩
  rw [show start b9k [V.str z]=[some (V.str z)] from rfl]
  unfold a0y at q
  try simp only [a1u,a3D,tB,tBM,a0k,Qa,a0i,tC,a0u,a1o,tSl,b1v,a6x,b4m,a0e,a7z,a1F,tOp,a1n,a4g,a2i,a9W]
  refine a2k (fun c=>?_) (fun c=>?_)
  ·rw [if_pos c] at q
   exact ⟨a3q (by omega),q⟩
  ·rw [if_neg c] at q
   exact ⟨Qh (Nat.add_le_add (show (Ud "-").length≤1 by decide+kernel) hz) (by decide),q⟩
theorem b9i (T:Txt K mg t):a0W P w K mg base CX0 2 t.f_z1l t.fd_z1l ["_law_rows_here","_law_some"] b4L:=by
 refine T.F_z1l.ok a7x (fun vs H Q E h=>?_) (fun cdv A outer s H vs Q E hr h=>?_)
 ·obtain ⟨R,a,xs,rs,sm,po,rfl,hR,hA,hrl,hO,ha,hsm,hsl,hpl,hpo,q⟩:=h;rfl
 ·obtain ⟨R,a,xs,rs,sm,po,rfl,hR,hA,hrl,hO,ha,hsm,hsl,hpl,hpo,q⟩:=h
  refine ⟨_,‹A2 (A6 2 a7x.nd C6) (A2 (A6 3 a7x.nd (D5 a1z T.z_list a1w (A0 1 A1))) (A2 (F9 (B1 (b2O hr.units) 3 (C4 A1) (a0v _)) (A2 (A6 4 a7x.nd (H6 Xv PySem.F.slot_list_pop PySem.F.type_list_pop b8t 3)) (A4 (B3 (D6 ‹F0 4 2›) (A2 (C2 2 4 B8) (A2 (D2 (C9 Xv Yd Ye a1g 3 (A0 (A7 (b9d T) T.g_z1k T.F_z1k.kp T.b_z1k .nil (A0 4 A1)) A1))) (A4 (D2 (C9 Xv PySem.F.slot_list_extend PySem.F.type_list_extend a9J 3 (A0 (C0 (B4 (a0c a7E) b4c ["_law_row_here","_law_here"] [none,some 4]) (B7 0) (A9 0 (show Xo (["_law_row_here","_law_here"]:List Str) by decide+kernel)) (C8 (B1 (a9y (K:=K) rfl) 1 (B2 (a2X (K:=K) rfl) 0 A3) (by with_unfolding_all rfl))) (B2 (a2X (K:=K) rfl) 0 A3)) A1)))))) B5)))) (A4 (A8 (D5 (a4l rfl) T.z_list a1w (A0 2 A1))))))›,?_⟩
  rw [show start b4c [V.ref R,V.ref a]=[some (V.ref R),some (V.ref a),none,none,none] from rfl]
  try simp only [a1u,a2b,a1T,a0l,tCB,a0i,a0k,Qi,Qj,Qb,Qa,a0u,a0e]
  intro D hD
  obtain ⟨H1,e1,s1,hD1⟩:=a1p hD (.dK []);rw [e1]
  refine ⟨a,_,rfl,.inl (SqL.of (s1 _ _ ha)),fun C hC=>?_⟩
  obtain ⟨H2,e2,s2,hC2⟩:=a1p hC (.lst (sm.map V.str));rw [e2]
  have s02:=s1.trans s2
  have nCD:C≠D:=fun z=>by rw [z,hD1] at hC;cases hC
  have hCn:H C=none:=none_of s1 hC
  obtain ⟨Iv,hIv⟩:∃Iv:Nat→St→Hp→Prop,∀m σ H',Iv m σ H'↔∃(F tc:List Str) (x4:Option V),σ=[some (V.ref R),some (V.ref a),some (V.ref D),some (V.ref C),x4]∧a0j H H'∧H' D=some (.dK (bv F))∧H' C=some (.lst (tc.map V.str))∧F.Nodup∧(∀x∈F,x∈po)∧(∀x∈tc,x∈po)∧(∀x∈F,a0y x∈F∨a0y x∈tc)∧(∀r∈rs,∀p∈r.2.2.2,p∈F→r.2.2.1∈F∨r.2.2.1∈tc)∧tc.length≤18+64 * F.length∧m=(18 - F.length) * 100+tc.length:=⟨_,fun _ _ _=>Iff.rfl⟩
  refine a6h Iv _ ((hIv _ _ _).mpr ⟨[],sm,_,rfl,s02,s2 _ _ hD1,hC2,Zj,by simp,hsm,by simp,by simp,by simp;omega,rfl⟩) ?_
  intro m σ H3 hv
  obtain ⟨F,tc,x4,rfl,s3,hD3,hC3,hFn,hFp,htp,ho,hh,htl,hm⟩:=(hIv _ _ _).mp hv
  have hFl:F.length≤18:=Qh (a1h hFn hFp) hpl
  try simp only [a1q,tOp,a0k,Qb,Qa,a5Z,a0u,a1u,a2b,c2E,a0l,a3D,tB,a2Y,Qi,Qj,a3b,tC,a3Y,tBM,a0i,a0K,Qg,a0C,a2E,a0e,a1i,a1F,a2i,Yj,a1o,tCB]
  refine ⟨Xm _,fun p hp=>?_⟩
  obtain ⟨H4,e4,s4,h4⟩:=a1p hp (.lst []);rw [e4]
  refine ⟨C,p,_,rfl,rfl,SqL.of (s4 _ _ hC3),SqL.of h4,_,rfl,?_⟩
  have s04:=s3.trans s4
  by_cases ht:tc=[]
  ·subst ht
   rw [if_neg (by simp)]
   refine a2R.list (K:=K) (S:=F) (.inr ⟨D,_,rfl,s4 _ _ hD3,a2U _⟩) fun l hl=>?_
   obtain ⟨H5,e5,s5,h5⟩:=a1p hl (.lst (F.map V.str));rw [e5]
   exact q l F H5 (s04.trans s5) (none_of s04 hl) h5 hFn hFp (fun x hx=>(ho x hx).resolve_right (by simp)) (fun r hr p hp hF=>(hh r hr p hp hF).resolve_right (by simp))
  rw [if_pos (by simpa using ht)]
  obtain ⟨tc',y,rfl⟩:∃tc' y,tc=tc'++[y]:=⟨tc.dropLast,tc.getLast ht,(List.dropLast_concat_getLast ht).symm⟩
  have hC4:=s4 _ _ hC3
  have hD4:=s4 _ _ hD3
  refine ⟨fun σ H'=>∃m',m' < m∧Iv m' σ H',fun _ _ h=>h,.inl ⟨rfl,_,SqL.of hC4⟩,C,_,V.str y,rfl,rfl,hC4,by simp,?_⟩
  rw [show ((tc'++[y]).map V.str).dropLast=tc'.map V.str by rw [Xf];exact List.dropLast_concat]
  obtain ⟨H5,e5,k5,hC5⟩:∃H5,upd H4 C (.lst (tc'.map V.str))=H5∧(∀b o,H4 b=some o→b≠C→H5 b=some o)∧H5 C=some (.lst (tc'.map V.str)):=⟨_,rfl,fun b o e n=>by rw [a0a n];exact e,a0d⟩
  rw [e5]
  have hD5:=k5 _ _ hD4 nCD.symm
  have s5:a0j H H5:=fun b o e=>k5 _ _ (s04 _ _ e) (a0b e hCn)
  rw [Xn,Ua] at htl hm
  have hyp:y∈po:=htp y (by simp)
  try simp only []
  refine ⟨D,_,rfl,a2S.k (k:=(Sum.inr y:Key)) hD5,?_⟩
  rw [a2g]
  by_cases hy:y∈F
  ·rw [if_pos hy]
   try skip
   refine ⟨_,?_,(hIv _ _ _).mpr ⟨F,tc',_,rfl,s5,hD5,hC5,hFn,hFp,fun x hx=>htp x (Xl _ hx),fun x hx=>?_,fun r hr p hp hF=>?_,by omega,rfl⟩⟩
   ·omega
   ·rcases ho x hx with z | z
    ·exact .inl z
    ·rcases Qq.mp z with w | w
     ·exact .inr w
     ·rw [Qz.mp w];exact .inl hy
   ·rcases hh r hr p hp hF with z | z
    ·exact .inl z
    ·rcases Qq.mp z with w | w
     ·exact .inr w
     ·rw [Qz.mp w];exact .inl hy
  rw [if_neg hy]
  try skip
  refine ⟨D,_,rfl,b4D hD5 (by omega) y,?_⟩
  rw [a7g hy]
  obtain ⟨H6,e6,k6,hD6⟩:∃H6,upd H5 D (.dK (bv (F++[y])))=H6∧(∀b o,H5 b=some o→b≠D→H6 b=some o)∧H6 D=some (.dK (bv (F++[y]))):=⟨_,rfl,fun b o e n=>by rw [a0a n];exact e,a0d⟩
  rw [e6]
  have hC6:=k6 _ _ hC5 nCD
  have s6:a0j H H6:=fun b o e=>k6 _ _ (s5 _ _ e) (a0b e hD)
  refine ⟨.inl ⟨rfl,_,SqL.of hC6⟩,y,rfl,(hpo y hyp).2,C,_,_,rfl,rfl,hC6,Xp (show _≤2000 by rw [Qd];omega) (by decide),?_⟩
  rw [show tc'.map V.str++[V.str (a0y y)]=(tc'++[a0y y]).map V.str by rw [Xf];rfl]
  obtain ⟨H7,e7,k7,hC7⟩:∃H7,upd H6 C (.lst ((tc'++[a0y y]).map V.str))=H7∧(∀b o,H6 b=some o→b≠C→H7 b=some o)∧H7 C=some (.lst ((tc'++[a0y y]).map V.str)):=⟨_,rfl,fun b o e n=>by rw [a0a n];exact e,a0d⟩
  rw [e7]
  have s7:a0j H H7:=fun b o e=>k7 _ _ (s6 _ _ e) (a0b e hCn)
  have hD7:=k7 _ _ hD6 nCD.symm
  have hR7:=s7 _ _ hR
  refine ⟨.inl ⟨rfl,_,SqL.of hC7⟩,⟨_,SqL.of hR7⟩,?_⟩
  obtain ⟨zr,rfl,ezr,hz⟩:=(hA.same s7).zip fun r hr=>(hO r hr).1
  have hzl:zr.length≤63:=by
   have:=congrArg Yp ezr
   rw [Qd] at this;omega
  refine b5j (fun H' v r=>b5s H' v r∧a2j r) (0,"","",[]) zr hR7 (by omega) (fun H' s=>b9L.same s hz) [some (V.str y)] rfl (fun r=>decide (y∈r.2.2.2)) (fun p=>V.str p.2.2.2.1) (fun x r H' R' hx s' hR'=>?_) (fun x r H' R' hx s' hR'=>?_) (fun N H8 hNn s8 hN8=>?_)
  ·obtain ⟨⟨p,t1,rfl,hp,ht⟩,hro⟩:=hx
   try simp only [a1q,tOp,a0k,Qb,Qa,tC,a0e]
   exact a2r (SqT.of hp) rfl (b2n (SqT.of ht) ⟨_,rfl,hR' _ (a0j.refl _)⟩)
  ·obtain ⟨⟨p,t1,rfl,hp,ht⟩,hro⟩:=hx
   try simp only [tOp,a0k,Qa,tC,a0e]
   exact a2r (SqT.of hp) rfl (hR' _ (a0j.refl _))
  obtain ⟨hs,ehs,hhm,hhl⟩:∃hs:List Str,(zr.filter fun p=>decide (y∈p.2.2.2.2)).map (fun p=>V.str p.2.2.2.1)=hs.map V.str∧(∀h,h∈hs↔∃r∈rs,y∈r.2.2.2∧r.2.2.1=h)∧hs.length≤63:=by
   refine ⟨(zr.filter fun p=>decide (y∈p.2.2.2.2)).map fun p=>p.2.2.2.1,by rw [Qy];rfl,fun h=>?_,?_⟩
   ·rw [Qf]
    constructor
    ·rintro ⟨p,hp,rfl⟩
     obtain ⟨h1,h2⟩:=Qv.mp hp
     exact ⟨p.2,by rw [←ezr];exact Qf.mpr ⟨p,h1,rfl⟩,of_decide_eq_true h2,rfl⟩
    ·rintro ⟨r,hr,hy,rfl⟩
     rw [←ezr] at hr
     obtain ⟨p,hp,rfl⟩:=Qf.mp hr
     exact ⟨p,Qv.mpr ⟨hp,decide_eq_true hy⟩,rfl⟩
   ·rw [Qd];exact Qh (Xa _ _) hzl
  rw [ehs] at hN8
  have hC8:=s8 _ _ hC7
  refine ⟨C,N,_,_,rfl,rfl,hC8,hN8,Qh (show _≤3000 by rw [Qd,Qd,Xn,Ua];omega) (by decide),?_⟩
  rw [←Xf]
  have hFn':(F++[y]).Nodup:=Zg.mpr ⟨hFn,by simp,fun a ha b hb z=>hy (by rw [Qz.mp hb] at z;exact z ▸ ha)⟩
  have hFp':∀x∈F++[y],x∈po:=fun x hx=>by
   rcases Qq.mp hx with z | z
   ·exact hFp x z
   ·rw [Qz.mp z];exact hyp
  have hFl':(F++[y]).length≤18:=Qh (a1h hFn' hFp') hpl
  have eFl:(F++[y]).length=F.length+1:=by simp
  have etl:(tc'++[a0y y]++hs).length=tc'.length+1+hs.length:=by simp;omega
  have back:∀z,z∈F∨z∈tc'++[y]→z∈F++[y]∨z∈tc'++[a0y y]++hs:=fun z h=>by
   rcases h with h | h
   ·exact .inl (Xl _ h)
   ·rcases Qq.mp h with w | w
    ·exact .inr (Xl _ (Xl _ w))
    ·exact .inl (Qt _ w)
  refine ⟨_,?_,(hIv _ _ _).mpr ⟨F++[y],tc'++[a0y y]++hs,_,rfl,fun b o e=>?_,?_,a0d,hFn',hFp',fun x hx=>?_,fun x hx=>?_,fun r hr p hp hF=>?_,by omega,rfl⟩⟩
  ·omega
  ·rw [a0a (a0b e hCn)];exact s8 _ _ (s7 _ _ e)
  ·rw [a0a nCD.symm];exact s8 _ _ hD7
  ·rcases Qq.mp hx with z | z
   ·rcases Qq.mp z with w | w
    ·exact htp x (Xl _ w)
    ·rw [Qz.mp w];exact (hpo y hyp).1
   ·obtain ⟨r,hr,_,rfl⟩:=(hhm x).mp z
    exact (hO r hr).2.1
  ·rcases Qq.mp hx with z | z
   ·exact back _ (ho x z)
   ·rw [Qz.mp z];exact .inr (Xl _ (Qt _ Qn))
  ·rcases Qq.mp hF with z | z
   ·exact back _ (hh r hr p hp z)
   ·rw [Qz.mp z] at hp
    exact .inr (Qt _ ((hhm _).mpr ⟨r,hr,hp,rfl⟩))
theorem a2N (T:Txt K mg t):a0W P w K mg base CX0 1 t.f_z1b t.fd_z1b ["_law_script","_law_k"] (b6A K):=by
 refine T.F_z1b.ok b9C (fun vs H Q E h=>?_) (fun cdv A outer s H vs Q E hr h=>?_)
 ·obtain ⟨a,ns,k,rfl,hS,hl,k0,k1,q⟩:=h;rfl
 ·obtain ⟨a,ns,k,rfl,hS,hl,k0,k1,q⟩:=h
  refine ⟨_,‹A2 (B3 (B1 b3I 1 (B9 a1a T.z_len a1c (A0 0 A1)) (a0v _)) (A4 (A8 (B2 a0G 0 1))) B5) (A4 (A8 A3))›,?_⟩
  rw [show start b8w [V.ref a,V.int k]=[some (V.ref a),some (V.int k)] from rfl]
  try simp only [a1u,a3D,a1q,tOp,a0k,Qb,Qa,tCB,a0i,a0u,a1o,a0e,a1F,tC]
  refine a1A hS ?_
  try simp only [a7r,a2i,decide_eq_true_eq]
  refine a2k (fun c=>?_) (fun c=>q 0 (by rw [Qd] at c;rw [Xj,Yk (by omega)];rfl))
  obtain ⟨v,e,hv,_⟩:=a3d (xs:=ns.map V.int) (i:=k) k0 (by simpa using c)
  obtain ⟨i,_,rfl⟩:=Qf.mp hv
  refine a0w hS e (q i ?_)
  have hc:k.toNat < ns.length:=by rw [Qd] at c;omega
  unfold atI ixN at e
  rw [if_pos (by omega),if_pos (by rw [Qd];omega)] at e
  have e':(ns.map V.int)[k.toNat]?=some (V.int i):=e
  rw [Qo,Qe hc] at e'
  rw [Xj,Qe hc]
  exact (V.int.inj (Option.some.inj e')).symm
theorem a7e (T:Txt K mg t):a0W P w K mg base CX0 1 t.f_z15 t.fd_z15 ["self","label","head","body"] (b6w K):=by
 refine T.F_z15.ok b6U (fun vs H Q E h=>?_) (fun cdv A outer s H vs Q E hr h=>?_)
 ·obtain ⟨x,C,dx,lb,hd,b,bs,rfl,hx,hC,hb,q⟩:=h;rfl
 ·obtain ⟨x,C,dx,lb,hd,b,bs,rfl,hx,hC,hb,q⟩:=h
  refine ⟨_,‹A2 (D9 0 1) (A2 (D9 0 2) (A4 (D9 0 (D5 a2x T.z_tuple a2e (A0 3 A1)))))›,?_⟩
  rw [show start b8i [V.ref x,lb,hd,V.ref b]=[some (V.ref x),some (lb),some (hd),some (V.ref b)] from rfl]
  obtain ⟨cl,n1,n2,n3⟩:=hC
  try simp only [a1u,b6E,a0k,Qb,Qa,tCB,a0i,a0u,a0e]
  have cut:∀(H0:Hp),(∀c o,H c=some o→c≠x→H0 c=some o)→H0 x=some (.ins C dx (a1j "head" hd (a1j "label" lb [])))→∀t,H0 t=some (.tup bs)→t≠x→(∀c o,H c=some o→c≠x→upd H0 x (.ins C dx (a8q lb hd t)) c=some o)∧a1M (upd H0 x (.ins C dx (a8q lb hd t))) x C lb hd bs:=fun H0 k0 h0 t ht htx=>
   ⟨fun c o e hc=>by rw [a0a hc];exact k0 c o e hc,dx,t,a0d,by rw [a0a htx];exact ht⟩
  refine ⟨x,C,dx,_,rfl,hx,cl,n1,by show 0 < 1000;decide,x,C,dx,_,rfl,a0d,cl,n2,by show 1 < 1000;decide,?_⟩
  rw [b3S]
  obtain ⟨H1,e1,k1,h1⟩:∃H',upd H x (.ins C dx (a1j "head" hd (a1j "label" lb [])))=H'∧(∀c o,H c=some o→c≠x→H' c=some o)∧H' x=some (.ins C dx (a1j "head" hd (a1j "label" lb []))):=⟨_,rfl,fun c o e hc=>by rw [a0a hc];exact e,a0d⟩
  rw [e1]
  have hlen:(a1j "head" hd (a1j "label" lb [])).length < 1000:=by
   rw [show a1j "head" hd (a1j "label" lb [])=([("label",lb),("head",hd)]:List (Str×V)) from by
    show (if ("label":Str)="head" then _ else _)=_
    rw [if_neg (by decide+kernel)];rfl]
   show 2 < 1000;decide
  rcases hb with hb | ⟨hb,hb'⟩
  ·have hb1:SqL K H1 b bs:=by
    rcases hb with (hb | ⟨o,hb⟩) | hb
    ·exact .inl (.inl (k1 _ _ hb (a0B hb hx (by intro z;cases z))))
    ·exact .inl (.inr ⟨o,k1 _ _ hb (a0B hb hx (by intro z;cases z))⟩)
    ·exact .inr hb
   refine ⟨b,bs,rfl,.inl ⟨hb1,fun t ht=>?_⟩⟩
   have htx:t≠x:=fun z=>by rw [z,h1] at ht;cases ht
   obtain ⟨H2,e2,s2,h2⟩:=a1p ht (.tup bs);rw [e2]
   obtain ⟨a1,a2⟩:=cut H2 (fun c o e hc=>s2 _ _ (k1 c o e hc)) (s2 _ _ h1) t h2 htx
   exact ⟨x,C,dx,_,rfl,s2 _ _ h1,cl,n3,hlen,q _ a1 a2⟩
  ·have hbx:b≠x:=a0B hb' hx (by intro z;cases z)
   have hb1:=k1 _ _ hb' hbx
   refine ⟨b,bs,rfl,.inr ⟨SqT.of hb1,?_⟩⟩
   obtain ⟨a1,a2⟩:=cut H1 k1 h1 b hb1 hbx
   exact ⟨x,C,dx,_,rfl,h1,cl,n3,hlen,q _ a1 a2⟩
theorem b8K (T:Txt K mg t):a0W P w K mg base CX0 2 t.f_z17 t.fd_z17 ["self","head"] (b5N K t.C_Fact):=by
 refine T.F_z17.ok b9q (fun vs H Q E h=>?_) (fun cdv A outer s H vs Q E hr h=>?_)
 ·obtain ⟨x,dx,hd,rfl,hx,q⟩:=h;rfl
 ·obtain ⟨x,dx,hd,rfl,hx,q⟩:=h
  refine ⟨_,‹A4 (D2 (H7 (D3 (.ref t.C_Rule) T.g_Rule rfl) T.cm_Rule (a7e T) (hr.mono (by decide)) T.b_z15 .nil a8Q (A0 0 (A0 B0 (A0 1 (A0 (C3 A1) A1))))))›,?_⟩
  rw [show start b6K [V.ref x,hd]=[some (V.ref x),some (hd)] from rfl]
  try simp only [a3Y,b3a,tC,a0i,a0k,Qa,Qb,a8b,a0u,Qg,a0e]
  refine ⟨(by trivial),by decide,fun b hb=>?_⟩
  obtain ⟨H1,e1,s1,h1⟩:=a1p hb (.tup []);rw [e1]
  refine ⟨x,t.C_Fact,dx,_,hd,b,[],rfl,s1 _ _ hx,⟨T.cl_Fact,T.nf_Fact_label,T.nf_Fact_head,T.nf_Fact_body⟩,.inr ⟨SqT.of h1,h1⟩,fun H' k r=>?_⟩
  exact q _ (fun c o e hc=>k c o (s1 _ _ e) hc) r
theorem b9c (T:Txt K mg t):a0W P w K mg base CX0 4 t.f_z1o t.fd_z1o ["_law_row_here"] (b5z K t):=by
 refine T.F_z1o.ok a5D (fun vs H Q E h=>?_) (fun cdv A outer s H vs Q E hr h=>?_)
 ·obtain ⟨p,b,r,rfl,hro,hp,hb,q⟩:=h;rfl
 ·obtain ⟨p,b,r,rfl,hro,hp,hb,q⟩:=h
  refine ⟨_,‹A2 (H8 0 (H9 rfl (E6 (A9 1 a5D.nd) (E6 (A9 2 a5D.nd) (E6 (A9 3 a5D.nd) (E6 (A9 4 a5D.nd) G7)))))) (A2 (B3 (B1 (a1W hr.units) 1 B0 (a0v _)) (A4 (A8 (E7 T.mk_Fact (b8K T) T.g_Fact T.b_z17 (A0 3 A1)))) B5) (A2 (B3 (B1 (a1W hr.units) 1 B0 (a0v _)) (A4 (A8 (E7 T.mk_Sure (a7e T) T.g_Sure T.b_z15 (A0 2 (A0 3 (A0 (D5 a1z T.z_list a1w (A0 4 A1)) A1)))))) B5) (A2 (B3 (B1 (a1W hr.units) 1 B0 (a0v _)) (A4 (A8 (E7 T.mk_Most (a7e T) T.g_Most T.b_z15 (A0 2 (A0 3 (A0 4 A1)))))) B5) (A4 (A8 (E7 T.mk_Block (a7e T) T.g_Block T.b_z15 (A0 2 (A0 3 (A0 4 A1)))))))))›,?_⟩
  rw [show start b7s [V.ref p]=[some (V.ref p),none,none,none,none] from rfl]
  obtain ⟨so,lb,hd,bd⟩:=r
  dsimp only at hp hb
  try simp only [a1u,a2b,a0k,Qa,b9J,b2u,a0l,c0i,a3D,a1q,tOp,Qi,Qj,Qb,tC,a1o,b4E,a0i,a0u,Qg,a0e,a1F,tCB]
  refine ⟨p,_,rfl,SqT.of hp,rfl,_,_,rfl,_,_,rfl,_,_,rfl,_,_,rfl,rfl,?_⟩
  have hh:∀{H0:Hp} {x dx:Addr} {C:Addr},H0 x=none→H0 dx=none→dx≠x→(a0j H0 (upd (upd H0 dx (.own x)) x (.ins C dx [])))∧(upd (upd H0 dx (.own x)) x (.ins C dx [])) x=some (.ins C dx []):=fun {H0 x dx C} h1 h2 h3=>
   ⟨fun c o e=>by rw [a0a (a0b e h1),a0a (a0b e h2)];exact e,a0d⟩
  have ez:so=0→bd=[]∧lb="":=hro.2.1
  try simp only [a2M,a2i,decide_eq_true_eq]
  match so,hro.1,ez with
  | 0,_,ez=>
   refine a2k (fun _=>?_) (fun c=>absurd rfl c)
   intro x dx nx ndx ne
   obtain ⟨s,hx⟩:=hh (C:=t.C_Fact) nx ndx ne
   refine ⟨x,dx,_,rfl,hx,fun H' k r=>⟨rfl,q x H' (fun c o e=>k c o (s _ _ e) (a0b e nx)) ?_⟩⟩
   obtain ⟨e1,e2⟩:=ez rfl
   subst e1 e2
   exact r
  | 1,_,_=>
   refine a2k (fun c=>absurd c (by decide+kernel)) (fun _=>a2k (fun _=>?_) (fun c=>absurd rfl c))
   refine ⟨b,_,rfl,.inr (SqT.of hb),fun l hl=>?_⟩
   obtain ⟨H1,e1,s1,h1⟩:=a1p hl (.lst (bd.map V.str));rw [e1]
   intro x dx nx ndx ne
   obtain ⟨s,hx⟩:=hh (C:=t.C_Sure) nx ndx ne
   exact ⟨x,t.C_Sure,dx,_,_,l,_,rfl,hx,⟨T.cl_Sure,T.nf_Sure_label,T.nf_Sure_head,T.nf_Sure_body⟩,.inl (SqL.of (s _ _ h1)),fun H' k r=>⟨rfl,q x H' (fun c o e=>k c o (s _ _ (s1 _ _ e)) (a0b (s1 _ _ e) nx)) r⟩⟩
  | 2,_,_=>
   refine a2k (fun c=>absurd c (by decide+kernel)) (fun _=>a2k (fun c=>absurd c (by decide+kernel)) (fun _=>a2k (fun _=>?_) (fun c=>absurd rfl c)))
   intro x dx nx ndx ne
   obtain ⟨s,hx⟩:=hh (C:=t.C_Most) nx ndx ne
   exact ⟨x,t.C_Most,dx,_,_,b,_,rfl,hx,⟨T.cl_Most,T.nf_Most_label,T.nf_Most_head,T.nf_Most_body⟩,.inr ⟨SqT.of (s _ _ hb),s _ _ hb⟩,fun H' k r=>⟨rfl,q x H' (fun c o e=>k c o (s _ _ e) (a0b e nx)) r⟩⟩
  | 3,_,_=>
   refine a2k (fun c=>absurd c (by decide+kernel)) (fun _=>a2k (fun c=>absurd c (by decide+kernel)) (fun _=>a2k (fun c=>absurd c (by decide+kernel)) (fun _=>?_)))
   intro x dx nx ndx ne
   obtain ⟨s,hx⟩:=hh (C:=t.C_Block) nx ndx ne
   exact ⟨x,t.C_Block,dx,_,_,b,_,rfl,hx,⟨T.cl_Block,T.nf_Block_label,T.nf_Block_head,T.nf_Block_body⟩,.inr ⟨SqT.of (s _ _ hb),s _ _ hb⟩,fun H' k r=>⟨rfl,q x H' (fun c o e=>k c o (s _ _ e) (a0b e nx)) r⟩⟩
theorem a5r (T:Txt K mg t):a0W P w K mg base CX0 1 t.f_z1s t.fd_z1s ["_law_cell","_law_k"] b7h:=by
 refine T.F_z1s.ok b0e (fun vs H Q E h=>?_) (fun cdv A outer s H vs Q E hr h=>?_)
 ·obtain ⟨c,k,rfl,q⟩:=h;rfl
 ·obtain ⟨c,k,rfl,q⟩:=h
  refine ⟨_,‹A2 (A6 2 b0e.nd (A5 a0r (A5 a0p (A5 a0p 0 (A5 a3c A3 1)) A3) A3)) (A2 (A6 2 b0e.nd (A5 a0r (A5 a3c (A5 a0r (A5 a3c 2 2) A3) A3) A3)) (A4 (A8 (A5 a0r (A5 a3c (A5 a0p 2 A3) (A5 a0p 2 A3)) A3))))›,?_⟩
  rw [show start b5S [V.int c,V.int k]=[some (V.int c),some (V.int k),none] from rfl]
  try simp only [a1u,a2b,tOp,a0k,Qa,tC,Qb,a0l,Qi,Qj,a1o,a0e,a0L,b2Q,a0J]
  have h0:=a0Z (i:=c+7919 * k+12345) (j:=2147483629) (by decide)
  generalize (c+7919 * k+12345) % 2147483629=n at h0 ⊢
  have h1:=a0Z (i:=n * n) (j:=2147483629) (by decide)
  generalize n * n % 2147483629=m at h1 ⊢
  have h2:=a0Z (i:=m * 48271) (j:=2147483647) (by decide)
  generalize m * 48271 % 2147483647=l at h2 ⊢
  exact ⟨.inl (by decide),by decide,.inl (by omega),by decide,.inr (by decide),by decide,.inl (by omega),by decide,q _ (Yx _ (by decide))⟩
theorem b3t (T:Txt K mg t):a0W P w K mg base CX0 1 t.f_z1m t.fd_z1m ["_law_cell","_law_k","_law_signs"] b6C:=by
 refine T.F_z1m.ok a3h (fun vs H Q E h=>?_) (fun cdv A outer s H vs Q E hr h=>?_)
 ·obtain ⟨c,k,sg,rfl,hsg,q⟩:=h;rfl
 ·obtain ⟨c,k,sg,rfl,hsg,q⟩:=h
  refine ⟨_,‹A2 (A6 3 a3h.nd (A5 a0p A3 (A5 a0r 0 A3))) (A2 (A6 4 a3h.nd (A5 a0r (A5 a0I 0 A3) 3)) (A2 (A6 5 a3h.nd B0) (A2 (B6 (D8 (A0 3 A1)) (A9 6 a3h.nd) (A2 (A6 7 a3h.nd (A5 a0p (A5 a0I 0 A3) (A5 a3c A3 6))) (E1 (B3 (B1 (a1W hr.units) 6 4 (a0v _)) (A4 (A6 7 a3h.nd (A5 a0p 7 1))) B5) (A4 (A6 5 a3h.nd (A5 a0p 5 (B2 a0G 2 (A5 a0r 7 (B9 a1a T.z_len a1c (A0 2 A1)))))))))) (A4 (A8 5)))))›,?_⟩
  rw [show start b8I [V.int c,V.int k,sv sg]=[some (V.int c),some (V.int k),some (sv sg),none,none,none,none,none] from rfl]
  have m8:=a0Z (i:=c) (j:=8) (by decide)
  try simp only [a1u,a2b,tOp,tC,a0k,Qa,a0l,Qi,Qj,Qb,a0Q,a4V,a0i,a0u,a0e,a0L,a7t,a0J]
  refine ⟨by decide,⟨by decide,by decide⟩,by omega,_,rfl,by omega,by omega,?_⟩
  refine a1S (n:=(1+c % 8).toNat) (lo:=0) (fun i σ H'=>H=H'∧∃(j st:Option V),σ=[some (V.int c),some (V.int k),some (sv sg),some (V.int (1+c % 8)),some (V.int (c / 8 % (1+c % 8))),some (sv ((Xr i).map fun (j:Nat)=>sg.getD (((c / 64+5 * (j:Int)+(if (j:Int)=c / 8 % (1+c % 8) then k else 0)) % (sg.length:Int)).toNat) 0)),j,st]) ⟨rfl,_,_,rfl⟩ ?_ ?_
  ·rintro i σ H' hi ⟨rfl,j,st,rfl⟩
   obtain ⟨l,el⟩:∃l,((Xr i).map fun (j:Nat)=>sg.getD (((c / 64+5 * (j:Int)+(if (j:Int)=c / 8 % (1+c % 8) then k else 0)) % (sg.length:Int)).toNat) 0)=l:=⟨_,rfl⟩
   have hl:l.length=i:=by rw [←el,Qd,Zf]
   rw [Jn,Xf,Xg,Jq,el,Int.zero_add]
   try simp only [a0l,a1u,a2b,tOp,a0k,Qi,Qj,Qa,tC,Qb,a0e,a0L,b2Q,a7t,a0J]
   refine ⟨⟨by decide,by decide⟩,.inl (by decide),fun σ' H'=>H=H'∧∃n:Int,n=c / 64+5 * (i:Int)+(if (i:Int)=c / 8 % (1+c % 8) then k else 0)∧σ'=[some (V.int c),some (V.int k),some (sv sg),some (V.int (1+c % 8)),some (V.int (c / 8 % (1+c % 8))),some (sv l),some (V.int (i:Int)),some (V.int n)],?_,?_⟩
   ·try simp only [a3D,a1q,tOp,a0k,Qb,Qa,a2b,a0l,Qi,Qj,a0e,a0J,a1F,a2y,a2i,decide_eq_true_eq]
    exact a2k (fun z=>⟨(by trivial),_,by rw [if_pos z],rfl⟩) (fun z=>⟨(by trivial),_,by rw [if_neg z,Int.add_zero],rfl⟩)
   rintro σ' H' ⟨rfl,n,hn,rfl⟩
   rw [←hn]
   try simp only [a2b,tOp,a0k,Qb,Qa,tCB,a0i,a0u,a0l,Qi,Qj,a0e,a9S,a0L,b4p,a1n]
   have hm:=a0Z (i:=n) (j:=((mk sg).length:Int)) (by rw [a0x];omega)
   obtain ⟨d,e,hv,hd⟩:=a3d (xs:=(mk sg).cps.toList) hm.1 (by rw [show ((mk sg).cps.toList.length:Int)=((mk sg).length:Int) by rw [a0x]];exact hm.2)
   have hd':sg.getD ((n % (sg.length:Int)).toNat) 0=d:=by
    have hd2:sg[(n % ((mk sg).length:Int)).toNat]?=some d:=hd
    rw [a0x] at hd2
    rw [Xj,hd2];rfl
   rw [hd']
   refine ⟨a3q (by rw [a0x];omega),by rw [a0x];omega,a3q (by rw [a0x];omega),d,e,?_,(by trivial),_,_,by rw [show (mk l++(⟨#[d]⟩:Str))=mk (l++[d]) from a2p l [d]]⟩
   show (mk l).length+1≤sizeLine
   rw [a0x]
   exact Qh (show l.length+1≤1000 by omega) (by decide)
  ·rintro σ H' ⟨rfl,j,st,rfl⟩
   try simp only [a1o,a0k,Qb,Qa,a0e]
   exact q
theorem b0a (T:Txt K mg t):a0W P w K mg base CX0 2 t.f_z1h t.fd_z1h ["_law_cell"] b1s:=by
 refine T.F_z1h.ok b6X (fun vs H Q E h=>?_) (fun cdv A outer s H vs Q E hr h=>?_)
 ·obtain ⟨c,rfl,q⟩:=h;rfl
 ·obtain ⟨c,rfl,q⟩:=h
  refine ⟨_,‹A4 (A8 (C0 (B4 (a0c a7B) b3R ["_law_k","_law_cell"] [none,some 0]) (D8 (A0 A3 A1)) (A9 0 (show Xo (["_law_k","_law_cell"]:List Str) by decide+kernel)) D1 (A7 (b3t T) T.g_z1m T.F_z1m.kp T.b_z1m .nil (A0 (A5 a0I 1 A3) (A0 0 (A0 B0 A1))))))›,?_⟩
  rw [show start b3R [V.int c]=[some (V.int c)] from rfl]
  try simp only [a1o,a0C,a4V,a0i,tC,a0u]
  refine ⟨12,rfl,by decide,by decide,?_⟩
  refine a3R a2t (Qh (show (12:Int).toNat≤1000 by decide) (by decide)) [some (V.int c)] rfl (fun i v=>∃z,v=.str z∧OkS z) (fun _ _=>trivial) (fun i H' R hi s hR=>?_) (fun D H' ys hDn s hD hl hv=>?_)
  ·try simp only [a0K,a0i,tOp,a0k,Qb,Qa,tC,a0u,Qg,a0e,a0L,a7t]
   rw [b5t]
   refine ⟨⟨by decide,by decide⟩,_,_,c0z,rfl,by decide,hR _ _ (a0j.refl _) ⟨_,rfl,OkS.of (fun x hx=>b4X (a3K (by decide) x hx)) (Qh (a2P _ _ _).2 (by decide))⟩⟩
  ·obtain ⟨zs,rfl,ho⟩:=a4L hv
   exact q D zs H' s hDn hD (by simpa using hl) ho
theorem b8Z (T:Txt K mg t):a0W P w K mg base CX0 3 t.f_z1j t.fd_z1j ["_law_cell","_law_many"] b5v:=by
 refine T.F_z1j.ok a3A (fun vs H Q E h=>?_) (fun cdv A outer s H vs Q E hr h=>?_)
 ·obtain ⟨c,m,rfl,hm,q⟩:=h;rfl
 ·obtain ⟨c,m,rfl,hm,q⟩:=h
  refine ⟨_,‹A2 (A6 2 a3A.nd (A7 (b0a T) T.g_z1h T.F_z1h.kp T.b_z1h .nil (A0 0 A1))) (A2 (A6 3 a3A.nd (C4 A1)) (A2 (B6 (D8 (A0 1 A1)) (A9 4 a3A.nd) (A2 (A6 5 a3A.nd (A7 (a5r T) T.g_z1s T.F_z1s.kp T.b_z1s .nil (A0 0 (A0 (A5 a0p A3 4) A1)))) (A2 (A6 6 a3A.nd (A5 a0r 5 A3)) (A2 (A6 7 a3A.nd (A5 a0r (A5 a0I 5 A3) A3)) (A4 (B3 (B1 (a4x hr.units) 6 7 (a0v _)) (A4 (D2 (C9 Xv Yd Ye a1g 3 (A0 (C3 (A0 (B2 a0G 2 (B9 (a9w rfl) T.z_min a9U (A0 6 (A0 7 A1)))) (A0 (B2 a0G 2 (B9 (b0m rfl) T.z_max a9B (A0 6 (A0 7 A1)))) A1))) A1)))) B5)))))) (A4 (A8 3))))›,?_⟩
  rw [show start b7O [V.int c,V.int m]=[some (V.int c),some (V.int m),none,none,none,none,none,none] from rfl]
  try simp only [a1u,a2b,a0K,a0i,a0k,Qa,a0u,Qg,a0l,a5Z,Qi,Qj,a0Q,a4V,Qb,a0e]
  refine ⟨c,rfl,fun La ls H1 s1 hLn hL hl12 hlo=>?_⟩
  try simp only []
  refine ⟨by decide,fun D hD=>⟨_,rfl,by omega,by omega,?_⟩⟩
  obtain ⟨H2,e2,s2,h2⟩:=a1p hD (.lst []);rw [e2]
  have hDn:H D=none:=none_of s1 hD
  have hLD:La≠D:=a0b hL hD
  refine a1S (n:=m.toNat) (lo:=0) (fun i σ H'=>∃(ps:List V) (pl:List (Str×Str)) (x4 x5 x6 x7:Option V),σ=[some (V.int c),some (V.int m),some (V.ref La),some (V.ref D),x4,x5,x6,x7]∧a0j H H'∧H' La=some (.lst (ls.map V.str))∧H' D=some (.lst ps)∧a1t H' ps pl∧pl.length≤i∧b6h pl)
   ⟨[],[],_,_,_,_,rfl,s1.trans s2,s2 _ _ hL,h2,⟨[],rfl,rfl,fun i a p e=>by simp at e⟩,Qk _,fun _ h=>by cases h⟩ ?_ ?_
  ·rintro i σ H3 hi ⟨ps,pl,x4,x5,x6,x7,rfl,s3,hL3,hD3,hP3,hpl,hpo⟩
   try simp only [a0l,a1u,a2b,a0K,a0i,a0k,Qi,Qj,Qa,tOp,tC,Qb,a0u,Qg,a3D,a1q,a3Y,tBM,a8b,tCB,a0e,a1F,a0J,a2L,a0L,a7t,b1W,a2i,Yj,decide_eq_false_iff_not]
   intro r hr
   have m1:=a0Z (i:=r) (j:=12) (by decide)
   have m2:=a0Z (i:=r / 12) (j:=12) (by decide)
   generalize r % 12=x at m1
   generalize r / 12 % 12=y at m2
   have hpsl:ps.length≤60:=by
    obtain ⟨as,rfl,hal,_⟩:=hP3
    rw [Qd];omega
   refine ⟨by decide,⟨by decide,by decide⟩,by decide,a2k (fun c1=>?_) (fun c1=>⟨ps,pl,_,_,_,_,rfl,s3,hL3,hD3,hP3,by omega,hpo⟩)⟩
   have pk:∀n:Int,0≤n∧n < 12→∃z,atI (ls.map V.str) n=some (.str z)∧OkS z:=fun n hn=>by
    obtain ⟨v,e,hv,_⟩:=a3d (xs:=ls.map V.str) (i:=n) hn.1 (by rw [Qd,hl12];exact hn.2)
    obtain ⟨z,hz,rfl⟩:=Qf.mp hv
    exact ⟨z,e,hlo z hz⟩
   obtain ⟨z1,ez1,o1⟩:=pk (if y < x then y else x) (by split<;>omega)
   obtain ⟨z2,ez2,o2⟩:=pk (if y > x then y else x) (by split<;>omega)
   refine ⟨.inl ⟨rfl,_,SqL.of hD3⟩,x,y,rfl,a0w (SqL.of hL3) ez1 ⟨x,y,rfl,a0w (SqL.of hL3) ez2 ⟨by simp only [Qs,Xk];decide,fun p hp=>?_⟩⟩⟩
   obtain ⟨H4,e4,s4,h4⟩:=a1p hp (.tup [V.str z1,V.str z2]);rw [e4]
   have hD4:=s4 _ _ hD3
   have hpD:p≠D:=fun z=>by rw [z,hD3] at hp;cases hp
   refine ⟨D,_,_,rfl,rfl,hD4,Xp (show _≤1000 by omega) (by decide),?_⟩
   have up:∀b o,b≠D→H4 b=some o→upd H4 D (.lst (ps++[V.ref p])) b=some o:=fun b o hb e=>by rw [a0a hb];exact e
   refine ⟨ps++[V.ref p],pl++[(z1,z2)],_,_,_,_,rfl,fun b o e=>up _ _ (a0b e hDn) (s4 _ _ (s3 _ _ e)),up _ _ hLD (s4 _ _ hL3),a0d,a6V (a6U (a1t.same s4 hP3) ⟨_,hD4⟩ up) (up _ _ hpD h4),by simp;omega,fun w hw=>?_⟩
   rcases Qq.mp hw with z | z
   ·exact hpo w z
   ·rw [Qz.mp z];exact ⟨o1.1,o2.1⟩
  ·rintro σ H3 ⟨ps,pl,x4,x5,x6,x7,rfl,s3,hL3,hD3,hP3,hpl,hpo⟩
   try simp only [a1o,a0k,Qb,Qa,a0e]
   exact q D ps pl H3 s3 hDn hD3 hP3 (by omega) hpo
theorem b7p (T:Txt K mg t):a0W P w K mg base CX0 4 t.f_z02 t.fd_z02 ["_law_script"] (b1J K):=by
 refine T.F_z02.ok a3y (fun vs H Q E h=>?_) (fun cdv A outer s H vs Q E hr h=>?_)
 ·obtain ⟨a,ns,rfl,hS,hl,q⟩:=h;rfl
 ·obtain ⟨a,ns,rfl,hS,hl,q⟩:=h
  refine ⟨_,‹A2 (A6 1 a3y.nd (A7 (b0a T) T.g_z1h T.F_z1h.kp T.b_z1h .nil (A0 (A7 (a2N T) T.g_z1b T.F_z1b.kp T.b_z1b .nil (A0 0 (A0 A3 A1))) A1))) (A2 (A6 2 a3y.nd (A7 (a2N T) T.g_z1b T.F_z1b.kp T.b_z1b .nil (A0 0 (A0 A3 A1)))) (A2 (B3 (B1 b3I (A5 a0r (A7 (a2N T) T.g_z1b T.F_z1b.kp T.b_z1b .nil (A0 0 (A0 A3 A1))) A3) A3 (a0v _)) (A4 (A8 (A7 (b8Z T) T.g_z1j T.F_z1j.kp T.b_z1j .nil (A0 (A7 (a2N T) T.g_z1b T.F_z1b.kp T.b_z1b .nil (A0 0 (A0 A3 A1))) (A0 (A5 a0r 2 A3) A1))))) B5) (A2 (A6 3 a3y.nd (C4 A1)) (A2 (B6 (D8 (A0 A3 A1)) (A9 4 a3y.nd) (A4 (B6 (J0 rfl T.z_range (A0 (A5 a0p 4 A3) (A0 A3 A1))) (A9 5 a3y.nd) (E1 (B3 (B1 (a1W hr.units) (A5 a0r 2 A3) A3 (a0v _)) (A4 (D2 (C9 Xv Yd Ye a1g 3 (A0 (C3 (A0 (B2 a0G 1 4) (A0 (B2 a0G 1 5) A1))) A1)))) B5) (A4 (A6 2 a3y.nd (A5 a0I 2 A3))))))) (A4 (A8 3))))))›,?_⟩
  rw [show start b9t [V.ref a]=[some (V.ref a),none,none,none,none,none] from rfl]
  try simp only [a1u,a2b,a0K,a0i,a0k,Qa,tC,a0u,Qg,a0l,Qi,Qj,a3D,a1q,tOp,a1o,Qb,a0e,a1F,a5Z,a0Q,a4V]
  refine ⟨a,ns,0,rfl,hS,hl,by decide,by decide,fun c0 _=>?_⟩
  refine ⟨c0,rfl,fun La ls H1 s1 hLn hL hl12 hlo=>?_⟩
  have hS1:SqL K H1 a (ns.map V.int):=s1.seq hS
  try simp only []
  refine ⟨a,ns,2,rfl,hS1,hl,by decide,by decide,fun c2 _=>?_⟩
  try simp only [a0L]
  refine ⟨a,ns,1,rfl,hS1,hl,by decide,by decide,fun c1 _=>?_⟩
  try simp only [a0L,a7r,a2i,decide_eq_true_eq]
  refine ⟨by decide,a2k (fun cc=>?_) (fun cc=>?_)⟩
  ·refine ⟨a,ns,0,rfl,hS1,hl,by decide,by decide,fun c3 _=>?_⟩
   have m25:=a0Z (i:=c2) (j:=25) (by decide)
   try simp only []
   exact ⟨by decide,c3,c2 % 25,rfl,by omega,fun D ps pl H' s' hDn hD hP hpl hpo=>q D ps pl H' (s1.trans s') (none_of s1 hDn) hD hP hpl hpo⟩
  refine ⟨by decide,fun D hD=>⟨11,rfl,by decide,by decide,?_⟩⟩
  obtain ⟨H2,e2,s2,h2⟩:=a1p hD (.lst []);rw [e2]
  have hDn:H D=none:=none_of s1 hD
  have hLD:La≠D:=a0b hL hD
  have pk:∀n:Int,0≤n∧n < 12→∃z,atI (ls.map V.str) n=some (.str z)∧OkS z:=fun n hn=>by
   obtain ⟨v,e,hv,_⟩:=a3d (xs:=ls.map V.str) (i:=n) hn.1 (by rw [Qd,hl12];exact hn.2)
   obtain ⟨z,hz,rfl⟩:=Qf.mp hv
   exact ⟨z,e,hlo z hz⟩
  refine a1S (n:=(11:Int).toNat) (lo:=0) (fun i σ H'=>∃(ps:List V) (pl:List (Str×Str)) (cc:Int) (x4 x5:Option V),σ=[some (V.ref a),some (V.ref La),some (V.int cc),some (V.ref D),x4,x5]∧a0j H H'∧H' La=some (.lst (ls.map V.str))∧H' D=some (.lst ps)∧a1t H' ps pl∧pl.length≤10 * i∧b6h pl)
   ⟨[],[],_,_,_,rfl,s1.trans s2,s2 _ _ hL,h2,⟨[],rfl,rfl,fun i a p e=>by simp at e⟩,Qk _,fun _ h=>by cases h⟩ ?_ ?_
  ·rintro i σ H3 hi ⟨ps,pl,cc,x4,x5,rfl,s3,hL3,hD3,hP3,hpl,hpo⟩
   have hi11:i < 11:=hi
   try simp only [a0l,Qi,Qj,a0Q,b7H,a0i,tOp,a0k,Qb,Qa,tC,a0u,a0e,a0J]
   refine ⟨_,_,rfl,⟨by omega,by omega,by omega,by omega⟩,?_⟩
   refine a1S (n:=(11 - (0+(i:Int)+1)).toNat) (lo:=0+(i:Int)+1) (fun j σ H'=>∃(ps:List V) (pl:List (Str×Str)) (cc:Int) (x5:Option V),σ=[some (V.ref a),some (V.ref La),some (V.int cc),some (V.ref D),some (V.int (0+(i:Int))),x5]∧a0j H H'∧H' La=some (.lst (ls.map V.str))∧H' D=some (.lst ps)∧a1t H' ps pl∧pl.length≤10 * i+j∧b6h pl)
    ⟨ps,pl,cc,_,rfl,s3,hL3,hD3,hP3,by omega,hpo⟩ ?_ ?_
   ·clear hD3 hP3 hpl hpo
    rintro j σ H4 hj ⟨ps,pl,cc,x5,rfl,s4,hL4,hD4,hP4,hpl,hpo⟩
    have hpsl:ps.length≤200:=by
     obtain ⟨as,rfl,hal,_⟩:=hP4
     rw [Qd];omega
    try simp only [a0l,Qi,Qj]
    refine ⟨fun σ' H'=>∃(ps:List V) (pl:List (Str×Str)),σ'=[some (V.ref a),some (V.ref La),some (V.int cc),some (V.ref D),some (V.int (0+(i:Int))),some (V.int (0+(i:Int)+1+(j:Int)))]∧a0j H H'∧H' La=some (.lst (ls.map V.str))∧H' D=some (.lst ps)∧a1t H' ps pl∧pl.length≤10 * i+(j+1)∧b6h pl,?_,?_⟩
    ·try simp only [a3D,a1q,tOp,a0k,Qb,Qa,tC,a3Y,tBM,a0i,a8b,a0u,a0e,a1F,a0L,a2y,a2i,decide_eq_true_eq]
     refine ⟨by decide,a2k (fun c5=>?_) (fun c5=>⟨ps,pl,(by trivial),s4,hL4,hD4,hP4,by omega,hpo⟩)⟩
     obtain ⟨z1,ez1,o1⟩:=pk (0+(i:Int)) (by omega)
     obtain ⟨z2,ez2,o2⟩:=pk (0+(i:Int)+1+(j:Int)) (by omega)
     refine ⟨.inl ⟨rfl,_,SqL.of hD4⟩,a0w (SqL.of hL4) ez1 (a0w (SqL.of hL4) ez2 ⟨by simp only [Qs,Xk];decide,fun p hp=>?_⟩)⟩
     obtain ⟨H5,e5,s5,h5⟩:=a1p hp (.tup [V.str z1,V.str z2]);rw [e5]
     have hD5:=s5 _ _ hD4
     have hpD:p≠D:=fun z=>by rw [z,hD4] at hp;cases hp
     refine ⟨D,_,_,rfl,rfl,hD5,Xp (show _≤1000 by omega) (by decide),?_⟩
     have up:∀b o,b≠D→H5 b=some o→upd H5 D (.lst (ps++[V.ref p])) b=some o:=fun b o hb e=>by rw [a0a hb];exact e
     refine ⟨ps++[V.ref p],pl++[(z1,z2)],(by trivial),fun b o e=>up _ _ (a0b e hDn) (s5 _ _ (s4 _ _ e)),up _ _ hLD (s5 _ _ hL4),a0d,a6V (a6U (a1t.same s5 hP4) ⟨_,hD5⟩ up) (up _ _ hpD h5),by simp;omega,fun w hw=>?_⟩
     rcases Qq.mp hw with z | z
     ·exact hpo w z
     ·rw [Qz.mp z];exact ⟨o1.1,o2.1⟩
    ·rintro σ' H5 ⟨ps,pl,rfl,s5,hL5,hD5,hP5,hpl5,hpo5⟩
     try simp only [a2b,tOp,a0k,Qb,Qa,tC,a0l,Qi,Qj,a0e,a0L,a7t]
     exact ⟨⟨by decide,by decide⟩,ps,pl,_,_,rfl,s5,hL5,hD5,hP5,hpl5,hpo5⟩
   ·rintro σ H4 ⟨ps,pl,cc,x5,rfl,s4,hL4,hD4,hP4,hpl,hpo⟩
    exact ⟨ps,pl,cc,_,_,rfl,s4,hL4,hD4,hP4,by omega,hpo⟩
  ·rintro σ H3 ⟨ps,pl,cc,x4,x5,rfl,s3,hL3,hD3,hP3,hpl,hpo⟩
   try simp only [a1o,a0k,Qb,Qa,a0e]
   exact q D ps pl H3 s3 hDn hD3 hP3 (by have:(11:Int).toNat=11:=rfl;omega) hpo
theorem b3u (T:Txt K mg t):a0W P w K mg base CX0 2 t.f_z1n t.fd_z1n ["_law_cell"] b6c:=by
 refine T.F_z1n.ok a5u (fun vs H Q E h=>?_) (fun cdv A outer s H vs Q E hr h=>?_)
 ·obtain ⟨c,rfl,q⟩:=h;rfl
 ·obtain ⟨c,rfl,q⟩:=h
  refine ⟨_,‹A2 (E3 1 (B4 (a0c a7K) b3Z ["_law_k","_law_cell"] [none,some 0]) (D8 (A0 A3 A1)) (A9 0 (show Xo (["_law_k","_law_cell"]:List Str) by decide+kernel)) D1 (A7 (b3t T) T.g_z1m T.F_z1m.kp T.b_z1m .nil (A0 (A5 a0I 1 A3) (A0 0 (A0 B0 A1)))) a5u.nd) (A2 (A6 2 a5u.nd (C4 A1)) (A2 (B6 (D8 (A0 (A5 a0p A3 (A5 a0r 0 A3)) A1)) (A9 3 a5u.nd) (A2 (A6 4 a5u.nd (B2 a0G (C4 (A0 B0 (A0 (A5 a0p (A5 a0p B0 (B2 a0G 1 A3)) B0) (A0 (A5 a0p (A5 a0p (A5 a0p (A5 a0p B0 (B2 a0G 1 A3)) B0) (B2 a0G 1 A3)) B0) A1)))) (A5 a0I 3 A3))) (A2 (D2 (C9 Xv Yd Ye a1g 2 (A0 (A5 a0p (B2 a0G 1 (A5 a0r 3 A3)) 4) A1))) (A4 (D2 (C9 Xv Yd Ye a1g 2 (A0 (A5 a0p (A5 a0p B0 (B2 a0G 1 (A5 a0r 3 A3))) 4) A1))))))) (A4 (A8 2))))›,?_⟩
  rw [show start b3Z [V.int c]=[some (V.int c),none,none,none,none] from rfl]
  try simp only [a1u,a2b,a5Z,a0u,a0l,Qi,Qj,a0Q,a4V,a0i,tOp,tC,a0k,Qa,a0e,a0L,a0J,a0C]
  refine ⟨5,rfl,by decide,by decide,?_⟩
  refine a3R a2t (Qh (show (5:Int).toNat≤1000 by decide) (by decide)) [some (V.int c)] rfl (fun i v=>v=sv (a2l (c / 9) (i:Int) a2O)) (fun _ _=>trivial) (fun i H' R hi s hR=>?_) (fun W H1 ys hWn s1 hW hl hv=>?_)
  ·try simp only [a0K,a0i,tOp,a0k,Qb,Qa,tC,a0u,Qg,a0e,a0L,a7t]
   rw [b9v]
   refine ⟨⟨by decide,by decide⟩,_,_,a2O,rfl,by decide,hR _ _ (a0j.refl _) (by rw [Int.zero_add])⟩
  obtain ⟨wd,hwd⟩:∃wd:Nat→List Nat,wd=fun (i:Nat)=>a2l (c / 9) (i:Int) a2O:=⟨_,rfl⟩
  have hw1:∀k,k < 5→∀x∈wd k,x∈a2O:=fun k _ x hx=>by rw [hwd] at hx;exact a3K (by decide) x hx
  have hw2:∀k,k < 5→wd k≠[]:=fun k _ z=>by
   have:=(a2P (c / 9) (k:Int) a2O).1
   rw [hwd] at z
   rw [show a2l (c / 9) (k:Int) a2O=[] from z] at this
   simp at this
  have hw3:∀j k,j < 5→k < 5→wd j=wd k→j=k:=fun j k hj hk e=>by
   rw [hwd] at e
   have:=b0G (c:=c / 9) (k:=(j:Int)) (k':=(k:Int)) (by omega) (by omega) e
   omega
  have hyi:∀n:Nat,n < 5→atI ys (n:Int)=some (sv (wd n))∧(wd n).length≤8∧∀x∈wd n,x∈a2O:=fun n hn=>by
   have hn':n < ys.length:=by rw [hl];exact hn
   refine ⟨?_,by rw [hwd];exact (a2P _ _ _).2,hw1 n hn⟩
   unfold atI ixN
   rw [if_pos (by omega),if_pos (by omega)]
   show ys[((n:Int)).toNat]?=_
   rw [Int.toNat_natCast,Qe hn',hv n _ (Qe hn'),hwd]
  have m9:=a0Z (i:=c) (j:=9) (by decide)
  try skip
  refine ⟨by decide,fun D hD=>?_⟩
  have hWD:W≠D:=fun z=>by rw [z,hD] at hW;cases hW
  refine ⟨by decide,_,rfl,by omega,by omega,?_⟩
  refine a1S (n:=(1+c % 9).toNat) (lo:=0) (fun i σ H'=>∃(pl:List Str) (k pc:Option V),σ=[some (V.int c),some (V.ref W),some (V.ref D),k,pc]∧a0j H1 H'∧H' D=some (.lst (pl.map V.str))∧(pl=(Xr (2 * i)).map (plG wd))∧∀z∈pl,OkS z) ⟨[],_,_,rfl,a0j.upd hD,a0d,rfl,by simp⟩ ?_ ?_
  ·rintro i σ H2 hi ⟨pl,k,pc,rfl,s2,hD2,hpl,hok⟩
   have hW2:=s2 _ _ hW
   have hpll:pl.length=2 * i:=by rw [hpl,Qd,Zf]
   obtain ⟨e3,b3,c3⟩:=hyi 3 (by decide)
   obtain ⟨e4,b4,c4⟩:=hyi 4 (by decide)
   obtain ⟨en,bn,cn⟩:=hyi (i % 3) (by omega)
   rw [show ((i % 3:Nat):Int)=(0+(i:Int)) % 3 by omega] at en
   have enm:nmL wd i=wd (i % 3)++pcl wd (i / 3):=rfl
   have epc:∀(x y z:V),x=sv (pcl wd 0)→y=sv (pcl wd 1)→z=sv (pcl wd 2)→atI [x,y,z] ((0+(i:Int)) / 3)=some (sv (pcl wd (i / 3))):=fun x y z h1 h2 h3=>by
    have hi3:i / 3 < 3:=by omega
    rw [show (0+(i:Int)) / 3=((i / 3:Nat):Int) by omega]
    match i / 3,hi3 with
    | 0,_=>rw [h1];rfl
    | 1,_=>rw [h2];rfl
    | 2,_=>rw [h3];rfl
   have e31:pcl wd 1=40::(wd 3++[41]):=rfl
   have e32:pcl wd 2=40::(wd 4++[44])++wd 3++[41]:=rfl
   have eplG:(Xr (2 * (i+1))).map (plG wd)=pl++[mk (nmL wd i),mk (45::nmL wd i)]:=by
    rw [show 2 * (i+1)=2 * i+1+1 by omega,Jn,Jn,Xf,Xf,←hpl]
    have g1:plG wd (2 * i)=mk (nmL wd i):=by unfold plG;rw [if_pos (by omega),show 2 * i / 2=i by omega]
    have g2:plG wd (2 * i+1)=mk (45::nmL wd i):=by unfold plG;rw [if_neg (by omega),show (2 * i+1) / 2=i by omega]
    rw [Xg,Xg,Jq,g1,g2,Zo];rfl
   generalize wd 3=l3 at e3 b3 c3 e31 e32
   generalize wd 4=l4 at e4 b4 c4 e32
   generalize wd (i % 3)=ln at en bn cn enm
   try simp only [a0l,a1u,a2b,tOp,a5Z,a0i,tC,a0k,Qi,Qj,Qb,Qa,a0u,a3Y,tBM,a0e,a0L,a7t]
   rw [show ("(":Str)=mk [40] by decide+kernel,show (")":Str)=mk [41] by decide+kernel,show (",":Str)=mk [44] by decide+kernel,show ("-":Str)=mk [45] by decide+kernel]
   refine a0w (SqL.of hW2) e3 ?_
   try simp only [a1n]
   rw [a2p,a2p]
   refine ⟨by rw [a0x,a0x];exact Qh (show _≤2000 by simp;omega) (by decide),by rw [a0x,a0x];exact Qh (show _≤2000 by simp;omega) (by decide),a0w (SqL.of hW2) e4 ?_⟩
   try simp only [Jf,Ue,a1n]
   rw [a2p,a2p]
   refine ⟨by rw [a0x,a0x];exact Qh (show _≤2000 by simp;omega) (by decide),by rw [a0x,a0x];exact Qh (show _≤2000 by simp;omega) (by decide),a0w (SqL.of hW2) e3 ?_⟩
   try simp only [Jf,Ue,a1n]
   rw [a2p,a2p]
   refine ⟨by rw [a0x,a0x];exact Qh (show _≤2000 by simp;omega) (by decide),by rw [a0x,a0x];exact Qh (show _≤2000 by simp;omega) (by decide),by simp only [Qs,Xk];decide,fun p3 hp3=>?_⟩
   obtain ⟨H3,e3',s3,h3⟩:=a1p hp3 (.lst [V.str "",sv (40::(l3++[41])),sv (40::(l4++[44])++l3++[41])]);rw [e3']
   have d3:0≤(0+(i:Int)) / 3∧(0+(i:Int)) / 3 < 3:=by omega
   have epv:=epc (V.str "") (sv (40::(l3++[41]))) (sv (40::(l4++[44])++l3++[41])) rfl (by rw [e31]) (by rw [e32])
   have hpc:(pcl wd (i / 3)).length≤30∧∀c∈pcl wd (i / 3),c < 128:=by
    have hi3:i / 3 < 3:=by omega
    match i / 3,hi3 with
    | 0,_=>exact ⟨Xm _,fun c hc=>by cases hc⟩
    | 1,_=>
     rw [e31]
     refine ⟨by simp;omega,fun c hc=>?_⟩
     simp only [Qq,Qw,Zl,or_false] at hc
     rcases hc with h | h | h
     ·omega
     ·exact a5Y (c3 c h)
     ·omega
    | 2,_=>
     rw [e32]
     refine ⟨by simp;omega,fun c hc=>?_⟩
     simp only [Qq,Qw,Zl,or_false] at hc
     rcases hc with ((h | h | h) | h) | h
     ·omega
     ·exact a5Y (c4 c h)
     ·omega
     ·exact a5Y (c3 c h)
     ·omega
   obtain ⟨bpc,cpc⟩:=hpc
   generalize pcl wd (i / 3)=pc' at epv bpc cpc enm
   have hW3:=s3 _ _ hW2
   have hD3:=s3 _ _ hD2
   refine ⟨⟨by decide,by decide⟩,a0w (SqL.of h3) epv ?_⟩
   have o1:OkS (mk (ln++pc')):=OkS.of (fun c hc=>(Qq.mp hc).elim (fun h=>a5Y (cn c h)) (fun h=>cpc c h)) (by simp;omega)
   have o2:OkS (mk ([45]++ln++pc')):=OkS.of (fun c hc=>by
    simp only [Qq,Qz] at hc
    rcases hc with (h | h) | h
    ·omega
    ·exact a5Y (cn c h)
    ·exact cpc c h) (by simp;omega)
   have hWD3:upd H3 D (.lst (pl.map V.str++[sv (ln++pc')])) W=some (.lst ys):=by rw [a0a hWD];exact hW3
   refine ⟨.inl ⟨rfl,_,SqL.of hD3⟩,by decide,a0w (SqL.of hW3) en ?_⟩
   try simp only [a1n]
   rw [a2p]
   refine ⟨by rw [a0x,a0x];exact Qh (show _≤2000 by omega) (by decide),D,_,_,rfl,rfl,hD3,Xp (show _≤1000 by rw [Qd];omega) (by decide),?_⟩
   refine ⟨.inl ⟨rfl,_,SqL.of a0d⟩,by decide,a0w (SqL.of hWD3) en ?_⟩
   try simp only [a1n]
   rw [a2p,a2p]
   refine ⟨by rw [a0x,a0x];exact Qh (show _≤2000 by simp;omega) (by decide),by rw [a0x,a0x];exact Qh (show _≤2000 by simp;omega) (by decide),D,_,_,rfl,rfl,a0d,Xp (show _≤1000 by simp;omega) (by decide),pl++[mk (ln++pc'),mk ([45]++ln++pc')],_,_,rfl,?_,?_,by rw [eplG,enm];rfl,fun z hz=>?_⟩
   ·intro b o e;rw [a0a (a0b e hD),a0a (a0b e hD)];exact s3 _ _ (s2 _ _ e)
   ·rw [a0d];simp
   ·rcases Qq.mp hz with h | h
    ·exact hok z h
    ·simp only [Qw,Zl,or_false] at h
     rcases h with rfl | rfl
     ·exact o1
     ·exact o2
  ·rintro σ H2 ⟨pl,k,pc,rfl,s2,hD2,hpl,hok⟩
   try simp only [a1o,a0k,Qb,Qa,a0e]
   have hpll:pl.length=2 * (1+c % 9).toNat:=by rw [hpl,Qd,Zf]
   exact q D pl H2 (s1.trans s2) (none_of s1 hD) hD2 (by omega) (by omega) hok (by rw [hpl];exact b2a hw1 hw2 hw3 (by omega)) (fun z hz=>by rw [hpl] at hz;obtain ⟨j,_,rfl⟩:=Qf.mp hz;exact b9p hw1 hw2 j) (by rw [hpl,hwd];rfl)
theorem b6d (T:Txt K mg t):a0W P w K mg base CX0 2 t.f_z1t t.fd_z1t ["_law_m","_law_k","_law_pool_here","_law_labels_here","_law_style"] c0a:=by
 refine T.F_z1t.ok a3e (fun vs H Q E h=>?_) (fun cdv A outer s H vs Q E hr h=>?_)
 ·obtain ⟨m,k,st,P,L,pl,ls,rfl,hP,hp2,hp18,hpo,hL,hl12,hlo,q⟩:=h;rfl
 ·obtain ⟨m,k,st,P,L,pl,ls,rfl,hP,hp2,hp18,hpo,hL,hl12,hlo,q⟩:=h
  refine ⟨_,‹A2 (A6 5 a3e.nd (B9 a1a T.z_len a1c (A0 2 A1))) (A2 (A6 6 a3e.nd (B2 a0G 2 (A5 a0r (A5 a0I 0 A3) 5))) (A2 (E3 7 (B4 (a0c a6k) b1M ["_law_j","_law_pool_here","_law_size","_law_m"] [none,some 2,some 5,some 0]) (D8 (A0 (A5 a0r (A5 a0I 0 A3) A3) A1)) (A9 0 (show Xo (["_law_j","_law_pool_here","_law_size","_law_m"]:List Str) by decide+kernel)) D1 (B2 (a2X (K:=K) rfl) 1 (A5 a0r (A7 (a5r T) T.g_z1s T.F_z1s.kp T.b_z1s .nil (A0 3 (A0 (A5 (b0L (K:=K) rfl) A3 0) A1))) 2)) a3e.nd) (E1 (B3 (B1 (a1W hr.units) 4 A3 (a0v _)) (A2 (A6 6 a3e.nd (B2 a0G 2 (A5 a0r (A5 a3c A3 1) 5))) (A2 (A6 8 a3e.nd (B2 a0G (C4 (A0 A3 (A0 A3 (A0 A3 (A0 A3 (A0 A3 (A0 A3 A1))))))) (A5 a0r (A5 a0I 0 A3) A3))) (A4 (E3 7 (B4 (a0c a6k) b1M ["_law_j","_law_pool_here","_law_size","_law_k","_law_m"] [none,some 2,some 5,some 1,some 0]) (D8 (A0 8 A1)) (A9 0 (show Xo (["_law_j","_law_pool_here","_law_size","_law_k","_law_m"]:List Str) by decide+kernel)) D1 (B2 (a2X (K:=K) rfl) 1 (A5 a0r (A5 b3g (A5 b3g (A5 a3c A3 3) A3) (A5 a0r (A7 (a5r T) T.g_z1s T.F_z1s.kp T.b_z1s .nil (A0 4 (A0 (A5 (b0L (K:=K) rfl) A3 0) A1))) A3)) 2)) a3e.nd)))) B5) (A2 (A6 9 a3e.nd (B2 a0G (C4 (A0 B0 (A0 B0 (A0 B0 (A0 B0 (A0 B0 (A0 B0 (A0 B0 (A0 B0 A1))))))))) (A5 a0r 0 A3))) (A2 (B3 (B1 (a1W hr.units) (A5 a0r (A5 a0I 0 A3) A3) A3 (a0v _)) (A4 (A8 (C3 (A0 B0 (A0 B0 (A0 6 (A0 (C3 A1) A1))))))) B5) (A4 (A8 (C3 (A0 9 (A0 (B2 a0G 3 (A5 a0r (A5 a0I 0 A3) A3)) (A0 6 (A0 (D5 a2x T.z_tuple a2e (A0 7 A1)) A1))))))))))))›,?_⟩
  rw [show start b1M [V.int m,V.int k,V.ref P,V.ref L,V.int st]=[some (V.int m),some (V.int k),some (V.ref P),some (V.ref L),some (V.int st),none,none,none,none,none] from rfl]
  have hpo':∀z∈pl,OkP pl z:=fun z hz=>⟨hpo z hz,hz⟩
  obtain ⟨z0,e0,o0⟩:=a2o hp2 hpo' (m / 8)
  have m5:=a0Z (i:=m / 200) (j:=5) (by decide)
  try simp only [a1u,a2b,tCB,a0i,a0k,Qb,Qa,a0u,a0l,tOp,Qi,Qj,tC,a0C,a4V,a0e,a0L,a7t]
  refine a1A (SqL.of hP) ?_
  try simp only [a0L]
  rw [Qd]
  refine ⟨⟨by decide,by decide⟩,by omega,a0w (SqL.of hP) e0 ?_⟩
  try skip
  refine ⟨⟨by decide,by decide⟩,by decide,_,rfl,by omega,by omega,?_⟩
  refine a3R a2t (Qh (show (m / 200 % 5).toNat≤1000 by omega) (by decide)) [some (V.ref P),some (V.int pl.length),some (V.int m)] rfl (fun i v=>∃z,v=V.str z∧OkP pl z) (fun _ _=>trivial) (fun i H' R hi s hR=>?_) (fun B H1 ys hBn s1 hB hl hv=>?_)
  ·try simp only [tOp,a0k,Qb,Qa,a0K,a0i,tC,a0u,Qg,a0e,a0J,a2L,a0L]
   intro r hr
   obtain ⟨z,e,o⟩:=a2o hp2 hpo' r
   exact ⟨by omega,a0w (SqL.of (s _ _ hP)) e (hR _ _ (a0j.refl _) ⟨z,rfl,o⟩)⟩
  obtain ⟨zs,rfl,hzo⟩:=a4L hv
  have hzl:zs.length≤4:=by
   rw [Qd] at hl;omega
  refine ⟨fun σ' H'=>∃(hd:Str) (B:Addr) (zs:List Str) (mn:Option V),σ'=[some (V.int m),some (V.int k),some (V.ref P),some (V.ref L),some (V.int st),some (V.int pl.length),some (V.str hd),some (V.ref B),mn,none]∧a0j H H'∧OkP pl hd∧H' B=some (.lst (zs.map V.str))∧zs.length≤4∧∀z∈zs,OkP pl z,?_,?_⟩
  ·try simp only [a3D,a1q,tOp,a0k,Qb,Qa,tC,a1u,a2b,a0l,a5Z,a0i,a0u,Qi,Qj,a0e,a0L,a7t,b2Q,a1F,a2y,a2i,decide_eq_true_eq]
   refine a2k (fun c1=>?_) (fun c1=>⟨_,_,_,_,rfl,s1,o0,hB,hzl,hzo⟩)
   obtain ⟨z1,e1,o1⟩:=a2o hp2 hpo' (2 * k)
   have hP1:=s1 _ _ hP
   have m6:=a0Z (i:=m / 200) (j:=6) (by decide)
   refine ⟨.inl (by decide),by omega,a0w (SqL.of hP1) e1 ?_⟩
   refine ⟨by simp only [Qs,Xk];decide,fun p2 hp2'=>?_⟩
   obtain ⟨H2,e2,s2,h2⟩:=a1p hp2' (.lst [V.int 1,V.int 2,V.int 0,V.int 1,V.int 2,V.int 1]);rw [e2]
   obtain ⟨v6,e6,hv6,_⟩:=a3d (xs:=[V.int 1,V.int 2,V.int 0,V.int 1,V.int 2,V.int 1]) m6.1 m6.2
   obtain ⟨mn,rfl,hmn⟩:∃n:Int,v6=.int n∧(0≤n∧n≤2):=by
    simp only [Qw,Zl,or_false] at hv6
    rcases hv6 with rfl | rfl | rfl | rfl | rfl | rfl<;>exact ⟨_,rfl,by decide⟩
   refine ⟨⟨by decide,by decide⟩,by decide,a0w (SqL.of h2) e6 ?_⟩
   try skip
   refine ⟨_,rfl,by omega,by omega,?_⟩
   have hP2:=s2 _ _ hP1
   refine a3R a2t (Qh (show mn.toNat≤1000 by omega) (by decide)) [some (V.ref P),some (V.int pl.length),some (V.int k),some (V.int m)] rfl (fun i v=>∃z,v=V.str z∧OkP pl z) (fun _ _=>trivial) (fun i H' R hi s hR=>?_) (fun B2 H3 ys3 hBn3 s3 hB3 hl3 hv3=>?_)
   ·try simp only [tOp,a0k,Qb,Qa,tC,a0K,a0i,a0u,Qg,a0e,a0J,a2L,a0L,b2Q,a4H]
    refine ⟨.inl (by decide),?_⟩
    intro r hr
    obtain ⟨z,e,o⟩:=a2o hp2 hpo' (2 * k - 2 - r % 3)
    exact ⟨by decide,by omega,a0w (SqL.of (s _ _ hP2)) e (hR _ _ (a0j.refl _) ⟨z,rfl,o⟩)⟩
   obtain ⟨zs3,rfl,hzo3⟩:=a4L hv3
   exact ⟨_,_,zs3,_,rfl,(s1.trans s2).trans s3,o1,hB3,by rw [Qd] at hl3;omega,hzo3⟩
  clear hB hzl hzo hBn
  rintro σ' H2 ⟨hd,B,zs,mn,rfl,s2,oh,hB,hzl,hzo⟩
  have m8:=a0Z (i:=m) (j:=8) (by decide)
  try simp only [a1u,a2b,tOp,a5Z,a0i,tC,a0u,a0k,Qa,a0l,a3D,a1q,Qi,Qj,a1o,a8b,Qb,a0e,a1F,tCB,a0L,a7t,a2y,a2i,decide_eq_true_eq]
  refine ⟨by simp only [Qs,Xk];decide,fun p3 hp3=>?_⟩
  obtain ⟨H3,e3,s3,h3⟩:=a1p hp3 (.lst [V.str "most",V.str "most",V.str "most",V.str "block",V.str "most",V.str "most",V.str "sure",V.str "most"]);rw [e3]
  obtain ⟨v8,e8,hv8,_⟩:=a3d (xs:=[V.str "most",V.str "most",V.str "most",V.str "block",V.str "most",V.str "most",V.str "sure",V.str "most"]) m8.1 m8.2
  obtain ⟨so,rfl,hso⟩:∃so:Nat,v8=.str (a5q so)∧(so < 4∧so≠0):=by
   simp only [Qw,Zl,or_false] at hv8
   rcases hv8 with rfl | rfl | rfl | rfl | rfl | rfl | rfl | rfl
   all_goals first | exact ⟨2,rfl,by decide⟩ | exact ⟨3,rfl,by decide⟩ | exact ⟨1,rfl,by decide⟩
  refine ⟨by decide,a0w (SqL.of h3) e8 ?_⟩
  have s03:=s2.trans s3
  have hL3:=s03 _ _ hL
  have hB3:=s3 _ _ hB
  try skip
  refine ⟨⟨by decide,by decide⟩,by decide,a2k (fun _=>?_) (fun _=>?_)⟩
  ·refine ⟨Xm _,fun t ht=>⟨by simp only [Qs,Xk];decide,fun p hp=>?_⟩⟩
   have hpt:t≠p:=fun z=>by rw [←z,a0d] at hp;cases hp
   have hp':H3 p=none:=by rw [a0a hpt.symm] at hp;exact hp
   refine q p t (0,"",hd,[]) _ (s03.trans (fun b o e=>?_)) (none_of s03 hp') (none_of s03 ht) ⟨⟨show 0 < 4 by decide,fun _=>⟨rfl,rfl⟩,OkS.of (l:=[]) (by simp) (by simp),oh.1,by simp,by simp⟩,oh.2,by simp⟩ a0d (by rw [a0a hpt,a0d];rfl)
   rw [a0a (a0b e hp'),a0a (a0b e ht)];exact e
  obtain ⟨z12,e12,o12⟩:=a8A hl12 hlo (m / 1000)
  refine ⟨⟨by decide,by decide⟩,by decide,a0w (SqL.of hL3) e12 ?_⟩
  refine ⟨B,_,rfl,.inl ⟨SqL.of hB3,fun t ht=>?_⟩⟩
  refine ⟨by simp only [Qs,Xk];decide,fun p hp=>?_⟩
  have hpt:t≠p:=fun z=>by rw [←z,a0d] at hp;cases hp
  have hp':H3 p=none:=by rw [a0a hpt.symm] at hp;exact hp
  refine q p t (so,z12,hd,zs) _ (s03.trans (fun b o e=>?_)) (none_of s03 hp') (none_of s03 ht) ⟨⟨hso.1,fun z=>absurd z hso.2,o12,oh.1,fun z hz=>(hzo z hz).1,hzl⟩,oh.2,fun z hz=>(hzo z hz).2⟩ a0d (by rw [a0a hpt,a0d])
  rw [a0a (a0b e hp'),a0a (a0b e ht)];exact e
theorem b7d (T:Txt K mg t):a0W P w K mg base CX0 1 t.f_z06 t.fd_z06 ["_law_cell","_law_pool_here","_law_labels_here"] c0t:=by
 refine T.F_z06.ok a2G (fun vs H Q E h=>?_) (fun cdv A outer s H vs Q E hr h=>?_)
 ·obtain ⟨m,P,L,pl,ls,rfl,hP,hp2,hp18,hpo,hL,hl12,hlo,q⟩:=h;rfl
 ·obtain ⟨m,P,L,pl,ls,rfl,hP,hp2,hp18,hpo,hL,hl12,hlo,q⟩:=h
  refine ⟨_,‹A2 (A6 3 a2G.nd (B9 a1a T.z_len a1c (A0 1 A1))) (A2 (A6 4 a2G.nd (B2 a0G (C4 (A0 B0 (A0 B0 (A0 B0 (A0 B0 (A0 B0 (A0 B0 (A0 B0 (A0 B0 A1))))))))) (A5 a0r 0 A3))) (A2 (A6 5 a2G.nd (B2 a0G 2 (A5 a0r (A5 a0I 0 A3) A3))) (A2 (A6 6 a2G.nd (B2 a0G 1 (A5 a0r (A5 a0I 0 A3) 3))) (A2 (A6 7 a2G.nd (A5 a0r (A5 a0I (A5 a0I 0 A3) 3) A3)) (A2 (A6 8 a2G.nd (A5 a0I (A5 a0I 0 A3) 3)) (A2 (A6 9 a2G.nd (C4 A1)) (A2 (B6 (D8 (A0 7 A1)) (A9 10 a2G.nd) (A2 (D2 (C9 Xv Yd Ye a1g 9 (A0 (B2 a0G 1 (A5 a0r 8 3)) A1))) (A4 (A6 8 a2G.nd (A5 a0I 8 3))))) (A2 (B3 (B1 (a1W hr.units) 4 B0 (a0v _)) (A4 (A8 (C3 (A0 4 (A0 B0 (A0 6 (A0 (C3 A1) A1))))))) B5) (A4 (A8 (C3 (A0 4 (A0 5 (A0 6 (A0 (D5 a2x T.z_tuple a2e (A0 9 A1)) A1)))))))))))))))›,?_⟩
  rw [show start b6o [V.int m,V.ref P,V.ref L]=[some (V.int m),some (V.ref P),some (V.ref L),none,none,none,none,none,none,none,none] from rfl]
  have hpo':∀z∈pl,OkP pl z:=fun z hz=>⟨hpo z hz,hz⟩
  have m8:=a0Z (i:=m) (j:=8) (by decide)
  obtain ⟨z12,e12,o12⟩:=a8A hl12 hlo (m / 8)
  obtain ⟨z0,e0,o0⟩:=a2o hp2 hpo' (m / 96)
  have m5:=a0Z (i:=m / 96 / (pl.length:Int)) (j:=5) (by decide)
  have h5:(m / 96 / (pl.length:Int) % 5).toNat≤4:=by
   generalize m / 96 / (pl.length:Int)=N at m5 ⊢
   omega
  try simp only [a1u,a2b,tCB,a0i,a0k,Qb,Qa,a0u,a0l,tOp,a5Z,tC,Qi,Qj,a0Q,a4V,a0e,a0L,a7t]
  refine a1A (SqL.of hP) ?_
  try simp only [a0L,a7t]
  rw [Qd]
  refine ⟨by simp only [Qs,Xk];decide,fun p3 hp3=>?_⟩
  obtain ⟨H3,e3,s3,h3⟩:=a1p hp3 (.lst [V.str "most",V.str "most",V.str "most",V.str "block",V.str "most",V.str "fact",V.str "sure",V.str "most"]);rw [e3]
  obtain ⟨v8,e8,hv8,_⟩:=a3d (xs:=[V.str "most",V.str "most",V.str "most",V.str "block",V.str "most",V.str "fact",V.str "sure",V.str "most"]) m8.1 m8.2
  obtain ⟨so,rfl,hso⟩:∃so:Nat,v8=.str (a5q so)∧so < 4:=by
   simp only [Qw,Zl,or_false] at hv8
   rcases hv8 with rfl | rfl | rfl | rfl | rfl | rfl | rfl | rfl
   all_goals first | exact ⟨2,rfl,by decide⟩ | exact ⟨3,rfl,by decide⟩ | exact ⟨1,rfl,by decide⟩ | exact ⟨0,rfl,by decide⟩
  refine ⟨by decide,a0w (SqL.of h3) e8 ?_⟩
  have hL3:=s3 _ _ hL
  have hP3:=s3 _ _ hP
  try skip
  refine ⟨⟨by decide,by decide⟩,by decide,a0w (SqL.of hL3) e12 ?_⟩
  refine ⟨⟨by decide,by decide⟩,by omega,a0w (SqL.of hP3) e0 ?_⟩
  refine ⟨⟨by decide,by decide⟩,⟨by omega,by omega⟩,by decide,⟨by decide,by decide⟩,⟨by omega,by omega⟩,by decide,fun B hB=>?_⟩
  have hPB:P≠B:=fun z=>by rw [z,hB] at hP3;cases hP3
  have hLB:L≠B:=fun z=>by rw [z,hB] at hL3;cases hL3
  refine ⟨_,rfl,by omega,by omega,?_⟩
  refine a1S (n:=(m / 96 / (pl.length:Int) % 5).toNat) (lo:=0) (fun i σ H'=>∃(zs:List Str) (rs:Int) (j:Option V),σ=[some (V.int m),some (V.ref P),some (V.ref L),some (V.int pl.length),some (V.str (a5q so)),some (V.str z12),some (V.str z0),some (V.int (m / 96 / (pl.length:Int) % 5)),some (V.int rs),some (V.ref B),j]∧a0j H3 H'∧H' B=some (.lst (zs.map V.str))∧zs.length=i∧∀z∈zs,OkP pl z) ⟨[],_,_,rfl,a0j.upd hB,a0d,rfl,by simp⟩ ?_ ?_
  ·rintro i σ H' hi ⟨zs,rs,j,rfl,s,hB',hzl,hzo⟩
   obtain ⟨z,e,o⟩:=a2o hp2 hpo' rs
   try simp only [a0l,a1u,a3Y,tBM,a0k,Qi,Qj,Qb,Qa,a0i,tOp,a0u,a2b,a0e,a0L,a7t]
   refine ⟨.inl ⟨rfl,_,SqL.of hB'⟩,by omega,a0w (SqL.of (s _ _ hP3)) e ?_⟩
   refine ⟨B,_,_,rfl,rfl,hB',Xp (show _≤1000 by rw [Qd];omega) (by decide),⟨by omega,by omega⟩,zs++[z],_,_,rfl,?_,?_,by simp [hzl],fun x hx=>?_⟩
   ·intro b u e;rw [a0a (a0b e hB)];exact s _ _ e
   ·rw [a0d];simp
   ·rcases Qq.mp hx with h | h
    ·exact hzo x h
    ·rw [Qz.mp h];exact o
  rintro σ H' ⟨zs,rs,j,rfl,s,hB',hzl,hzo⟩
  have s0':=s3.trans s
  try simp only [a1u,a3D,a1q,tOp,a0k,Qb,Qa,tC,a1o,a8b,a0i,a0u,a0e,a1F,tCB,a2M,a2i,decide_eq_true_eq]
  refine a2k (fun c1=>?_) (fun c1=>?_)
  ·have hz:so=0:=by
    match so,hso with
    | 0,_=>rfl
    | 1,_=>exact absurd c1 (by decide+kernel)
    | 2,_=>exact absurd c1 (by decide+kernel)
    | 3,_=>exact absurd c1 (by decide+kernel)
   refine ⟨Xm _,fun t ht=>⟨by simp only [Qs,Xk];decide,fun p hp=>?_⟩⟩
   have hpt:t≠p:=fun z=>by rw [←z,a0d] at hp;cases hp
   have hp':H' p=none:=by rw [a0a hpt.symm] at hp;exact hp
   refine q p t (so,"",z0,[]) _ (s0'.trans (fun b o e=>?_)) (none_of s0' hp') (none_of s0' ht) ⟨⟨hso,fun _=>⟨rfl,rfl⟩,OkS.of (l:=[]) (by simp) (by simp),o0.1,by simp,by simp⟩,o0.2,by simp⟩ a0d (by rw [a0a hpt,a0d];rfl)
   rw [a0a (a0b e hp'),a0a (a0b e ht)];exact e
  ·refine ⟨B,_,rfl,.inl ⟨SqL.of hB',fun t ht=>?_⟩⟩
   refine ⟨by simp only [Qs,Xk];decide,fun p hp=>?_⟩
   have hpt:t≠p:=fun z=>by rw [←z,a0d] at hp;cases hp
   have hp':H' p=none:=by rw [a0a hpt.symm] at hp;exact hp
   refine q p t (so,z12,z0,zs) _ (s0'.trans (fun b o e=>?_)) (none_of s0' hp') (none_of s0' ht) ⟨⟨hso,fun z=>absurd (show a5q so="fact" by rw [show so=0 from z];rfl) c1,o12,o0.1,fun z hz=>(hzo z hz).1,by show zs.length≤4;rw [hzl];exact h5⟩,o0.2,fun z hz=>(hzo z hz).2⟩ a0d (by rw [a0a hpt,a0d])
   rw [a0a (a0b e hp'),a0a (a0b e ht)];exact e
theorem b7a (T:Txt K mg t):a0W P w K mg base CX0 3 t.f_z1p t.fd_z1p ["_law_script","_law_start"] (b8R K):=by
 refine T.F_z1p.ok a5G (fun vs H Q E h=>?_) (fun cdv A outer s H vs Q E hr h=>?_)
 ·obtain ⟨a,ns,st,rfl,hS,hl,hst,q⟩:=h;rfl
 ·obtain ⟨a,ns,st,rfl,hS,hl,hst,q⟩:=h
  refine ⟨_,‹A2 (A6 2 a5G.nd (A7 (b3u T) T.g_z1n T.F_z1n.kp T.b_z1n .nil (A0 (A7 (a2N T) T.g_z1b T.F_z1b.kp T.b_z1b .nil (A0 0 (A0 A3 A1))) A1))) (A2 (A6 3 a5G.nd (A7 (b0a T) T.g_z1h T.F_z1h.kp T.b_z1h .nil (A0 (A7 (a2N T) T.g_z1b T.F_z1b.kp T.b_z1b .nil (A0 0 (A0 A3 A1))) A1))) (A2 (A6 4 a5G.nd (A5 a0r (A7 (a2N T) T.g_z1b T.F_z1b.kp T.b_z1b .nil (A0 0 (A0 A3 A1))) A3)) (A2 (A6 5 a5G.nd (F4 0 (F1 1) (F1 A3))) (A2 (B3 (B1 b4x 4 A3 (a0v _)) (A4 (A8 (C0 (B4 (a0c a6u) b1j ["_law_cell","_law_pool_here","_law_labels_here"] [none,some 2,some 3]) (B7 5) (A9 0 (show Xo (["_law_cell","_law_pool_here","_law_labels_here"]:List Str) by decide+kernel)) D1 (A7 (b7d T) T.g_z06 T.F_z06.kp T.b_z06 .nil (A0 0 (A0 1 (A0 2 A1))))))) B5) (A4 (A8 (C0 (B4 (a0c a6u) b1j ["_law_k","_law_cell","_law_pool_here","_law_labels_here","_law_style"] [none,none,some 2,some 3,some 4]) (J1 rfl T.z_enumerate (A0 5 A1)) (J2 K 2 rfl rfl (E6 (A9 0 (show Xo (["_law_k","_law_cell","_law_pool_here","_law_labels_here","_law_style"]:List Str) by decide+kernel)) (E6 (A9 1 (show Xo (["_law_k","_law_cell","_law_pool_here","_law_labels_here","_law_style"]:List Str) by decide+kernel)) G7))) D1 (A7 (b6d T) T.g_z1t T.F_z1t.kp T.b_z1t .nil (A0 (A7 (a5r T) T.g_z1s T.F_z1s.kp T.b_z1s .nil (A0 1 (A0 0 A1))) (A0 0 (A0 2 (A0 3 (A0 4 A1)))))))))))))›,?_⟩
  rw [show start b1j [V.ref a,V.int st]=[some (V.ref a),some (V.int st),none,none,none,none] from rfl]
  try simp only [a1u,a2b,a0K,a0i,a0k,Qa,tC,a0u,Qg,a0l,Qi,Qj,tOp,tSl,b1v,Qb,a3D,a1q,a1o,a0C,a2E,a0e,a1F,b9e,b4m]
  refine ⟨a,ns,0,rfl,hS,hl,by decide,by decide,fun c0 hc0=>?_⟩
  refine ⟨c0,rfl,fun Pa pl H1 s1 hPn hP hp2 hp18 hpo _ _ hpe=>?_⟩
  have hS1:SqL K H1 a (ns.map V.int):=s1.seq hS
  try simp only []
  refine ⟨a,ns,0,rfl,hS1,hl,by decide,by decide,fun c1 hc1=>?_⟩
  refine ⟨c1,rfl,fun La ls H2 s2 hLn hL hl12 hlo=>?_⟩
  have hS2:SqL K H2 a (ns.map V.int):=s2.seq hS1
  try simp only []
  refine ⟨a,ns,1,rfl,hS2,hl,by decide,by decide,fun c2 hc2=>?_⟩
  try simp only [a0L,a4H,a2i,decide_eq_true_eq]
  refine ⟨by decide,.inr (.inl ⟨a,_,rfl,hS2,fun C hCn=>?_⟩)⟩
  have hc:∀v∈a8G (ns.map V.int) (some st) (some 63),∃i,v=V.int i:=fun v hv=>by
   have:=List.mem_of_mem_drop (Zq hv)
   obtain ⟨i,_,e⟩:=Qf.mp this
   exact ⟨i,e.symm⟩
  have hcl:(a8G (ns.map V.int) (some st) (some 63)).length+st.toNat≤63:=by
   have h1:(a8G (ns.map V.int) (some st) (some 63)).length≤ns.length - min st.toNat ns.length:=by
    unfold a8G
    refine Qh (Wo _ _) ?_
    rw [Je,Qd]
    unfold HT.sIx
    dsimp only
    rw [if_neg (by omega)]
    exact Qk _
   have:=Nat.min_def (n:=st.toNat) (m:=ns.length)
   split at this<;>omega
  generalize a8G (ns.map V.int) (some st) (some 63)=ws at hc hcl
  obtain ⟨H3,e3,s3,h3⟩:=a1p hCn (.lst ws);rw [e3]
  have s03:=(s1.trans s2).trans s3
  have hP3:=s3 _ _ (s2 _ _ hP)
  have hL3:=s3 _ _ hL
  have mono:∀(D:Addr) (i:Nat) (v:V) (Ha Hb:Hp),(∀b o,b≠D→Ha b=some o→Hb b=some o)→RwD pl D v Ha→RwD pl D v Hb:=fun D i v Ha Hb up h=>by
   obtain ⟨p,t,r,e,n1,n2,ho,g1,g2⟩:=h
   exact ⟨p,t,r,e,n1,n2,ho,up _ _ n1 g1,up _ _ n2 g2⟩
  have fin:∀(D:Addr) (H':Hp) (ys:List V),H3 D=none→a0j H3 H'→H' D=some (.lst ys)→ys.length=ws.length→(∀(i:Nat) v,ys[i]?=some v→RwD pl D v H')→Q (.ref D) H':=fun D H' ys hDn s hD hl' hv=>by
   obtain ⟨rs,hA,hO⟩:=a7q hv
   exact q D ys rs H' (s03.trans s) (none_of s03 hDn) hD hA (by rw [←hA.len,hl'];exact hcl) (fun r hr=>by have:=hO r hr;rw [hpe,hc0] at this;exact this)
  try simp only [a1i]
  refine a2k (fun c1=>?_) (fun c1=>?_)
  ·refine ⟨⟨_,SqL.of h3⟩,?_⟩
   refine b0A (a3p (xs:=ws)) (Qh (show ws.length≤1000 by omega) (by decide)) [some (V.ref Pa),some (V.ref La)] rfl (fun D i v H'=>RwD pl D v H') mono (fun H' s=>SqL.of (s _ _ h3)) (fun D i H' R hi hDn s hD hR=>?_) fin
   obtain ⟨c,ec⟩:=hc ws[i] (Xi hi)
   rw [Qe hi,Xs,ec]
   obtain ⟨ys,hD⟩:=hD
   try simp only [a0K,a0i,a0k,Qa,Qb,a0u,Qg,a0e]
   refine ⟨c,Pa,La,pl,ls,rfl,s _ _ hP3,hp2,hp18,hpo,s _ _ hL3,hl12,hlo,fun p t r H'' s' hp ht ho g1 g2=>?_⟩
   exact hR _ _ s' ⟨p,t,r,rfl,fun z=>a0b hD hp z.symm,fun z=>a0b hD ht z.symm,ho,g1,g2⟩
  ·refine ⟨C,rfl,⟨_,SqL.of h3⟩,?_⟩
   refine b7f (xs:=ws) (Qh (show ws.length≤1000 by omega) (by decide)) [some (V.ref Pa),some (V.ref La),some (V.int (c2 % 4))] rfl (fun D i v H'=>RwD pl D v H') mono (SqL.of h3) (fun D i H' R hi hDn s hD hR=>?_) fin
   obtain ⟨c,ec⟩:=hc ws[i] (Xi hi)
   rw [ec]
   obtain ⟨ys,hD⟩:=hD
   try simp only [a0K,a0i,a0k,Qb,Qa,a0u,Qg,a0e,a2L]
   intro r0 hr0
   refine ⟨r0,(i:Int),c2 % 4,Pa,La,pl,ls,rfl,s _ _ hP3,hp2,hp18,hpo,s _ _ hL3,hl12,hlo,fun p t r H'' s' hp ht ho g1 g2=>?_⟩
   exact hR _ _ s' ⟨p,t,r,rfl,fun z=>a0b hD hp z.symm,fun z=>a0b hD ht z.symm,ho,g1,g2⟩
theorem b6G (T:Txt K mg t):a0W P w K mg base CX0 2 t.f_z0e t.fd_z0e ["self","q"] (b2C t fun rs ss T q=>.bl (decide ((wr rs T q).1="held"))):=by
 refine T.F_z0e.ok b5U (fun vs H Q E h=>?_) (fun cdv A outer s H vs Q E hr h=>?_)
 ·obtain ⟨x,z,rs,ss,T0,rfl,hA,hn,q⟩:=h;rfl
 ·obtain ⟨x,z,rs,ss,T0,rfl,hA,hn,q⟩:=h
  obtain ⟨_,k_HELD⟩:=T.k_HELD
  refine ⟨_,‹A4 (A8 (E8 (a1W hr.units) (B2 a0G (D0 0 T.cl_Answers T.me_Answers_word_and_rank (b0W T) T.b_z00 (A0 1 A1)) A3) (D3 (.str "held") k_HELD ⟨_,rfl⟩) (a0v _)))›,?_⟩
  rw [show start b7g [V.ref x,V.str z]=[some (V.ref x),some (V.str z)] from rfl]
  obtain ⟨dx,st,sk,cm,St,hx,_⟩:=id hA
  try simp only [a1o,tOp,a1G,a0k,Qa,a0i,Qb,a0u,Qg,tC,a0e]
  refine ⟨x,dx,_,rfl,hx,a3g _ _ _ (by decide+kernel) (by decide+kernel) (by decide+kernel),x,z,rs,ss,T0,rfl,hA,hn,fun p H1 s1 h1=>a2r (SqT.of h1) rfl ?_⟩
  try simp only [a2M]
  exact q H1 s1
theorem b6z (T:Txt K mg t):a0W P w K mg base CX0 2 t.f_z04 t.fd_z04 ["self","q"] (b2C t fun rs ss T q=>.bl (decide ((wr rs T q).1="refused"))):=by
 refine T.F_z04.ok b8D (fun vs H Q E h=>?_) (fun cdv A outer s H vs Q E hr h=>?_)
 ·obtain ⟨x,z,rs,ss,T0,rfl,hA,hn,q⟩:=h;rfl
 ·obtain ⟨x,z,rs,ss,T0,rfl,hA,hn,q⟩:=h
  obtain ⟨_,k_REFUSED⟩:=T.k_REFUSED
  refine ⟨_,‹A4 (A8 (E8 (a1W hr.units) (B2 a0G (D0 0 T.cl_Answers T.me_Answers_word_and_rank (b0W T) T.b_z00 (A0 1 A1)) A3) (D3 (.str "refused") k_REFUSED ⟨_,rfl⟩) (a0v _)))›,?_⟩
  rw [show start b7V [V.ref x,V.str z]=[some (V.ref x),some (V.str z)] from rfl]
  obtain ⟨dx,st,sk,cm,St,hx,_⟩:=id hA
  try simp only [a1o,tOp,a1G,a0k,Qa,a0i,Qb,a0u,Qg,tC,a0e]
  refine ⟨x,dx,_,rfl,hx,a3g _ _ _ (by decide+kernel) (by decide+kernel) (by decide+kernel),x,z,rs,ss,T0,rfl,hA,hn,fun p H1 s1 h1=>a2r (SqT.of h1) rfl ?_⟩
  try simp only [a2M]
  exact q H1 s1
theorem b7D (T:Txt K mg t):a0W P w K mg base CX0 3 t.f_z1c t.fd_z1c ["_law_answers","_law_q"] (b2C t fun rs ss T q=>.str (wr rs T q).1):=by
 refine T.F_z1c.ok b7P (fun vs H Q E h=>?_) (fun cdv A outer s H vs Q E hr h=>?_)
 ·obtain ⟨x,z,rs,ss,T0,rfl,hA,hn,q⟩:=h;rfl
 ·obtain ⟨x,z,rs,ss,T0,rfl,hA,hn,q⟩:=h
  refine ⟨_,‹A2 (B3 (C5 (D0 0 T.cl_Answers T.me_Answers_held (b6G T) T.b_z0e (A0 1 A1))) (A4 (A8 B0)) B5) (A2 (B3 (C5 (D0 0 T.cl_Answers T.me_Answers_refused (b6z T) T.b_z04 (A0 1 A1))) (A4 (A8 B0)) B5) (A4 (A8 B0)))›,?_⟩
  rw [show start b7Y [V.ref x,V.str z]=[some (V.ref x),some (V.str z)] from rfl]
  obtain ⟨dx,st,sk,cm,St,hx,_⟩:=id hA
  try simp only [a1u,a3D,tB,a1G,a0k,Qa,a0i,Qb,a0u,Qg,a1o,tC,a1F,a0e]
  refine ⟨x,dx,_,rfl,hx,a3g _ _ _ (by decide+kernel) (by decide+kernel) (by decide+kernel),x,z,rs,ss,T0,rfl,hA,hn,fun H1 s1=>⟨_,rfl,a2k (fun c=>?_) (fun c=>?_)⟩⟩
  ·have:Q (.str (wr rs T0 z).1) H1:=q H1 s1
   rw [of_decide_eq_true c] at this;exact this
  refine ⟨x,dx,_,rfl,s1 _ _ hx,a3g _ _ _ (by decide+kernel) (by decide+kernel) (by decide+kernel),x,z,rs,ss,T0,rfl,hA.same s1,hn,fun H2 s2=>⟨_,rfl,a2k (fun c2=>?_) (fun c2=>?_)⟩⟩
  ·have:Q (.str (wr rs T0 z).1) H2:=q H2 (s1.trans s2)
   rw [of_decide_eq_true c2] at this;exact this
  ·have:Q (.str (wr rs T0 z).1) H2:=q H2 (s1.trans s2)
   rw [((a8z rs T0 z).resolve_left fun w=>c (decide_eq_true w)).resolve_left fun w=>c2 (decide_eq_true w)] at this;exact this
theorem b1V (T:Txt K mg t):a0W P w K mg base CX0 10 t.f_d_law t.fd_d_law ["_law_script"] (b4h t.TB_z0u K):=by
 refine T.F_d_law.ok a0M (fun vs H Q E h=>?_) (fun cdv A outer s H vs Q E hr h=>?_)
 ·obtain ⟨a,ns,rfl,hS,hl,lt,q⟩:=h;rfl
 ·obtain ⟨a,ns,rfl,hS,hl,lt,q⟩:=h
  refine ⟨_,‹A2 (A6 1 a0M.nd (A7 (b7a T) T.g_z1p T.F_z1p.kp T.b_z1p .nil (A0 0 (A0 A3 A1)))) (A2 (A6 2 a0M.nd (A7 (b3u T) T.g_z1n T.F_z1n.kp T.b_z1n .nil (A0 (A7 (a2N T) T.g_z1b T.F_z1b.kp T.b_z1b .nil (A0 0 (A0 A3 A1))) A1))) (A2 (A6 3 a0M.nd (A7 (b7p T) T.g_z02 T.F_z02.kp T.b_z02 .nil (A0 0 A1))) (A2 (A6 4 a0M.nd (E7 T.mk_Ground (b6L T) T.g_Ground T.b_z0s (A0 (C0 (B4 (a0c a2s) a3U ["_law_row_here"] [none]) (B7 1) (A9 0 (show Xo (["_law_row_here"]:List Str) by decide+kernel)) D1 (A7 (b9c T) T.g_z1o T.F_z1o.kp T.b_z1o .nil (A0 0 A1))) (A0 3 A1)))) (A2 (A6 5 a0M.nd (E7 T.mk_Answers (b6W T) T.g_Answers T.b_z0c (A0 4 A1))) (A2 (A6 6 a0M.nd (A7 (a2N T) T.g_z1b T.F_z1b.kp T.b_z1b .nil (A0 0 (A0 A3 A1)))) (A2 (A6 7 a0M.nd (A7 (b9i T) T.g_z1l T.F_z1l.kp T.b_z1l .nil (A0 1 (A0 (C0 (B4 (a0c a2s) a3U ["_law_k","_law_pool_here","_law_cell"] [none,some 2,some 6]) (D8 (A0 (A5 a0p A3 (A5 a3c A3 (A5 a0r 6 A3))) A1)) (A9 0 (show Xo (["_law_k","_law_pool_here","_law_cell"]:List Str) by decide+kernel)) D1 (B2 (a2X (K:=K) rfl) 1 (A5 a0r (A7 (a5r T) T.g_z1s T.F_z1s.kp T.b_z1s .nil (A0 2 (A0 0 A1))) (B9 (b0Q (K:=K) rfl) T.z_len a1c (A0 1 A1))))) A1)))) (A2 (A6 8 a0M.nd C6) (A2 (A6 9 a0M.nd C6) (A2 (A6 10 a0M.nd C6) (A2 (B6 (B7 2) (A9 11 a0M.nd) (A2 (A6 12 a0M.nd (A7 (b7D T) T.g_z1c T.F_z1c.kp T.b_z1c .nil (A0 5 (A0 11 A1)))) (E1 (B3 (B1 (a4x hr.units) 12 B0 (a0v _)) (A4 (C2 10 11 (C3 (A0 12 (A0 (D0 5 T.cl_Answers T.me_Answers_rank (b6Z T) T.b_z0f (A0 11 A1)) A1))))) B5) (A4 (B3 (E5 (G0 (B1 (a4x hr.units) 12 B0 (a0v _)) (G1 (B1 a4k 11 7 (by with_unfolding_all rfl))))) (A4 (C2 9 11 12)) (A4 (B3 (B1 (a4x hr.units) 12 B0 (a0v _)) (A4 (C2 8 11 12)) B5))))))) (A2 (A6 13 a0M.nd (A7 (b0u T) T.g_z0o T.F_z0o.kp T.b_z0o .nil (A0 4 (A0 7 (A0 (C7 5 T.cl_Answers T.me_Answers_sures (b3v T) T.b_z0a) (A0 8 A1)))))) (E1 (B3 (E5 (F7 (B1 (a4x hr.units) (B9 (a2W rfl) T.z_sorted a1N (A0 13 A1)) (B9 (a2W rfl) T.z_sorted a1N (A0 9 A1)) (a0v _)) (F8 (B1 (b2O hr.units) (E9 (C0 (B4 (a0c a2s) a3U ["_law_q","_law_due","_law_found"] [none,some 9,some 13]) (D4 13) (A9 0 (show Xo (["_law_q","_law_due","_law_found"]:List Str) by decide+kernel)) (C8 (B1 (b9E hr.units (K:=K) rfl) (B2 (a2X (K:=K) rfl) (E2 2 0) A3) (E2 1 0) (a0v _))) 0)) (C4 A1) (a0v _))))) (A4 (A8 B8)) B5) (A4 (A8 (E8 (b4U hr.units) (A7 (b0u T) T.g_z0o T.F_z0o.kp T.b_z0o .nil (A0 4 (A0 2 (A0 (C7 5 T.cl_Answers T.me_Answers_sures (b3v T) T.b_z0a) (A0 C6 A1))))) 10 (a0v _))))))))))))))))›,?_⟩
  rw [show start a3U [V.ref a]=[some (V.ref a),none,none,none,none,none,none,none,none,none,none,none,none,none] from rfl]
  try simp only [a1u,a2b,a0K,a0i,a0k,Qa,tC,a0u,Qg,a0l,Qi,Qj,b4E,Qb,a1T,a0Q,a2E,a0e,a0C,a4V,tOp]
  refine ⟨a,ns,4,rfl,hS,hl,⟨by decide,by decide⟩,fun R0 xs rs H1 s1 hBn hB1 hA1 hrl hO2=>?_⟩
  have hO:∀r∈rs,a2j r:=fun r hr=>(hO2 r hr).1
  have hrl':rs.length≤59:=by have:rs.length+(4:Int).toNat≤63:=hrl;simp at this;omega
  have hS1:SqL K H1 a (ns.map V.int):=s1.seq hS
  try simp only [a1i]
  refine ⟨a,ns,0,rfl,hS1,hl,by decide,by decide,fun c0 hc0=>?_⟩
  refine ⟨c0,rfl,fun Pa po H2 s2 hPn hP hp2 hp18 hpo hpn hop hpe=>?_⟩
  have hIn:∀r∈rs,b5R po r:=fun r hr=>by rw [hpe,hc0];exact (hO2 r hr).2
  have hpopp:∀x∈po,a0y x∈po:=fun x hx=>by rw [hpe] at hx ⊢;exact b2v hx
  have hsts:∀x∈sts rs,x∈po:=fun x hx=>by
   obtain ⟨r,hr,q,hq,z⟩:=a2u.mp hx
   have hq':q∈po:=by
    rcases Qw.mp hq with w | w
    ·rw [w];exact (hIn r hr).1
    ·exact (hIn r hr).2 q w
   rcases z with z | z
   ·rw [z];exact hq'
   ·rw [z];exact hpopp q hq'
  have hqs:∀q∈po,q.length≤100∧a0y (a0y q)=q:=fun q hq=>⟨by have:=(hpo q hq).2;omega,hop q hq⟩
  clear hpe hc0
  have hS2:SqL K H2 a (ns.map V.int):=s2.seq hS1
  try simp only [a1i]
  refine ⟨a,ns,rfl,hS2,hl,fun Pr ps pl H3 s3 hPrn hPr3 hPs3 hprl hpro=>?_⟩
  have s13:=s2.trans s3
  have hB3:=s13 _ _ hB1
  have hA3:=hA1.same s13
  try simp only []
  refine ⟨⟨_,SqL.of hB3⟩,?_⟩
  refine b0A (a3p (xs:=xs)) (Qh (show xs.length≤1000 by rw [hA1.len];omega) (by decide)) [] rfl (fun D i v H'=>∃hi:i < rs.length,RuD t D v rs[i] H') ?_ (fun H' s=>SqL.of (s _ _ hB3)) (fun D i H' R hi hDn s hD hR=>?_) (fun Ru H4 ys hRn s4 hR4 hyl hv=>?_)
  ·rintro D i v Ha Hb up ⟨hi,p,dx,t0,e,n1,n2,g1,g2⟩
   exact ⟨hi,p,dx,t0,e,n1,n2,up _ _ n1 g1,up _ _ n2 g2⟩
  ·have hi':i < rs.length:=by rw [←hA1.len];exact hi
   obtain ⟨x,ex,p,t1,rfl,g1,g2⟩:=hA3.get i rs[i] (Qe hi')
   rw [ex,Xs]
   obtain ⟨zs,hD⟩:=hD
   try simp only [a0K,a0i,a0k,Qa,a0u,Qg,a0e]
   refine ⟨p,t1,rs[i],rfl,hO _ (Xi hi'),s _ _ g1,s _ _ g2,fun x H' s' hx=>?_⟩
   obtain ⟨dx,t0,f1,f2⟩:=hx
   have hD':=s' _ _ hD
   exact hR _ _ s' ⟨hi',x,dx,t0,rfl,a0B f1 hD' (by intro z;cases z),a0B f2 hD' (by intro z;cases z),f1,f2⟩
  have hU4:=b8g (hyl.trans hA1.len) hv
  clear hv
  refine b4n hR4 hU4 hO (by omega) (s4 _ _ hPr3) (a1t.same s4 hPs3) hprl fun g H5 s5 ng hG5=>?_
  have s35:=s4.trans s5
  have s15:=s13.trans s35
  have sx5:Sx K t H5 a ns R0 xs rs Pa po Pr ps pl g:=⟨(s3.trans s35).seq hS2,s35 _ _ hB3,hA3.same s35,(s3.trans s35) _ _ hP,s35 _ _ hPr3,a1t.same s35 hPs3,hG5⟩
  have lt5:=lt.mono (s1.trans s15)
  clear hS1 hS2 hP hPs3 hPr3 hB3 hA3 hB1 hA1 hR4 hU4 hG5 hS lt
  try skip
  intro x dx hxn hdxn ndx
  obtain ⟨H6,e6,s6,h6x⟩:∃H6,upd (upd H5 dx (.own x)) x (.ins t.C_Answers dx [])=H6∧a0j H5 H6∧H6 x=some (.ins t.C_Answers dx []):=⟨_,rfl,fun c o e=>by rw [a0a (a0b e hxn),a0a (a0b e hdxn)];exact e,a0d⟩
  rw [e6]
  refine ⟨x,dx,g,rs,pl,po,H5,rfl,h6x,s6,hxn,sx5.G,hO,by omega,hsts,hp18,hqs,lt5,fun H7 ss T0 k7 lt7 hdue hAT hAn=>⟨rfl,?_⟩⟩
  have sx7:=sx5.on lt5 k7
  clear sx5 lt5 lt7 k7 h6x
  obtain ⟨hTn,n0,W,hW,hf0,hIT0⟩:=hAT
  have hssl:=a9X hdue
  have hss:∀z∈ss,z∈sts rs:=fun z hz=>b4b hdue z hz
  have hssk:∀z∈ss,Yt z=true:=fun z hz=>(b9w hO hdue z hz).1
  try skip
  refine ⟨a,ns,3,rfl,sx7.S,hl,by decide,by decide,fun c1 _=>?_⟩
  have m2:=a0Z (i:=c1) (j:=2) (by decide)
  try simp only [a0L,b2Q,a0J]
  refine ⟨by decide,.inl (by decide),_,rfl,by omega,by omega,?_⟩
  refine a3R a2t (Qh (show (1+2 * (c1 % 2)).toNat≤1000 by omega) (by decide)) [some (V.ref Pa),some (V.int c1)] rfl (fun i v=>∃z,v=V.str z∧z∈po) (fun _ _=>trivial) (fun i H' R hi s hR=>?_) (fun Ls H8 ys hLn s8 hL8 hl8 hv8=>?_)
  ·try simp only [tOp,a0k,Qb,Qa,a0K,a0i,a0u,Qg,tCB,a0e,a2L]
   intro r hr0
   refine a1A (SqL.of (s _ _ sx7.P)) ?_
   obtain ⟨z,e,o⟩:=a2o (P:=(·∈po)) hp2 (fun _ h=>h) r
   try simp only [a0L]
   rw [Qd]
   exact ⟨by omega,a0w (SqL.of (s _ _ sx7.P)) e (hR _ _ (a0j.refl _) ⟨z,rfl,o⟩)⟩
  obtain ⟨sm0,rfl,hsm0⟩:=a4L hv8
  rw [Qd] at hl8
  have sx8:=sx7.same s8
  try skip
  refine ⟨R0,Ls,xs,rs,sm0,po,rfl,sx8.B,sx8.A,by omega,fun r hr=>⟨hO r hr,hIn r hr⟩,hL8,hsm0,by omega,hp18,fun x hx=>⟨hpopp x hx,(hqs x hx).1⟩,fun So L H9 s9 hSon hSo hLn hLp hLo hLh=>?_⟩
  have s79:=s8.trans s9
  have sx9:=sx7.same s79
  have hAn9:=hAn.same s79
  have hLl:L.length≤18:=Qh (a1h hLn hLp) hp18
  obtain ⟨dxA,stA,skA,cmA,StA,hxA,_⟩:=id hAn9
  clear sx7 sx8 hAn hv8
  try simp only []
  intro Kn hKn Du hDu Ra hRa
  obtain ⟨H10,e10,s10,h10⟩:=a1p hKn (.dK [])
  rw [e10] at hDu hRa ⊢
  obtain ⟨H11,e11,s11,h11⟩:=a1p hDu (.dK [])
  rw [e11] at hRa ⊢
  obtain ⟨H12,e12,s12,h12⟩:=a1p hRa (.dK []);rw [e12]
  have nDK:Du≠Kn:=fun z=>by rw [z,h10] at hDu;cases hDu
  have nRK:Ra≠Kn:=fun z=>by rw [z,s11 _ _ h10] at hRa;cases hRa
  have nRD:Ra≠Du:=fun z=>by rw [z,h11] at hRa;cases hRa
  have hDu9:H9 Du=none:=none_of s10 hDu
  have hRa9:H9 Ra=none:=none_of (s10.trans s11) hRa
  have s912:=(s10.trans s11).trans s12
  refine ⟨⟨_,SqL.of (s912 _ _ sx9.P)⟩,?_⟩
  refine a2w (K:=K) (a:=Pa) (xs:=po.map V.str) (fun i σ H'=>∃(x11 x12:Option V),σ=[some (V.ref a),some (V.ref R0),some (V.ref Pa),some (V.ref Pr),some (V.ref g),some (V.ref x),some (V.int c1),some (V.ref So),some (V.ref Kn),some (V.ref Du),some (V.ref Ra),x11,x12,none]∧a0j H9 H'∧H' Kn=some (.dK (wv (knF L ((po.take i).filterMap (rk rs T0)))))∧H' Du=some (.dK (wv (duF L ((po.take i).filterMap (rk rs T0)))))∧TAt H' Ra ((po.take i).filterMap (rk rs T0)))
   ⟨_,_,rfl,s912,(s11.trans s12) _ _ h10,s12 _ _ h11,⟨[],rfl,h12,fun e he=>by cases he⟩⟩ (fun i σ H' _ ⟨_,_,_,s,_⟩=>SqL.of (s _ _ sx9.P)) ?_ ?_
  ·rintro i v σ H13 hi ⟨x11,x12,rfl,s13,hK13,hD13,hR13⟩
   have hil:i < po.length:=by simpa using (Qr.mp hi).1
   have ev:v=V.str po[i]:=by
    rw [Qo,Qe hil] at hi
    exact (Option.some.inj hi).symm
   subst ev
   clear hi
   have hsub:=a5M rs T0 (po.take i)
   have hq:po[i]∉((po.take i).filterMap (rk rs T0)).map (·.1):=fun z=>by
    obtain ⟨j,hj,e⟩:=Jm (hsub.subset z)
    rw [Yb] at hj
    rw [Vd] at e
    have:=(Zt hpn).mp e
    omega
   have hRl:((po.take i).filterMap (rk rs T0)).length≤18:=by
    have:=hsub.length_le
    rw [Qd,Yb] at this;omega
   have esn:(po.take (i+1)).filterMap (rk rs T0)=(po.take i).filterMap (rk rs T0)++(rk rs T0 po[i]).toList:=by
    rw [Xb hil,Wj,Yy]
    cases rk rs T0 po[i]<;>rfl
   rw [esn]
   clear esn hsub
   generalize (po.take i).filterMap (rk rs T0)=R at hK13 hD13 hR13 hq hRl
   generalize po[i]=q0 at hq
   have hqk:∀p:Tr→Bool,q0∉(((R.filter p).map fun e=>(e.1,e.2.1)).map (·.1)):=fun p z=>hq ((a4M p).subset z)
   have hfl:∀p:Tr→Bool,((R.filter p).map fun e=>(e.1,e.2.1)).length≤18:=fun p=>by
    rw [Qd];exact Qh (Xa _ _) hRl
   try simp only [a0l,a1u,a2b,a0K,a0i,a0k,Qi,Qj,Qb,Qa,a0u,Qg,a0e]
   refine ⟨x,q0,rs,ss,T0,rfl,hAn9.same s13,hTn,fun H14 s14=>?_⟩
   have s914:=s13.trans s14
   try simp only []
   refine ⟨fun σ' H'=>σ'=[some (V.ref a),some (V.ref R0),some (V.ref Pa),some (V.ref Pr),some (V.ref g),some (V.ref x),some (V.int c1),some (V.ref So),some (V.ref Kn),some (V.ref Du),some (V.ref Ra),some (V.str q0),some (V.str (wr rs T0 q0).1),none]∧a0j H9 H'∧H' Kn=some (.dK (wv (knF L R)))∧H' Du=some (.dK (wv (duF L R)))∧TAt H' Ra (R++(rk rs T0 q0).toList),?_,?_⟩
   ·try simp only [a3D,a1q,tOp,a0k,Qb,Qa,tC,a3b,a8b,a0i,a1G,a0u,Qg,a0e,a1F,a4F,a2i,Yj,decide_eq_false_iff_not]
    refine a2k (fun hw=>?_) (fun hw=>?_)
    ·obtain ⟨b,ewb,er⟩:=b8h hw
     refine ⟨x,dxA,_,rfl,s914 _ _ hxA,a3g _ _ _ (by decide+kernel) (by decide+kernel) (by decide+kernel),x,q0,rs,ss,T0,rfl,hAn9.same s914,hTn,fun H15 s15=>⟨by simp only [Qs,Xk];decide,fun p hp=>?_⟩⟩
     obtain ⟨H16,e16,s16,h16⟩:=a1p hp (.tup [V.str (wr rs T0 q0).1,V.int ((wr rs T0 q0).2:Nat)]);rw [e16]
     have s1416:=s15.trans s16
     obtain ⟨kv,hput,hT2⟩:=(hR13.same (s14.trans s15)).put (q:=q0) (b:=b) (n:=(wr rs T0 q0).2) s16 (by rw [←ewb];exact h16) hq (by omega)
     refine ⟨Ra,_,rfl,hput,(by trivial),fun c o e=>?_,?_,?_,by rw [er];exact hT2⟩
     ·rw [a0a (a0b e hRa9)];exact s1416 _ _ (s914 _ _ e)
     ·rw [a0a nRK.symm];exact s1416 _ _ (s14 _ _ hK13)
     ·rw [a0a nRD.symm];exact s1416 _ _ (s14 _ _ hD13)
    ·have er:rk rs T0 q0=none:=by unfold rk;rw [if_pos (Classical.not_not.mp hw)]
     exact ⟨(by trivial),s914,s14 _ _ hK13,s14 _ _ hD13,by rw [er,Uv,Qg];exact hR13.same s14⟩
   ·rintro σ' H15 ⟨rfl,s15,hK15,hD15,hR15⟩
    try simp only [a3D,b9N,a1q,tOp,a0k,Qb,Qa,tC,a3b,a0e,a1F,a4F,a2i,Yj,decide_eq_false_iff_not,b3o]
    by_cases hw:(wr rs T0 q0).1=""
    ·have er:rk rs T0 q0=none:=by unfold rk;rw [if_pos hw]
     rw [if_neg (fun z=>z hw),if_neg (fun z=>z hw),er,Uv,Qg]
     rw [er,Uv,Qg] at hR15
     exact ⟨_,_,rfl,s15,hK15,hD15,hR15⟩
    obtain ⟨b,ewb,er⟩:=b8h hw
    rw [if_pos hw]
    rw [er,show (some (q0,b,(wr rs T0 q0).2)).toList=[(q0,b,(wr rs T0 q0).2)] from rfl] at hR15 ⊢
    rw [b1A,b1X]
    refine a6G (SqL.of (s15 _ _ hSo)) ⟨_,rfl,a2k (fun c=>?_) (fun c=>?_)⟩
    ·have hL:q0∈L:=of_decide_eq_true c
     rw [if_pos hL,if_pos hL,Qg,ewb]
     refine ⟨Du,_,rfl,b9R hD15 (Qh (hfl _) (by decide)) (hqk _) b,_,_,rfl,fun c o e=>?_,?_,a0d,hR15.keep fun c o e hb=>?_⟩
     ·rw [a0a (a0b e hDu9)];exact s15 _ _ e
     ·rw [a0a nDK.symm];exact hK15
     ·rcases hb with rfl | ⟨xs,rfl⟩
      ·rw [a0a nRD];exact e
      ·rw [a0a (a0B e hD15 (by intro z;cases z))];exact e
    ·have hL:q0∉L:=fun z=>c (decide_eq_true z)
     rw [if_pos hw,if_neg hL,if_neg hL,Qg,ewb]
     refine ⟨Kn,_,rfl,b9R hK15 (Qh (hfl _) (by decide)) (hqk _) b,_,_,rfl,fun c o e=>?_,a0d,?_,hR15.keep fun c o e hb=>?_⟩
     ·rw [a0a (a0b e hKn)];exact s15 _ _ e
     ·rw [a0a nDK];exact hD15
     ·rcases hb with rfl | ⟨xs,rfl⟩
      ·rw [a0a nRK];exact e
      ·rw [a0a (a0B e hK15 (by intro z;cases z))];exact e
  rintro σ H13 ⟨x11,x12,rfl,s13,hK13,hD13,hR13⟩
  rw [Qd,Xz] at hK13 hD13 hR13
  have hRm:=b5T hTn hW hf0 hIT0 hsts hop hss
  have hRn:=hpn.sublist (a5M rs T0 po)
  have hRl:(po.filterMap (rk rs T0)).length≤18:=by
   have:=(a5M rs T0 po).length_le
   rw [Qd] at this;omega
  have hRp:∀z∈(po.filterMap (rk rs T0)).map (·.1),z∈po:=fun z hz=>(a5M rs T0 po).subset hz
  have hfF:=b2J hW hsts hop hss hf0
  generalize po.filterMap (rk rs T0)=R at hK13 hD13 hR13 hRm hRn hRl hRp
  have hfl:∀p:Tr→Bool,((R.filter p).map fun e=>(e.1,e.2.1)).length≤18:=fun p=>by
   rw [Qd];exact Qh (Xa _ _) hRl
  have hknd:((knF L R).map (·.1)).Nodup:=hRn.sublist (a4M _)
  have hdund:((duF L R).map (·.1)).Nodup:=hRn.sublist (a4M _)
  have hknl:(knF L R).length≤18:=hfl _
  have hdul:(duF L R).length≤18:=hfl _
  try simp only [a1u,a2b,a0K,a0i,a0k,Qb,Qa,a1G,a0u,Qg,a0l,Qi,Qj,a0e]
  refine ⟨x,dxA,_,rfl,s13 _ _ hxA,a3g _ _ _ (by decide+kernel) (by decide+kernel) (by decide+kernel),x,rs,ss,T0,rfl,hAn9.same s13,fun Su H14 s14 hSun hSu=>?_⟩
  have s914:=s13.trans s14
  refine ⟨g,V.ref So,V.ref Su,Kn,rs,pl,L,ss,knF L R,rfl,sx9.G.same s914,hO,by omega,.inl ⟨So,rfl,s914 _ _ hSo⟩,.inl ⟨Su,rfl,hSu⟩,s14 _ _ hK13,hknd,by omega,by omega,by omega,fun q hq=>hqs q (hLp q hq),fun Fd T1 n1 H15 s15 hFdn hTA hT1n hfr hIT1=>?_⟩
  rw [a2m hLn] at hfr hIT1
  have hAl:∀q b,(∃k,(q,b,k)∈T1)↔(q,b)∈duF L R:=fun q b=>by
   rw [b5G,show (∃k,(q,b,k)∈T1)↔∃k,(q,b,k)∈(rds rs pl ss L (ups (knF L R)) (a0P (knF L R)) n1).T from exists_congr fun k=>hIT1 _,b9Y hop hLp hLo hLh hfF (fun q b=>by rw [b5C];exact and_congr Iff.rfl (exists_congr fun k=>hRm _)) hfr q b]
   exact and_congr Iff.rfl (exists_congr fun k=>(hRm _).symm)
  have hkk:∀q,q∈T1.map (·.1)↔q∈(duF L R).map (·.1):=fun q=>by
   constructor
   ·intro z;obtain ⟨⟨q',b,k⟩,h,rfl⟩:=Qf.mp z;exact Qf.mpr ⟨_,(hAl _ _).mp ⟨k,h⟩,rfl⟩
   ·intro z;obtain ⟨⟨q',b⟩,h,rfl⟩:=Qf.mp z
    obtain ⟨k,h'⟩:=(hAl _ _).mpr h
    exact Qf.mpr ⟨_,h',rfl⟩
  have hper:=(List.perm_ext_iff_of_nodup hT1n hdund).mpr hkk
  have hT1l:T1.length≤18:=by have:=hper.length_eq;rw [Qd,Qd] at this;omega
  have s1315:=s14.trans s15
  have s915:=s13.trans s1315
  have hD15:=s1315 _ _ hD13
  obtain ⟨A,hA2,eA,hAt⟩:=id hTA
  have nFD:Fd≠Du:=fun z=>by rw [z,s14 _ _ hD13] at hFdn;cases hFdn
  have ekF:(A.map fun e=>((Sum.inr e.2.1:Key),V.ref e.1)).map (·.1)=(T1.map (·.1)).map (Sum.inr:Str→Key):=by rw [←hA2,Qy,Qy,Qy];rfl
  try skip
  refine ⟨fun σ' H'=>σ'=[some (V.ref a),some (V.ref R0),some (V.ref Pa),some (V.ref Pr),some (V.ref g),some (V.ref x),some (V.int c1),some (V.ref So),some (V.ref Kn),some (V.ref Du),some (V.ref Ra),x11,x12,some (V.ref Fd)]∧a0j H15 H',?_,?_⟩
  ·try simp only [a3D,tOr,a1q,tOp,tCB,a0i,a0k,Qb,Qa,a0u,a1o,tC,a1F,if_true,a5Z,a0e]
   refine .inr (.inl ⟨Fd,_,_,rfl,.inl eA,ekF,by rw [Qd];omega,fun l1 sa hl1 hp1 hs1=>?_⟩)
   obtain ⟨H16,e16,s16,h16⟩:=a1p hl1 (.lst (sa.map V.str));rw [e16]
   refine .inr (.inl ⟨Du,_,_,rfl,.inl (s16 _ _ hD15),a2I _,by rw [Qd];omega,fun l2 sb hl2 hp2 hs2=>?_⟩)
   obtain ⟨H17,e17,s17,h17⟩:=a1p hl2 (.lst (sb.map V.str));rw [e17]
   obtain rfl:sa=sb:=a3B ((hp1.trans hper).trans hp2.symm) (a5A hs1) (a5A hs2)
   have hsk:∀z∈sa,Yt z=true:=fun z hz=>(hpo z (hRp z ((a4M _).subset (hp2.mem_iff.mp hz)))).1
   refine b2g (SqL.of (s17 _ _ h16)) (SqL.of h17) hsk hsk ?_
   have s1517:=s16.trans s17
   try simp only [decide_true,a2i,Yj,b8u]
   refine a2v (s1517 _ _ eA) ekF (by rw [Qd];omega) (a0E rfl) [some (V.ref Du),some (V.ref Fd)] rfl (fun _=>false) (fun q0 H0 H' R' hq off hR s hR'=>?_) fun C H18 hCn s18 hC=>?_
   ·rw [←hA2,Qy] at hq
    obtain ⟨e,he,rfl⟩:=Qf.mp hq
    have hv:=a6r (by rw [←hA2,Qy] at hT1n;exact hT1n) he
    have hdu:=(hAl e.2.1 e.2.2.1).mp ⟨e.2.2.2,by rw [←hA2];exact Qf.mpr ⟨e,he,rfl⟩⟩
    have hdv:=a7y hdund hdu
    have ht:=s _ _ (off.keep _ _ (s1517 _ _ (hAt e he)) fun z=>by have:=s1517 _ _ (hAt e he);cases z;rw [s1517 _ _ eA] at this;cases this)
    have hd':=s _ _ (off.keep _ _ (s1517 _ _ hD15) fun z=>nFD (by cases z;rfl))
    try simp only [a1q,tOp,a8I,a0k,Qb,Qa,tC,a0e]
    refine ⟨Fd,_,rfl,.inl ⟨_,(Sum.inr e.2.1:Key),hR,rfl,hv.symm⟩,a2r (SqT.of ht) rfl ⟨Du,_,rfl,.inl ⟨_,(Sum.inr e.2.1:Key),.inl hd',rfl,hdv.symm⟩,?_⟩⟩
    try simp only [a4F,decide_true,a2i]
    have:=hR' _ (a0j.refl _)
    exact this
   rw [show (T1.map (·.1)).filter (fun _=>false)=[] from Wf.mpr fun _ _ z=>by cases z] at hC
   refine ⟨Xm _,fun p hp=>?_⟩
   obtain ⟨H19,e19,s19,h19⟩:=a1p hp (.lst []);rw [e19]
   refine ⟨C,p,[],rfl,rfl,SqL.of (s19 _ _ hC),SqL.of h19,_,rfl,?_⟩
   rw [if_neg (by simp)]
   exact ⟨(by trivial),s1517.trans (s18.trans s19)⟩
  rintro σ' H16 ⟨rfl,s16⟩
  have s1316:=s1315.trans s16
  have s916:=s13.trans s1316
  try simp only [a1o,tOp,a0K,a0i,a0k,Qb,Qa,a1G,a0u,Qg,a1T,a0e]
  refine ⟨x,dxA,_,rfl,s916 _ _ hxA,a3g _ _ _ (by decide+kernel) (by decide+kernel) (by decide+kernel),x,rs,ss,T0,rfl,hAn9.same s916,fun Su2 H17 s17 _ hSu2 kd hkd=>?_⟩
  obtain ⟨H18,e18,s18,h18⟩:=a1p hkd (.dK []);rw [e18]
  have s1618:=s17.trans s18
  have s918:=s916.trans s1618
  refine ⟨g,V.ref Pa,V.ref Su2,kd,rs,pl,po,ss,[],rfl,sx9.G.same s918,hO,by omega,.inl ⟨Pa,rfl,s918 _ _ sx9.P⟩,.inl ⟨Su2,rfl,s18 _ _ hSu2⟩,h18,Zj,by omega,by omega,by decide,hqs,fun F2 T2 n2 H19 s19 hF2n hTA2 hT2n hfr2 hIT2=>?_⟩
  rw [a2m hpn] at hfr2 hIT2
  have hE:=b3T (W:=po) (W':=po) (fun _=>Iff.rfl) hop hfr2 hfF hIT2 (fun e=>hRm e)
  obtain ⟨kF,kD,eF,eD,hdat⟩:=b4l (K:=K) hTA2 (hR13.same (s1316.trans (s1618.trans s19))) hT2n hRn hE
  exact ⟨F2,Ra,kF,kD,rfl,rfl,eF,eD,hdat,q _⟩
end
end K46
open PySem PySem.W PyProof.Rows
namespace K46
open PySem PySem.W L2
noncomputable section
abbrev kE (P:Params) (x:String) (t:Nat) (v:Value):DictEntry:=⟨Xx P x,.str x t,v⟩
abbrev kC (n q:String) (s:Stmt):Obj:=⟨.none,none,(.func ⟨n,q,a1x s,.stmts (a1d s),a0c s,0,[],.none,.none,.none,.none,none,.none,.none,0⟩),#[]⟩
abbrev kD1 (n q:String) (t l a r u:Nat):Obj:=⟨.type "code",none,.fields #[.str n t,.str q (t+1),.str "/claim/cut.py" (t+2),.int l 0,.int a 0,.int 0 0,.int 0 0,.int 3 0,.ref r,.bool true,.int 181 0,.ref (r+1),.none,.ref (r+2),.ref (r+3),.ref (r+4),.int u 0,.int l 0,.str "/claim/cut.py" (u+1)],#[]⟩
abbrev kD2 (n q:String) (t l a r u:Nat):Obj:=⟨.type "code",none,.fields #[.str n t,.str q (t+1),.str "/claim/cut.py" (t+2),.int l 0,.int a 0,.int 0 0,.int 0 0,.int 3 0,.ref r,.bool true,.int 181 0,.ref (r+1),.none,.none,.none,.ref (r+2),.int u 0,.int l 0,.str "/claim/cut.py" (u+1)],#[]⟩
abbrev kG (n q:String) (s:Stmt) (m:Value) (c:Nat):FuncData:=Yr n q (a1x s) (a1d s) (a0c s) .none .none .none m none (.ref c) .none
abbrev kF (n q:String) (s:Stmt) (m:Value) (c:Nat):Obj:=⟨.type "function",none,.func (kG n q s m c),#[]⟩
abbrev kTs:Nat→List String→List Value
 | _,[]=>[]
 | t,x::l=>.str x t::kTs (t+1) l
abbrev kT (t:Nat) (l:List String):Obj:=⟨.type "tuple",none,.seq ⟨kTs t l⟩ 0,#[]⟩
abbrev kBs (f:String→Value) (P:Params):Nat→List String→List DictEntry
 | _,[]=>[]
 | t,x::l=>kE P x t (f x)::kBs f P (t+1) l
abbrev kLs:List (Nat×Nat×Nat)→List Value
 | []=>[]
 | (a,b,c)::l=>.int a 0::.int b 0::.ref c::kLs l
abbrev kL (l:List (Nat×Nat×Nat)):Obj:=⟨.none,none,.fields ⟨kLs l⟩,#[]⟩
abbrev kQ (l:List DictEntry) (n:Nat):Obj:=⟨.type "dict",none,.dict ⟨l⟩ n,#[]⟩
def kU:Obj:=⟨.type "tuple",none,.seq #[] 0,#[]⟩
def kN:Obj:=⟨.none,none,.fields #[],#[]⟩
abbrev m0:Value:=.str "__main__" 164
abbrev m1:Value:=.str "mostwise.among" 194
abbrev m2:Value:=.str "mostwise.words" 217
abbrev m3:Value:=.str "mostwise.leaning" 226
abbrev m4:Value:=.str "mostwise.sure" 238
abbrev m5:Value:=.str "mostwise.mostly" 254
abbrev m6:Value:=.str "mostwise.rules" 401
abbrev m7:Value:=.str "mostwise.ground" 652
abbrev m8:Value:=.str "law_mostwise_k46_whole_leaners_alone" 744
def o0 (P:Params):Obj:=kQ ([kE P "__name__" 1 (.str "builtins" 160),kE P "__doc__" 2 (.builtin "builtins.__doc__:str#opaque"),kE P "__package__" 3 (.builtin "builtins.__package__:str#opaque"),kE P "__loader__" 4 (.builtin "builtins.__loader__:shared#opaque"),kE P "__spec__" 5 (.builtin "builtins.__spec__#opaque")]++kBs .builtin P 6 ["__build_class__","__import__","abs","all","any","ascii","bin","breakpoint","callable","chr","compile","delattr","dir","divmod","eval","exec","format","getattr","globals","hasattr","hash","hex","id","input","isinstance","issubclass","iter","aiter","len","locals","max","min","next","anext","oct","ord","pow","print","repr","round","setattr","sorted","sum","vars"]++[kE P "None" 50 .none,kE P "Ellipsis" 51 .ellipsis,kE P "NotImplemented" 52 .notImplemented,kE P "False" 53 (.bool false),kE P "True" 54 (.bool true)]++kBs .type P 55 ["bool","memoryview","bytearray","bytes","classmethod","complex","dict","enumerate","filter","float","frozenset","property","int","list","map","object","range","reversed","set","slice","staticmethod","str","super","tuple","type","zip"]++[kE P "__debug__" 81 (.bool true)]++kBs .type P 82 ["BaseException","BaseExceptionGroup","Exception","GeneratorExit","KeyboardInterrupt","SystemExit","ArithmeticError","AssertionError","AttributeError","BufferError","EOFError","ImportError","LookupError","MemoryError","NameError","OSError","ReferenceError","RuntimeError","StopAsyncIteration","StopIteration","SyntaxError","SystemError","TypeError","ValueError","Warning","FloatingPointError","OverflowError","ZeroDivisionError","BytesWarning","DeprecationWarning","EncodingWarning","FutureWarning","ImportWarning","PendingDeprecationWarning","ResourceWarning","RuntimeWarning","SyntaxWarning","UnicodeWarning","UserWarning","BlockingIOError","ChildProcessError","ConnectionError","FileExistsError","FileNotFoundError","InterruptedError","IsADirectoryError","NotADirectoryError","PermissionError","ProcessLookupError","TimeoutError"]++kBs .type P 132 ["IndentationError","_IncompleteInputError","IndexError","KeyError","ModuleNotFoundError","NotImplementedError","PythonFinalizationError","RecursionError","UnboundLocalError","UnicodeError","BrokenPipeError","ConnectionAbortedError","ConnectionRefusedError","ConnectionResetError","TabError","UnicodeDecodeError","UnicodeEncodeError","UnicodeTranslateError","ExceptionGroup"]++[kE P "EnvironmentError" 151 (.type "OSError"),kE P "IOError" 152 (.type "OSError"),kE P "open" 153 (.builtin "open"),kE P "quit" 154 (.builtin "builtins.quit#opaque"),kE P "exit" 155 (.builtin "builtins.exit#opaque"),kE P "copyright" 156 (.builtin "builtins.copyright#opaque"),kE P "credits" 157 (.builtin "builtins.credits#opaque"),kE P "license" 158 (.builtin "builtins.license#opaque"),kE P "help" 159 (.builtin "builtins.help#opaque")]) 159
def o1 (P:Params):Obj:=kQ [kE P "builtins" 162 (.ref 4),kE P "__main__" 163 (.ref 5)] 2
def o2:Obj:=⟨.none,none,(.dict #[] 0),#[]⟩
def o3 (P:Params):Obj:=kQ [kE P "__name__" 165 (.str "law_mostwise_k46_whole_leaners_alone" 744),kE P "__doc__" 166 .none,kE P "__package__" 167 .none,kE P "__loader__" 168 (.builtin "__main__.__loader__#opaque"),kE P "__spec__" 169 .none,kE P "__annotations__" 170 (.ref 6),kE P "__builtins__" 171 (.ref 4),kE P "__file__" 173 (.str "/claim/cut.py" 172),kE P "__cached__" 174 .none,kE P "_wall" 193 (.ref 21),kE P "keyed" 204 (.ref 28),kE P "all_among" 210 (.ref 33),kE P "any_among" 216 (.ref 38),kE P "opposite" 225 (.ref 45),kE P "heads_by_premise" 237 (.ref 52),kE P "sure_rounds" 245 (.ref 58),kE P "sure_steps" 253 (.ref 65),kE P "HELD" 257 (.str "held" 256),kE P "REFUSED" 259 (.str "refused" 258),kE P "is_beaten" 265 (.ref 70),kE P "holds_by" 271 (.ref 75),kE P "refused_by" 277 (.ref 80),kE P "words_now" 290 (.ref 87),kE P "touched" 301 (.ref 94),kE P "most_rounds" 307 (.ref 99),kE P "Answers" 400 (.ref 172),kE P "Rule" 487 (.ref 242),kE P "Fact" 541 (.ref 291),kE P "Sure" 580 (.ref 324),kE P "Most" 612 (.ref 350),kE P "Block" 651 (.ref 383),kE P "Ground" 743 (.ref 449),kE P "_law_cell_at" 753 (.ref 460),kE P "_law_mix" 762 (.ref 467),kE P "_law_word" 776 (.ref 474),kE P "_law_pool" 782 (.ref 479),kE P "_law_row" 788 (.ref 484),kE P "_law_made" 799 (.ref 491),kE P "_law_labels" 805 (.ref 496),kE P "_law_row_by_digits" 822 (.ref 503),kE P "_law_rows" 828 (.ref 508),kE P "_law_pairs" 842 (.ref 515),kE P "_law_pairs_by_digits" 854 (.ref 522),kE P "_law_other" 861 (.ref 529),kE P "_law_above" 867 (.ref 534),kE P "_law_word_of" 875 (.ref 541),kE P "law" 881 (.ref 546)] 47
def o4:Obj:=⟨(.type "module"),(some 0),.plain,#[]⟩
def o5:Obj:=⟨(.type "module"),(some 3),.plain,#[]⟩
def o6:Obj:=⟨(.type "dict"),none,(.dict #[] 0),#[]⟩
def o9:Obj:=⟨(.type "code"),none,(.fields #[(.str "<module>" 176),(.str "<module>" 177),(.str "/claim/cut.py" 178),(.int (1) 0),(.int (0) 0),(.int (0) 0),(.int (0) 0),(.int (0) 0),(.ref 7),(.bool false),(.int (175) 0),(.ref 8),.none,.none,.none,.none,(.int (179) 0),(.int (1) 0),(.str "/claim/cut.py" 180)]),#[]⟩
def o10:Obj:=⟨(.type "frame"),none,.plain,#[(some (.ref 9)),(some (.ref 3)),(some (.ref 3)),none,(some (.str "__main__" 164)),none,(some (.ref 0))]⟩
def o12:Obj:=kL [(1,0,20),(5,0,27),(10,0,32),(12,0,37),(15,0,44),(18,0,51),(25,0,57),(39,0,64),(45,0,69),(47,0,74),(54,0,79),(61,0,86),(69,0,93),(76,0,98),(94,0,105),(127,0,182),(154,0,252),(170,0,299),(180,0,332),(187,0,358),(198,0,391),(235,0,459),(239,0,466),(243,0,473),(253,0,478),(261,0,483),(273,0,490),(282,0,495),(284,0,502),(298,0,507),(306,0,514),(316,0,521),(328,0,528),(332,0,533),(342,0,540),(348,0,545)]
def o13:Obj:=⟨(.type "code"),none,(.fields #[(.str "<module>" 182),(.str "<module>" 183),(.str "/claim/cut.py" 184),(.int (1) 0),(.int (0) 0),(.int (0) 0),(.int (0) 0),(.int (0) 0),(.ref 11),(.bool false),(.int (181) 0),(.ref 12),.none,.none,.none,.none,(.int (185) 0),(.int (1) 0),(.str "/claim/cut.py" 186)]),#[]⟩
def o14:Obj:=⟨(.type "frame"),none,.plain,#[(some (.ref 13)),(some (.ref 3)),(some (.ref 3)),none,(some (.str "__main__" 164)),none,(some (.ref 0))]⟩
def o17:Obj:=kT 190 ["k"]
def o19:Obj:=kC "_wall" "_wall" (top 0)
def o20:Obj:=kD1 "_wall" "_wall" 187 1 1 15 191
def o21:Obj:=kF "_wall" "_wall" (top 0) m0 20
def o24:Obj:=kT 199 ["some","told","statement"]
def o26:Obj:=kC "keyed" "keyed" b0R
def o27:Obj:=kD1 "keyed" "keyed" 196 5 1 22 202
def o28:Obj:=kF "keyed" "keyed" b0R m1 27
def o31:Obj:=kC "all_among" "all_among" a7T
def o32:Obj:=kD2 "all_among" "all_among" 205 10 2 29 208
def o33:Obj:=kF "all_among" "all_among" a7T m1 32
def o36:Obj:=kC "any_among" "any_among" a8h
def o37:Obj:=kD2 "any_among" "any_among" 211 12 2 34 214
def o38:Obj:=kF "any_among" "any_among" a8h m1 37
def o41:Obj:=kT 222 ["statement"]
def o43:Obj:=kC "opposite" "opposite" b0x
def o44:Obj:=kD1 "opposite" "opposite" 219 15 1 39 223
def o45:Obj:=kF "opposite" "opposite" b0x m2 44
def o48:Obj:=kT 231 ["ground","heads","rule","premise"]
def o50:Obj:=kC "heads_by_premise" "heads_by_premise" b1e
def o51:Obj:=kD1 "heads_by_premise" "heads_by_premise" 228 18 1 46 235
def o52:Obj:=kF "heads_by_premise" "heads_by_premise" b1e m3 51
def o53:Obj:=⟨(.type "tuple"),none,(.seq #[.none] 0),#[]⟩
def o56:Obj:=kC "sure_rounds" "sure_rounds" a2B
def o57:Obj:=kD2 "sure_rounds" "sure_rounds" 240 25 2 54 243
def o58:Obj:=⟨(.type "function"),none,(.func (Yr "sure_rounds" "sure_rounds" (a1x a2B) (a1d a2B) (a0c a2B) (.ref 53) .none .none (.str "mostwise.sure" 238) none (.ref 57) .none)),#[]⟩
def o61:Obj:=kT 249 ["ground"]
def o62:Obj:=kT 250 ["ranks"]
def o63:Obj:=kC "sure_steps" "sure_steps" a7F
def o64:Obj:=kD1 "sure_steps" "sure_steps" 246 39 1 59 251
def o65:Obj:=kF "sure_steps" "sure_steps" a7F m4 64
def o68:Obj:=kC "is_beaten" "is_beaten" a8f
def o69:Obj:=kD2 "is_beaten" "is_beaten" 260 45 3 66 263
def o70:Obj:=kF "is_beaten" "is_beaten" a8f m5 69
def o73:Obj:=kC "holds_by" "holds_by" a6w
def o74:Obj:=kD2 "holds_by" "holds_by" 266 47 5 71 269
def o75:Obj:=kF "holds_by" "holds_by" a6w m5 74
def o78:Obj:=kC "refused_by" "refused_by" a6D
def o79:Obj:=kD2 "refused_by" "refused_by" 272 54 5 76 275
def o80:Obj:=kF "refused_by" "refused_by" a6D m5 79
def o83:Obj:=kT 281 ["ground","sures","held","refused","asked","words","q"]
def o85:Obj:=kC "words_now" "words_now" a8N
def o86:Obj:=kD1 "words_now" "words_now" 278 61 5 81 288
def o87:Obj:=kF "words_now" "words_now" a8N m5 86
def o90:Obj:=kT 294 ["heads","came","told","premise","head"]
def o92:Obj:=kC "touched" "touched" a9l
def o93:Obj:=kD1 "touched" "touched" 291 69 2 88 299
def o94:Obj:=kF "touched" "touched" a9l m5 93
def o97:Obj:=kC "most_rounds" "most_rounds" a4a
def o98:Obj:=kD2 "most_rounds" "most_rounds" 302 76 4 95 305
def o99:Obj:=kF "most_rounds" "most_rounds" a4a m5 98
def c5v:Obj:=⟨(.type "builtin_function_or_method"),none,(.fields #[(.builtin "type.__prepare__"),(.type "type")]),#[]⟩
def c5T (P:Params):Obj:=kQ [kE P "__module__" 315 (.str "mostwise.mostly" 254),kE P "__qualname__" 317 (.str "Answers" 316),⟨Xx P "__firstlineno__",(.str "__firstlineno__" 319),(.int (94) 318)⟩,kE P "__init__" 327 (.ref 113),kE P "word_and_rank" 335 (.ref 120),kE P "sure" 343 (.ref 127),kE P "held" 351 (.ref 134),kE P "refused" 359 (.ref 141),kE P "answer" 367 (.ref 148),kE P "rank" 375 (.ref 155),kE P "listed" 382 (.ref 162),kE P "sures" 389 (.ref 169),kE P "__static_attributes__" 393 (.ref 170)] 13
def c5C:Obj:=kL [(96,4,112),(101,4,119),(106,4,126),(109,4,133),(112,4,140),(115,4,147),(118,4,154),(121,4,161),(124,4,168)]
def c5B:Obj:=⟨(.type "code"),none,(.fields #[(.str "Answers" 310),(.str "Answers" 311),(.str "/claim/cut.py" 312),(.int (94) 0),(.int (0) 0),(.int (0) 0),(.int (0) 0),(.int (0) 0),(.ref 103),(.bool false),(.int (181) 0),(.ref 104),.none,.none,.none,.none,(.int (313) 0),(.int (94) 0),(.str "/claim/cut.py" 314)]),#[]⟩
def c4x:Obj:=⟨(.type "frame"),none,.plain,#[(some (.ref 105)),(some (.ref 3)),(some (.ref 102)),none,(some (.str "mostwise.mostly" 254)),none,(some (.ref 0))]⟩
def c3B:Obj:=kT 323 ["self","ground"]
def c6M:Obj:=kC "__init__" "Answers.__init__" b0z
def c1m:Obj:=kD1 "__init__" "Answers.__init__" 320 96 2 107 325
def c3x:Obj:=kF "__init__" "Answers.__init__" b0z m5 112
def c1P:Obj:=kT 331 ["self","q"]
def c6s:Obj:=kC "word_and_rank" "Answers.word_and_rank" b0B
def c3R:Obj:=kD1 "word_and_rank" "Answers.word_and_rank" 328 101 2 114 333
def c4c:Obj:=kF "word_and_rank" "Answers.word_and_rank" b0B m5 119
def c0F:Obj:=kT 339 ["self","q"]
def c6j:Obj:=kC "sure" "Answers.sure" b2e
def c1u:Obj:=kD1 "sure" "Answers.sure" 336 106 2 121 341
def c2N:Obj:=kF "sure" "Answers.sure" b2e m5 126
def c2x:Obj:=kT 347 ["self","q"]
def c4V:Obj:=kC "held" "Answers.held" a9z
def c0D:Obj:=kD1 "held" "Answers.held" 344 109 2 128 349
def c1p:Obj:=kF "held" "Answers.held" a9z m5 133
def c1T:Obj:=kT 355 ["self","q"]
def c6B:Obj:=kC "refused" "Answers.refused" b0P
def c2B:Obj:=kD1 "refused" "Answers.refused" 352 112 2 135 357
def c2Z:Obj:=kF "refused" "Answers.refused" b0P m5 140
def c4h:Obj:=kT 363 ["self","q"]
def c5n:Obj:=kC "answer" "Answers.answer" (a0g (top 21) 5)
def c3P:Obj:=kD1 "answer" "Answers.answer" 360 115 2 142 365
def c5X:Obj:=kF "answer" "Answers.answer" (a0g (top 21) 5) m5 147
def c1w:Obj:=kT 371 ["self","q"]
def c6F:Obj:=kC "rank" "Answers.rank" b1c
def c1Z:Obj:=kD1 "rank" "Answers.rank" 368 118 2 149 373
def c3J:Obj:=kF "rank" "Answers.rank" b1c m5 154
def c3L:Obj:=kT 379 ["self"]
def c4o:Obj:=kC "listed" "Answers.listed" (a0g (top 21) 7)
def c2J:Obj:=kD1 "listed" "Answers.listed" 376 121 1 156 380
def c5F:Obj:=kF "listed" "Answers.listed" (a0g (top 21) 7) m5 161
def c1k:Obj:=kT 386 ["self"]
def c6g:Obj:=kC "sures" "Answers.sures" b1f
def c1S:Obj:=kD1 "sures" "Answers.sures" 383 124 1 163 387
def c1W:Obj:=kF "sures" "Answers.sures" b1f m5 168
def c1t:Obj:=kT 390 ["came","standing","sure_keys"]
def c3d (P:Params):Obj:=kQ [kE P "__module__" 315 (.str "mostwise.mostly" 254),⟨Xx P "__firstlineno__",(.str "__firstlineno__" 319),(.int (94) 318)⟩,kE P "__init__" 327 (.ref 113),kE P "word_and_rank" 335 (.ref 120),kE P "sure" 343 (.ref 127),kE P "held" 351 (.ref 134),kE P "refused" 359 (.ref 141),kE P "answer" 367 (.ref 148),kE P "rank" 375 (.ref 155),kE P "listed" 382 (.ref 162),kE P "sures" 389 (.ref 169),kE P "__static_attributes__" 393 (.ref 170),kE P "__dict__" 395 (.ref 173),kE P "__weakref__" 397 (.ref 174),kE P "__doc__" 398 .none] 4
def c0N:Obj:=⟨(.type "type"),none,(.cls ⟨"Answers",[(.type "object")],[(.ref 172),(.type "object")],171,"Answers",true,[],[],false,none,false⟩),#[none,none,(some (.str "Answers" 308)),(some (.str "Answers" 316)),(some (.builtin "object.__new__")),(some (.bool true))]⟩
def c0S:Obj:=⟨(.type "getset_descriptor"),none,(.fields #[(.str "__dict__" 394),(.ref 172),(.builtin "function.__dict__"),(.builtin "function.__dict__#set")]),#[]⟩
def c1f:Obj:=⟨(.type "getset_descriptor"),none,(.fields #[(.str "__weakref__" 396),(.ref 172),(.builtin "ExceptionGroup.__weakref__"),.none]),#[]⟩
def c5M:Obj:=⟨(.type "super"),none,(.fields #[(.ref 172),(.ref 172),(.ref 172)]),#[]⟩
def c5x:Obj:=⟨(.type "builtin_function_or_method"),none,(.fields #[(.builtin "object.__init_subclass__"),(.ref 172)]),#[]⟩
def c6w:Obj:=⟨(.type "builtin_function_or_method"),none,(.fields #[(.builtin "type.__prepare__"),(.type "type")]),#[]⟩
def c6p (P:Params):Obj:=kQ [kE P "__module__" 410 (.str "mostwise.rules" 401),kE P "__qualname__" 412 (.str "Rule" 411),⟨Xx P "__firstlineno__",(.str "__firstlineno__" 414),(.int (127) 413)⟩,kE P "__init__" 424 (.ref 190),kE P "word" 431 (.ref 197),kE P "speaks" 438 (.ref 204),kE P "is_sure" 445 (.ref 211),kE P "letters" 452 (.ref 218),kE P "again" 461 (.ref 225),kE P "filled" 469 (.ref 232),kE P "row" 476 (.ref 239),kE P "__static_attributes__" 480 (.ref 240)] 12
def c6V:Obj:=kL [(129,4,189),(134,4,196),(137,4,203),(140,4,210),(143,4,217),(146,4,224),(149,4,231),(152,4,238)]
def c6m:Obj:=⟨(.type "code"),none,(.fields #[(.str "Rule" 405),(.str "Rule" 406),(.str "/claim/cut.py" 407),(.int (127) 0),(.int (0) 0),(.int (0) 0),(.int (0) 0),(.int (0) 0),(.ref 180),(.bool false),(.int (181) 0),(.ref 181),.none,.none,.none,.none,(.int (408) 0),(.int (127) 0),(.str "/claim/cut.py" 409)]),#[]⟩
def c5f:Obj:=⟨(.type "frame"),none,.plain,#[(some (.ref 182)),(some (.ref 3)),(some (.ref 179)),none,(some (.str "mostwise.rules" 401)),none,(some (.ref 0))]⟩
def c1O:Obj:=kT 418 ["self","label","head","body"]
def c6C:Obj:=kC "__init__" "Rule.__init__" a9u
def c3Z:Obj:=kD1 "__init__" "Rule.__init__" 415 129 4 184 422
def c1E:Obj:=kF "__init__" "Rule.__init__" a9u m6 189
def c3S:Obj:=kT 428 ["self"]
def c6K:Obj:=kC "word" "Rule.word" (a0g (top 23) 1)
def c2r:Obj:=kD1 "word" "Rule.word" 425 134 1 191 429
def c4F:Obj:=kF "word" "Rule.word" (a0g (top 23) 1) m6 196
def c0E:Obj:=kT 435 ["self"]
def c4Z:Obj:=kC "speaks" "Rule.speaks" a9c
def c1h:Obj:=kD1 "speaks" "Rule.speaks" 432 137 1 198 436
def c3l:Obj:=kF "speaks" "Rule.speaks" a9c m6 203
def c1l:Obj:=kT 442 ["self"]
def c4W:Obj:=kC "is_sure" "Rule.is_sure" a8J
def c0U:Obj:=kD1 "is_sure" "Rule.is_sure" 439 140 1 205 443
def c2o:Obj:=kF "is_sure" "Rule.is_sure" a8J m6 210
def c1o:Obj:=kT 449 ["self"]
def c5w:Obj:=kC "letters" "Rule.letters" (a0g (top 23) 4)
def c2A:Obj:=kD1 "letters" "Rule.letters" 446 143 1 212 450
def c4C:Obj:=kF "letters" "Rule.letters" (a0g (top 23) 4) m6 217
def c3t:Obj:=kT 456 ["self","head","body"]
def c6c:Obj:=kC "again" "Rule.again" (a0g (top 23) 5)
def c4k:Obj:=kD1 "again" "Rule.again" 453 146 3 219 459
def c4E:Obj:=kF "again" "Rule.again" (a0g (top 23) 5) m6 224
def c3z:Obj:=kT 465 ["self","given"]
def c6k:Obj:=kC "filled" "Rule.filled" (a0g (top 23) 6)
def c1Q:Obj:=kD1 "filled" "Rule.filled" 462 149 2 226 467
def c5O:Obj:=kF "filled" "Rule.filled" (a0g (top 23) 6) m6 231
def c3o:Obj:=kT 473 ["self"]
def c4I:Obj:=kC "row" "Rule.row" (a0g (top 23) 7)
def c2b:Obj:=kD1 "row" "Rule.row" 470 152 1 233 474
def c4S:Obj:=kF "row" "Rule.row" (a0g (top 23) 7) m6 238
def c2T:Obj:=kT 477 ["body","head","label"]
def c4i (P:Params):Obj:=kQ [kE P "__module__" 410 (.str "mostwise.rules" 401),⟨Xx P "__firstlineno__",(.str "__firstlineno__" 414),(.int (127) 413)⟩,kE P "__init__" 424 (.ref 190),kE P "word" 431 (.ref 197),kE P "speaks" 438 (.ref 204),kE P "is_sure" 445 (.ref 211),kE P "letters" 452 (.ref 218),kE P "again" 461 (.ref 225),kE P "filled" 469 (.ref 232),kE P "row" 476 (.ref 239),kE P "__static_attributes__" 480 (.ref 240),kE P "__dict__" 482 (.ref 243),kE P "__weakref__" 484 (.ref 244),kE P "__doc__" 485 .none] 4
def c0m:Obj:=⟨(.type "type"),none,(.cls ⟨"Rule",[(.type "object")],[(.ref 242),(.type "object")],241,"Rule",true,[],[(.ref 291),(.ref 324),(.ref 350),(.ref 383)],false,none,false⟩),#[none,none,(some (.str "Rule" 403)),(some (.str "Rule" 411)),(some (.builtin "object.__new__")),(some (.bool true))]⟩
def b9I:Obj:=⟨(.type "getset_descriptor"),none,(.fields #[(.str "__dict__" 481),(.ref 242),(.builtin "function.__dict__"),(.builtin "function.__dict__#set")]),#[]⟩
def b9K:Obj:=⟨(.type "getset_descriptor"),none,(.fields #[(.str "__weakref__" 483),(.ref 242),(.builtin "ExceptionGroup.__weakref__"),.none]),#[]⟩
def c0q:Obj:=⟨(.type "super"),none,(.fields #[(.ref 242),(.ref 242),(.ref 242)]),#[]⟩
def c0h:Obj:=⟨(.type "builtin_function_or_method"),none,(.fields #[(.builtin "object.__init_subclass__"),(.ref 242)]),#[]⟩
def c2Y:Obj:=⟨(.type "tuple"),none,(.seq #[(.ref 242)] 0),#[]⟩
def c5b:Obj:=⟨(.type "builtin_function_or_method"),none,(.fields #[(.builtin "type.__prepare__"),(.type "type")]),#[]⟩
def c6x (P:Params):Obj:=kQ [kE P "__module__" 495 (.str "mostwise.rules" 401),kE P "__qualname__" 497 (.str "Fact" 496),⟨Xx P "__firstlineno__",(.str "__firstlineno__" 499),(.int (154) 498)⟩,kE P "__init__" 507 (.ref 260),kE P "word" 514 (.ref 267),kE P "is_sure" 521 (.ref 274),kE P "again" 530 (.ref 281),kE P "row" 537 (.ref 288),kE P "__static_attributes__" 538 (.ref 289)] 9
def c6o:Obj:=kL [(156,4,259),(159,4,266),(162,4,273),(165,4,280),(168,4,287)]
def c5c:Obj:=⟨(.type "code"),none,(.fields #[(.str "Fact" 490),(.str "Fact" 491),(.str "/claim/cut.py" 492),(.int (154) 0),(.int (0) 0),(.int (0) 0),(.int (0) 0),(.int (0) 0),(.ref 250),(.bool false),(.int (181) 0),(.ref 251),.none,.none,.none,.none,(.int (493) 0),(.int (154) 0),(.str "/claim/cut.py" 494)]),#[]⟩
def c6G:Obj:=⟨(.type "frame"),none,.plain,#[(some (.ref 252)),(some (.ref 3)),(some (.ref 249)),none,(some (.str "mostwise.rules" 401)),none,(some (.ref 0))]⟩
def c1e:Obj:=kT 503 ["self","head"]
def c4T:Obj:=kC "__init__" "Fact.__init__" b1i
def c3N:Obj:=kD1 "__init__" "Fact.__init__" 500 156 2 254 505
def c2i:Obj:=kF "__init__" "Fact.__init__" b1i m6 259
def c2h:Obj:=kT 511 ["self"]
def c6l:Obj:=kC "word" "Fact.word" (a0g (top 24) 1)
def c3E:Obj:=kD1 "word" "Fact.word" 508 159 1 261 512
def c5S:Obj:=kF "word" "Fact.word" (a0g (top 24) 1) m6 266
def c1r:Obj:=kT 518 ["self"]
def c5j:Obj:=kC "is_sure" "Fact.is_sure" a8U
def c1U:Obj:=kD1 "is_sure" "Fact.is_sure" 515 162 1 268 519
def c2v:Obj:=kF "is_sure" "Fact.is_sure" a8U m6 273
def c2j:Obj:=kT 525 ["self","head","body"]
def c5L:Obj:=kC "again" "Fact.again" (a0g (top 24) 3)
def c1F:Obj:=kD1 "again" "Fact.again" 522 165 3 275 528
def c6I:Obj:=kF "again" "Fact.again" (a0g (top 24) 3) m6 280
def c4f:Obj:=kT 534 ["self"]
def c4P:Obj:=kC "row" "Fact.row" (a0g (top 24) 4)
def c2S:Obj:=kD1 "row" "Fact.row" 531 168 1 282 535
def c5Y:Obj:=kF "row" "Fact.row" (a0g (top 24) 4) m6 287
def c3F (P:Params):Obj:=kQ [kE P "__module__" 495 (.str "mostwise.rules" 401),⟨Xx P "__firstlineno__",(.str "__firstlineno__" 499),(.int (154) 498)⟩,kE P "__init__" 507 (.ref 260),kE P "word" 514 (.ref 267),kE P "is_sure" 521 (.ref 274),kE P "again" 530 (.ref 281),kE P "row" 537 (.ref 288),kE P "__static_attributes__" 538 (.ref 289),kE P "__doc__" 539 .none] 2
def c4d:Obj:=⟨(.type "type"),none,(.cls ⟨"Fact",[(.ref 242)],[(.ref 291),(.ref 242),(.type "object")],290,"Fact",true,[],[],false,none,false⟩),#[(some (.ref 247)),none,(some (.str "Fact" 488)),(some (.str "Fact" 496)),(some (.builtin "object.__new__")),(some (.bool true))]⟩
def c5E:Obj:=⟨(.type "super"),none,(.fields #[(.ref 291),(.ref 291),(.ref 291)]),#[]⟩
def c5Z:Obj:=⟨(.type "builtin_function_or_method"),none,(.fields #[(.builtin "object.__init_subclass__"),(.ref 291)]),#[]⟩
def c2a:Obj:=⟨(.type "tuple"),none,(.seq #[(.ref 242)] 0),#[]⟩
def c6d:Obj:=⟨(.type "builtin_function_or_method"),none,(.fields #[(.builtin "type.__prepare__"),(.type "type")]),#[]⟩
def c6v (P:Params):Obj:=kQ [kE P "__module__" 549 (.str "mostwise.rules" 401),kE P "__qualname__" 551 (.str "Sure" 550),⟨Xx P "__firstlineno__",(.str "__firstlineno__" 553),(.int (170) 552)⟩,kE P "word" 560 (.ref 307),kE P "is_sure" 567 (.ref 314),kE P "again" 576 (.ref 321),kE P "__static_attributes__" 577 (.ref 322)] 7
def c5t:Obj:=kL [(172,4,306),(175,4,313),(178,4,320)]
def c5y:Obj:=⟨(.type "code"),none,(.fields #[(.str "Sure" 544),(.str "Sure" 545),(.str "/claim/cut.py" 546),(.int (170) 0),(.int (0) 0),(.int (0) 0),(.int (0) 0),(.int (0) 0),(.ref 297),(.bool false),(.int (181) 0),(.ref 298),.none,.none,.none,.none,(.int (547) 0),(.int (170) 0),(.str "/claim/cut.py" 548)]),#[]⟩
def c4J:Obj:=⟨(.type "frame"),none,.plain,#[(some (.ref 299)),(some (.ref 3)),(some (.ref 296)),none,(some (.str "mostwise.rules" 401)),none,(some (.ref 0))]⟩
def c1G:Obj:=kT 557 ["self"]
def c6J:Obj:=kC "word" "Sure.word" (a0g (top 25) 0)
def c0K:Obj:=kD1 "word" "Sure.word" 554 172 1 301 558
def c6D:Obj:=kF "word" "Sure.word" (a0g (top 25) 0) m6 306
def c1A:Obj:=kT 564 ["self"]
def c4A:Obj:=kC "is_sure" "Sure.is_sure" a9A
def c2U:Obj:=kD1 "is_sure" "Sure.is_sure" 561 175 1 308 565
def c3y:Obj:=kF "is_sure" "Sure.is_sure" a9A m6 313
def c2F:Obj:=kT 571 ["self","head","body"]
def c4t:Obj:=kC "again" "Sure.again" (a0g (top 25) 2)
def c2G:Obj:=kD1 "again" "Sure.again" 568 178 3 315 574
def c6b:Obj:=kF "again" "Sure.again" (a0g (top 25) 2) m6 320
def c0M (P:Params):Obj:=kQ [kE P "__module__" 549 (.str "mostwise.rules" 401),⟨Xx P "__firstlineno__",(.str "__firstlineno__" 553),(.int (170) 552)⟩,kE P "word" 560 (.ref 307),kE P "is_sure" 567 (.ref 314),kE P "again" 576 (.ref 321),kE P "__static_attributes__" 577 (.ref 322),kE P "__doc__" 578 .none] 2
def c3j:Obj:=⟨(.type "type"),none,(.cls ⟨"Sure",[(.ref 242)],[(.ref 324),(.ref 242),(.type "object")],323,"Sure",true,[],[],false,none,false⟩),#[(some (.ref 294)),none,(some (.str "Sure" 542)),(some (.str "Sure" 550)),(some (.builtin "object.__new__")),(some (.bool true))]⟩
def c4O:Obj:=⟨(.type "super"),none,(.fields #[(.ref 324),(.ref 324),(.ref 324)]),#[]⟩
def c6r:Obj:=⟨(.type "builtin_function_or_method"),none,(.fields #[(.builtin "object.__init_subclass__"),(.ref 324)]),#[]⟩
def c0X:Obj:=⟨(.type "tuple"),none,(.seq #[(.ref 242)] 0),#[]⟩
def c4B:Obj:=⟨(.type "builtin_function_or_method"),none,(.fields #[(.builtin "type.__prepare__"),(.type "type")]),#[]⟩
def c5o (P:Params):Obj:=kQ [kE P "__module__" 588 (.str "mostwise.rules" 401),kE P "__qualname__" 590 (.str "Most" 589),⟨Xx P "__firstlineno__",(.str "__firstlineno__" 592),(.int (180) 591)⟩,kE P "word" 599 (.ref 340),kE P "again" 608 (.ref 347),kE P "__static_attributes__" 609 (.ref 348)] 6
def c6Q:Obj:=kL [(182,4,339),(185,4,346)]
def c5k:Obj:=⟨(.type "code"),none,(.fields #[(.str "Most" 583),(.str "Most" 584),(.str "/claim/cut.py" 585),(.int (180) 0),(.int (0) 0),(.int (0) 0),(.int (0) 0),(.int (0) 0),(.ref 330),(.bool false),(.int (181) 0),(.ref 331),.none,.none,.none,.none,(.int (586) 0),(.int (180) 0),(.str "/claim/cut.py" 587)]),#[]⟩
def c6N:Obj:=⟨(.type "frame"),none,.plain,#[(some (.ref 332)),(some (.ref 3)),(some (.ref 329)),none,(some (.str "mostwise.rules" 401)),none,(some (.ref 0))]⟩
def c2D:Obj:=kT 596 ["self"]
def c4w:Obj:=kC "word" "Most.word" (a0g (top 26) 0)
def c0T:Obj:=kD1 "word" "Most.word" 593 182 1 334 597
def c5Q:Obj:=kF "word" "Most.word" (a0g (top 26) 0) m6 339
def c1N:Obj:=kT 603 ["self","head","body"]
def c4v:Obj:=kC "again" "Most.again" (a0g (top 26) 1)
def c1K:Obj:=kD1 "again" "Most.again" 600 185 3 341 606
def c4K:Obj:=kF "again" "Most.again" (a0g (top 26) 1) m6 346
def c0P (P:Params):Obj:=kQ [kE P "__module__" 588 (.str "mostwise.rules" 401),⟨Xx P "__firstlineno__",(.str "__firstlineno__" 592),(.int (180) 591)⟩,kE P "word" 599 (.ref 340),kE P "again" 608 (.ref 347),kE P "__static_attributes__" 609 (.ref 348),kE P "__doc__" 610 .none] 2
def c0Q:Obj:=⟨(.type "type"),none,(.cls ⟨"Most",[(.ref 242)],[(.ref 350),(.ref 242),(.type "object")],349,"Most",true,[],[],false,none,false⟩),#[(some (.ref 327)),none,(some (.str "Most" 581)),(some (.str "Most" 589)),(some (.builtin "object.__new__")),(some (.bool true))]⟩
def c5D:Obj:=⟨(.type "super"),none,(.fields #[(.ref 350),(.ref 350),(.ref 350)]),#[]⟩
def c5e:Obj:=⟨(.type "builtin_function_or_method"),none,(.fields #[(.builtin "object.__init_subclass__"),(.ref 350)]),#[]⟩
def c0G:Obj:=⟨(.type "tuple"),none,(.seq #[(.ref 242)] 0),#[]⟩
def c4M:Obj:=⟨(.type "builtin_function_or_method"),none,(.fields #[(.builtin "type.__prepare__"),(.type "type")]),#[]⟩
def c5d (P:Params):Obj:=kQ [kE P "__module__" 620 (.str "mostwise.rules" 401),kE P "__qualname__" 622 (.str "Block" 621),⟨Xx P "__firstlineno__",(.str "__firstlineno__" 624),(.int (187) 623)⟩,kE P "word" 631 (.ref 366),kE P "speaks" 638 (.ref 373),kE P "again" 647 (.ref 380),kE P "__static_attributes__" 648 (.ref 381)] 7
def c6L:Obj:=kL [(189,4,365),(192,4,372),(195,4,379)]
def c4N:Obj:=⟨(.type "code"),none,(.fields #[(.str "Block" 615),(.str "Block" 616),(.str "/claim/cut.py" 617),(.int (187) 0),(.int (0) 0),(.int (0) 0),(.int (0) 0),(.int (0) 0),(.ref 356),(.bool false),(.int (181) 0),(.ref 357),.none,.none,.none,.none,(.int (618) 0),(.int (187) 0),(.str "/claim/cut.py" 619)]),#[]⟩
def c5s:Obj:=⟨(.type "frame"),none,.plain,#[(some (.ref 358)),(some (.ref 3)),(some (.ref 355)),none,(some (.str "mostwise.rules" 401)),none,(some (.ref 0))]⟩
def c3D:Obj:=kT 628 ["self"]
def c4y:Obj:=kC "word" "Block.word" (a0g (top 27) 0)
def c1Y:Obj:=kD1 "word" "Block.word" 625 189 1 360 629
def c5m:Obj:=kF "word" "Block.word" (a0g (top 27) 0) m6 365
def c4e:Obj:=kT 635 ["self"]
def c4p:Obj:=kC "speaks" "Block.speaks" b0F
def c1j:Obj:=kD1 "speaks" "Block.speaks" 632 192 1 367 636
def c2L:Obj:=kF "speaks" "Block.speaks" b0F m6 372
def c2P:Obj:=kT 642 ["self","head","body"]
def c5K:Obj:=kC "again" "Block.again" (a0g (top 27) 2)
def c3I:Obj:=kD1 "again" "Block.again" 639 195 3 374 645
def c5R:Obj:=kF "again" "Block.again" (a0g (top 27) 2) m6 379
def c4g (P:Params):Obj:=kQ [kE P "__module__" 620 (.str "mostwise.rules" 401),⟨Xx P "__firstlineno__",(.str "__firstlineno__" 624),(.int (187) 623)⟩,kE P "word" 631 (.ref 366),kE P "speaks" 638 (.ref 373),kE P "again" 647 (.ref 380),kE P "__static_attributes__" 648 (.ref 381),kE P "__doc__" 649 .none] 2
def c2z:Obj:=⟨(.type "type"),none,(.cls ⟨"Block",[(.ref 242)],[(.ref 383),(.ref 242),(.type "object")],382,"Block",true,[],[],false,none,false⟩),#[(some (.ref 353)),none,(some (.str "Block" 613)),(some (.str "Block" 621)),(some (.builtin "object.__new__")),(some (.bool true))]⟩
def c5U:Obj:=⟨(.type "super"),none,(.fields #[(.ref 383),(.ref 383),(.ref 383)]),#[]⟩
def c6H:Obj:=⟨(.type "builtin_function_or_method"),none,(.fields #[(.builtin "object.__init_subclass__"),(.ref 383)]),#[]⟩
def c5r:Obj:=⟨(.type "builtin_function_or_method"),none,(.fields #[(.builtin "type.__prepare__"),(.type "type")]),#[]⟩
def c4n (P:Params):Obj:=kQ [kE P "__module__" 661 (.str "mostwise.ground" 652),kE P "__qualname__" 663 (.str "Ground" 662),⟨Xx P "__firstlineno__",(.str "__firstlineno__" 665),(.int (198) 664)⟩,kE P "__init__" 676 (.ref 399),kE P "rules" 683 (.ref 406),kE P "ruling" 691 (.ref 413),kE P "speaking" 697 (.ref 418),kE P "against" 705 (.ref 425),kE P "beats" 714 (.ref 432),kE P "statements" 724 (.ref 439),kE P "part" 732 (.ref 446),kE P "__static_attributes__" 736 (.ref 447)] 12
def c4H:Obj:=kL [(200,4,398),(209,4,405),(212,4,412),(215,4,417),(218,4,424),(221,4,431),(224,4,438),(232,4,445)]
def c4Q:Obj:=⟨(.type "code"),none,(.fields #[(.str "Ground" 656),(.str "Ground" 657),(.str "/claim/cut.py" 658),(.int (198) 0),(.int (0) 0),(.int (0) 0),(.int (0) 0),(.int (0) 0),(.ref 389),(.bool false),(.int (181) 0),(.ref 390),.none,.none,.none,.none,(.int (659) 0),(.int (198) 0),(.str "/claim/cut.py" 660)]),#[]⟩
def c4q:Obj:=⟨(.type "frame"),none,.plain,#[(some (.ref 391)),(some (.ref 3)),(some (.ref 388)),none,(some (.str "mostwise.ground" 652)),none,(some (.ref 0))]⟩
def c0J:Obj:=kT 669 ["self","rules","pairs","rule","pair"]
def c6R:Obj:=kC "__init__" "Ground.__init__" b1h
def c2w:Obj:=kD1 "__init__" "Ground.__init__" 666 200 3 393 674
def c4l:Obj:=kF "__init__" "Ground.__init__" b1h m7 398
def c3Y:Obj:=kT 680 ["self"]
def c6u:Obj:=kC "rules" "Ground.rules" a9F
def c3W:Obj:=kD1 "rules" "Ground.rules" 677 209 1 400 681
def c1R:Obj:=kF "rules" "Ground.rules" a9F m7 405
def c1a:Obj:=kT 687 ["self","statement"]
def c4X:Obj:=kC "ruling" "Ground.ruling" a9K
def c1B:Obj:=kD1 "ruling" "Ground.ruling" 684 212 2 407 689
def c3c:Obj:=kF "ruling" "Ground.ruling" a9K m7 412
def c4m:Obj:=kC "speaking" "Ground.speaking" a8n
def c1X:Obj:=kD2 "speaking" "Ground.speaking" 692 215 2 414 695
def c2H:Obj:=kF "speaking" "Ground.speaking" a8n m7 417
def c1g:Obj:=kT 701 ["self","statement"]
def c6U:Obj:=kC "against" "Ground.against" b0S
def c1i:Obj:=kD1 "against" "Ground.against" 698 218 2 419 703
def c2m:Obj:=kF "against" "Ground.against" b0S m7 424
def c2O:Obj:=kT 709 ["self","one","other"]
def c6h:Obj:=kC "beats" "Ground.beats" a8x
def c0O:Obj:=kD1 "beats" "Ground.beats" 706 221 3 426 712
def c3T:Obj:=kF "beats" "Ground.beats" a8x m7 431
def c4b:Obj:=kT 718 ["self","told","rule","statement"]
def c4R:Obj:=kC "statements" "Ground.statements" b1g
def c1q:Obj:=kD1 "statements" "Ground.statements" 715 224 1 433 722
def c3g:Obj:=kF "statements" "Ground.statements" b1g m7 438
def c2n:Obj:=kT 728 ["self","some"]
def c6S:Obj:=kC "part" "Ground.part" (a0g (top 29) 7)
def c2Q:Obj:=kD1 "part" "Ground.part" 725 232 2 440 730
def c4U:Obj:=kF "part" "Ground.part" (a0g (top 29) 7) m7 445
def c2I:Obj:=kT 733 ["by_head","in_order","pairs"]
def c3U (P:Params):Obj:=kQ [kE P "__module__" 661 (.str "mostwise.ground" 652),⟨Xx P "__firstlineno__",(.str "__firstlineno__" 665),(.int (198) 664)⟩,kE P "__init__" 676 (.ref 399),kE P "rules" 683 (.ref 406),kE P "ruling" 691 (.ref 413),kE P "speaking" 697 (.ref 418),kE P "against" 705 (.ref 425),kE P "beats" 714 (.ref 432),kE P "statements" 724 (.ref 439),kE P "part" 732 (.ref 446),kE P "__static_attributes__" 736 (.ref 447),kE P "__dict__" 738 (.ref 450),kE P "__weakref__" 740 (.ref 451),kE P "__doc__" 741 .none] 4
def c2K:Obj:=⟨(.type "type"),none,(.cls ⟨"Ground",[(.type "object")],[(.ref 449),(.type "object")],448,"Ground",true,[],[],false,none,false⟩),#[none,none,(some (.str "Ground" 654)),(some (.str "Ground" 662)),(some (.builtin "object.__new__")),(some (.bool true))]⟩
def c1H:Obj:=⟨(.type "getset_descriptor"),none,(.fields #[(.str "__dict__" 737),(.ref 449),(.builtin "function.__dict__"),(.builtin "function.__dict__#set")]),#[]⟩
def c2d:Obj:=⟨(.type "getset_descriptor"),none,(.fields #[(.str "__weakref__" 739),(.ref 449),(.builtin "ExceptionGroup.__weakref__"),.none]),#[]⟩
def c6O:Obj:=⟨(.type "super"),none,(.fields #[(.ref 449),(.ref 449),(.ref 449)]),#[]⟩
def c5h:Obj:=⟨(.type "builtin_function_or_method"),none,(.fields #[(.builtin "object.__init_subclass__"),(.ref 449)]),#[]⟩
def c1V:Obj:=kT 749 ["_law_script","_law_k"]
def c5g:Obj:=kC "_law_cell_at" "_law_cell_at" a8L
def c2e:Obj:=kD1 "_law_cell_at" "_law_cell_at" 746 235 2 454 751
def c3M:Obj:=kF "_law_cell_at" "_law_cell_at" a8L m8 459
def c3q:Obj:=kT 757 ["_law_cell","_law_k","_law_number"]
def c5q:Obj:=kC "_law_mix" "_law_mix" a9x
def c0R:Obj:=kD1 "_law_mix" "_law_mix" 754 239 2 461 760
def c3r:Obj:=kF "_law_mix" "_law_mix" a9x m8 466
def c1L:Obj:=kT 766 ["_law_cell","_law_k","_law_signs","_law_size","_law_at","_law_word_here","_law_j","_law_step"]
def c5H:Obj:=kC "_law_word" "_law_word" b0o
def c3O:Obj:=kD1 "_law_word" "_law_word" 763 243 3 468 774
def c4j:Obj:=kF "_law_word" "_law_word" b0o m8 473
def c5G:Obj:=kC "_law_pool" "_law_pool" a7K
def c3X:Obj:=kD2 "_law_pool" "_law_pool" 777 253 1 475 780
def c2f:Obj:=kF "_law_pool" "_law_pool" a7K m8 478
def c6i:Obj:=kC "_law_row" "_law_row" a6k
def c2y:Obj:=kD2 "_law_row" "_law_row" 783 261 5 480 786
def c1z:Obj:=kF "_law_row" "_law_row" a6k m8 483
def c2u:Obj:=kT 792 ["_law_row_here","_law_sort","_law_label","_law_head","_law_body"]
def c5a:Obj:=kC "_law_made" "_law_made" a8X
def c2s:Obj:=kD1 "_law_made" "_law_made" 789 273 1 485 797
def c3u:Obj:=kF "_law_made" "_law_made" a8X m8 490
def c6y:Obj:=kC "_law_labels" "_law_labels" a7B
def c3V:Obj:=kD2 "_law_labels" "_law_labels" 800 282 1 492 803
def c0Y:Obj:=kF "_law_labels" "_law_labels" a7B m8 495
def c1b:Obj:=kT 809 ["_law_cell","_law_pool_here","_law_labels_here","_law_size","_law_sort","_law_label","_law_head","_law_many","_law_rest","_law_body","_law_j"]
def c5i:Obj:=kC "_law_row_by_digits" "_law_row_by_digits" a9s
def c1x:Obj:=kD1 "_law_row_by_digits" "_law_row_by_digits" 806 284 3 497 820
def c1c:Obj:=kF "_law_row_by_digits" "_law_row_by_digits" a9s m8 502
def c4G:Obj:=kC "_law_rows" "_law_rows" a6u
def c3n:Obj:=kD2 "_law_rows" "_law_rows" 823 298 2 504 826
def c3p:Obj:=kF "_law_rows" "_law_rows" a6u m8 507
def c1I:Obj:=kT 832 ["_law_cell","_law_many","_law_labels_here","_law_pairs_here","_law_k","_law_number","_law_one","_law_other_here"]
def c5u:Obj:=kC "_law_pairs" "_law_pairs" a9Q
def c3K:Obj:=kD1 "_law_pairs" "_law_pairs" 829 306 2 509 840
def c3b:Obj:=kF "_law_pairs" "_law_pairs" a9Q m8 514
def c3i:Obj:=kT 846 ["_law_script","_law_labels_here","_law_cell","_law_pairs_here","_law_one","_law_other_here"]
def c5A:Obj:=kC "_law_pairs_by_digits" "_law_pairs_by_digits" a8y
def c3f:Obj:=kD1 "_law_pairs_by_digits" "_law_pairs_by_digits" 843 316 1 516 852
def c1J:Obj:=kF "_law_pairs_by_digits" "_law_pairs_by_digits" a8y m8 521
def c3m:Obj:=kT 858 ["_law_q"]
def c5N:Obj:=kC "_law_other" "_law_other" b0p
def c3e:Obj:=kD1 "_law_other" "_law_other" 855 328 1 523 859
def c2t:Obj:=kF "_law_other" "_law_other" b0p m8 528
def c6P:Obj:=kC "_law_above" "_law_above" a7E
def c2l:Obj:=kD2 "_law_above" "_law_above" 862 332 2 530 865
def c1y:Obj:=kF "_law_above" "_law_above" a7E m8 533
def c0I:Obj:=kT 871 ["_law_answers","_law_q"]
def c6z:Obj:=kC "_law_word_of" "_law_word_of" a9j
def c1d:Obj:=kD1 "_law_word_of" "_law_word_of" 868 342 2 535 873
def c0L:Obj:=kF "_law_word_of" "_law_word_of" a9j m8 540
def c6t:Obj:=kC "law" "law" a2s
def c3s:Obj:=kD2 "law" "law" 876 348 1 542 879
def c3G:Obj:=kF "law" "law" a2s m8 545
def p3 (P:Params):Obj:=kQ [kE P "__name__" 165 (.str "__main__" 164),kE P "__doc__" 166 .none,kE P "__package__" 167 .none,kE P "__loader__" 168 (.builtin "__main__.__loader__#opaque"),kE P "__spec__" 169 .none,kE P "__annotations__" 170 (.ref 6),kE P "__builtins__" 171 (.ref 4),kE P "__file__" 173 (.str "/claim/cut.py" 172),kE P "__cached__" 174 .none] 9
def H0 (P:Params):Heap:=⟨⟨o0 P::o1 P::o2::p3 P::o4::o5::o6::kU::kN::o9::o10::[]⟩,{}⟩
noncomputable abbrev S0 (P:Params):List Obj:=o4::o5::o6::kU::kN::o9::o10::kU::[]
noncomputable abbrev S1 (P:Params):List Obj:=o13::o14::kU::kN::o17::kU::o19::o20::o21::kU::kN::o24::kU::o26::o27::o28::kU::kN::o31::o32::o33::kU::kN::o36::o37::o38::kU::kN::o41::kU::o43::o44::o45::kU::kN::o48::kU::o50::o51::o52::o53::kU::kN::o56::o57::o58::kU::kN::o61::o62::o63::o64::o65::kU::kN::o68::o69::o70::kU::kN::o73::o74::o75::kU::kN::o78::o79::o80::kU::kN::o83::kU::o85::o86::o87::kU::kN::o90::kU::o92::o93::o94::kU::kN::o97::o98::o99::kU::c5v::c5T P::kU::c5C::c5B::c4x::kU::kN::c3B::kU::c6M::c1m::c3x::kU::kN::c1P::kU::c6s::c3R::c4c::kU::kN::c0F::kU::c6j::c1u::c2N::kU::kN::c2x::kU::c4V::c0D::c1p::kU::kN::c1T::kU::c6B::c2B::c2Z::kU::kN::c4h::kU::c5n::c3P::c5X::kU::kN::c1w::kU::c6F::c1Z::c3J::kU::kN::c3L::kU::c4o::c2J::c5F::kU::kN::c1k::kU::c6g::c1S::c1W::c1t::c3d P::c0N::c0S::c1f::c5M::c5x::kU::c6w::c6p P::kU::c6V::c6m::c5f::kU::kN::c1O::kU::c6C::c3Z::c1E::kU::kN::c3S::kU::c6K::c2r::c4F::kU::kN::c0E::kU::c4Z::c1h::c3l::kU::kN::c1l::kU::c4W::c0U::c2o::kU::kN::c1o::kU::c5w::c2A::c4C::kU::kN::c3t::kU::c6c::c4k::c4E::kU::kN::c3z::kU::c6k::c1Q::c5O::kU::kN::c3o::kU::c4I::c2b::c4S::c2T::c4i P::[]
noncomputable abbrev S2 (P:Params):List Obj:=c2Y::c5b::c6x P::kU::c6o::c5c::c6G::kU::kN::c1e::kU::c4T::c3N::c2i::kU::kN::c2h::kU::c6l::c3E::c5S::kU::kN::c1r::kU::c5j::c1U::c2v::kU::kN::c2j::kU::c5L::c1F::c6I::kU::kN::c4f::kU::c4P::c2S::c5Y::kU::c3F P::c4d::c5E::c5Z::c2a::c6d::c6v P::kU::c5t::c5y::c4J::kU::kN::c1G::kU::c6J::c0K::c6D::kU::kN::c1A::kU::c4A::c2U::c3y::kU::kN::c2F::kU::c4t::c2G::c6b::kU::c0M P::c3j::c4O::c6r::c0X::c4B::c5o P::kU::c6Q::c5k::c6N::kU::kN::c2D::kU::c4w::c0T::c5Q::kU::kN::c1N::kU::c4v::c1K::c4K::kU::c0P P::c0Q::c5D::c5e::c0G::c4M::c5d P::kU::c6L::c4N::c5s::kU::kN::c3D::kU::c4y::c1Y::c5m::kU::kN::c4e::kU::c4p::c1j::c2L::kU::kN::c2P::kU::c5K::c3I::c5R::kU::c4g P::c2z::c5U::c6H::[]
noncomputable abbrev S3 (P:Params):List Obj:=kU::c5r::c4n P::kU::c4H::c4Q::c4q::kU::kN::c0J::kU::c6R::c2w::c4l::kU::kN::c3Y::kU::c6u::c3W::c1R::kU::kN::c1a::kU::c4X::c1B::c3c::kU::kN::c4m::c1X::c2H::kU::kN::c1g::kU::c6U::c1i::c2m::kU::kN::c2O::kU::c6h::c0O::c3T::kU::kN::c4b::kU::c4R::c1q::c3g::kU::kN::c2n::kU::c6S::c2Q::c4U::c2I::c3U P::c2K::c1H::c2d::c6O::c5h::kU::kN::c1V::kU::c5g::c2e::c3M::kU::kN::c3q::kU::c5q::c0R::c3r::kU::kN::c1L::kU::c5H::c3O::c4j::kU::kN::c5G::c3X::c2f::kU::kN::c6i::c2y::c1z::kU::kN::c2u::kU::c5a::c2s::c3u::kU::kN::c6y::c3V::c0Y::kU::kN::c1b::kU::c5i::c1x::c1c::kU::kN::c4G::c3n::c3p::kU::kN::c1I::kU::c5u::c3K::c3b::kU::kN::c3i::kU::c5A::c3f::c1J::kU::kN::c3m::kU::c5N::c3e::c2t::kU::kN::c6P::c2l::c1y::kU::kN::c0I::kU::c6z::c1d::c0L::kU::kN::c6t::c3s::c3G::[]
def H1 (P:Params):Heap:=⟨⟨[o0 P,o1 P,o2,o3 P]++S0 P++[o12]++S1 P++[c0m,b9I,b9K,c0q,c0h]++S2 P++S3 P⟩,{}⟩
def b2E:Params→Qc:=fun P=>
(nat_lit 2,o2)::(nat_lit 3,o3 P)::(nat_lit 4,o4)::(nat_lit 15,kU)::(nat_lit 17,o17)::(nat_lit 18,kU)::(nat_lit 20,o20)::(nat_lit 22,kU)::(nat_lit 24,o24)::(nat_lit 25,kU)::(nat_lit 27,o27)::(nat_lit 28,o28)::(nat_lit 29,kU)::(nat_lit 32,o32)::(nat_lit 33,o33)::(nat_lit 34,kU)::(nat_lit 37,o37)::(nat_lit 38,o38)::(nat_lit 39,kU)::(nat_lit 41,o41)::(nat_lit 42,kU)::(nat_lit 44,o44)::(nat_lit 45,o45)::(nat_lit 46,kU)::(nat_lit 48,o48)::(nat_lit 49,kU)::(nat_lit 51,o51)::(nat_lit 52,o52)::(nat_lit 53,o53)::(nat_lit 54,kU)::(nat_lit 57,o57)::(nat_lit 58,o58)::(nat_lit 59,kU)::(nat_lit 61,o61)::(nat_lit 62,o62)::(nat_lit 64,o64)::(nat_lit 65,o65)::(nat_lit 66,kU)::(nat_lit 69,o69)::(nat_lit 70,o70)::(nat_lit 71,kU)::(nat_lit 74,o74)::(nat_lit 75,o75)::(nat_lit 76,kU)::(nat_lit 79,o79)::(nat_lit 80,o80)::(nat_lit 81,kU)::(nat_lit 83,o83)::(nat_lit 84,kU)::(nat_lit 86,o86)::(nat_lit 87,o87)::(nat_lit 88,kU)::(nat_lit 90,o90)::(nat_lit 91,kU)::(nat_lit 93,o93)::(nat_lit 94,o94)::(nat_lit 95,kU)::(nat_lit 98,o98)::(nat_lit 99,o99)::(nat_lit 107,kU)::(nat_lit 109,c3B)::(nat_lit 110,kU)::(nat_lit 112,c1m)::(nat_lit 113,c3x)::(nat_lit 114,kU)::(nat_lit 116,c1P)::(nat_lit 117,kU)::(nat_lit 119,c3R)::(nat_lit 120,c4c)::(nat_lit 121,kU)::(nat_lit 123,c0F)::(nat_lit 124,kU)::(nat_lit 126,c1u)::(nat_lit 127,c2N)::(nat_lit 128,kU)::(nat_lit 130,c2x)::(nat_lit 131,kU)::(nat_lit 133,c0D)::(nat_lit 134,c1p)::(nat_lit 135,kU)::(nat_lit 137,c1T)::(nat_lit 138,kU)::(nat_lit 140,c2B)::(nat_lit 141,c2Z)::(nat_lit 142,kU)::(nat_lit 144,c4h)::(nat_lit 145,kU)::(nat_lit 147,c3P)::(nat_lit 149,kU)::(nat_lit 151,c1w)::(nat_lit 152,kU)::(nat_lit 154,c1Z)::(nat_lit 155,c3J)::(nat_lit 156,kU)::(nat_lit 158,c3L)::(nat_lit 159,kU)::(nat_lit 161,c2J)::(nat_lit 163,kU)::(nat_lit 165,c1k)::(nat_lit 166,kU)::(nat_lit 168,c1S)::(nat_lit 169,c1W)::(nat_lit 170,c1t)::(nat_lit 171,c3d P)::(nat_lit 172,c0N)::(nat_lit 173,c0S)::(nat_lit 174,c1f)::(nat_lit 184,kU)::(nat_lit 186,c1O)::(nat_lit 187,kU)::(nat_lit 189,c3Z)::(nat_lit 190,c1E)::(nat_lit 191,kU)::(nat_lit 193,c3S)::(nat_lit 194,kU)::(nat_lit 196,c2r)::(nat_lit 198,kU)::(nat_lit 200,c0E)::(nat_lit 201,kU)::(nat_lit 203,c1h)::(nat_lit 204,c3l)::(nat_lit 205,kU)::(nat_lit 207,c1l)::(nat_lit 208,kU)::(nat_lit 210,c0U)::(nat_lit 211,c2o)::(nat_lit 212,kU)::(nat_lit 214,c1o)::(nat_lit 215,kU)::(nat_lit 217,c2A)::(nat_lit 219,kU)::(nat_lit 221,c3t)::(nat_lit 222,kU)::(nat_lit 224,c4k)::(nat_lit 226,kU)::(nat_lit 228,c3z)::(nat_lit 229,kU)::(nat_lit 231,c1Q)::(nat_lit 233,kU)::(nat_lit 235,c3o)::(nat_lit 236,kU)::(nat_lit 238,c2b)::(nat_lit 240,c2T)::(nat_lit 241,c4i P)::(nat_lit 242,c0m)::(nat_lit 243,b9I)::(nat_lit 244,b9K)::(nat_lit 247,c2Y)::(nat_lit 254,kU)::(nat_lit 256,c1e)::(nat_lit 257,kU)::(nat_lit 259,c3N)::(nat_lit 260,c2i)::(nat_lit 261,kU)::(nat_lit 263,c2h)::(nat_lit 264,kU)::(nat_lit 266,c3E)::(nat_lit 268,kU)::(nat_lit 270,c1r)::(nat_lit 271,kU)::(nat_lit 273,c1U)::(nat_lit 274,c2v)::(nat_lit 275,kU)::(nat_lit 277,c2j)::(nat_lit 278,kU)::(nat_lit 280,c1F)::(nat_lit 282,kU)::(nat_lit 284,c4f)::(nat_lit 285,kU)::(nat_lit 287,c2S)::(nat_lit 289,kU)::(nat_lit 290,c3F P)::(nat_lit 291,c4d)::(nat_lit 294,c2a)::(nat_lit 301,kU)::(nat_lit 303,c1G)::(nat_lit 304,kU)::(nat_lit 306,c0K)::(nat_lit 308,kU)::(nat_lit 310,c1A)::(nat_lit 311,kU)::(nat_lit 313,c2U)::(nat_lit 314,c3y)::(nat_lit 315,kU)::(nat_lit 317,c2F)::(nat_lit 318,kU)::(nat_lit 320,c2G)::(nat_lit 322,kU)::(nat_lit 323,c0M P)::(nat_lit 324,c3j)::(nat_lit 327,c0X)::(nat_lit 334,kU)::(nat_lit 336,c2D)::(nat_lit 337,kU)::(nat_lit 339,c0T)::(nat_lit 341,kU)::(nat_lit 343,c1N)::(nat_lit 344,kU)::(nat_lit 346,c1K)::(nat_lit 348,kU)::(nat_lit 349,c0P P)::(nat_lit 350,c0Q)::(nat_lit 353,c0G)::(nat_lit 360,kU)::(nat_lit 362,c3D)::(nat_lit 363,kU)::(nat_lit 365,c1Y)::(nat_lit 367,kU)::(nat_lit 369,c4e)::(nat_lit 370,kU)::(nat_lit 372,c1j)::(nat_lit 373,c2L)::(nat_lit 374,kU)::(nat_lit 376,c2P)::(nat_lit 377,kU)::(nat_lit 379,c3I)::(nat_lit 381,kU)::(nat_lit 382,c4g P)::(nat_lit 383,c2z)::(nat_lit 393,kU)::(nat_lit 395,c0J)::(nat_lit 396,kU)::(nat_lit 398,c2w)::(nat_lit 399,c4l)::(nat_lit 400,kU)::(nat_lit 402,c3Y)::(nat_lit 403,kU)::(nat_lit 405,c3W)::(nat_lit 406,c1R)::(nat_lit 407,kU)::(nat_lit 409,c1a)::(nat_lit 410,kU)::(nat_lit 412,c1B)::(nat_lit 413,c3c)::(nat_lit 414,kU)::(nat_lit 417,c1X)::(nat_lit 418,c2H)::(nat_lit 419,kU)::(nat_lit 421,c1g)::(nat_lit 422,kU)::(nat_lit 424,c1i)::(nat_lit 425,c2m)::(nat_lit 426,kU)::(nat_lit 428,c2O)::(nat_lit 429,kU)::(nat_lit 431,c0O)::(nat_lit 432,c3T)::(nat_lit 433,kU)::(nat_lit 435,c4b)::(nat_lit 436,kU)::(nat_lit 438,c1q)::(nat_lit 439,c3g)::(nat_lit 440,kU)::(nat_lit 442,c2n)::(nat_lit 443,kU)::(nat_lit 445,c2Q)::(nat_lit 447,c2I)::(nat_lit 448,c3U P)::(nat_lit 449,c2K)::(nat_lit 450,c1H)::(nat_lit 451,c2d)::(nat_lit 454,kU)::(nat_lit 456,c1V)::(nat_lit 457,kU)::(nat_lit 459,c2e)::(nat_lit 460,c3M)::(nat_lit 461,kU)::(nat_lit 463,c3q)::(nat_lit 464,kU)::(nat_lit 466,c0R)::(nat_lit 467,c3r)::(nat_lit 468,kU)::(nat_lit 470,c1L)::(nat_lit 471,kU)::(nat_lit 473,c3O)::(nat_lit 474,c4j)::(nat_lit 475,kU)::(nat_lit 478,c3X)::(nat_lit 479,c2f)::(nat_lit 480,kU)::(nat_lit 483,c2y)::(nat_lit 484,c1z)::(nat_lit 485,kU)::(nat_lit 487,c2u)::(nat_lit 488,kU)::(nat_lit 490,c2s)::(nat_lit 491,c3u)::(nat_lit 492,kU)::(nat_lit 495,c3V)::(nat_lit 496,c0Y)::(nat_lit 497,kU)::(nat_lit 499,c1b)::(nat_lit 500,kU)::(nat_lit 502,c1x)::(nat_lit 503,c1c)::(nat_lit 504,kU)::(nat_lit 507,c3n)::(nat_lit 508,c3p)::(nat_lit 509,kU)::(nat_lit 511,c1I)::(nat_lit 512,kU)::(nat_lit 514,c3K)::(nat_lit 515,c3b)::(nat_lit 516,kU)::(nat_lit 518,c3i)::(nat_lit 519,kU)::(nat_lit 521,c3f)::(nat_lit 522,c1J)::(nat_lit 523,kU)::(nat_lit 525,c3m)::(nat_lit 526,kU)::(nat_lit 528,c3e)::(nat_lit 529,c2t)::(nat_lit 530,kU)::(nat_lit 533,c2l)::(nat_lit 534,c1y)::(nat_lit 535,kU)::(nat_lit 537,c0I)::(nat_lit 538,kU)::(nat_lit 540,c1d)::(nat_lit 541,c0L)::(nat_lit 542,kU)::(nat_lit 545,c3s)::(nat_lit 546,c3G)::[]
abbrev c0c:List Addr:=[2,3,4,15,17,18,20,22,24,25,27,28,29,32,33,34,37,38,39,41,42,44,45,46,48,49,51,52,53,54,57,58,59,61,62,64,65,66,69,70,71,74,75,76,79,80,81,83,84,86,87,88,90,91,93,94,95,98,99,107,109,110,112,113,114,116,117,119,120,121,123,124,126,127,128,130,131,133,134,135,137,138,140,141,142,144,145,147,149,151,152,154,155,156,158,159,161,163,165,166,168,169,170,171,172,173,174,184,186,187,189,190,191,193,194,196,198,200,201,203,204,205,207,208,210,211,212,214,215,217,219,221,222,224,226,228,229,231,233,235,236,238,240,241,242,243,244,247,254,256,257,259,260,261,263,264,266,268,270,271,273,274,275,277,278,280,282,284,285,287,289,290,291,294,301,303,304,306,308,310,311,313,314,315,317,318,320,322,323,324,327,334,336,337,339,341,343,344,346,348,349,350,353,360,362,363,365,367,369,370,372,373,374,376,377,379,381,382,383,393,395,396,398,399,400,402,403,405,406,407,409,410,412,413,414,417,418,419,421,422,424,425,426,428,429,431,432,433,435,436,438,439,440,442,443,445,447,448,449,450,451,454,456,457,459,460,461,463,464,466,467,468,470,471,473,474,475,478,479,480,483,484,485,487,488,490,491,492,495,496,497,499,500,502,503,504,507,508,509,511,512,514,515,516,518,519,521,522,523,525,526,528,529,530,533,534,535,537,538,540,541,542,545,546]
def a4u:Params→Qc:=fun P=>(nat_lit 60,kN)::b2E P
abbrev a4q:List Addr:=60::c0c
theorem a5m:∀P,a4q=(a4u P).map (·.1):=fun _=>by kernel_rfl
def b5B:Program:=PySem.W.view PySem.Challenge.pw_mostwise_k46_whole_leaners_alone [0,2,3,4,6,8,11,13,14,15,16,17,18,19,20,21,23,24,25,26,27,29,31,32,33,34,35,36,37,38,39,40,41,42,43,44,45]
theorem b8o:∀w:World,(fencedOpening treeTable PySem.Challenge.pw_mostwise_k46_whole_leaners_alone w 7284).map (fun s=>(s.heap,s.gens,s.drawn,s.toks))=some (H0 w.params,#[],{},181):=fun w=>by kernel_rfl
theorem a4r {tb:String→Option Builtin} {p:Program} {w:World} {n₀:Nat} {ann:Option Value} {env:Env} {q:Pos} {n N a l:Nat} {s s' r:Shared} {b:List Stmt} {c:Code} {pos p':Pos} (h:segRun tb p w n₀ ann 1 n s (piecesOf ((b.drop a).take l) env c pos [topFrame q])=some (.next,s',c,p'))
  (k:topRun tb p w n₀ ann N s' (restOf (b.drop (a+l)) env c p' [topFrame q])=some r):topRun tb p w n₀ ann (n+N) s (restOf (b.drop a) env c pos [topFrame q])=some r:=by
 have e:=piece_app h k
 rwa [←List.drop_drop,List.take_append_drop] at e
def b6y (P:Params):Heap:=⟨⟨o0 P::o1 P::o2::p3 P::o4::o5::o6::kU::kN::o9::o10::kU::kN::o13::o14::[]⟩,{}⟩
def b0N (P:Params):Heap:=⟨⟨o0 P::o1 P::o2::p3 P::o4::o5::o6::kU::kN::o9::o10::kU::kN::o13::o14::[]⟩,{}⟩
def b6Q:Env:={scope:=PySem.Challenge.pw_mostwise_k46_whole_leaners_alone.main.scope,locals:=mainNs,globals:=mainNs,cells:=[],code:=(.ref 13),frame:=some 14}
def a4P:Code:=.body (behindTheImports PySem.Challenge.pw_mostwise_k46_whole_leaners_alone) b6Q
abbrev tFr:List Frame:=[topFrame ⟨0,0,0,0⟩]
abbrev c0A (i:Nat) (q:Pos):Thread:=restOf ((behindTheImports PySem.Challenge.pw_mostwise_k46_whole_leaners_alone).drop i) b6Q a4P q tFr
theorem c0f:∀(w:World) (os:OsState),topGo treeTable PySem.Challenge.pw_mostwise_k46_whole_leaners_alone w 11 (some (.ref 6)) 12 ⟨H0 w.params,#[],{},181,os⟩ (topStub PySem.Challenge.pw_mostwise_k46_whole_leaners_alone)=some (⟨b6y w.params,#[],{},187,os⟩,⟨denote treeTable a4P,a4P,⟨0,0,0,0⟩,tFr⟩):=fun w os=>by kernel_rfl
theorem b4a:∀(w:World) (os:OsState),segRun treeTable PySem.Challenge.pw_mostwise_k46_whole_leaners_alone w 11 (some (.ref 6)) 1 1 ⟨b6y w.params,#[],{},187,os⟩ (blockOf (behindTheImports PySem.Challenge.pw_mostwise_k46_whole_leaners_alone) b6Q a4P ⟨0,0,0,0⟩ tFr)=some (.next,⟨b0N w.params,#[],{},187,os⟩,a4P,⟨0,0,0,0⟩):=fun w os=>by kernel_rfl
def g13 (P:Params):Obj:=kQ [kE P "__name__" 165 (.str "mostwise.rules" 401),kE P "__doc__" 166 .none,kE P "__package__" 167 .none,kE P "__loader__" 168 (.builtin "__main__.__loader__#opaque"),kE P "__spec__" 169 .none,kE P "__annotations__" 170 (.ref 6),kE P "__builtins__" 171 (.ref 4),kE P "__file__" 173 (.str "/claim/cut.py" 172),kE P "__cached__" 174 .none,kE P "_wall" 193 (.ref 21),kE P "keyed" 204 (.ref 28),kE P "all_among" 210 (.ref 33),kE P "any_among" 216 (.ref 38),kE P "opposite" 225 (.ref 45),kE P "heads_by_premise" 237 (.ref 52),kE P "sure_rounds" 245 (.ref 58),kE P "sure_steps" 253 (.ref 65),kE P "HELD" 257 (.str "held" 256),kE P "REFUSED" 259 (.str "refused" 258),kE P "is_beaten" 265 (.ref 70),kE P "holds_by" 271 (.ref 75),kE P "refused_by" 277 (.ref 80),kE P "words_now" 290 (.ref 87),kE P "touched" 301 (.ref 94),kE P "most_rounds" 307 (.ref 99),kE P "Answers" 400 (.ref 172),kE P "Rule" 487 (.ref 242)] 27
def c4L:Obj:=kL [(1,0,20),(5,0,27),(10,0,32),(12,0,37),(15,0,44),(18,0,51),(25,0,57),(39,0,64),(45,0,69),(47,0,74),(54,0,79),(61,0,86),(69,0,93),(76,0,98),(94,0,105),(127,0,182)]
def c0e:Obj:=⟨(.type "type"),none,(.cls ⟨"Rule",[(.type "object")],[(.ref 242),(.type "object")],241,"Rule",true,[],[],false,none,false⟩),#[none,none,(some (.str "Rule" 403)),(some (.str "Rule" 411)),(some (.builtin "object.__new__")),(some (.bool true))]⟩
def c3A (P:Params):Heap:=⟨⟨[o0 P,o1 P,o2,g13 P]++S0 P++[c4L]++S1 P++[c0e,b9I,b9K,c0q,c0h]⟩,{}⟩
theorem c5V:∀(w:World) (os:OsState),segRun treeTable PySem.Challenge.pw_mostwise_k46_whole_leaners_alone w 11 (some (.ref 6)) 1 1399 ⟨b0N w.params,#[],{},187,os⟩ (piecesOf (((behindTheImports PySem.Challenge.pw_mostwise_k46_whole_leaners_alone).drop 0).take 24) b6Q a4P ⟨0,0,0,0⟩ tFr)=some (.next,⟨c3A w.params,#[],{},488,os⟩,a4P,⟨127,0,153,16⟩):=fun w os=>by kernel_rfl
def g23 (P:Params):Obj:=kQ [kE P "__name__" 165 (.str "mostwise.rules" 401),kE P "__doc__" 166 .none,kE P "__package__" 167 .none,kE P "__loader__" 168 (.builtin "__main__.__loader__#opaque"),kE P "__spec__" 169 .none,kE P "__annotations__" 170 (.ref 6),kE P "__builtins__" 171 (.ref 4),kE P "__file__" 173 (.str "/claim/cut.py" 172),kE P "__cached__" 174 .none,kE P "_wall" 193 (.ref 21),kE P "keyed" 204 (.ref 28),kE P "all_among" 210 (.ref 33),kE P "any_among" 216 (.ref 38),kE P "opposite" 225 (.ref 45),kE P "heads_by_premise" 237 (.ref 52),kE P "sure_rounds" 245 (.ref 58),kE P "sure_steps" 253 (.ref 65),kE P "HELD" 257 (.str "held" 256),kE P "REFUSED" 259 (.str "refused" 258),kE P "is_beaten" 265 (.ref 70),kE P "holds_by" 271 (.ref 75),kE P "refused_by" 277 (.ref 80),kE P "words_now" 290 (.ref 87),kE P "touched" 301 (.ref 94),kE P "most_rounds" 307 (.ref 99),kE P "Answers" 400 (.ref 172),kE P "Rule" 487 (.ref 242),kE P "Fact" 541 (.ref 291),kE P "Sure" 580 (.ref 324),kE P "Most" 612 (.ref 350),kE P "Block" 651 (.ref 383)] 31
def c6a:Obj:=kL [(1,0,20),(5,0,27),(10,0,32),(12,0,37),(15,0,44),(18,0,51),(25,0,57),(39,0,64),(45,0,69),(47,0,74),(54,0,79),(61,0,86),(69,0,93),(76,0,98),(94,0,105),(127,0,182),(154,0,252),(170,0,299),(180,0,332),(187,0,358)]
def c3a (P:Params):Heap:=⟨⟨[o0 P,o1 P,o2,g23 P]++S0 P++[c6a]++S1 P++[c0m,b9I,b9K,c0q,c0h]++S2 P⟩,{}⟩
theorem c5I:∀(w:World) (os:OsState),segRun treeTable PySem.Challenge.pw_mostwise_k46_whole_leaners_alone w 11 (some (.ref 6)) 1 1261 ⟨c3A w.params,#[],{},488,os⟩ (piecesOf (((behindTheImports PySem.Challenge.pw_mostwise_k46_whole_leaners_alone).drop 24).take 4) b6Q a4P ⟨127,0,153,16⟩ tFr)=some (.next,⟨c3a w.params,#[],{},652,os⟩,a4P,⟨187,0,196,17⟩):=fun w os=>by kernel_rfl
theorem b9T:∀(w:World) (os:OsState),topRun treeTable PySem.Challenge.pw_mostwise_k46_whole_leaners_alone w 11 (some (.ref 6)) 924 ⟨c3a w.params,#[],{},652,os⟩ (c0A 28 ⟨187,0,196,17⟩)=some ⟨H1 w.params,#[],{},882,os⟩:=fun w os=>by kernel_rfl
theorem c0j:∀(w:World) (os:OsState),topRun treeTable PySem.Challenge.pw_mostwise_k46_whole_leaners_alone w 11 (some (.ref 6)) 3597 ⟨H0 w.params,#[],{},181,os⟩ (topStub PySem.Challenge.pw_mostwise_k46_whole_leaners_alone)=some ⟨H1 w.params,#[],{},882,os⟩:=fun w os=>go_top (n:=12) (c0f w os) (piece_block (n:=1) (b4a w os) (a4r (c5V w os) (a4r (c5I w os) (b9T w os))))
end
end K46
namespace K46
open PySem PySem.W L2
def adr:Adr:=⟨28,kG "keyed" "keyed" b0R m1 27,33,kG "all_among" "all_among" a7T m1 32,38,kG "any_among" "any_among" a8h m1 37,45,kG "opposite" "opposite" b0x m2 44,52,kG "heads_by_premise" "heads_by_premise" b1e m3 51,58,Yr "sure_rounds" "sure_rounds" (a1x a2B) (a1d a2B) (a0c a2B) (.ref 53) .none .none m4 none (.ref 57) .none,53,65,kG "sure_steps" "sure_steps" a7F m4 64,70,kG "is_beaten" "is_beaten" a8f m5 69,75,kG "holds_by" "holds_by" a6w m5 74,80,kG "refused_by" "refused_by" a6D m5 79,87,kG "words_now" "words_now" a8N m5 86,94,kG "touched" "touched" a9l m5 93,99,kG "most_rounds" "most_rounds" a4a m5 98,113,kG "__init__" "Answers.__init__" b0z m5 112,120,kG "word_and_rank" "Answers.word_and_rank" b0B m5 119,127,kG "sure" "Answers.sure" b2e m5 126,134,kG "held" "Answers.held" a9z m5 133,141,kG "refused" "Answers.refused" b0P m5 140,155,kG "rank" "Answers.rank" b1c m5 154,169,kG "sures" "Answers.sures" b1f m5 168,190,kG "__init__" "Rule.__init__" a9u m6 189,204,kG "speaks" "Rule.speaks" a9c m6 203,211,kG "is_sure" "Rule.is_sure" a8J m6 210,260,kG "__init__" "Fact.__init__" b1i m6 259,274,kG "is_sure" "Fact.is_sure" a8U m6 273,314,kG "is_sure" "Sure.is_sure" a9A m6 313,373,kG "speaks" "Block.speaks" b0F m6 372,399,kG "__init__" "Ground.__init__" b1h m7 398,406,kG "rules" "Ground.rules" a9F m7 405,413,kG "ruling" "Ground.ruling" a9K m7 412,418,kG "speaking" "Ground.speaking" a8n m7 417,425,kG "against" "Ground.against" b0S m7 424,432,kG "beats" "Ground.beats" a8x m7 431,439,kG "statements" "Ground.statements" b1g m7 438,460,kG "_law_cell_at" "_law_cell_at" a8L m8 459,467,kG "_law_mix" "_law_mix" a9x m8 466,474,kG "_law_word" "_law_word" b0o m8 473,479,kG "_law_pool" "_law_pool" a7K m8 478,484,kG "_law_row" "_law_row" a6k m8 483,491,kG "_law_made" "_law_made" a8X m8 490,496,kG "_law_labels" "_law_labels" a7B m8 495,503,kG "_law_row_by_digits" "_law_row_by_digits" a9s m8 502,508,kG "_law_rows" "_law_rows" a6u m8 507,515,kG "_law_pairs" "_law_pairs" a9Q m8 514,522,kG "_law_pairs_by_digits" "_law_pairs_by_digits" a8y m8 521,529,kG "_law_other" "_law_other" b0p m8 528,534,kG "_law_above" "_law_above" a7E m8 533,541,kG "_law_word_of" "_law_word_of" a9j m8 540,546,kG "law" "law" a2s m8 545,172,242,291,324,350,383,449,60⟩
theorem b6I {K:Qc} {n q:String} {s:Stmt} {m:Value} {f c:Nat} (l:K.lookup f=some (kF n q s m c)) (e:Jb K (.ref c) q=true) (k:Zb K (.ref f)=true):Fun K n q s f (kG n q s m c):=b9b l e k
theorem txt (P:Params) {h:Heap} {mg:Str→Option Value} (X:(b2E P).In h) (G:h.Ns mainGlobals mg):Txt (b2E P) mg adr:=by
 constructor
 case F_z0n=>exact (a6f (f:=58) (st:=a2B) (ds:=[Value.none]) (oc:=.type "function") (od:=none) (osl:=#[]) (oT:=⟨.type "tuple",none,.seq #[.none] 0,#[]⟩) (nT:=0) (by kernel_rfl) (by kernel_rfl) (by kernel_rfl) (by kernel_rfl) rfl)
 case b_z0n=>exact b2Z.binds (x:="sure_rounds") (qual:="sure_rounds") (ps:=["rules","known"]) [] (a6f (f:=58) (st:=a2B) (ds:=[Value.none]) (oc:=.type "function") (od:=none) (osl:=#[]) (oT:=⟨.type "tuple",none,.seq #[.none] 0,#[]⟩) (nT:=0) (by kernel_rfl) (by kernel_rfl) (by kernel_rfl) (by kernel_rfl) rfl) fun _ _ _ _ _ _ us hl=>match us,hl with | [_,_],_=>⟨_,rfl,rfl⟩
 case bd_z0n=>exact b2Z.binds (x:="sure_rounds") (qual:="sure_rounds") (ps:=["rules","known"]) [Value.none] (a6f (f:=58) (st:=a2B) (ds:=[Value.none]) (oc:=.type "function") (od:=none) (osl:=#[]) (oT:=⟨.type "tuple",none,.seq #[.none] 0,#[]⟩) (nT:=0) (by kernel_rfl) (by kernel_rfl) (by kernel_rfl) (by kernel_rfl) rfl) fun _ _ _ _ _ _ us hl=>match us,(show us.length=1 from by rw [Xn] at hl;exact Nat.succ.inj hl) with | [_],_=>⟨_,rfl,rfl⟩
 case k_HELD=>exact ⟨256,Ux X G (by kernel_rfl)⟩
 case k_REFUSED=>exact ⟨258,Ux X G (by kernel_rfl)⟩
 all_goals first
  | exact b6I (by kernel_rfl) (by kernel_rfl) (by kernel_rfl)
  | exact .all fun us hl=>match us,hl with | [_],_=>rfl
  | exact .all fun us hl=>match us,hl with | [_,_],_=>rfl
  | exact .all fun us hl=>match us,hl with | [_,_,_],_=>rfl
  | exact .all fun us hl=>match us,hl with | [_,_,_,_],_=>rfl
  | exact .all fun us hl=>match us,hl with | [_,_,_,_,_],_=>rfl
  | exact Ux X G (by kernel_rfl)
  | exact PySem.W.mg_none_of X G (by kernel_rfl)
  | kernel_rfl
  | exact ⟨by kernel_rfl,by kernel_rfl,by kernel_rfl⟩
  | exact ⟨by kernel_rfl,by kernel_rfl,by kernel_rfl,by kernel_rfl⟩
  | exact (by kernel_rfl:Yo _ _ _=_)
  | exact b7Q (by k_is) (by kernel_rfl) (by kernel_rfl) (by kernel_rfl)
  | exact b3O (bm:=4) (Ux X G (by kernel_rfl)) (by kernel_rfl)
end K46
theorem K46.said0 : PySem.Challenge.rw_mostwise_k46_whole_leaners_alone.wellSaid = true := by kernel_rfl
set_option maxRecDepth 100000 in
set_option maxHeartbeats 0 in
theorem PySem.Challenge.cw_mostwise_k46_whole_leaners_alone_holds : PySem.Challenge.rw_mostwise_k46_whole_leaners_alone.Holds := by
 w_on;refine PySem.W.holds_law K46.said0 fun said=>?_
 refine PySem.W.holds_open (q:=K46.b5B) (loose:=[("sure_rounds":PySem.Str)]) (Xt:=fun s=>PySem.W.xlAt K46.b5B [] s && PySem.W.recOk (PySem.W.RowW.records (PySem.W.OpenRow.toRowW PySem.Challenge.rw_mostwise_k46_whole_leaners_alone.row)) s) (XP:=PySem.W.XL K46.b5B []) (Yf:=Ui.obs (Jx K46.a4u K46.a4q K46.a5m)) (Ya:=Ui.val (Jx K46.a4u K46.a4q K46.a5m)) (YP:=Ui.says (Jx K46.a4u K46.a4q K46.a5m)) (N:=7284) ?hl (Ui.of (Jx K46.a4u K46.a4q K46.a5m)) (Ui.keeps (Jx K46.a4u K46.a4q K46.a5m)) (fun s e=>PySem.W.xl_of s (Jg.mp e).1) PySem.W.XL.keeps (by rfl) (by rfl) (by rfl) (fun s e=>PySem.W.recFacts_of (Jg.mp e).2) (by rfl) (by first | assumption | decide+kernel) (by decide+kernel) ⟨rfl,rfl,rfl,rfl,rfl,by decide+kernel⟩ ?hw ?hc
 (case hl=>refine PySem.W.LeftO.of_pieces (H₀:=K46.H0) (H₁:=K46.H1) (gs₀:=#[]) (gs₁:=#[]) (d₀:={}) (d₁:={}) (k₀:=181) (k₁:=882) (m₀:=11) (ann:=(some (.ref 6))) (M:=3597) K46.b8o ?_ K46.c0j rfl ?_<;>(intro w;kernel_rfl))
 (case hw=>w_witness2)
 refine L2.a8K (l:=PySem.Challenge.rw_mostwise_k46_whole_leaners_alone) (n:=63) (k:=10) (x:="_law_script") (CX:=L2.CX0) (K:=K46.b2E) (sp:=K46.b4h 60) 60 64 rfl (by decide) rfl ⟨rfl,by decide,by decide⟩ (fun w h Y=>L2.b4r (PySem.W.kIn_of Y) (by kernel_rfl)) (fun w=>by kernel_rfl) (fun w=>by kernel_rfl) ?F (fun K H a ns hl hO hS=>K46.b1D hl hO hS) (fun _ _ _ _ z=>z)
 case F=>
  intro w mg fa h KX G hmg
  have T:K46.Txt (L2.KOf KX) mg K46.adr:=K46.txt w.params KX G
  obtain ⟨_,_,_,_,_,_,_,_,_,e2,_,_⟩:=T.F_d_law.ex
  have e0:=hmg.symm.trans T.g_d_law
  cases e0
  exact ⟨K46.adr.fd_d_law,fun s u=>by rw [e2];exact .of_eq rfl,fun base kb nb=>K46.b1V T⟩
