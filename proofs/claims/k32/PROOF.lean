import PyProof.Rows.All
import Wide.All
import OpenK.AllK
import Wide.FinOn
import Lean
import PyProof.EqAt
import PyProof.EqKinds
import PyProof.TupleCall
import PyProof.StrLawsChain
import PyProof.StrLawsIn
import PyProof.Rows.StrNews2
import PyProof.StrBlockL
import PyProof.Rows.StrClose3
import PyProof.Rows.StrClose5
import PyProof.Rows.StrFirst
import PyProof.WalkInts
import PyProof.StrOps
import PyProof.WalksEnum
import PyProof.EnumMake
import PyProof.NeKinds
import KE.KEqDict
import KE.KRevIter
import PyProof.DictWalks
import PyProof.DictValues
import PyProof.ListRange
import PyProof.CollectIter
import PyProof.ZipIter
import PyProof.Rows.ZipGen
import PyProof.FString5
import KE.KDictLaws
import KE.KDictSum
import KE.KSortTup
import PyProof.Rows.SortStr
import PyProof.DictItems
import KE.KPairComp
import KE.KUnpack
import PyProof.P3Eq
import PySem.Challenge.RW_mostwise_k32_sure_steps
set_option Elab.async false
set_option linter.all false
set_option maxRecDepth 100000
set_option maxHeartbeats 4000000
namespace L2
open PySem PySem.Spec PyProof.Rows
abbrev Key := Sum Int Str
def keyIs : Key → Value → Bool
  | .inl k, v => Value.isInt k v
  | .inr x, v => Value.isStrOf x v
def keyH (w : World) : Key → Int
  | .inl k => hashInt k
  | .inr x => hashStr w x
theorem keyIs_shape : ∀ {k : Key} {v : Value}, keyIs k v = true → (∃ i t, k = Sum.inl i ∧ v = Value.int i t) ∨ (∃ x t, k = Sum.inr x ∧ v = Value.str x t)
  | .inl i, v, h => by
    obtain ⟨t, e⟩ := Value.isInt_shape (k := i) (v := v) h
    exact .inl ⟨i, t, rfl, e⟩
  | .inr x, v, h => by
    obtain ⟨t, e⟩ := Value.isStrOf_shape (x := x) (v := v) h
    exact .inr ⟨x, t, rfl, e⟩
theorem keyIs_int (i : Int) (t : Tok) : keyIs (.inl i) (.int i t) = true := by simp [keyIs, Value.isInt]
theorem keyIs_str (x : Str) (t : Tok) : keyIs (.inr x) (.str x t) = true := by simp [keyIs, Value.isStrOf]
theorem key_ll (a b : Int) : decide ((Sum.inl a : Key) = Sum.inl b) = (a == b) := by
  by_cases e : a = b
  · subst e; simp
  · have h : ¬ (Sum.inl a : Key) = Sum.inl b := fun q => e (Sum.inl.inj q)
    rw [decide_eq_false h]
    exact (beq_eq_false_iff_ne.mpr e).symm
theorem key_rr (a b : Str) : decide ((Sum.inr a : Key) = Sum.inr b) = decide (a = b) := by
  by_cases e : a = b
  · subst e; simp
  · have h : ¬ (Sum.inr a : Key) = Sum.inr b := fun q => e (Sum.inr.inj q)
    rw [decide_eq_false h, decide_eq_false e]
theorem key_lr (a : Int) (b : Str) : decide ((Sum.inl a : Key) = Sum.inr b) = false := decide_eq_false (fun q => nomatch q)
theorem key_rl (a : Str) (b : Int) : decide ((Sum.inr a : Key) = Sum.inl b) = false := decide_eq_false (fun q => nomatch q)
def mixKind (prog : Program) (w : World) : PySem.KeyKind prog w Key where
  is := keyIs
  hash := keyH w
  inj := fun v a b ha hb => by
    rcases keyIs_shape ha with ⟨i, t, rfl, rfl⟩ | ⟨x, t, rfl, rfl⟩
    · rcases keyIs_shape hb with ⟨j, u, rfl, e⟩ | ⟨y, u, rfl, e⟩
      · injection e with e1 _; rw [e1]
      · exact nomatch e
    · rcases keyIs_shape hb with ⟨j, u, rfl, e⟩ | ⟨y, u, rfl, e⟩
      · exact nomatch e
      · injection e with e1 _; rw [e1]
  byValue := fun k v h => by
    rcases keyIs_shape h with ⟨i, t, rfl, rfl⟩ | ⟨x, t, rfl, rfl⟩ <;> rfl
  pyHash := fun hv h => by
    rcases keyIs_shape hv with ⟨i, t, rfl, rfl⟩ | ⟨x, t, rfl, rfl⟩
    · exact wpAny_pyHash_int h
    · exact wpAny_pyHash_str h
  eqBool := fun hu hv h => by
    rcases keyIs_shape hu with ⟨i, t, rfl, rfl⟩ | ⟨x, t, rfl, rfl⟩
    · rcases keyIs_shape hv with ⟨j, u, rfl, rfl⟩ | ⟨y, u, rfl, rfl⟩
      · rw [key_ll] at h; exact wpAny_eqBool_int h
      · rw [key_lr] at h; exact SeqAt.EqAt.int_str i t y u _ _ _ _ h
    · rcases keyIs_shape hv with ⟨j, u, rfl, rfl⟩ | ⟨y, u, rfl, rfl⟩
      · rw [key_rl] at h; exact SeqAt.EqAt.str_int x t j u _ _ _ _ h
      · rw [key_rr] at h; exact wpAny_eqBool_str h
  «strs» := fun k x t v h => by
    rcases keyIs_shape h with ⟨i, u, rfl, e⟩ | ⟨y, u, rfl, e⟩
    · exact nomatch e
    · injection e with e1 _
      subst e1
      cases v <;> rfl
theorem mixKind_int (prog : Program) (w : World) (i : Int) (t : Tok) : (mixKind prog w).is (.inl i) (.int i t) = true := keyIs_int i t
theorem mixKind_str (prog : Program) (w : World) (x : Str) (t : Tok) : (mixKind prog w).is (.inr x) (.str x t) = true := keyIs_str x t
end L2
namespace L2
open PySem PySem.Spec PyProof.Rows
inductive V where
  | non | bl (b : Bool) | int (i : Int) | str (x : Str) | byt (b : Array UInt8) | flt (b : UInt64) | ref (a : Addr) | ty (n : String)
  deriving DecidableEq
def RelV : V → Value → Prop
  | .non, u => u = Value.none
  | .bl b, u => u = Value.bool b
  | .int i, u => ∃ t, u = Value.int i t
  | .str x, u => ∃ t, u = Value.str x t
  | .byt b, u => ∃ t, u = Value.bytes b t
  | .flt b, u => ∃ t, u = Value.float b t
  | .ref a, u => u = Value.ref a
  | .ty n, u => u = Value.type n
abbrev Vals : List V → List Value → Prop := Paired RelV
theorem Vals.length {xs : List V} {us : List Value} (r : Vals xs us) : xs.length = us.length := Paired.length r
theorem Vals.get : ∀ {xs : List V} {us : List Value} {i : Nat} {x : V}, Vals xs us → xs[i]? = some x → ∃ u, us[i]? = some u ∧ RelV x u
  | _, _, _, _, .nil, e => by simp at e
  | _, _, 0, _, .cons r _, e => by simp at e; subst e; exact ⟨_, rfl, r⟩
  | _, _, i + 1, x, .cons _ t, e => by
    obtain ⟨u, h1, h2⟩ := Vals.get (i := i) (x := x) t (by simpa using e)
    exact ⟨u, by simpa using h1, h2⟩
theorem Vals.set {x : V} {u : Value} (r : RelV x u) : ∀ {xs : List V} {us : List Value} (i : Nat), Vals xs us → Vals (xs.set i x) (us.set i u)
  | _, _, _, .nil => .nil
  | _, _, 0, .cons _ t => .cons r t
  | _, _, i + 1, .cons q t => .cons q (Vals.set r i t)
theorem Vals.append : ∀ {xs ys : List V} {us ws : List Value}, Vals xs us → Vals ys ws → Vals (xs ++ ys) (us ++ ws)
  | _, _, _, _, .nil, s => s
  | _, _, _, _, .cons r t, s => .cons r (Vals.append t s)
theorem Vals.take : ∀ {xs : List V} {us : List Value} (n : Nat), Vals xs us → Vals (xs.take n) (us.take n)
  | _, _, 0, _ => .nil
  | _, _, _ + 1, .nil => .nil
  | _, _, n + 1, .cons r t => .cons r (Vals.take n t)
theorem Vals.drop : ∀ {xs : List V} {us : List Value} (n : Nat), Vals xs us → Vals (xs.drop n) (us.drop n)
  | _, _, 0, r => r
  | _, _, _ + 1, .nil => .nil
  | _, _, n + 1, .cons _ t => Vals.drop n t
theorem Vals.none_of : ∀ {xs : List V} {us : List Value} {i : Nat}, Vals xs us → xs[i]? = none → us[i]? = none := fun {xs us i} r e => by
  have h1 := r.length
  have h2 : xs.length ≤ i := List.getElem?_eq_none_iff.mp e
  exact List.getElem?_eq_none_iff.mpr (by omega)
def RelO : Option V → Option Value → Prop
  | some v, some u => RelV v u
  | none, none => True
  | _, _ => False
def KV {κ : Type} : List (κ × V) → List (κ × Value) → Prop := Paired fun (p : κ × V) (q : κ × Value) => p.1 = q.1 ∧ RelV p.2 q.2
def kV : Key → V
  | .inl i => .int i
  | .inr x => .str x
inductive HO where
  | lst (xs : List V)
  | tup (xs : List V)
  | dK (kvs : List (Key × V)) | dT (kvs : List (List Key × V))
  | set (S : Int → Bool) (n : Nat)
  | ins (C dx : Addr) (fs : List (Str × V))
  | own (x : Addr)
  | xd (fs : List (Str × V))
  | met (f x : Addr)
  | rng (lo hi : Int)
  | frz (o : Obj) (u : HO)
  | tbl (ps : Array Value)
  | ext (φ : Heap → Prop)
abbrev Hp := Addr → Option HO
def upd (H : Hp) (a : Addr) (o : HO) : Hp := fun b => if b = a then some o else H b
theorem upd_same {H : Hp} {a : Addr} {o : HO} : upd H a o a = some o := by unfold upd; rw [if_pos rfl]
theorem upd_ne {H : Hp} {a b : Addr} {o : HO} (h : b ≠ a) : upd H a o b = H b := by unfold upd; rw [if_neg h]
theorem upd_upd {H : Hp} {a : Addr} {o u : HO} : upd (upd H a o) a u = upd H a u := by
  funext b; unfold upd; split <;> rfl
theorem ne_of {H : Hp} {a b : Addr} {o u : HO} (h : H a = some o) (h' : H b = some u) (d : o ≠ u) : a ≠ b := by
  intro e; subst e; rw [h] at h'; exact d (Option.some.inj h')
theorem ne_of_none {H : Hp} {a b : Addr} {o : HO} (h : H a = some o) (h' : H b = none) : a ≠ b := by
  intro e; subst e; rw [h] at h'; cases h'
section
variable (P : Program) (w : World)
def ObjOk (H : Hp) (h : Heap) (a : Addr) : HO → Prop
  | .lst xs => xs.length ≤ sizeLine ∧ ∃ (its : List Value) (n : Nat), Vals xs its ∧ h.get? a = some { cls := .type "list", data := .seq its.toArray n }
  | .tup xs => xs.length ≤ sizeLine ∧ ∃ its : List Value, Vals xs its ∧ IsTup h a its.toArray
  | .dK kvs => kvs.length ≤ sizeLine ∧ (a == sysModules) = false ∧ ∃ vs, KV kvs vs ∧ h.DictOf (mixKind P w) a vs
  | .dT kvs => kvs.length ≤ sizeLine ∧ (a == sysModules) = false ∧ ∃ xs : List (List Key × Addr × Value),
      Paired (fun (p : List Key × V) (q : List Key × Addr × Value) => p.1 = q.1 ∧ H q.2.1 = some (.tup (p.1.map kV)) ∧ RelV p.2 q.2.2) kvs xs ∧
      ∃ o es ep, h.get? a = some o ∧ o.ExactDict ∧ o.data = .dict es ep ∧ es.toList = xs.map (entryOfKey (tupleKind (mixKind P w))) ∧ (xs.map (·.1)).Nodup
  | .set S n => h.SetOf (intKind P w) a S n
  | .ins C dx fs => H dx = some (.own a) ∧ fs.length ≤ 1000 ∧ dx ≠ a ∧ h.get? a = some (PySem.W.instObj C dx) ∧
      ∃ mA, h.Ns1 dx mA ∧ (∀ f, RelO (fs.lookup f) (mA f)) ∧ PySem.Within mA (fs.map (·.1))
  | .own _ => ∃ o, h.get? a = some o
  | .xd fs => ∃ mA, h.Ns1 a mA ∧ ∀ f, RelO (fs.lookup f) (mA f)
  | .rng lo hi => ∃ t u v, h.get? a = some { cls := .type "range", data := .fields #[.int lo t, .int hi u, .int 1 v] }
  | .frz o u => h.get? a = some o ∧ ObjOk H h a u
  | .tbl ps => h.get? a = some { cls := .none, data := .fields ps }
  | .met f x => h.get? a = some (PySem.W.methodObj (.ref f) (.ref x))
  | .ext φ => φ h ∧ (∃ o, h.get? a = some o) ∧ ∀ h1 h2 : Heap, φ h1 → (∀ o, h1.get? a = some o → h2.get? a = some o) → φ h2
def HOk (H : Hp) (h : Heap) : Prop := ∀ a o, H a = some o → ObjOk P w H h a o
end
section
variable {P : Program} {w : World} {H H' : Hp} {h h' : Heap} {a : Addr} {o : HO}
theorem ObjOk.lt (x : ObjOk P w H h a o) : a < h.objs.size := by
  cases o with
  | lst xs => obtain ⟨_, _, _, _, e⟩ := x; exact Heap.lt_size e
  | tup xs => obtain ⟨_, _, _, p⟩ := x; exact p.lt
  | dK kvs => obtain ⟨_, _, _, _, o, _, _, e, _⟩ := x; exact Heap.lt_size e
  | dT kvs => obtain ⟨_, _, _, _, o, _, _, e, _⟩ := x; exact Heap.lt_size e
  | set S n => obtain ⟨o, _, _, _, e, _⟩ := x; exact Heap.lt_size e
  | ins C dx fs => obtain ⟨_, _, _, e, _⟩ := x; exact Heap.lt_size e
  | own y => obtain ⟨_, e⟩ := x; exact Heap.lt_size e
  | xd fs => obtain ⟨_, ⟨_, _, _, e, _⟩, _⟩ := x; exact Heap.lt_size e
  | rng lo hi => obtain ⟨_, _, _, e⟩ := x; exact Heap.lt_size e
  | frz ob u => obtain ⟨e, _⟩ := x; exact Heap.lt_size e
  | tbl ps => exact Heap.lt_size (show h.get? a = some _ from x)
  | met f y => exact Heap.lt_size (show h.get? a = some _ from x)
  | ext φ => obtain ⟨_, ⟨_, e⟩, _⟩ := x; exact Heap.lt_size e
theorem Paired.mapP {α β : Type} {F G : α → β → Prop} : ∀ {l₁ : List α} {l₂ : List β}, Paired F l₁ l₂ → (∀ a b, F a b → G a b) → Paired G l₁ l₂
  | _, _, .nil, _ => .nil
  | _, _, .cons r t, f => .cons (f _ _ r) (Paired.mapP t f)
theorem ObjOk.stay (x : ObjOk P w H h a o) (k : ∀ b u, (b = a ∨ H b = some (.own a)) → h.get? b = some u → h'.get? b = some u)
    (ho : ∀ b, H b = some (.own a) → H' b = some (.own a)) (ht : ∀ b xs, H b = some (.tup xs) → H' b = some (.tup xs)) : ObjOk P w H' h' a o := by
  induction o with
  | lst xs => obtain ⟨z, its, n, r, e⟩ := x; exact ⟨z, its, n, r, k _ _ (.inl rfl) e⟩
  | tup xs => obtain ⟨z, its, r, ob, e, c⟩ := x; exact ⟨z, its, r, ob, k _ _ (.inl rfl) e, c⟩
  | dK kvs => obtain ⟨z, y, vs, r, ob, es, ep, e, c⟩ := x; exact ⟨z, y, vs, r, ob, es, ep, k _ _ (.inl rfl) e, c⟩
  | dT kvs =>
    obtain ⟨z, y, xs, r, ob, es, ep, e, c⟩ := x
    exact ⟨z, y, xs, Paired.mapP r fun p q z => ⟨z.1, ht _ _ z.2.1, z.2.2⟩, ob, es, ep, k _ _ (.inl rfl) e, c⟩
  | set S n => obtain ⟨ob, es, ep, t, e, c⟩ := x; exact ⟨ob, es, ep, t, k _ _ (.inl rfl) e, c⟩
  | ins C dx fs =>
    obtain ⟨d, z, ne, e, mA, ⟨od, es, ep, e2, c⟩, r⟩ := x
    exact ⟨ho _ d, z, ne, k _ _ (.inl rfl) e, mA, ⟨od, es, ep, k _ _ (.inr d) e2, c⟩, r⟩
  | own y => obtain ⟨ob, e⟩ := x; exact ⟨ob, k _ _ (.inl rfl) e⟩
  | xd fs => obtain ⟨mA, ⟨od, es, ep, e, c⟩, r⟩ := x; exact ⟨mA, ⟨od, es, ep, k _ _ (.inl rfl) e, c⟩, r⟩
  | rng lo hi => obtain ⟨t, u, v, e⟩ := x; exact ⟨t, u, v, k _ _ (.inl rfl) e⟩
  | frz ob u ih => obtain ⟨e, q⟩ := x; exact ⟨k _ _ (.inl rfl) e, ih q⟩
  | tbl ps =>
    have e : h.get? a = some { cls := .none, data := .fields ps } := x
    show h'.get? a = some { cls := .none, data := .fields ps }
    exact k a _ (.inl rfl) e
  | met f y =>
    have e : h.get? a = some (PySem.W.methodObj (.ref f) (.ref y)) := x
    show h'.get? a = some (PySem.W.methodObj (.ref f) (.ref y))
    exact k a _ (.inl rfl) e
  | ext φ => obtain ⟨p, ⟨o, e⟩, st⟩ := x; exact ⟨st _ _ p fun o q => k _ _ (.inl rfl) q, ⟨o, k _ _ (.inl rfl) e⟩, st⟩
theorem HOk.lt (x : HOk P w H h) (e : H a = some o) : a < h.objs.size := (x a o e).lt
theorem HOk.fresh (x : HOk P w H h) (e : h.objs.size ≤ a) : H a = none := by
  cases q : H a with
  | none => rfl
  | some u => exact absurd (Nat.lt_of_lt_of_le (x.lt q) e) (Nat.lt_irrefl _)
theorem HOk.kept (x : HOk P w H h) (k : ∀ b u, h.get? b = some u → h'.get? b = some u) : HOk P w H h' := fun a o e =>
  (x a o e).stay (fun b u _ q => k b u q) (fun _ q => q) fun _ _ q => q
theorem HOk.laid (x : HOk P w H h) (k : ∀ b u, h.get? b = some u → h'.get? b = some u) (hp : h.objs.size ≤ a) (new : ObjOk P w (upd H a o) h' a o) : HOk P w (upd H a o) h' := fun b u e => by
  have hn := x.fresh hp
  by_cases hb : b = a
  · subst hb; rw [upd_same] at e; cases e; exact new
  · rw [upd_ne hb] at e
    exact (x b u e).stay (fun c v _ q => k c v q) (fun c q => by rw [upd_ne (ne_of_none q hn)]; exact q) fun c xs q => by rw [upd_ne (ne_of_none q hn)]; exact q
end
def Rd (H : Hp) (a : Addr) (u : HO) : Prop := H a = some u ∨ ∃ o, H a = some (.frz o u)
theorem Rd.of {H : Hp} {a : Addr} {u : HO} (h : H a = some u) : Rd H a u := .inl h
theorem Rd.ok {P : Program} {w : World} {H : Hp} {h : Heap} {a : Addr} {u : HO} (r : Rd H a u) (x : HOk P w H h) : ObjOk P w H h a u := by
  rcases r with r | ⟨o, r⟩
  · exact x a u r
  · obtain ⟨_, q⟩ := x a _ r
    exact q
def Mut : Option HO → Prop
  | some (.lst _) => True
  | some (.dK _) => True
  | some (.dT _) => True
  | some (.set _ _) => True
  | some (.ins _ _ _) => True
  | some (.ext _) => True
  | _ => False
section
variable {P : Program} {w : World} {H : Hp} {h h' : Heap} {x e : Addr} {o' : HO}
theorem HOk.write (ok : HOk P w H h) (mu : Mut (H x)) (he : e = x ∨ H e = some (.own x)) (k : ∀ b u, b ≠ e → h.get? b = some u → h'.get? b = some u) (heo : ∃ u, h'.get? e = some u)
    (new : ObjOk P w (upd H x o') h' x o') : HOk P w (upd H x o') h' := fun b u q => by
  have nown : ∀ c y, H c = some (.own y) → c ≠ x := fun c y r z => by subst z; rw [r] at mu; exact mu
  have ntup : ∀ c xs, H c = some (.tup xs) → c ≠ x := fun c xs r z => by subst z; rw [r] at mu; exact mu
  by_cases hb : b = x
  · subst hb; rw [upd_same] at q; cases q; exact new
  · rw [upd_ne hb] at q
    by_cases hbe : b = e
    · have q' : H b = some (.own x) := by
        rcases he with z | z
        · exact absurd (hbe.trans z) hb
        · rw [hbe]; exact z
      rw [q] at q'; cases q'
      obtain ⟨v, hv⟩ := heo
      exact ⟨v, by rw [hbe]; exact hv⟩
    · refine (ok b u q).stay (fun c v hc r => k c v ?_ r) (fun c r => by rw [upd_ne (nown c b r)]; exact r) fun c xs r => by rw [upd_ne (ntup c xs r)]; exact r
      rcases hc with rfl | hc
      · exact hbe
      · rintro rfl
        rcases he with z | z
        · exact nown c b hc z
        · rw [hc] at z; cases z; exact hb rfl
end
structure Un (fs ex : List Addr) (H H' : Hp) (h h' : Heap) : Prop where
  keep : ∀ b o, h.get? b = some o → H b = none → b ∉ fs → b ∉ ex → h'.get? b = some o
  slot : ∀ b o, h.get? b = some o → H b = none → b ∈ fs → b ∉ ex → ∃ sl, h'.get? b = some { o with slots := sl }
  free : ∀ b o, h.get? b = some o → H b = none → b ∉ ex → H' b = none
  there : ∀ b o, h.get? b = some o → b ∉ ex → ∃ o', h'.get? b = some o'
  tups : ∀ b xs, H b = some (.tup xs) → H' b = some (.tup xs)
  frzs : ∀ b o u, H b = some (.frz o u) → H' b = some (.frz o u)
  tbls : ∀ b ps, H b = some (.tbl ps) → ∃ more, H' b = some (.tbl (ps ++ more))
section
variable {fs fs' ex ex' : List Addr} {H H1 H2 : Hp} {h h1 h2 h' : Heap} {a x e : Addr} {o : HO}
theorem Un.any (u : Un fs ex H H1 h h1) {b : Addr} {ob : Obj} (q : h.get? b = some ob) (n : H b = none) (hx : b ∉ ex) : ∃ sl, h1.get? b = some { ob with slots := sl } := by
  by_cases hb : b ∈ fs
  · exact u.slot b ob q n hb hx
  · exact ⟨ob.slots, u.keep b ob q n hb hx⟩
theorem Un.trans (a : Un fs ex H H1 h h1) (b : Un fs ex H1 H2 h1 h2) : Un fs ex H H2 h h2 where
  keep := fun c ob q n hc hx => b.keep c ob (a.keep c ob q n hc hx) (a.free c ob q n hx) hc hx
  slot := fun c ob q n hc hx => by
    obtain ⟨sl, e1⟩ := a.slot c ob q n hc hx
    obtain ⟨sl', e2⟩ := b.slot c _ e1 (a.free c ob q n hx) hc hx
    exact ⟨sl', e2⟩
  free := fun c ob q n hx => by
    obtain ⟨o', e1⟩ := a.there c ob q hx
    exact b.free c o' e1 (a.free c ob q n hx) hx
  there := fun c ob q hx => by
    obtain ⟨o', e1⟩ := a.there c ob q hx
    exact b.there c o' e1 hx
  tups := fun c xs q => b.tups c xs (a.tups c xs q)
  frzs := fun c ob xs q => b.frzs c ob xs (a.frzs c ob xs q)
  tbls := fun c ps q => by
    obtain ⟨m1, e1⟩ := a.tbls c ps q
    obtain ⟨m2, e2⟩ := b.tbls c _ e1
    exact ⟨m1 ++ m2, by rw [e2, Array.append_assoc]⟩
theorem Un.kept (k : ∀ b u, h.get? b = some u → h'.get? b = some u) : Un fs ex H H h h' :=
  ⟨fun b ob q _ _ _ => k b ob q, fun b ob q _ _ _ => ⟨ob.slots, k b ob q⟩, fun _ _ _ n _ => n, fun b ob q _ => ⟨ob, k b ob q⟩, fun _ _ q => q, fun _ _ _ q => q, fun _ ps q => ⟨#[], by rw [q]; simp⟩⟩
theorem Un.refl : Un fs ex H H h h := Un.kept fun _ _ q => q
theorem Un.laid (k : ∀ b u, h.get? b = some u → h'.get? b = some u) (hp : h.objs.size ≤ a) (hn : H a = none) : Un fs ex H (upd H a o) h h' where
  keep := fun b u q _ _ _ => k b u q
  slot := fun b u q _ _ _ => ⟨u.slots, k b u q⟩
  free := fun b u q n _ => by rw [upd_ne (Nat.ne_of_lt (Nat.lt_of_lt_of_le (Heap.lt_size q) hp))]; exact n
  there := fun b u q _ => ⟨u, k b u q⟩
  tups := fun b xs q => by rw [upd_ne (ne_of_none q hn)]; exact q
  frzs := fun b u xs q => by rw [upd_ne (ne_of_none q hn)]; exact q
  tbls := fun b ps q => ⟨#[], by rw [upd_ne (ne_of_none q hn), q]; simp⟩
theorem Un.write (mu : Mut (H x)) (he : e = x ∨ H e = some (.own x)) (k : ∀ b u, b ≠ e → h.get? b = some u → h'.get? b = some u) (heo : ∃ u, h'.get? e = some u) : Un fs ex H (upd H x o) h h' := by
  have hx : ∀ b, H b = none → b ≠ x := fun b n z => by subst z; rw [n] at mu; exact mu
  have hb : ∀ b, H b = none → b ≠ e := fun b n z => by
    subst z
    rcases he with r | r
    · exact hx b n r
    · rw [n] at r; cases r
  have hm : ∀ b u, H b = some u → ¬ Mut (some u) → b ≠ x := fun b u q nm z => by subst z; rw [q] at mu; exact nm mu
  refine ⟨fun b u q n _ _ => k b u (hb b n) q, fun b u q n _ _ => ⟨u.slots, k b u (hb b n) q⟩, fun b u q n _ => by rw [upd_ne (hx b n)]; exact n, fun b u q _ => ?_,
    fun b xs q => by rw [upd_ne (hm b _ q fun z => z)]; exact q, fun b u xs q => by rw [upd_ne (hm b _ q fun z => z)]; exact q, fun b ps q => ⟨#[], by rw [upd_ne (hm b _ q fun z => z), q]; simp⟩⟩
  by_cases hbe : b = e
  · subst hbe; exact heo
  · exact ⟨u, k b u hbe q⟩
theorem Un.mono (u : Un fs ex H H1 h h1) (hs : ∀ b ∈ fs, b ∈ fs') (hx : ∀ b ∈ ex, b ∈ ex') : Un fs' ex' H H1 h h1 :=
  ⟨fun b ob q n hb he => u.keep b ob q n (fun z => hb (hs b z)) fun z => he (hx b z), fun _ _ q n _ he => u.any q n fun z => he (hx _ z), fun b ob q n he => u.free b ob q n fun z => he (hx b z), fun b ob q he => u.there b ob q fun z => he (hx b z), u.tups, u.frzs, u.tbls⟩
end
def trk (h : Heap) (H : Hp) : List Addr := (List.range h.objs.size).filter fun a => (H a).isSome
def hidT (h : Heap) (H : Hp) : Heap := PySem.W.hideAll h (trk h H)
theorem hidT_size (h : Heap) (H : Hp) : (hidT h H).objs.size = h.objs.size := PySem.W.hideAll_size _ _
theorem hidT_get {h : Heap} {H : Hp} {b : Addr} {o : Obj} (e : h.get? b = some o) (n : H b = none) : (hidT h H).get? b = some o :=
  PySem.W.hideAll_get _ e fun hm => by
    have q : (H b).isSome = true := (List.mem_filter.mp hm).2
    rw [n] at q; simp at q
theorem of_hidT {h : Heap} {H : Hp} {b : Addr} {o : Obj} (e : (hidT h H).get? b = some o) : h.get? b = some o ∧ H b = none := by
  have e' : h.get? b = some o := PySem.W.of_hideAll (trk h H) e
  refine ⟨e', ?_⟩
  cases q : H b with
  | none => rfl
  | some x =>
    have hm : b ∈ trk h H := List.mem_filter.mpr ⟨List.mem_range.mpr (Heap.lt_size e'), by simp [q]⟩
    have z : (hidT h H).get? b = none := PySem.W.hideAll_none (trk h H) hm
    rw [z] at e; cases e
def allNews (g h : Heap) (L : Addr) : List (Addr × Obj) := (List.range h.objs.size).filterMap fun a => if a = L ∨ (g.get? a).isSome = true then none else (h.get? a).map fun o => (a, o)
def rest (g h : Heap) (L d : Addr) : List (Addr × Obj) := (allNews g h L).filter fun p => decide (p.1 ≠ d)
end L2
namespace L2
open PySem PySem.Spec PyProof.Rows
structure Mod (K : PySem.W.Frag) (mg : Str → Option Value) (base : Heap) : Prop where
  kin : K.In base
  glob : base.Ns mainGlobals mg
  blt : ∃ mb, base.Ns builtinsNs mb ∧ ∀ x : Str, x ≠ "__name__" → mb x = bootBuiltins x
  nolimit : base.NoLimit
structure Cx where
  prog : Program
  w : World
  K : PySem.W.Frag
  mg : Str → Option Value
  base : Heap
  A : Around
  N : List Str
  s₀ : Shared
  H₀ : Hp
  env : Env
  outer : List Env
  stack : List Env
  ex : List Addr
  fn : Str → Bool
  calm : Bool
  pn : List (Addr × Obj)
  xe : Value → Shared → Prop
def frs (l : List Env) : List Addr := l.filterMap (·.frame)
abbrev Cx.fs (X : Cx) : List Addr := frs X.outer
def Vis (sc : Scope) (x : Str) : Prop := sc.names.lookup x = some .local ∨ sc.names.lookup x = some .cell ∨ sc.names.lookup x = some .free
def Loc (sc : Scope) (x : Str) : Prop := sc.names.lookup x = some .local ∨ sc.names.lookup x = some .cell
def Look (env : Env) (h : Heap) (m : Str → Option Value) (x : Str) (u : Value) : Prop :=
  (env.kindOf x = some .local ∧ m x = some u) ∨ ((env.kindOf x = some .cell ∨ env.kindOf x = some .free) ∧ ∃ c, env.cells.lookup x = some c ∧ h.IsCell c (some u))
structure Cx.Ok (X : Cx) : Prop where
  mod : Mod X.K X.mg X.base
  kind : X.env.scope.kind = .function
  glob : X.env.globals = mainGlobals
  blt : X.env.builtins = builtinsNs
  above : X.s₀.heap.objs.size ≤ X.env.locals
  inj : ∀ x y c, X.env.cells.lookup x = some c → X.env.cells.lookup y = some c → x = y
  has : ∀ x, (X.env.kindOf x = some .cell ∨ X.env.kindOf x = some .free) → ∃ c, X.env.cells.lookup x = some c
  cab : ∀ x c, X.fn x = true → X.env.cells.lookup x = some c → X.s₀.heap.objs.size ≤ c
  hd : X.calm = true → X.A.handled = none
  frames : X.A.frames = some X.stack
  stk : X.stack = X.outer ∨ (X.stack = X.env :: X.outer ∧ X.env.frame = some X.env.locals)
  exf : ∀ b ∈ X.ex, b ≠ X.env.locals ∧ ∀ x c, X.env.cells.lookup x = some c → c ≠ b
  bs : ∀ b o, X.base.get? b = some o → X.s₀.heap.get? b = some o ∧ X.H₀ b = none
  bsz : X.base.objs.size ≤ X.s₀.heap.objs.size
  noex : ∀ b o, X.base.get? b = some o → b ∉ X.ex
  exfs : ∀ b ∈ X.ex, b ∉ X.fs
  funs : X.s₀.heap.FunFrames X.base X.outer
  frf : ∀ b ∈ X.fs, X.H₀ b = none
structure Inv (X : Cx) (pins : List (Addr × Obj)) (σ : List (Option V)) (H : Hp) (s : Shared) : Prop where
  ok : X.Ok
  os : s.os = X.s₀.os
  bare : AllBare s.gens
  base : Un X.fs X.ex X.H₀ H X.s₀.heap s.heap
  loc : ∃ m, s.heap.Ns X.env.locals m ∧ ∀ (i : Nat) (x : Str) (v : V), X.N[i]? = some x → σ[i]? = some (some v) → Vis X.env.scope x → ∃ u, RelV v u ∧ Look X.env s.heap m x u
  cell : ∀ x c, X.env.cells.lookup x = some c → ∃ v, s.heap.IsCell c v
  free : H X.env.locals = none
  freeC : ∀ x c, X.env.cells.lookup x = some c → H c = none
  pin : ∀ p ∈ X.pn ++ pins, s.heap.get? p.1 = some p.2 ∧ H p.1 = none ∧ p.1 ≠ X.env.locals ∧ p.1 ∉ X.fs ∧ ∀ v, p.2.data ≠ .cell v
  hok : HOk X.prog X.w H s.heap
  len : σ.length = X.N.length
section
variable {X : Cx} {pins : List (Addr × Obj)} {σ : List (Option V)} {H H' : Hp} {s : Shared} {h' : Heap}
theorem Cx.Ok.nofr (ok : X.Ok) {b : Addr} {o : Obj} (e : X.base.get? b = some o) : b ∉ X.fs := fun hb => by
  have := (ok.funs.mem hb).1
  rw [e] at this; cases this
theorem Inv.bs (I : Inv X pins σ H s) : ∀ b o, X.base.get? b = some o → s.heap.get? b = some o ∧ H b = none := fun b o e =>
  ⟨I.base.keep b o (I.ok.bs b o e).1 (I.ok.bs b o e).2 (I.ok.nofr e) (I.ok.noex b o e), I.base.free b o (I.ok.bs b o e).1 (I.ok.bs b o e).2 (I.ok.noex b o e)⟩
theorem Inv.bk (I : Inv X pins σ H s) : ∀ b o, X.base.get? b = some o → s.heap.get? b = some o := fun b o e => (I.bs b o e).1
theorem Inv.mod (I : Inv X pins σ H s) : Mod X.K X.mg X.base := I.ok.mod
theorem Inv.kIn (I : Inv X pins σ H s) : X.K.In s.heap := I.ok.mod.kin.keeps I.bk
theorem Inv.nolimit (I : Inv X pins σ H s) : s.heap.NoLimit := I.ok.mod.nolimit.keeps I.bk
theorem Inv.lt (I : Inv X pins σ H s) : X.env.locals < s.heap.objs.size := let ⟨_, hn, _⟩ := I.loc; hn.lt
theorem Inv.sz (I : Inv X pins σ H s) : X.s₀.heap.objs.size ≤ s.heap.objs.size := Nat.le_trans I.ok.above (Nat.le_of_lt I.lt)
theorem Inv.nofs (I : Inv X pins σ H s) {a : Addr} (h : s.heap.objs.size ≤ a) : a ∉ X.fs := fun hb => by
  obtain ⟨_, o, ho, _⟩ := I.ok.funs.mem hb
  exact absurd (Nat.lt_of_lt_of_le (Heap.lt_size ho) (Nat.le_trans I.sz h)) (Nat.lt_irrefl _)
theorem Inv.cne (I : Inv X pins σ H s) : ∀ x c, X.env.cells.lookup x = some c → c ≠ X.env.locals := fun x c e z => by
  obtain ⟨v, o, ho, hd⟩ := I.cell x c e
  obtain ⟨m, ⟨o', es, ep, ho', hd', _⟩, _⟩ := I.loc
  rw [z, ho'] at ho; cases ho; rw [hd'] at hd; cases hd
theorem Inv.funs (I : Inv X pins σ H s) : s.heap.FunFrames X.base X.outer := by
  have all : ∀ (l : List Env), (∀ b ∈ frs l, b ∈ X.fs) → X.s₀.heap.FunFrames X.base l → s.heap.FunFrames X.base l := by
    intro l
    induction l with
    | nil => intro _ _; trivial
    | cons env r ih =>
      intro hs hl
      obtain ⟨hk, ⟨L, o, hf, hn, ho, hd⟩, hr⟩ := hl
      have hL : L ∈ X.fs := hs L (by unfold frs; rw [List.filterMap_cons, hf]; exact List.mem_cons_self)
      obtain ⟨sl, e⟩ := I.base.slot L o ho (I.ok.frf L hL) hL fun z => I.ok.exfs L z hL
      exact ⟨hk, ⟨L, _, hf, hn, e, hd⟩, ih (fun b hb => hs b (by unfold frs; rw [List.filterMap_cons, hf]; exact List.mem_cons_of_mem _ hb)) hr⟩
  exact all X.outer (fun _ hb => hb) I.ok.funs
theorem Inv.stack (I : Inv X pins σ H s) : s.heap.FunFrames X.base X.stack := by
  rcases I.ok.stk with e | ⟨e, hf⟩
  · rw [e]; exact I.funs
  · rw [e]
    obtain ⟨m, hn, _⟩ := I.loc
    refine .cons (by rw [I.ok.kind]; decide) hf hn ?_ I.funs
    exact Heap.get?_none_of_le (Nat.le_trans I.ok.bsz I.ok.above)
theorem Inv.stkSub (I : Inv X pins σ H s) : ∀ b ∈ frs X.stack, b ∈ X.env.locals :: X.fs := fun b hb => by
  rcases I.ok.stk with e | ⟨e, hf⟩
  · rw [e] at hb; exact List.mem_cons_of_mem _ hb
  · rw [e] at hb
    unfold frs at hb
    rw [List.filterMap_cons, hf] at hb
    exact hb
theorem Inv.stkFree (I : Inv X pins σ H s) : ∀ b ∈ frs X.stack, H b = none := fun b hb => by
  rcases List.mem_cons.mp (I.stkSub b hb) with e | hb
  · rw [e]; exact I.free
  · obtain ⟨_, o, ho, _⟩ := I.ok.funs.mem hb
    exact I.base.free b o ho (I.ok.frf b hb) fun z => I.ok.exfs b z hb
theorem Inv.step {g' : Array GenState} {t' : Nat} {d' : Drawn} {ch : List Addr} (I : Inv X pins σ H s)
    (hch : ∀ b ∈ ch, (b ∈ X.ex ∨ X.s₀.heap.objs.size ≤ b) ∧ b ≠ X.env.locals ∧ (∀ x c, X.env.cells.lookup x = some c → c ≠ b) ∧ ∀ p ∈ X.pn ++ pins, p.1 ≠ b)
    (keep : ∀ b o, b ≠ X.env.locals → b ∉ X.fs → b ∉ ch → s.heap.get? b = some o → H b = none → h'.get? b = some o)
    (slot : ∀ b o, b ≠ X.env.locals → b ∈ X.fs → b ∉ ch → s.heap.get? b = some o → H b = none → ∃ sl, h'.get? b = some { o with slots := sl }) (free : ∀ b o, b ∉ ch → s.heap.get? b = some o → H b = none → H' b = none)
    (there : ∀ b o, b ∉ ch → s.heap.get? b = some o → ∃ o', h'.get? b = some o')
    (tups : ∀ b xs, H b = some (.tup xs) → H' b = some (.tup xs)) (frzs : ∀ b o u, H b = some (.frz o u) → H' b = some (.frz o u)) (tbls : ∀ b ps, H b = some (.tbl ps) → ∃ more, H' b = some (.tbl (ps ++ more)))
    (ns : ∀ m, s.heap.Ns X.env.locals m → h'.Ns X.env.locals m) (hok : HOk X.prog X.w H' h') (hg : AllBare g') :
    Inv X pins σ H' { s with heap := h', gens := g', drawn := d', toks := t' } := by
  have neL : ∀ b o, X.s₀.heap.get? b = some o → b ≠ X.env.locals := fun b o e => Nat.ne_of_lt (Nat.lt_of_lt_of_le (Heap.lt_size e) I.ok.above)
  have neC : ∀ b o, X.s₀.heap.get? b = some o → b ∉ X.ex → b ∉ ch := fun b o e hx hb => by
    rcases (hch b hb).1 with z | z
    · exact hx z
    · exact absurd (Nat.lt_of_lt_of_le (Heap.lt_size e) z) (Nat.lt_irrefl _)
  have cellK : ∀ x c, X.env.cells.lookup x = some c → ∀ v, s.heap.IsCell c v → h'.IsCell c v := fun x c e v ⟨o, ho, hd⟩ => by
    have nch : c ∉ ch := fun z => (hch c z).2.2.1 x c e rfl
    by_cases hc : c ∈ X.fs
    · obtain ⟨sl, q⟩ := slot c o (I.cne x c e) hc nch ho (I.freeC x c e)
      exact ⟨_, q, hd⟩
    · exact ⟨o, keep c o (I.cne x c e) hc nch ho (I.freeC x c e), hd⟩
  refine ⟨I.ok, I.os, hg, ⟨fun b o e n hb hx => ?_, fun b o e n hb hx => ?_, fun b o e n hx => ?_, fun b o e hx => ?_, fun b xs e => tups b xs (I.base.tups b xs e), fun b o xs e => frzs b o xs (I.base.frzs b o xs e), fun b ps e => ?_⟩, ?_, fun x c e => ?_, ?_, fun x c e => ?_, fun p hp => ?_, hok, I.len⟩
  · exact keep b o (neL b o e) hb (neC b o e hx) (I.base.keep b o e n hb hx) (I.base.free b o e n hx)
  · obtain ⟨sl, e1⟩ := I.base.slot b o e n hb hx
    obtain ⟨sl', e2⟩ := slot b _ (neL b o e) hb (neC b o e hx) e1 (I.base.free b o e n hx)
    exact ⟨sl', e2⟩
  · obtain ⟨o', e1⟩ := I.base.there b o e hx
    exact free b o' (neC b o e hx) e1 (I.base.free b o e n hx)
  · obtain ⟨o', e1⟩ := I.base.there b o e hx
    exact there b o' (neC b o e hx) e1
  · obtain ⟨m1, e1⟩ := I.base.tbls b ps e
    obtain ⟨m2, e2⟩ := tbls b _ e1
    exact ⟨m1 ++ m2, by rw [e2, Array.append_assoc]⟩
  · obtain ⟨m, hn, hl⟩ := I.loc
    refine ⟨m, ns m hn, fun i x v e1 e2 e3 => ?_⟩
    obtain ⟨u, r, l⟩ := hl i x v e1 e2 e3
    refine ⟨u, r, ?_⟩
    rcases l with l | ⟨k, c, e, z⟩
    · exact .inl l
    · exact .inr ⟨k, c, e, cellK x c e _ z⟩
  · obtain ⟨v, z⟩ := I.cell x c e
    exact ⟨v, cellK x c e v z⟩
  · obtain ⟨m, ⟨o, _, _, ho, _⟩, _⟩ := I.loc
    exact free _ o (fun z => (hch _ z).2.1 rfl) ho I.free
  · obtain ⟨v, o, ho, hd⟩ := I.cell x c e
    exact free c o (fun z => (hch c z).2.2.1 x c e rfl) ho (I.freeC x c e)
  · obtain ⟨e, n, ne, nf, d⟩ := I.pin p hp
    have nch : p.1 ∉ ch := fun z => (hch p.1 z).2.2.2 p hp rfl
    exact ⟨keep p.1 p.2 ne nf nch e n, free p.1 p.2 nch e n, ne, nf, d⟩
theorem Inv.un {t' : Nat} (I : Inv X pins σ H s) (u : Un X.fs [] H H' s.heap h') (hok : HOk X.prog X.w H' h') : Inv X pins σ H' { s with heap := h', toks := t' } := by
  obtain ⟨m, ⟨o, es, ep, ho, r⟩, _⟩ := id I.loc
  obtain ⟨sl, hL⟩ := u.any ho I.free (by simp)
  exact I.step (g' := s.gens) (d' := s.drawn) (ch := []) (fun _ z => nomatch z) (fun b o _ hb _ e n => u.keep b o e n hb (by simp)) (fun b o _ hb _ e n => u.slot b o e n hb (by simp)) (fun b o _ e n => u.free b o e n (by simp)) (fun b o _ e => u.there b o e (by simp)) u.tups u.frzs u.tbls (fun m' hm => by
    obtain ⟨o', es', ep', ho', r'⟩ := hm
    rw [ho] at ho'; cases ho'
    exact ⟨_, es', ep', hL, r'⟩) hok I.bare
theorem Inv.call {g' : Array GenState} {t' : Nat} {d' : Drawn} {ch : List Addr} (I : Inv X pins σ H s) (u : Un (frs X.stack) ch H H' s.heap h') (hok : HOk X.prog X.w H' h') (hg : AllBare g')
    (hch : ∀ b ∈ ch, (b ∈ X.ex ∨ X.s₀.heap.objs.size ≤ b) ∧ b ≠ X.env.locals ∧ (∀ x c, X.env.cells.lookup x = some c → c ≠ b) ∧ ∀ p ∈ X.pn ++ pins, p.1 ≠ b) :
    Inv X pins σ H' { s with heap := h', gens := g', drawn := d', toks := t' } := by
  obtain ⟨m, ⟨o, es, ep, ho, r⟩, _⟩ := id I.loc
  obtain ⟨sl, hL⟩ := u.any ho I.free fun z => (hch _ z).2.1 rfl
  exact I.step (ch := ch) hch (fun b o hL hb hc e n => u.keep b o e n (fun z => (List.mem_cons.mp (I.stkSub b z)).elim hL hb) hc) (fun b o _ _ hc e n => u.any e n hc) (fun b o hc e n => u.free b o e n hc) (fun b o hc e => u.there b o e hc) u.tups u.frzs u.tbls (fun m' hm => by
    obtain ⟨o', es', ep', ho', r'⟩ := hm
    rw [ho] at ho'; cases ho'
    exact ⟨_, es', ep', hL, r'⟩) hok hg
theorem Inv.turned {t' : Nat} {it : Addr} (I : Inv X pins σ H s) (k : ∀ b o, b ≠ it → s.heap.get? b = some o → h'.get? b = some o) (hn : H it = none) (hL : it ≠ X.env.locals)
    (h1 : it ∈ X.ex ∨ X.s₀.heap.objs.size ≤ it) (h2 : ∀ x c, X.env.cells.lookup x = some c → c ≠ it) (h3 : ∀ p ∈ X.pn ++ pins, p.1 ≠ it) : Inv X pins σ H { s with heap := h', toks := t' } := by
  have nit : ∀ b u, H b = some u → b ≠ it := fun b u e z => by rw [z, hn] at e; cases e
  refine I.step (g' := s.gens) (d' := s.drawn) (ch := [it]) (fun b hb => ?_) (fun b o _ _ hc e _ => k b o (fun z => hc (by simp [z])) e) (fun b o _ _ hc e _ => ⟨o.slots, k b o (fun z => hc (by simp [z])) e⟩) (fun _ _ _ _ n => n)
    (fun b o hc e => ⟨o, k b o (fun z => hc (by simp [z])) e⟩) (fun _ _ e => e) (fun _ _ _ e => e) (fun b ps e => ⟨#[], by rw [e]; simp⟩) (fun m hm => ?_) (fun b u e => ?_) I.bare
  · have e : b = it := by simpa using hb
    subst e
    exact ⟨h1, hL, h2, h3⟩
  · obtain ⟨o, es, ep, ho, r⟩ := hm
    exact ⟨o, es, ep, k _ o (Ne.symm hL) ho, r⟩
  · refine (I.hok b u e).stay (fun c v hc q => k c v ?_ q) (fun _ q => q) fun _ _ q => q
    rcases hc with z | z
    · rw [z]; exact nit b u e
    · exact nit c _ z
theorem Inv.tok (I : Inv X pins σ H s) (t : Nat) : Inv X pins σ H { s with toks := t } := I.un (h' := s.heap) (t' := t) Un.refl I.hok
theorem Inv.kept {t' : Nat} (I : Inv X pins σ H s) (k : ∀ b u, s.heap.get? b = some u → h'.get? b = some u) : Inv X pins σ H { s with heap := h', toks := t' } := I.un (Un.kept k) (I.hok.kept k)
theorem Inv.laid {a : Addr} {o : HO} {t' : Nat} (I : Inv X pins σ H s) (k : ∀ b u, s.heap.get? b = some u → h'.get? b = some u) (hp : s.heap.objs.size ≤ a) (new : ObjOk X.prog X.w (upd H a o) h' a o) :
    Inv X pins σ (upd H a o) { s with heap := h', toks := t' } := I.un (Un.laid k hp (I.hok.fresh hp)) (I.hok.laid k hp new)
theorem Inv.write {x e : Addr} {o : HO} {t' : Nat} (I : Inv X pins σ H s) (mu : Mut (H x)) (he : e = x ∨ H e = some (.own x)) (k : ∀ b u, b ≠ e → s.heap.get? b = some u → h'.get? b = some u) (heo : ∃ u, h'.get? e = some u)
    (new : ObjOk X.prog X.w (upd H x o) h' x o) : Inv X pins σ (upd H x o) { s with heap := h', toks := t' } := I.un (Un.write mu he k heo) (I.hok.write mu he k heo new)
theorem Inv.pins_of {pins' : List (Addr × Obj)} (I : Inv X pins σ H s) (h : ∀ p ∈ pins', s.heap.get? p.1 = some p.2 ∧ H p.1 = none ∧ p.1 ≠ X.env.locals ∧ p.1 ∉ X.fs ∧ ∀ v, p.2.data ≠ .cell v) : Inv X pins' σ H s :=
  ⟨I.ok, I.os, I.bare, I.base, I.loc, I.cell, I.free, I.freeC, fun p hp => (List.mem_append.mp hp).elim (fun z => I.pin p (List.mem_append_left _ z)) (h p), I.hok, I.len⟩
theorem nodup_ix {N : List Str} (hN : N.Nodup) {i j : Nat} {x : Str} (a : N[i]? = some x) (b : N[j]? = some x) : i = j := by
  obtain ⟨h1, e1⟩ := List.getElem?_eq_some_iff.mp a
  obtain ⟨h2, e2⟩ := List.getElem?_eq_some_iff.mp b
  exact (List.getElem_inj hN).mp (e1.trans e2.symm)
theorem store_ok2 {M : Model} {A : Around} {E : Value → Shared → Prop} {i : Nat} {x : Str} {v : V} {u : Value} {Q : Unit → Shared → Prop} (I : Inv X pins σ H s) (hN : X.N.Nodup) (hi : X.N[i]? = some x) (hx : Loc X.env.scope x) (r : RelV v u)
    (h : ∀ s', Inv X pins (σ.set i (some v)) H s' → (∃ a, Heap.SameBut a s.heap s'.heap ∧ (a = X.env.locals ∨ X.env.cells.lookup x = some a)) → Q () s') (hf : X.fn x = true ∨ X.env.scope.names.lookup x = some .local := by first | exact .inl rfl | exact .inr rfl | assumption) : wpAny M A (storeName X.env x u) Q E s := by
  obtain ⟨m, hn, hl⟩ := id I.loc
  have hcls : (X.env.scope.kind == .class || (X.env.scope.kind == .module && X.env.locals != X.env.globals)) = false := by rw [I.ok.kind]; rfl
  have hiσ : i < σ.length := by rw [I.len]; exact (List.getElem?_eq_some_iff.mp hi).1
  have cne := I.cne
  have tracked : ∀ {a : Addr} {h' : Heap}, (∃ o, s.heap.get? a = some o ∧ H a = none) → Heap.SameBut a s.heap h' → HOk X.prog X.w H h' := fun {a h'} ha hs b ob e => by
    obtain ⟨_, _, hfree⟩ := ha
    refine (I.hok b ob e).stay (fun c w' hc q => (hs.2 c ?_).trans q) (fun _ q => q) fun _ _ q => q
    rintro rfl
    rcases hc with rfl | hc
    · rw [hfree] at e; cases e
    · rw [hfree] at hc; cases hc
  rcases hx with hk | hk
  · refine wpAny_storeName_local hk hn (fun h' hn' hs => ?_) hcls
    obtain ⟨oL, _, _, hoL, _⟩ := id hn
    refine h _ ⟨I.ok, I.os, I.bare, ⟨fun b o e n hb hx => ?_, fun b o e n hb hx => ?_, I.base.free, fun b o e hx => ?_, I.base.tups, I.base.frzs, I.base.tbls⟩, ⟨_, hn', fun j y v' e1 e2 e3 => ?_⟩, fun y c e => ?_, I.free, I.freeC, fun p hp => ?_, tracked ⟨oL, hoL, I.free⟩ hs, by simpa using I.len⟩ ⟨_, hs, .inl rfl⟩
    · exact (hs.2 b (Nat.ne_of_lt (Nat.lt_of_lt_of_le (Heap.lt_size e) I.ok.above))).trans (I.base.keep b o e n hb hx)
    · obtain ⟨sl, e1⟩ := I.base.slot b o e n hb hx
      exact ⟨sl, (hs.2 b (Nat.ne_of_lt (Nat.lt_of_lt_of_le (Heap.lt_size e) I.ok.above))).trans e1⟩
    · obtain ⟨o', e1⟩ := I.base.there b o e hx
      exact ⟨o', (hs.2 b (Nat.ne_of_lt (Nat.lt_of_lt_of_le (Heap.lt_size e) I.ok.above))).trans e1⟩
    · by_cases hj : j = i
      · subst hj
        rw [hi] at e1; cases e1
        rw [List.getElem?_set_self hiσ] at e2
        cases e2
        exact ⟨u, r, .inl ⟨hk, by simp⟩⟩
      · rw [List.getElem?_set_ne (Ne.symm hj)] at e2
        obtain ⟨u', r', q⟩ := hl j y v' e1 e2 e3
        refine ⟨u', r', ?_⟩
        rcases q with ⟨k, e⟩ | ⟨k, c, e, z⟩
        · refine .inl ⟨k, ?_⟩
          have : y ≠ x := fun e => hj (nodup_ix hN e1 (e ▸ hi))
          simp [this, e]
        · exact .inr ⟨k, c, e, z.sameBut hs (cne y c e)⟩
    · obtain ⟨w', z⟩ := I.cell y c e
      exact ⟨w', z.sameBut hs (cne y c e)⟩
    · obtain ⟨e, n, ne, nf, d⟩ := I.pin p hp
      exact ⟨(hs.2 p.1 ne).trans e, n, ne, nf, d⟩
  · have hfn : X.fn x = true := by
      rcases hf with z | z
      · exact z
      · rw [z] at hk; cases hk
    obtain ⟨c, hc⟩ := I.ok.has x (.inl hk)
    obtain ⟨w', z⟩ := I.cell x c hc
    refine wpAny_storeName_cell I.ok.kind hk hc z (fun h' hc' hs => ?_)
    obtain ⟨oc, hoc, hocd⟩ := id z
    refine h { s with heap := h' } ⟨I.ok, I.os, I.bare, ⟨fun b o e n hb hx => ?_, fun b o e n hb hx => ?_, I.base.free, fun b o e hx => ?_, I.base.tups, I.base.frzs, I.base.tbls⟩, ⟨m, hn.sameBut hs (Ne.symm (cne x c hc)), fun j y v' e1 e2 e3 => ?_⟩, fun y c' e => ?_, I.free, I.freeC, fun p hp => ?_, tracked ⟨oc, hoc, I.freeC x c hc⟩ hs, by simpa using I.len⟩ ⟨c, hs, .inr hc⟩
    · exact (hs.2 b (Nat.ne_of_lt (Nat.lt_of_lt_of_le (Heap.lt_size e) (I.ok.cab x c hfn hc)))).trans (I.base.keep b o e n hb hx)
    · obtain ⟨sl, e1⟩ := I.base.slot b o e n hb hx
      exact ⟨sl, (hs.2 b (Nat.ne_of_lt (Nat.lt_of_lt_of_le (Heap.lt_size e) (I.ok.cab x c hfn hc)))).trans e1⟩
    · obtain ⟨o', e1⟩ := I.base.there b o e hx
      exact ⟨o', (hs.2 b (Nat.ne_of_lt (Nat.lt_of_lt_of_le (Heap.lt_size e) (I.ok.cab x c hfn hc)))).trans e1⟩
    · by_cases hj : j = i
      · subst hj
        rw [hi] at e1; cases e1
        rw [List.getElem?_set_self hiσ] at e2
        cases e2
        exact ⟨u, r, .inr ⟨.inl hk, c, hc, hc'⟩⟩
      · rw [List.getElem?_set_ne (Ne.symm hj)] at e2
        obtain ⟨u', r', q⟩ := hl j y v' e1 e2 e3
        refine ⟨u', r', ?_⟩
        rcases q with q | ⟨k, c', e, z'⟩
        · exact .inl q
        · refine .inr ⟨k, c', e, z'.sameBut hs ?_⟩
          rintro rfl
          exact hj (nodup_ix hN e1 (I.ok.inj _ _ _ e hc ▸ hi))
    · by_cases hcc : c' = c
      · subst hcc; exact ⟨_, hc'⟩
      · obtain ⟨w2, z2⟩ := I.cell y c' e
        exact ⟨w2, z2.sameBut hs hcc⟩
    · obtain ⟨e, n, ne, nf, d⟩ := I.pin p hp
      refine ⟨(hs.2 p.1 ?_).trans e, n, ne, nf, d⟩
      intro q
      rw [q, hoc] at e
      have q' : oc = p.2 := Option.some.inj e
      exact d w' (by rw [← q']; exact hocd)
theorem store_ok {M : Model} {A : Around} {E : Value → Shared → Prop} {i : Nat} {x : Str} {v : V} {u : Value} {Q : Unit → Shared → Prop} (I : Inv X pins σ H s) (hN : X.N.Nodup) (hi : X.N[i]? = some x) (hx : Loc X.env.scope x) (r : RelV v u)
    (h : ∀ s', Inv X pins (σ.set i (some v)) H s' → Q () s') (hf : X.fn x = true ∨ X.env.scope.names.lookup x = some .local := by first | exact .inl rfl | exact .inr rfl | assumption) : wpAny M A (storeName X.env x u) Q E s :=
  store_ok2 I hN hi hx r (fun s' I' _ => h s' I') hf
theorem Inv.call' {s' : Shared} {ch : List Addr} (I : Inv X pins σ H s) (ho : s'.os = s.os) (u : Un (frs X.stack) ch H H' s.heap s'.heap) (hok : HOk X.prog X.w H' s'.heap) (hg : AllBare s'.gens)
    (hch : ∀ b ∈ ch, (b ∈ X.ex ∨ X.s₀.heap.objs.size ≤ b) ∧ b ≠ X.env.locals ∧ (∀ x c, X.env.cells.lookup x = some c → c ≠ b) ∧ ∀ p ∈ X.pn ++ pins, p.1 ≠ b) : Inv X pins σ H' s' := by
  obtain ⟨h', g', d', t', o'⟩ := s'
  have e : o' = s.os := ho
  subst e
  exact I.call (g' := g') (t' := t') (d' := d') u hok hg hch
end
abbrev XK := Value → Option Addr → Hp → Prop
abbrev St := List (Option V)
abbrev VK := V → Hp → Prop
abbrev TE := St → Hp → VK → Prop
abbrev TT := St → Hp → (Bool → Hp → Prop) → Prop
abbrev TA := St → Hp → (List V → Hp → Prop) → Prop
structure Ends where
  nx : St → Hp → Prop
  rt : VK
  bk : St → Hp → Prop := fun _ _ => False
  ct : St → Hp → Prop := fun _ _ => False
abbrev TS := Ends → St → Hp → Prop
def EP (X : Cx) (pins : List (Addr × Obj)) (σ : St) (Q : VK) (u : Value) (s' : Shared) : Prop := ∃ v H', Inv X pins σ H' s' ∧ RelV v u ∧ Q v H'
def TP (X : Cx) (pins : List (Addr × Obj)) (σ : St) (Q : Bool → Hp → Prop) (b : Bool) (s' : Shared) : Prop := ∃ H', Inv X pins σ H' s' ∧ Q b H'
def AP (X : Cx) (pins : List (Addr × Obj)) (σ : St) (Q : List V → Hp → Prop) (us : List Value) (s' : Shared) : Prop := ∃ vs H', Inv X pins σ H' s' ∧ Vals vs us ∧ Q vs H'
def SP (X : Cx) (pins : List (Addr × Obj)) (D : Ends) (f : Flow) (s' : Shared) : Prop :=
  match f with
  | .next => ∃ σ' H', Inv X pins σ' H' s' ∧ D.nx σ' H'
  | .brk => ∃ σ' H', Inv X pins σ' H' s' ∧ D.bk σ' H'
  | .cont => ∃ σ' H', Inv X pins σ' H' s' ∧ D.ct σ' H'
  | .ret u => ∃ v σ' H', Inv X pins σ' H' s' ∧ RelV v u ∧ D.rt v H'
def PE (X : Cx) (e : Expr) (t : TE) : Prop :=
  ∀ (pins : List (Addr × Obj)) (s : Shared) (σ : St) (H : Hp) (Q : VK), Inv X pins σ H s → t σ H Q → wpAny (model X.prog X.w) X.A (eval e X.env) (EP X pins σ Q) X.xe s
def PT (X : Cx) (e : Expr) (t : TT) : Prop :=
  ∀ (pins : List (Addr × Obj)) (s : Shared) (σ : St) (H : Hp) (Q : Bool → Hp → Prop), Inv X pins σ H s → t σ H Q → wpAny (model X.prog X.w) X.A (isTrue e X.env (eval e X.env)) (TP X pins σ Q) X.xe s
def PW (X : Cx) (e : Expr) (t : TT) : Prop :=
  ∀ (whole : Sem Value) (pins : List (Addr × Obj)) (s : Shared) (σ : St) (H : Hp) (Q : Bool → Hp → Prop), Inv X pins σ H s → t σ H Q → wpAny (model X.prog X.w) X.A (isTrue e X.env whole) (TP X pins σ Q) X.xe s
theorem PW.pt {X : Cx} {e : Expr} {t : TT} (h : PW X e t) : PT X e t := h _
def PA (X : Cx) (es : List Expr) (t : TA) : Prop :=
  ∀ (pos : Pos) (pins : List (Addr × Obj)) (s : Shared) (σ : St) (H : Hp) (Q : List V → Hp → Prop), Inv X pins σ H s → t σ H Q → wpAny (model X.prog X.w) X.A (spliced (backTo pos (starEach es X.env))) (AP X pins σ Q) X.xe s
def PS (X : Cx) (st : Stmt) (t : TS) : Prop :=
  ∀ (pins : List (Addr × Obj)) (s : Shared) (σ : St) (H : Hp) (D : Ends), Inv X pins σ H s → t D σ H → wpAny (model X.prog X.w) X.A (exec st X.env) (SP X pins D) X.xe s
def PSs (X : Cx) (st : List Stmt) (t : TS) : Prop :=
  ∀ (pins : List (Addr × Obj)) (s : Shared) (σ : St) (H : Hp) (D : Ends), Inv X pins σ H s → t D σ H → wpAny (model X.prog X.w) X.A (execs st X.env) (SP X pins D) X.xe s
theorem thn {α : Type} {t : Sem α} {Q Q' : α → Shared → Prop} {M : Model} {A : Around} {E : Value → Shared → Prop} {s : Shared} (h : wpAny M A t Q E s) (hQ : ∀ a s, Q a s → Q' a s) : wpAny M A t Q' E s := wpAny_mono h hQ fun _ _ x => x
end L2
namespace L2
open PySem PySem.Spec PyProof.Rows
section
variable {X : Cx}
theorem bin {a b : Expr} {ta tb : TE} (ha : PE X a ta) (hb : PE X b tb) {pins : List (Addr × Obj)} {s : Shared} {σ : St} {H : Hp} {R : V → V → Hp → Prop} (I : Inv X pins σ H s) (h : ta σ H fun x H1 => tb σ H1 fun y H2 => R x y H2)
    {α : Type} {Q : α → Shared → Prop} {f : Value → Value → Sem α}
    (hf : ∀ v u s2 x y H2, Inv X pins σ H2 s2 → RelV x v → RelV y u → R x y H2 → wpAny (model X.prog X.w) X.A (f v u) Q X.xe s2) :
    wpAny (model X.prog X.w) X.A (eval a X.env) (fun v s₁ => wpAny (model X.prog X.w) X.A (eval b X.env) (fun u s₂ => wpAny (model X.prog X.w) X.A (f v u) Q X.xe s₂) X.xe s₁) X.xe s := by
  refine thn (ha pins s σ H _ I h) fun v s1 ⟨x, H1, I1, r1, q1⟩ => ?_
  refine thn (hb pins s1 σ H1 _ I1 q1) fun u s2 ⟨y, H2, I2, r2, q2⟩ => ?_
  exact hf v u s2 x y H2 I2 r1 r2 q2
def tVar (i : Nat) : TE := fun σ H Q => ∃ v, σ[i]? = some (some v) ∧ Q v H
def tC (v : V) : TE := fun _ H Q => Q v H
theorem pe_var {i : Nat} {x : Str} {pos : Pos} (hN : X.N[i]? = some x) (hv : Vis X.env.scope x) (hd : (x == ("__debug__" : Str)) = false := by decide) (hcd : (x == ("__classdict__" : Str)) = false := by decide) : PE X (.Name x pos) (tVar i) := by
  intro pins s σ H Q I h
  obtain ⟨v, e, h⟩ := h
  obtain ⟨m, hn, hl⟩ := I.loc
  obtain ⟨u, r, l⟩ := hl i x v hN e hv
  have fin : EP X pins σ Q u s := ⟨v, H, I, r, h⟩
  rcases l with ⟨hk, hm⟩ | ⟨hk, c, hc, hcell⟩
  · exact wpAny_Name (wpAny_loadName_local I.ok.kind hk hn hm fin) hd
  · rcases hk with hk | hk
    · exact wpAny_Name (wpAny_loadName_cell I.ok.kind hk hc hcell fin) hd
    · exact wpAny_Name (wpAny_loadName_free I.ok.kind hk hc hcell fin hcd) hd
theorem pe_int {i j pos} : PE X (.Constant (.int i) j pos) (tC (.int i)) := fun _ _ _ H _ I h => wpAny_Constant_int ⟨.int i, H, I.tok _, ⟨_, rfl⟩, h⟩
theorem pe_bl {b j pos} : PE X (.Constant (.bool b) j pos) (tC (.bl b)) := fun _ _ _ H _ I h => Constant_bool ⟨.bl b, H, I, rfl, h⟩
theorem pe_non {j pos} : PE X (.Constant .none j pos) (tC .non) := fun _ _ _ H _ I h => Constant_none ⟨.non, H, I, rfl, h⟩
theorem pe_str {x j pos} : PE X (.Constant (.str x) j pos) (tC (.str x)) := fun _ _ _ H _ I h => Calls.Constant_str ⟨.str x, H, I.tok _, ⟨_, rfl⟩, h⟩
def Gl (X : Cx) (x : Str) : Prop := X.env.kindOf x = some .globalImplicit
theorem ld_glob {E : Value → Shared → Prop} {pins : List (Addr × Obj)} {s : Shared} {σ : St} {H : Hp} {x : Str} {u : Value} {pos : Pos} {Q : Value → Shared → Prop} (I : Inv X pins σ H s) (hg : Gl X x) (hm : X.mg x = some u) (h : Q u s)
    (hd : (x == ("__debug__" : Str)) = false := by decide) : wpAny (model X.prog X.w) X.A (eval (.Name x pos) X.env) Q E s :=
  Calls.Name_function_global I.ok.kind hg (Calls.loadGlobal_global (by rw [I.ok.glob]; exact I.mod.glob.keeps I.bk) hm h) hd
theorem ld_blt {E : Value → Shared → Prop} {pins : List (Addr × Obj)} {s : Shared} {σ : St} {H : Hp} {x : Str} {u : Value} {pos : Pos} {Q : Value → Shared → Prop} (I : Inv X pins σ H s) (hg : Gl X x) (hm : X.mg x = none) (hv : bootBuiltins x = some u) (h : Q u s)
    (hn : x ≠ "__name__" := by decide) (hd : (x == ("__debug__" : Str)) = false := by decide) : wpAny (model X.prog X.w) X.A (eval (.Name x pos) X.env) Q E s := by
  obtain ⟨mb, h1, h2⟩ := I.mod.blt
  exact Calls.Name_function_global I.ok.kind hg (Calls.loadGlobal_builtin (by rw [I.ok.glob]; exact I.mod.glob.keeps I.bk) hm (by rw [I.ok.blt]; exact h1.keeps I.bk) ((h2 x hn).trans hv) h) hd
theorem pe_glob {x : Str} {v : V} {u : Value} {pos : Pos} (hg : Gl X x) (hm : X.mg x = some u) (r : RelV v u) (hd : (x == ("__debug__" : Str)) = false := by decide) : PE X (.Name x pos) (tC v) :=
  fun _ _ _ H _ I h => ld_glob I hg hm ⟨v, H, I, r, h⟩ hd
theorem pe_bltn {x : Str} {v : V} {u : Value} {pos : Pos} (hg : Gl X x) (hm : X.mg x = none) (hv : bootBuiltins x = some u) (r : RelV v u) (hn : x ≠ "__name__" := by decide) (hd : (x == ("__debug__" : Str)) = false := by decide) : PE X (.Name x pos) (tC v) :=
  fun _ _ _ H _ I h => ld_blt I hg hm hv ⟨v, H, I, r, h⟩ hn hd
variable {a b : Expr} {ta tb : TE} {pos : Pos}
def PC (X : Cx) (op : CmpOp) (a b : Expr) (t : TE) : Prop :=
  ∀ (pins : List (Addr × Obj)) (s : Shared) (σ : St) (H : Hp) (Q : VK), Inv X pins σ H s → t σ H Q →
    wpAny (model X.prog X.w) X.A (eval a X.env) (fun v s₁ => wpAny (model X.prog X.w) X.A (eval b X.env) (fun u s₂ => wpAny (model X.prog X.w) X.A (compareOp op v u) (EP X pins σ Q) X.xe s₂) X.xe s₁) X.xe s
theorem nobehind (b : Expr) {op : CmpOp} (h : op ≠ .In) (h2 : op ≠ .NotIn) : behindInMarks op b = false := by
  have e1 : (op == CmpOp.In) = false := by cases op <;> first | rfl | exact absurd rfl h
  have e2 : (op == CmpOp.NotIn) = false := by cases op <;> first | rfl | exact absurd rfl h2
  cases b <;> simp [behindInMarks, e1, e2]
def tB (t : TE) : TT := fun σ H Q => t σ H fun x H1 => ∃ c, x = .bl c ∧ Q c H1
theorem pe_cmp {op : CmpOp} {t : TE} (h : PC X op a b t) (h1 : behindInMarks op b = false := by first | exact nobehind _ (by decide) (by decide) | rfl) : PE X (.Compare a [op] [b] pos) t := fun pins s σ H Q I hw => wpAny_Compare1 (h pins s σ H Q I hw) h1
theorem pt_cmp {op : CmpOp} {t : TE} (h : PC X op a b t) (h1 : behindInMarks op b = false := by first | exact nobehind _ (by decide) (by decide) | rfl) : PT X (.Compare a [op] [b] pos) (tB t) := by
  intro pins s σ H Q I hw
  refine wpAny_isTrue_Compare1 (thn (h pins s σ H _ I hw) fun v s1 h1 => thn h1 fun u s2 h2 => thn h2 fun c s3 ⟨x, H1, I1, r1, q1⟩ => ?_) h1
  obtain ⟨d, rfl, q⟩ := q1
  cases r1
  exact wpAny_truthy_bool ⟨H1, I1, q⟩
theorem pt_val {e : Expr} {t : TE} (h : PE X e t) (he : ∀ whole, isTrue e X.env whole = (do let v ← whole; standAt e.pos; holding [v] (truthy v)) := by intro _; rfl) : PT X e (tB t) := by
  intro pins s σ H Q I hw
  refine isTrue_plain (thn (h pins s σ H _ I hw) fun v s1 ⟨x, H1, I1, r1, q1⟩ => ?_) (he _)
  obtain ⟨d, rfl, q⟩ := q1
  cases r1
  exact wpAny_truthy_bool ⟨H1, I1, q⟩
variable {tA tB' : TT} {rest : List Expr}
def tAnd (t u : TT) : TT := fun σ H Q => t σ H fun c H1 => if c = true then u σ H1 Q else Q false H1
def tOr (t u : TT) : TT := fun σ H Q => t σ H fun c H1 => if c = true then Q true H1 else u σ H1 Q
def tNot (t : TT) : TT := fun σ H Q => t σ H fun c H1 => Q (!c) H1
theorem pw_and1 (ha : PT X a tA) : PW X (.BoolOp .And [a] pos) tA := by
  intro wh pins s σ H Q I h
  refine isTrue_and (thn (ha pins s σ H Q I h) fun c s1 e => ?_)
  cases c with
  | true => exact isTrue_and_nil e
  | false => exact e
theorem pw_or1 (ha : PT X a tA) : PW X (.BoolOp .Or [a] pos) tA := by
  intro wh pins s σ H Q I h
  refine isTrue_or (thn (ha pins s σ H Q I h) fun c s1 e => ?_)
  cases c with
  | false => exact isTrue_or_nil e
  | true => exact e
theorem pw_and (ha : PT X a tA) (hb : PW X (.BoolOp .And (b :: rest) pos) tB') : PW X (.BoolOp .And (a :: b :: rest) pos) (tAnd tA tB') := by
  intro wh pins s σ H Q I h
  refine isTrue_and (thn (ha pins s σ H _ I h) fun c s1 ⟨H1, I1, q1⟩ => ?_)
  cases c with
  | true => exact hb wh pins s1 σ H1 Q I1 q1
  | false => exact ⟨H1, I1, q1⟩
theorem pw_or (ha : PT X a tA) (hb : PW X (.BoolOp .Or (b :: rest) pos) tB') : PW X (.BoolOp .Or (a :: b :: rest) pos) (tOr tA tB') := by
  intro wh pins s σ H Q I h
  refine isTrue_or (thn (ha pins s σ H _ I h) fun c s1 ⟨H1, I1, q1⟩ => ?_)
  cases c with
  | true => exact ⟨H1, I1, q1⟩
  | false => exact hb wh pins s1 σ H1 Q I1 q1
theorem pt_not (ha : PT X a tA) : PT X (.UnaryOp .Not a pos) (tNot tA) := by
  intro pins s σ H Q I h
  exact isTrue_not (ha pins s σ H (fun c H1 => Q (!c) H1) I h)
def tIf (t : TT) (ta tb : TE) : TE := fun σ H Q => t σ H fun c H1 => if c = true then ta σ H1 Q else tb σ H1 Q
theorem pe_ifExp {c : Expr} (hc : PT X c tA) (ha : PE X a ta) (hb : PE X b tb) : PE X (.IfExp c a b pos) (tIf tA ta tb) := by
  intro pins s σ H Q I h
  refine wpAny_IfExp (thn (hc pins s σ H _ I h) fun d s1 ⟨H1, I1, q1⟩ => ?_)
  cases d with
  | true => exact ha pins s1 σ H1 Q I1 q1
  | false => exact hb pins s1 σ H1 Q I1 q1
end
end L2
namespace L2
open PySem PySem.Spec PyProof.Rows
def SqL (K : PySem.W.Frag) (H : Hp) (a : Addr) (xs : List V) : Prop :=
  Rd H a (.lst xs) ∨
    ∃ (o : Obj) (its : Array Value) (n : Nat), K.lookup a = some o ∧ o.cls = .type "list" ∧ o.dict = none ∧ o.data = .seq its n ∧ its.size ≤ sizeLine ∧ Vals xs its.toList
def SqT (K : PySem.W.Frag) (H : Hp) (a : Addr) (xs : List V) : Prop :=
  Rd H a (.tup xs) ∨
    ∃ (o : Obj) (its : Array Value) (n : Nat), K.lookup a = some o ∧ o.cls = .type "tuple" ∧ o.data = .seq its n ∧ its.size ≤ sizeLine ∧ Vals xs its.toList
def absV : Value → Option V
  | .none => some .non
  | .bool b => some (.bl b)
  | .int i _ => some (.int i)
  | .str x _ => some (.str x)
  | .bytes b _ => some (.byt b)
  | .float b _ => some (.flt b)
  | .ref a => some (.ref a)
  | .type n => some (.ty n)
  | _ => none
theorem RelV.abs {x : V} {u : Value} (r : RelV x u) : absV u = some x := by
  cases x with
  | non => cases r; rfl
  | bl _ => cases r; rfl
  | int _ => obtain ⟨t, rfl⟩ := r; rfl
  | str _ => obtain ⟨t, rfl⟩ := r; rfl
  | byt _ => obtain ⟨t, rfl⟩ := r; rfl
  | flt _ => obtain ⟨t, rfl⟩ := r; rfl
  | ref _ => cases r; rfl
  | ty _ => cases r; rfl
theorem RelV.inj {x y : V} {u : Value} (r : RelV x u) (q : RelV y u) : x = y := Option.some.inj (r.abs.symm.trans q.abs)
theorem Vals.inj : ∀ {xs ys : List V} {us : List Value}, Vals xs us → Vals ys us → xs = ys
  | _, _, _, .nil, .nil => rfl
  | _, _, _, .cons r t, .cons r' t' => by rw [r.inj r', Vals.inj t t']
section
variable {X : Cx} {pins : List (Addr × Obj)} {σ : St} {H : Hp} {s : Shared} {a : Addr} {xs ys : List V}
theorem SqL.of {K : PySem.W.Frag} (h : H a = some (.lst xs)) : SqL K H a xs := .inl (.inl h)
theorem SqT.of {K : PySem.W.Frag} (h : H a = some (.tup xs)) : SqT K H a xs := .inl (.inl h)
theorem Inv.list (I : Inv X pins σ H s) (h : SqL X.K H a xs) : ∃ its : List Value, Vals xs its ∧ PlainL s.heap a its.toArray ∧ xs.length ≤ sizeLine := by
  rcases h with h | ⟨o, its, n, hk, hc, hd, hs, hz, r⟩
  · obtain ⟨z, its, n, r, e⟩ := h.ok I.hok
    exact ⟨its, r, ⟨_, n, e, rfl, rfl, rfl⟩, z⟩
  · refine ⟨its.toList, r, ⟨o, n, I.kIn a o hk, hc, hd, by simpa using hs⟩, ?_⟩
    have e := r.length
    simp only [Array.length_toList] at e
    omega
theorem Inv.tuple (I : Inv X pins σ H s) (h : SqT X.K H a xs) : ∃ its : List Value, Vals xs its ∧ IsTup s.heap a its.toArray ∧ xs.length ≤ sizeLine := by
  rcases h with h | ⟨o, its, n, hk, hc, hs, hz, r⟩
  · obtain ⟨z, its, r, p⟩ := h.ok I.hok
    exact ⟨its, r, p, z⟩
  · refine ⟨its.toList, r, ⟨o, I.kIn a o hk, hc, n, by simpa using hs⟩, ?_⟩
    have e := r.length
    simp only [Array.length_toList] at e
    omega
theorem Inv.list_inj (I : Inv X pins σ H s) (h : SqL X.K H a xs) (h' : SqL X.K H a ys) : xs = ys := by
  obtain ⟨its, r, ⟨o, n, e, _, _, d⟩, _⟩ := I.list h
  obtain ⟨its', r', ⟨o', n', e', _, _, d'⟩, _⟩ := I.list h'
  rw [e] at e'; cases e'
  rw [d] at d'
  injection d' with d1 _
  have : its = its' := by simpa using congrArg Array.toList d1
  subst this
  exact r.inj r'
theorem Inv.tuple_inj (I : Inv X pins σ H s) (h : SqT X.K H a xs) (h' : SqT X.K H a ys) : xs = ys := by
  obtain ⟨its, r, ⟨o, e, _, n, d⟩, _⟩ := I.tuple h
  obtain ⟨its', r', ⟨o', e', _, n', d'⟩, _⟩ := I.tuple h'
  rw [e] at e'; cases e'
  rw [d] at d'
  injection d' with d1 _
  have : its = its' := by simpa using congrArg Array.toList d1
  subst this
  exact r.inj r'
end
abbrev Cx.wish (X : Cx) (E : Value → Shared → Prop) : Cx := { X with xe := E }
abbrev Cx.nox (X : Cx) : Cx := X.wish fun _ _ => False
theorem Cx.Ok.wish {X : Cx} (ok : X.Ok) (E : Value → Shared → Prop) : (X.wish E).Ok :=
  ⟨ok.mod, ok.kind, ok.glob, ok.blt, ok.above, ok.inj, ok.has, ok.cab, ok.hd, ok.frames, ok.stk, ok.exf, ok.bs, ok.bsz, ok.noex, ok.exfs, ok.funs, ok.frf⟩
theorem Cx.Ok.unwish {X : Cx} {E : Value → Shared → Prop} (ok : (X.wish E).Ok) : X.Ok :=
  ⟨ok.mod, ok.kind, ok.glob, ok.blt, ok.above, ok.inj, ok.has, ok.cab, ok.hd, ok.frames, ok.stk, ok.exf, ok.bs, ok.bsz, ok.noex, ok.exfs, ok.funs, ok.frf⟩
section
variable {X : Cx} {pins : List (Addr × Obj)} {σ : St} {H : Hp} {s : Shared} {E : Value → Shared → Prop}
theorem Inv.wish (I : Inv X pins σ H s) (E : Value → Shared → Prop) : Inv (X.wish E) pins σ H s := ⟨I.ok.wish E, I.os, I.bare, I.base, I.loc, I.cell, I.free, I.freeC, I.pin, I.hok, I.len⟩
theorem Inv.unwish (I : Inv (X.wish E) pins σ H s) : Inv X pins σ H s := ⟨I.ok.unwish, I.os, I.bare, I.base, I.loc, I.cell, I.free, I.freeC, I.pin, I.hok, I.len⟩
theorem SP.unwish {D : Ends} {f : Flow} {s' : Shared} (h : SP (X.wish E) pins D f s') : SP X pins D f s' := by
  cases f with
  | next => obtain ⟨σ', H', I, q⟩ := h; exact ⟨σ', H', I.unwish, q⟩
  | brk => obtain ⟨σ', H', I, q⟩ := h; exact ⟨σ', H', I.unwish, q⟩
  | cont => obtain ⟨σ', H', I, q⟩ := h; exact ⟨σ', H', I.unwish, q⟩
  | ret u => obtain ⟨v, σ', H', I, r, q⟩ := h; exact ⟨v, σ', H', I.unwish, r, q⟩
theorem PE.nox {e : Expr} {t : TE} (h : PE X.nox e t) : PE X e t := fun pins s σ H Q I hw =>
  wpAny_mono (h pins s σ H Q (I.wish _) hw) (fun _ _ ⟨v, H', I', r, q⟩ => ⟨v, H', I'.unwish, r, q⟩) fun _ _ z => False.elim z
theorem PT.nox {e : Expr} {t : TT} (h : PT X.nox e t) : PT X e t := fun pins s σ H Q I hw =>
  wpAny_mono (h pins s σ H Q (I.wish _) hw) (fun _ _ ⟨H', I', q⟩ => ⟨H', I'.unwish, q⟩) fun _ _ z => False.elim z
theorem PSs.nox {st : List Stmt} {t : TS} (h : PSs X.nox st t) : PSs X st t := fun pins s σ H D I hw =>
  wpAny_mono (h pins s σ H D (I.wish _) hw) (fun _ _ q => q.unwish) fun _ _ z => False.elim z
end
section
variable {X : Cx} {st : Stmt} {rest : List Stmt} {t u : TS} {e : Expr} {te : TE} {pos : Pos}
def tNext : TS := fun D σ H => D.nx σ H
def tSeq (t u : TS) : TS := fun D σ H => t { D with nx := u D } σ H
theorem pss_nil : PSs X [] tNext := fun _ _ σ H _ I h => wpAny_execs_nil ⟨σ, H, I, h⟩
theorem pss_cons (h1 : PS X st t) (h2 : PSs X rest u) : PSs X (st :: rest) (tSeq t u) := by
  intro pins s σ H D I h
  refine wpAny_execs_cons (thn (h1 pins s σ H { D with nx := u D } I h) fun f s1 q => ?_)
  cases f with
  | next =>
    obtain ⟨σ', H', I', q⟩ := q
    exact h2 pins s1 σ' H' D I' q
  | ret v => exact q
  | brk => exact q
  | cont => exact q
theorem pss_one (h1 : PS X st t) : PSs X [st] t := by
  intro pins s σ H D I h
  refine wpAny_execs_cons (thn (h1 pins s σ H D I h) fun f s1 q => ?_)
  cases f with
  | next => exact wpAny_execs_nil q
  | ret v => exact q
  | brk => exact q
  | cont => exact q
theorem Inv.quiet {pins : List (Addr × Obj)} {σ : St} {H : Hp} {s : Shared} (I : Inv X pins σ H s) : interactive X.env = false := by simp [interactive, I.ok.kind]
def tDrop (te : TE) : TS := fun D σ H => te σ H fun _ H1 => D.nx σ H1
theorem ps_expr (he : PE X e te) (hs : swapsWith e none pos.line X.env = pure false := by rfl) : PS X (.Expr e pos) (tDrop te) := by
  intro pins s σ H D I h
  exact wpAny_Expr_any (thn (he pins s σ H _ I h) fun v s1 ⟨x, H1, I1, r1, q1⟩ => ⟨σ, H1, I1, q1⟩) I.quiet hs
def tRet (te : TE) : TS := fun D σ H => te σ H D.rt
theorem ps_ret (he : PE X e te) : PS X (.Return (some e) pos) (tRet te) := by
  intro pins s σ H D I h
  exact wpAny_Return_some (thn (he pins s σ H _ I h) fun v s1 ⟨x, H1, I1, r1, q1⟩ => ⟨x, σ, H1, I1, r1, q1⟩)
def tIfS (c : TT) (t u : TS) : TS := fun D σ H => c σ H fun b H1 => if b = true then t D σ H1 else u D σ H1
theorem ps_if {c : Expr} {a b : List Stmt} {tc : TT} (hc : PT X c tc) (ha : PSs X a t) (hb : PSs X b u) : PS X (.If c a b pos) (tIfS tc t u) := by
  intro pins s σ H D I h
  refine wpAny_If (thn (hc pins s σ H _ I h) fun d s1 ⟨H1, I1, q1⟩ => ?_)
  cases d with
  | true => exact ha pins s1 σ H1 D I1 q1
  | false => exact hb pins s1 σ H1 D I1 q1
end
abbrev TG := V → St → Hp → (St → Hp → Prop) → Prop
abbrev TGs := List V → St → Hp → (St → Hp → Prop) → Prop
def PG (X : Cx) (target : Expr) (t : TG) : Prop :=
  ∀ (pins : List (Addr × Obj)) (s : Shared) (σ : St) (H : Hp) (v : V) (u : Value) (Q : St → Hp → Prop), Inv X pins σ H s → RelV v u → t v σ H Q →
    wpAny (model X.prog X.w) X.A (assign target X.env u) (fun _ s' => ∃ σ' H', Inv X pins σ' H' s' ∧ Q σ' H') X.xe s
def PGs (X : Cx) (ts : List Expr) (t : TGs) : Prop :=
  ∀ (pins : List (Addr × Obj)) (s : Shared) (σ : St) (H : Hp) (vs : List V) (us : List Value) (Q : St → Hp → Prop), Inv X pins σ H s → Vals vs us → t vs σ H Q →
    wpAny (model X.prog X.w) X.A (assignInOrder ((assignEach ts X.env).map (·.2)) us) (fun _ s' => ∃ σ' H', Inv X pins σ' H' s' ∧ Q σ' H') X.xe s
abbrev TIp := V → V → Hp → VK → Prop
def PIp (X : Cx) (op : Operator) (t : TIp) : Prop :=
  ∀ (pins : List (Addr × Obj)) (s : Shared) (σ : St) (H : Hp) (x y : V) (v u : Value) (Q : VK), Inv X pins σ H s → RelV x v → RelV y u → t x y H Q →
    wpAny (model X.prog X.w) X.A (inplaceOp op v u) (EP X pins σ Q) X.xe s
section
variable {X : Cx} {pos : Pos}
def gName (i : Nat) : TG := fun v σ H Q => Q (σ.set i (some v)) H
theorem pg_name {i : Nat} {x : Str} (hN : X.N.Nodup) (hi : X.N[i]? = some x) (hx : Loc X.env.scope x) (hf : X.fn x = true ∨ X.env.scope.names.lookup x = some .local := by first | exact .inl rfl | exact .inr rfl | assumption) : PG X (.Name x pos) (gName i) := by
  intro pins s σ H v u Q I r h
  exact wpAny_assign_Name (store_ok I hN hi hx r (fun s' I' => ⟨_, H, I', h⟩) hf)
def gNil : TGs := fun vs σ H Q => vs = [] ∧ Q σ H
def gCons (t : TG) (u : TGs) : TGs := fun vs σ H Q => ∃ v r, vs = v :: r ∧ t v σ H fun σ' H' => u r σ' H' Q
theorem pgs_nil : PGs X [] gNil := by
  intro pins s σ H vs us Q I r h
  obtain ⟨e, h⟩ := h
  subst e
  cases r
  exact assignInOrder_nil ⟨σ, H, I, h⟩
theorem pgs_cons {e : Expr} {es : List Expr} {t : TG} {u : TGs} (h1 : PG X e t) (h2 : PGs X es u)
    (hs : (assignEach (e :: es) X.env).map (·.2) = assign e X.env :: (assignEach es X.env).map (·.2) := by rfl) : PGs X (e :: es) (gCons t u) := by
  intro pins s σ H vs us Q I r h
  obtain ⟨v, vr, e1, h⟩ := h
  subst e1
  cases r with
  | cons r rr =>
    rw [hs]
    refine assignInOrder_cons (thn (h1 pins s σ H _ _ _ I r h) fun _ s1 ⟨σ1, H1, I1, q1⟩ => ?_)
    exact h2 pins s1 σ1 H1 _ _ Q I1 rr q1
def gTup (K : PySem.W.Frag) (n : Nat) (t : TGs) : TG := fun v σ H Q => ∃ a xs, v = .ref a ∧ SqT K H a xs ∧ xs.length = n ∧ t xs σ H Q
theorem pg_tup {es : List Expr} {k : Nat} {t : TGs} {n : Nat} (hc : X.calm = true) (h : PGs X es t)
    (hn : (assignEach es X.env).length = n := by rfl) (hst : (assignEach es X.env).findIdx? (·.1) = none := by rfl) : PG X (.Tuple es k pos) (gTup X.K n t) := by
  intro pins s σ H v u Q I r hw
  obtain ⟨a, xs, e1, hq, hl, hw⟩ := hw
  subst e1
  cases r
  obtain ⟨its, rv, ht, hz⟩ := I.tuple hq
  refine assign_Tuple_tuple (I.ok.hd hc) ht (by simp [hn, ← hl, rv.length]) hst fun h' hx => ?_
  have I1 : Inv X pins σ H { s with heap := h' } := I.kept (t' := s.toks) fun b o e => hx b o (Nat.ne_of_lt (Heap.lt_size e)) e
  exact h pins _ σ H xs _ Q I1 (by simpa using rv) hw
def tAsg (te : TE) (g : TG) : TS := fun D σ H => te σ H fun x H1 => g x σ H1 D.nx
theorem ps_asg {tg e : Expr} {te : TE} {g : TG} (he : PE X e te) (hg : PG X tg g) (hs : swapsWithSole [tg] e pos.line X.env = pure false := by rfl) (hw : swappedStores [tg] e X.env = pure none := by rfl)
    (h1 : (assignEach [tg] X.env).map (·.2) = [assign tg X.env] := by rfl) : PS X (.Assign [tg] e pos) (tAsg te g) := by
  intro pins s σ H D I h
  refine wpAny_Assign_stores (thn (he pins s σ H _ I h) fun v s1 ⟨x, H1, I1, r1, q1⟩ => ?_) hs hw
  rw [h1]
  exact thn (hg pins s1 σ H1 x v _ I1 r1 q1) fun _ s2 q => q
theorem ps_set {i : Nat} {x : Str} {e : Expr} {te : TE} {pos' : Pos} (hN : X.N.Nodup) (hi : X.N[i]? = some x) (hx : Loc X.env.scope x) (he : PE X e te) (hs : swapsWith e (some (.Name x pos')) pos.line X.env = pure false := by rfl) (hf : X.fn x = true ∨ X.env.scope.names.lookup x = some .local := by first | exact .inl rfl | exact .inr rfl | assumption) :
    PS X (.Assign [.Name x pos'] e pos) (tAsg te (gName i)) := by
  intro pins s σ H D I h
  refine wpAny_Assign_Name (thn (he pins s σ H _ I h) fun v s1 ⟨y, H1, I1, r1, q1⟩ => ?_) hs
  exact store_ok I1 hN hi hx r1 (fun s2 I2 => ⟨_, H1, I2, q1⟩) hf
def tAug (i : Nat) (te : TE) (ti : TIp) : TS := fun D σ H => ∃ x, σ[i]? = some (some x) ∧ te σ H fun y H1 => ti x y H1 fun z H2 => D.nx (σ.set i (some z)) H2
theorem ps_aug {i : Nat} {x : Str} {e : Expr} {te : TE} {op : Operator} {ti : TIp} {pos' : Pos} (hN : X.N.Nodup) (hi : X.N[i]? = some x) (hx : Loc X.env.scope x) (he : PE X e te) (ho : PIp X op ti) (hf : X.fn x = true ∨ X.env.scope.names.lookup x = some .local := by first | exact .inl rfl | exact .inr rfl | assumption) :
    PS X (.AugAssign (.Name x pos') op e pos) (tAug i te ti) := by
  intro pins s σ H D I h
  obtain ⟨v, e1, h⟩ := h
  obtain ⟨m, hn, hl⟩ := I.loc
  have vis : Vis X.env.scope x := by rcases hx with k | k; exact .inl k; exact .inr (.inl k)
  obtain ⟨u, r, l⟩ := hl i x v hi e1 vis
  refine wpAny_AugAssign_Name ?_
  have go : wpAny (model X.prog X.w) X.A (eval e X.env) (fun w s₂ => wpAny (model X.prog X.w) X.A (inplaceOp op u w) (fun r s₃ => wpAny (model X.prog X.w) X.A (storeName X.env x r) (fun _ => SP X pins D .next) X.xe s₃) X.xe s₂) X.xe s := by
    refine thn (he pins s σ H _ I h) fun w s1 ⟨y, H1, I1, r1, q1⟩ => ?_
    refine thn (ho pins s1 σ H1 v y u w _ I1 r r1 q1) fun z s2 ⟨zv, H2, I2, r2, q2⟩ => ?_
    exact store_ok I2 hN hi hx r2 (fun s3 I3 => ⟨_, H2, I3, q2⟩) hf
  rcases l with ⟨hk, hm⟩ | ⟨hk, c, hc, hcell⟩
  · exact wpAny_loadName_local I.ok.kind hk hn hm go
  · rcases hk with hk | hk
    · exact wpAny_loadName_cell I.ok.kind hk hc hcell go
    · rcases hx with k | k
      · have : X.env.scope.names.lookup x = some .free := hk
        rw [k] at this; cases this
      · have : X.env.scope.names.lookup x = some .free := hk
        rw [k] at this; cases this
def ipI (f : Int → Int → Int) : TIp := fun x y H Q => ∃ i j, x = .int i ∧ y = .int j ∧ Q (.int (f i j)) H
theorem ip_add : PIp X .Add (ipI fun i j => i + j) := by
  intro pins s σ H x y v u Q I r1 r2 h
  obtain ⟨i, j, e1, e2, q⟩ := h
  subst e1; subst e2
  obtain ⟨t, rfl⟩ := r1
  obtain ⟨t', rfl⟩ := r2
  exact iadd_int ⟨.int _, H, I.tok _, ⟨_, rfl⟩, q⟩
end
section
variable {X : Cx} {pos : Pos}
def tWhile (c : TT) (tb : TS) : TS := fun D σ H => ∃ W : Nat → St → Hp → Prop, (∃ m, W m σ H) ∧ ∀ m σ H, W m σ H →
  c σ H fun b H1 => if b = true then ∃ N : St → Hp → Prop, (∀ σ' H', N σ' H' → ∃ m', m' < m ∧ W m' σ' H') ∧ tb { D with nx := N, ct := N, bk := D.nx } σ H1 else D.nx σ H1
theorem ps_while {c : Expr} {body : List Stmt} {tc : TT} {tb : TS} (hp : PassesOwn (model X.prog X.w) X.A X.env X.xe) (hc : PT X c tc) (hb : PSs X body tb) : PS X (.While c body [] pos) (tWhile tc tb) := by
  intro pins s σ H D I h
  obtain ⟨W, ⟨m0, w0⟩, turn⟩ := h
  refine wpAny_While (codeAny_whileLoop (fun n s' => ∃ σ' H', Inv X pins σ' H' s' ∧ W n σ' H') ?_ m0 ⟨σ, H, I, w0⟩)
  rintro n s1 ⟨σ1, H1, I1, w1⟩
  refine wpAny_passesOwn hp (thn (hc pins s1 σ1 H1 _ I1 (turn n σ1 H1 w1)) fun b s2 ⟨H2, I2, q2⟩ => ?_)
  cases b with
  | true =>
    obtain ⟨N, hN, q2⟩ := q2
    rw [if_pos rfl]
    refine wpAny_passesOwn hp (thn (hb pins s2 σ1 H2 _ I2 q2) fun f s3 q3 => ?_)
    cases f with
    | next =>
      obtain ⟨σ3, H3, I3, n3⟩ := q3
      obtain ⟨m', hm, w3⟩ := hN σ3 H3 n3
      exact ⟨m', hm, σ3, H3, I3, w3⟩
    | cont =>
      obtain ⟨σ3, H3, I3, n3⟩ := q3
      obtain ⟨m', hm, w3⟩ := hN σ3 H3 n3
      exact ⟨m', hm, σ3, H3, I3, w3⟩
    | brk => exact q3
    | ret v => exact q3
  | false =>
    rw [if_neg Bool.false_ne_true]
    exact wpAny_execs_nil ⟨σ1, H2, I2, q2⟩
end
structure It where
  go : Nat → Hp → Prop
  yld : Nat → Hp → V → Hp → Prop
  stop : Nat → Hp → Prop
def FpOk (X : Cx) (pins : List (Addr × Obj)) (H : Hp) (b : Addr) : Prop :=
  H b = none ∧ b ≠ X.env.locals ∧ b ∉ X.fs ∧ (b ∈ X.ex ∨ X.s₀.heap.objs.size ≤ b) ∧ (∀ x c, X.env.cells.lookup x = some c → c ≠ b) ∧ ∀ p ∈ X.pn ++ pins, p.1 ≠ b
theorem Inv.fpOk {X : Cx} {pins : List (Addr × Obj)} {σ : St} {H H' : Hp} {s : Shared} {b : Addr} (I : Inv X pins σ H s) (hb : s.heap.objs.size ≤ b) (hn : H' b = none) : FpOk X pins H' b := by
  refine ⟨hn, Nat.ne_of_gt (Nat.lt_of_lt_of_le I.lt hb), I.nofs hb, .inr (Nat.le_trans I.sz hb), fun x c e z => ?_, fun p hp z => ?_⟩
  · obtain ⟨v, q⟩ := I.cell x c e
    exact absurd (Nat.lt_of_lt_of_le q.lt (by rw [z]; exact hb)) (Nat.lt_irrefl _)
  · exact absurd (Nat.lt_of_lt_of_le (Heap.lt_size (I.pin p hp).1) (by rw [z]; exact hb)) (Nat.lt_irrefl _)
structure Turn (P : Program) (w : World) (K : PySem.W.Frag) (tg : Expr) (J : It) (fp : List Addr) (it : Addr) (tn : Nat → Heap → Prop) : Prop where
  mem : it ∈ fp
  obj : ∀ i h, tn i h → ∀ b ∈ fp, ∃ o, h.get? b = some o ∧ ∀ v, o.data ≠ .cell v
  keep : ∀ i h h', tn i h → (∀ b ∈ fp, ∀ o, h.get? b = some o → h'.get? b = some o) → tn i h'
  item : ∀ (X : Cx), X.prog = P → X.w = w → X.K = K → X.calm = true → ∀ (i : Nat) (pins : List (Addr × Obj)) (s : Shared) (σ : St) (H : Hp) (E : Value → Shared → Prop), Inv X pins σ H s → (∀ b ∈ fp, FpOk X pins H b) → tn i s.heap → J.go i H →
    wpAny (model P w) X.A (pyNext (.ref it)) (fun r s1 => ∃ u, r = some u ∧
      wpAny (model P w) X.A (letOwnedTupleGo tg (.ref it) u) (fun _ s2 => ∃ x H', Inv X pins σ H' s2 ∧ RelV x u ∧ J.yld i H x H' ∧ tn (i + 1) s2.heap ∧ ∀ b ∈ fp, H' b = none) E s1) E s
  done : ∀ (X : Cx), X.prog = P → X.w = w → X.K = K → X.calm = true → ∀ (i : Nat) (pins : List (Addr × Obj)) (s : Shared) (σ : St) (H : Hp) (E : Value → Shared → Prop), Inv X pins σ H s → (∀ b ∈ fp, FpOk X pins H b) → tn i s.heap → J.stop i H →
    wpAny (model P w) X.A (pyNext (.ref it)) (fun r s1 => r = none ∧ Inv X pins σ H s1) E s
  self : ∀ (A : Around) (i : Nat) (s : Shared) (Q : Value → Shared → Prop) (E : Value → Shared → Prop), tn i s.heap → Q (.ref it) s → wpAny (model P w) A (pyIter (.ref it)) Q E s
abbrev TI := St → Hp → (It → Hp → Prop) → Prop
def PIE (X : Cx) (pins : List (Addr × Obj)) (σ : St) (tg : Expr) (R : It → Hp → Prop) (itv : Value) (s2 : Shared) : Prop :=
  ∃ (it : Addr) (fp : List Addr) (tn : Nat → Heap → Prop) (J : It) (H' : Hp), itv = .ref it ∧ Inv X pins σ H' s2 ∧ Turn X.prog X.w X.K tg J fp it tn ∧ tn 0 s2.heap ∧ (∀ b ∈ fp, FpOk X pins H' b) ∧ R J H'
def PI (X : Cx) (tg iter : Expr) (wi : TI) : Prop :=
  ∀ (pins : List (Addr × Obj)) (s : Shared) (σ : St) (H : Hp) (R : It → Hp → Prop), Inv X pins σ H s → wi σ H R →
    wpAny (model X.prog X.w) X.A (eval iter X.env) (fun v s1 => wpAny (model X.prog X.w) X.A (pyIter v) (PIE X pins σ tg R) X.xe s1) X.xe s
theorem go_of {M : Model} {A : Around} {E : Value → Shared → Prop} {s : Shared} {tg : Expr} {it : Addr} {u : Value} {o : Obj} {n : String} {vs : Array Value} {Q : Unit → Shared → Prop} (ho : s.heap.get? it = some o) (hc : o.cls = .type n) (hd : o.data = .fields vs)
    (hn : ["enumerate", "zip", "dict_itemiterator", "dict_reverseitemiterator", "odict_iterator", "itertools.zip_longest", "itertools.pairwise"].contains n = false) (hQ : Q () s) : wpAny M A (letOwnedTupleGo tg (.ref it) u) Q E s := by
  unfold letOwnedTupleGo
  cases tg <;> first
    | exact wpAny_pure hQ
    | (cases u <;> first
        | exact wpAny_pure hQ
        | (refine wpAny_bind (wpAny_load ho ?_)
           rw [hc, hd]
           show wpAny M A (if (["enumerate", "zip", "dict_itemiterator", "dict_reverseitemiterator", "odict_iterator", "itertools.zip_longest", "itertools.pairwise"].contains n && vs[0]? == some (rawInt _)) = true then _ else _) Q E s
           rw [if_neg (by intro h; rw [hn, Bool.false_and] at h; cases h)]
           exact wpAny_pure hQ))
def Itl (K : PySem.W.Frag) (a : Addr) : It :=
  ⟨fun i H => ∃ xs x, SqL K H a xs ∧ xs[i]? = some x, fun i H x H' => H' = H ∧ ∀ xs, SqL K H a xs → xs[i]? = some x, fun i H => ∃ xs, SqL K H a xs ∧ xs.length ≤ i⟩
def Itt (K : PySem.W.Frag) (a : Addr) : It :=
  ⟨fun i H => ∃ xs x, SqT K H a xs ∧ xs[i]? = some x, fun i H x H' => H' = H ∧ ∀ xs, SqT K H a xs → xs[i]? = some x, fun i H => ∃ xs, SqT K H a xs ∧ xs.length ≤ i⟩
def Itr (lo : Int) (n : Nat) : It := ⟨fun i _ => i < n, fun i H x H' => H' = H ∧ x = .int (lo + i), fun i _ => n ≤ i⟩
theorem turn_list {P : Program} {w : World} {K : PySem.W.Frag} {tg : Expr} (a it : Addr) : Turn P w K tg (Itl K a) [it] it (fun i h => h.IsListIter it a i) where
  mem := by simp
  obj := fun i h st b hb => by
    have e : b = it := by simpa using hb
    subst e
    obtain ⟨o, e, c, d⟩ := st
    exact ⟨o, e, fun v z => by rw [d] at z; cases z⟩
  keep := fun i h h' st k => st.at fun o e => k it (by simp) o e
  item := by
    intro X hP hw hK hc i pins s σ H E I hf st hg
    subst hP hw hK
    obtain ⟨xs, x, hq, hx⟩ := hg
    obtain ⟨its, rv, p, hz⟩ := I.list hq
    obtain ⟨u, hu, ru⟩ := rv.get hx
    obtain ⟨f0, f1, f2, f3, f4, f5⟩ := hf it (by simp)
    refine wpAny_pyNext_list_item st p.isList (x := u) (by simpa using hu) fun h' st' sb => ?_
    have I1 : Inv X pins σ H { s with heap := h' } := I.turned (t' := s.toks) (fun b o hb e => (sb.2 b hb).trans e) f0 f1 f3 f4 f5
    obtain ⟨o, e, c, d⟩ := id st'
    exact ⟨u, rfl, go_of (s := { s with heap := h' }) e c d (by decide) ⟨x, H, I1, ru, ⟨rfl, fun ys hy => by rw [I.list_inj hy hq]; exact hx⟩, st', fun b hb => (hf b hb).1⟩⟩
  done := by
    intro X hP hw hK hc i pins s σ H E I hf st hg
    subst hP hw hK
    obtain ⟨xs, hq, hx⟩ := hg
    obtain ⟨its, rv, p, hz⟩ := I.list hq
    obtain ⟨f0, f1, f2, f3, f4, f5⟩ := hf it (by simp)
    have hl := rv.length
    exact wpAny_pyNext_list_end (I.ok.hd hc) st p.isList (by simp; omega) fun h' eb => ⟨rfl, I.turned (t' := s.toks) (fun b o hb e => eb b o hb e) f0 f1 f3 f4 f5⟩
  self := fun _ _ _ _ _ st h => wpAny_pyIter_listiter st h
theorem turn_tuple {P : Program} {w : World} {K : PySem.W.Frag} {tg : Expr} (a it : Addr) : Turn P w K tg (Itt K a) [it] it (fun i h => h.IsTupleIter it a i) where
  mem := by simp
  obj := fun i h st b hb => by
    have e : b = it := by simpa using hb
    subst e
    obtain ⟨o, e, c, d⟩ := st
    exact ⟨o, e, fun v z => by rw [d] at z; cases z⟩
  keep := fun i h h' st k => st.at fun o e => k it (by simp) o e
  item := by
    intro X hP hw hK hc i pins s σ H E I hf st hg
    subst hP hw hK
    obtain ⟨xs, x, hq, hx⟩ := hg
    obtain ⟨its, rv, p, hz⟩ := I.tuple hq
    obtain ⟨u, hu, ru⟩ := rv.get hx
    obtain ⟨f0, f1, f2, f3, f4, f5⟩ := hf it (by simp)
    refine wpAny_pyNext_tuple_item st (show s.heap.IsTuple a its.toArray from p) (x := u) (by simpa using hu) fun h' st' sb => ?_
    have I1 : Inv X pins σ H { s with heap := h' } := I.turned (t' := s.toks) (fun b o hb e => (sb.2 b hb).trans e) f0 f1 f3 f4 f5
    obtain ⟨o, e, c, d⟩ := id st'
    exact ⟨u, rfl, go_of (s := { s with heap := h' }) e c d (by decide) ⟨x, H, I1, ru, ⟨rfl, fun ys hy => by rw [I.tuple_inj hy hq]; exact hx⟩, st', fun b hb => (hf b hb).1⟩⟩
  done := by
    intro X hP hw hK hc i pins s σ H E I hf st hg
    subst hP hw hK
    obtain ⟨xs, hq, hx⟩ := hg
    obtain ⟨its, rv, p, hz⟩ := I.tuple hq
    obtain ⟨f0, f1, f2, f3, f4, f5⟩ := hf it (by simp)
    have hl := rv.length
    exact wpAny_pyNext_tuple_end (I.ok.hd hc) st (show s.heap.IsTuple a its.toArray from p) (by simp; omega) fun h' eb => ⟨rfl, I.turned (t' := s.toks) (fun b o hb e => eb b o hb e) f0 f1 f3 f4 f5⟩
  self := fun _ _ _ _ _ st h => wpAny_pyIter_tupleiter st h
theorem turn_range {P : Program} {w : World} {K : PySem.W.Frag} {tg : Expr} (it : Addr) (lo : Int) (n : Nat) : Turn P w K tg (Itr lo n) [it] it (fun i h => IsRangeIter h it (lo + (i : Nat) * 1) ((n : Int) - (i : Nat)) 1) where
  mem := by simp
  obj := fun i h st b hb => by
    have e : b = it := by simpa using hb
    subst e
    exact ⟨_, st, fun v z => by
      have z' : Data.fields _ = Data.cell v := z
      cases z'⟩
  keep := fun i h h' st k => k it (by simp) _ st
  item := by
    intro X hP hw hK hc i pins s σ H E I hf st hg
    subst hP hw hK
    obtain ⟨f0, f1, f2, f3, f4, f5⟩ := hf it (by simp)
    have W := Walks.range (prog := X.prog) (w := X.w) (I.ok.hd hc) it lo 1 n
    refine W.item i s _ _ hg st fun v h' tk hv st' kk => ?_
    obtain ⟨t, rfl⟩ := hv
    have I1 : Inv X pins σ H { s with heap := h', toks := tk } := I.turned (fun b o hb e => kk b o (by simpa using hb) e) f0 f1 f3 f4 f5
    refine ⟨_, rfl, go_of (s := { s with heap := h', toks := tk }) (n := "range_iterator") st' rfl rfl (by decide) ⟨.int (lo + i), H, I1, ⟨t, ?_⟩, ⟨rfl, rfl⟩, st', fun b hb => (hf b hb).1⟩⟩
    rw [Int.mul_one]
  done := by
    intro X hP hw hK hc i pins s σ H E I hf st hg
    subst hP hw hK
    obtain ⟨f0, f1, f2, f3, f4, f5⟩ := hf it (by simp)
    exact wpAny_pyNext_range_end (I.ok.hd hc) st (by have : n ≤ i := hg; omega) fun h' eb => ⟨rfl, I.turned (t' := s.toks) (fun b o hb e => eb b o hb e) f0 f1 f3 f4 f5⟩
  self := fun _ _ _ _ _ st h => wpAny_pyIter_rangeiter st h
end L2
namespace L2
open PySem PySem.Spec PyProof.Rows
section
variable {X : Cx} {tg : Expr}
def iList (K : PySem.W.Frag) (tl : TE) : TI := fun σ H R => tl σ H fun x H1 => ∃ a, x = .ref a ∧ (∃ xs, SqL K H1 a xs) ∧ R (Itl K a) H1
def iTup (K : PySem.W.Frag) (tl : TE) : TI := fun σ H R => tl σ H fun x H1 => ∃ a, x = .ref a ∧ (∃ xs, SqT K H1 a xs) ∧ R (Itt K a) H1
theorem pi_list {l : Expr} {tl : TE} (hl : PE X l tl) : PI X tg l (iList X.K tl) := by
  intro pins s σ H R I h
  refine thn (hl pins s σ H _ I h) fun v s1 ⟨x, H1, I1, r1, q1⟩ => ?_
  obtain ⟨a, e, ⟨xs, hq⟩, q⟩ := q1
  subst e
  cases r1
  obtain ⟨its, rv, p, hz⟩ := I1.list hq
  refine wpAny_pyIter_list p.isList ?_
  refine ⟨s1.heap.objs.size, [s1.heap.objs.size], _, _, H1, rfl, I1.kept (t' := s1.toks) fun b o e => Heap.get?_push_of_some _ e, turn_list a _, ⟨_, Heap.get?_push_size _ rfl, rfl, rfl⟩, fun b hb => ?_, q⟩
  have e : b = s1.heap.objs.size := by simpa using hb
  subst e
  exact I1.fpOk (Nat.le_refl _) (I1.hok.fresh (Nat.le_refl _))
theorem pi_tup {l : Expr} {tl : TE} (hl : PE X l tl) : PI X tg l (iTup X.K tl) := by
  intro pins s σ H R I h
  refine thn (hl pins s σ H _ I h) fun v s1 ⟨x, H1, I1, r1, q1⟩ => ?_
  obtain ⟨a, e, ⟨xs, hq⟩, q⟩ := q1
  subst e
  cases r1
  obtain ⟨its, rv, p, hz⟩ := I1.tuple hq
  refine wpAny_pyIter_tuple (show s1.heap.IsTuple a its.toArray from p) ?_
  refine ⟨s1.heap.objs.size, [s1.heap.objs.size], _, _, H1, rfl, I1.kept (t' := s1.toks) fun b o e => Heap.get?_push_of_some _ e, turn_tuple a _, ⟨_, Heap.get?_push_size _ rfl, rfl, rfl⟩, fun b hb => ?_, q⟩
  have e : b = s1.heap.objs.size := by simpa using hb
  subst e
  exact I1.fpOk (Nat.le_refl _) (I1.hok.fresh (Nat.le_refl _))
theorem range_it {pins : List (Addr × Obj)} {σ : St} {H : Hp} {s : Shared} {R : It → Hp → Prop} {E : Value → Shared → Prop} {lo hi : Int} {t u v : Tok} {tk : Nat} (I : Inv X pins σ H s) (h1 : -(2 ^ 62) ≤ lo) (h2 : lo < 2 ^ 62) (h3 : -(2 ^ 62) ≤ hi) (h4 : hi < 2 ^ 62)
    (q : R (Itr lo (hi - lo).toNat) H) : wpAny (model X.prog X.w) X.A (pyIter (.ref s.heap.objs.size)) (PIE X pins σ tg R) E { s with heap := s.heap.push { cls := .type "range", data := .fields #[.int lo t, .int hi u, .int 1 v] }, toks := tk } := by
  refine wpAny_pyIter_range (IsRange.new ..) (small_one h1 h2 h3 h4) ?_
  have I1 : Inv X pins σ H { s with heap := s.heap.push { cls := .type "range", data := .fields #[.int lo t, .int hi u, .int 1 v] }, toks := tk } := I.kept fun b o e => Heap.get?_push_of_some _ e
  refine ⟨(s.heap.push { cls := .type "range", data := .fields #[.int lo t, .int hi u, .int 1 v] }).objs.size, [(s.heap.push { cls := .type "range", data := .fields #[.int lo t, .int hi u, .int 1 v] }).objs.size], _, _, H, rfl,
    I1.kept (t' := tk) fun b o e => Heap.get?_push_of_some _ e, turn_range _ lo (hi - lo).toNat, ?_, fun b hb => ?_, q⟩
  · have e1 : lo + ((0 : Nat) : Int) * 1 = lo := by simp
    have e2 : (((hi - lo).toNat : Nat) : Int) - ((0 : Nat) : Int) = Builtin.Range.rangeSize lo hi 1 := by rw [rangeSize_one]; split <;> omega
    show IsRangeIter _ _ (lo + ((0 : Nat) : Int) * 1) ((((hi - lo).toNat : Nat) : Int) - ((0 : Nat) : Int)) 1
    rw [e1, e2]
    exact Heap.get?_push_size _ rfl
  · have e : b = (s.heap.push { cls := .type "range", data := .fields #[.int lo t, .int hi u, .int 1 v] }).objs.size := by simpa using hb
    subst e
    exact I1.fpOk (Nat.le_refl _) (I1.hok.fresh (Nat.le_refl _))
def iRng1 (ta : TA) : TI := fun σ H R => ta σ H fun vs H1 => ∃ j : Int, vs = [.int j] ∧ -(2 ^ 62) ≤ j ∧ j < 2 ^ 62 ∧ R (Itr 0 j.toNat) H1
theorem pi_range1 {a : Expr} {ta : TA} {p pos : Pos} (hg : Gl X "range") (hm : X.mg "range" = none) (ha : PA X [a] ta) (hs : starEach [a] X.env = [(false, eval a X.env)] := by rfl) : PI X tg (.Call (.Name "range" p) [a] [] pos) (iRng1 ta) := by
  intro pins s σ H R I h
  refine Call_ (ld_blt I hg hm boot_range (PyProof.Rows.callWith_type1 (thn (ha pos pins s σ H _ I h) fun us s1 ⟨vs, H1, I1, r1, q1⟩ => ?_) hs rfl))
  obtain ⟨j, e, q1, q2, q⟩ := q1
  subst e
  cases r1 with
  | cons r rr =>
    cases rr
    obtain ⟨t, rfl⟩ := r
    exact call_range_1 (range_it I1 (by omega) (by omega) q1 q2 (by simpa using q))
def tFor (wi : TI) (g : TG) (tb : TS) : TS := fun D σ H => wi σ H fun J H1 => ∃ W : Nat → Nat → St → Hp → Prop, (∃ m, W 0 m σ H1) ∧ ∀ i m σ H, W i m σ H →
  (J.stop i H ∧ D.nx σ H) ∨ (J.go i H ∧ ∃ N : St → Hp → Prop, (∀ σ' H', N σ' H' → ∃ m', m' < m ∧ W (i + 1) m' σ' H') ∧ ∀ x H', J.yld i H x H' → g x σ H' fun σ2 H2 => tb { D with nx := N, ct := N, bk := D.nx } σ2 H2)
def pinsAt (fp : List Addr) (h : Heap) : List (Addr × Obj) := fp.filterMap fun b => (h.get? b).map fun o => (b, o)
theorem mem_pinsAt {fp : List Addr} {h : Heap} {b : Addr} {o : Obj} (hb : b ∈ fp) (e : h.get? b = some o) : (b, o) ∈ pinsAt fp h := List.mem_filterMap.mpr ⟨b, hb, by rw [e]; rfl⟩
theorem of_pinsAt {fp : List Addr} {h : Heap} {p : Addr × Obj} (hp : p ∈ pinsAt fp h) : p.1 ∈ fp ∧ h.get? p.1 = some p.2 := by
  obtain ⟨b, hb, e⟩ := List.mem_filterMap.mp hp
  cases q : h.get? b with
  | none => rw [q] at e; cases e
  | some o =>
    rw [q] at e
    have e' : (b, o) = p := Option.some.inj e
    subst e'
    exact ⟨hb, q⟩
theorem Inv.pinned {pins : List (Addr × Obj)} {σ : St} {H : Hp} {s : Shared} {fp : List Addr} (I : Inv X pins σ H s) (hf : ∀ b ∈ fp, FpOk X pins H b) (ho : ∀ b ∈ fp, ∃ o, s.heap.get? b = some o ∧ ∀ v, o.data ≠ .cell v) : Inv X (pins ++ pinsAt fp s.heap) σ H s :=
  I.pins_of fun p hp => (List.mem_append.mp hp).elim (fun z => I.pin p (List.mem_append_right _ z)) fun z => by
    obtain ⟨hb, e⟩ := of_pinsAt z
    obtain ⟨f0, f1, f2, _⟩ := hf p.1 hb
    obtain ⟨o, e', d⟩ := ho p.1 hb
    rw [e] at e'; cases e'
    exact ⟨e, f0, f1, f2, d⟩
theorem Inv.unpinned {pins pl : List (Addr × Obj)} {σ : St} {H : Hp} {s : Shared} (I : Inv X (pins ++ pl) σ H s) : Inv X pins σ H s := I.pins_of fun p hp => I.pin p (List.mem_append_right _ (List.mem_append_left _ hp))
theorem ps_for {iter : Expr} {body : List Stmt} {wi : TI} {g : TG} {tb : TS} {pos : Pos} (hp : PassesOwn (model X.prog X.w) X.A X.env X.xe) (hc : X.calm = true) (hi : PI X tg iter wi) (hg : PG X tg g) (hb : PSs X body tb)
    (hs : ∀ x, foldedSetIterable iter X.env x = pure x := by intro _; rfl) : PS X (.For tg iter body [] pos) (tFor wi g tb) := by
  intro pins s σ H D I h
  refine wpAny_For (thn (hi pins s σ H _ I h) fun v s1 h1 => thn h1 fun itv s2 h2 => ?_) hs
  obtain ⟨it, fp, tn, J, H2, e, I2, T, st2, f2, W, ⟨m0, w0⟩, turn⟩ := h2
  subst e
  have stat : ∀ {H' : Hp}, (∀ b ∈ fp, H' b = none) → ∀ b ∈ fp, FpOk X pins H' b := fun hn b hb => ⟨hn b hb, (f2 b hb).2⟩
  refine codeAny_forLoop_any (fun n s' => ∃ i σ' H', Inv X pins σ' H' s' ∧ tn i s'.heap ∧ (∀ b ∈ fp, H' b = none) ∧ W i n σ' H') ?_ m0 ⟨0, σ, H2, I2, st2, fun b hb => (f2 b hb).1, w0⟩
  rintro n s3 ⟨i, σ3, H3, I3, st3, fr3, w3⟩
  rcases turn i n σ3 H3 w3 with ⟨stop, qn⟩ | ⟨go, N, hN, step⟩
  · refine wpAny_passesOwn hp (thn (T.done X rfl rfl rfl hc i pins s3 σ3 H3 X.xe I3 (stat fr3) st3 stop) fun r s4 ⟨hr, I4⟩ => ?_)
    subst hr
    exact wpAny_execs_nil ⟨σ3, H3, I4, qn⟩
  · refine wpAny_passesOwn hp (thn (T.item X rfl rfl rfl hc i pins s3 σ3 H3 X.xe I3 (stat fr3) st3 go) fun r s4 ⟨u, hr, h4⟩ => ?_)
    subst hr
    refine wpAny_passesOwn hp (thn h4 fun _ s5 ⟨x, H5, I5, r5, y5, st5, fr5⟩ => ?_)
    have I5' := I5.pinned (stat fr5) (T.obj _ _ st5)
    refine wpAny_passesOwn hp (thn (hg _ s5 σ3 H5 x u _ I5' r5 (step x H5 y5)) fun _ s6 ⟨σ6, H6, I6, q6⟩ => ?_)
    refine wpAny_passesOwn hp (thn (hb _ s6 σ6 H6 _ I6 q6) fun f s7 q7 => ?_)
    have again : ∀ {σ7 : St} {H7 : Hp}, Inv X (pins ++ pinsAt fp s5.heap) σ7 H7 s7 → N σ7 H7 → ∃ m, m < n ∧ ∃ i σ' H', Inv X pins σ' H' s7 ∧ tn i s7.heap ∧ (∀ b ∈ fp, H' b = none) ∧ W i m σ' H' := fun {σ7 H7} I7 n7 => by
      obtain ⟨m', hm, w7⟩ := hN σ7 H7 n7
      refine ⟨m', hm, i + 1, σ7, H7, I7.unpinned, T.keep _ _ _ st5 fun b hb o e => (I7.pin (b, o) (List.mem_append_right _ (List.mem_append_right _ (mem_pinsAt hb e)))).1, fun b hb => ?_, w7⟩
      obtain ⟨o, e, d⟩ := T.obj _ _ st5 b hb
      exact (I7.pin (b, o) (List.mem_append_right _ (List.mem_append_right _ (mem_pinsAt hb e)))).2.1
    cases f with
    | next => obtain ⟨σ7, H7, I7, n7⟩ := q7; exact again I7 n7
    | cont => obtain ⟨σ7, H7, I7, n7⟩ := q7; exact again I7 n7
    | brk => obtain ⟨σ7, H7, I7, q7⟩ := q7; exact ⟨σ7, H7, I7.unpinned, q7⟩
    | ret v => obtain ⟨x7, σ7, H7, I7, r7, q7⟩ := q7; exact ⟨x7, σ7, H7, I7.unpinned, r7, q7⟩
end
theorem for_list {K : PySem.W.Frag} {a : Addr} {xs : List V} {g : TG} {tb : TS} {D : Ends} {σ : St} {H : Hp} (Pv : Nat → St → Hp → Prop) (h0 : Pv 0 σ H) (hl : ∀ i σ H, i ≤ xs.length → Pv i σ H → SqL K H a xs)
    (hs : ∀ i x σ H, xs[i]? = some x → Pv i σ H → g x σ H fun σ2 H2 => tb { D with nx := Pv (i + 1), ct := Pv (i + 1), bk := D.nx } σ2 H2) (hd : ∀ σ H, Pv xs.length σ H → D.nx σ H) :
    ∃ W : Nat → Nat → St → Hp → Prop, (∃ m, W 0 m σ H) ∧ ∀ i m σ H, W i m σ H →
      ((Itl K a).stop i H ∧ D.nx σ H) ∨ ((Itl K a).go i H ∧ ∃ N : St → Hp → Prop, (∀ σ' H', N σ' H' → ∃ m', m' < m ∧ W (i + 1) m' σ' H') ∧ ∀ x H', (Itl K a).yld i H x H' → g x σ H' fun σ2 H2 => tb { D with nx := N, ct := N, bk := D.nx } σ2 H2) := by
  refine ⟨fun i m σ H => m = xs.length - i ∧ i ≤ xs.length ∧ Pv i σ H, ⟨xs.length, by simp, Nat.zero_le _, h0⟩, ?_⟩
  rintro i m σ H ⟨rfl, hi, p⟩
  have q := hl i σ H hi p
  by_cases hlt : i < xs.length
  · refine .inr ⟨⟨xs, xs[i], q, by simp [hlt]⟩, Pv (i + 1), fun σ' H' p' => ⟨xs.length - (i + 1), by omega, rfl, hlt, p'⟩, fun x H' y => ?_⟩
    obtain ⟨e, y⟩ := y
    subst e
    exact hs i x σ _ (y xs q) p
  · have e : i = xs.length := by omega
    subst e
    exact .inl ⟨⟨xs, q, Nat.le_refl _⟩, hd σ H p⟩
theorem for_tup {K : PySem.W.Frag} {a : Addr} {xs : List V} {g : TG} {tb : TS} {D : Ends} {σ : St} {H : Hp} (Pv : Nat → St → Hp → Prop) (h0 : Pv 0 σ H) (hl : ∀ i σ H, i ≤ xs.length → Pv i σ H → SqT K H a xs)
    (hs : ∀ i x σ H, xs[i]? = some x → Pv i σ H → g x σ H fun σ2 H2 => tb { D with nx := Pv (i + 1), ct := Pv (i + 1), bk := D.nx } σ2 H2) (hd : ∀ σ H, Pv xs.length σ H → D.nx σ H) :
    ∃ W : Nat → Nat → St → Hp → Prop, (∃ m, W 0 m σ H) ∧ ∀ i m σ H, W i m σ H →
      ((Itt K a).stop i H ∧ D.nx σ H) ∨ ((Itt K a).go i H ∧ ∃ N : St → Hp → Prop, (∀ σ' H', N σ' H' → ∃ m', m' < m ∧ W (i + 1) m' σ' H') ∧ ∀ x H', (Itt K a).yld i H x H' → g x σ H' fun σ2 H2 => tb { D with nx := N, ct := N, bk := D.nx } σ2 H2) := by
  refine ⟨fun i m σ H => m = xs.length - i ∧ i ≤ xs.length ∧ Pv i σ H, ⟨xs.length, by simp, Nat.zero_le _, h0⟩, ?_⟩
  rintro i m σ H ⟨rfl, hi, p⟩
  have q := hl i σ H hi p
  by_cases hlt : i < xs.length
  · refine .inr ⟨⟨xs, xs[i], q, by simp [hlt]⟩, Pv (i + 1), fun σ' H' p' => ⟨xs.length - (i + 1), by omega, rfl, hlt, p'⟩, fun x H' y => ?_⟩
    obtain ⟨e, y⟩ := y
    subst e
    exact hs i x σ _ (y xs q) p
  · have e : i = xs.length := by omega
    subst e
    exact .inl ⟨⟨xs, q, Nat.le_refl _⟩, hd σ H p⟩
theorem for_range {lo : Int} {n : Nat} {g : TG} {tb : TS} {D : Ends} {σ : St} {H : Hp} (Pv : Nat → St → Hp → Prop) (h0 : Pv 0 σ H)
    (hs : ∀ i σ H, i < n → Pv i σ H → g (.int (lo + i)) σ H fun σ2 H2 => tb { D with nx := Pv (i + 1), ct := Pv (i + 1), bk := D.nx } σ2 H2) (hd : ∀ σ H, Pv n σ H → D.nx σ H) :
    ∃ W : Nat → Nat → St → Hp → Prop, (∃ m, W 0 m σ H) ∧ ∀ i m σ H, W i m σ H →
      ((Itr lo n).stop i H ∧ D.nx σ H) ∨ ((Itr lo n).go i H ∧ ∃ N : St → Hp → Prop, (∀ σ' H', N σ' H' → ∃ m', m' < m ∧ W (i + 1) m' σ' H') ∧ ∀ x H', (Itr lo n).yld i H x H' → g x σ H' fun σ2 H2 => tb { D with nx := N, ct := N, bk := D.nx } σ2 H2) := by
  refine ⟨fun i m σ H => m = n - i ∧ i ≤ n ∧ Pv i σ H, ⟨n, by simp, Nat.zero_le _, h0⟩, ?_⟩
  rintro i m σ H ⟨rfl, hi, p⟩
  by_cases hlt : i < n
  · refine .inr ⟨hlt, Pv (i + 1), fun σ' H' p' => ⟨n - (i + 1), by omega, rfl, hlt, p'⟩, fun x H' y => ?_⟩
    obtain ⟨e, y⟩ := y
    subst e y
    exact hs i σ _ hlt p
  · have e : i = n := by omega
    subst e
    exact .inl ⟨Nat.le_refl _, hd σ H p⟩
end L2
namespace L2
open PySem PySem.Spec PyProof.Rows
abbrev R2 := V → V → Hp → VK → Prop
def OpR (X : Cx) (f : Value → Value → Sem Value) (r : R2) : Prop :=
  ∀ (pins : List (Addr × Obj)) (s : Shared) (σ : St) (H : Hp) (x y : V) (v u : Value) (Q : VK), Inv X pins σ H s → RelV x v → RelV y u → r x y H Q →
    wpAny (model X.prog X.w) X.A (f v u) (EP X pins σ Q) X.xe s
def CallR (X : Cx) (f : Value) (r : List V → Hp → VK → Prop) : Prop :=
  ∀ (pins : List (Addr × Obj)) (s : Shared) (σ : St) (H : Hp) (xs : List V) (us : List Value) (Q : VK), Inv X pins σ H s → Vals xs us → r xs H Q →
    wpAny (model X.prog X.w) X.A (call f us) (EP X pins σ Q) X.xe s
def tOp (r : R2) (ta tb : TE) : TE := fun σ H Q => ta σ H fun x H1 => tb σ H1 fun y H2 => r x y H2 Q
def rI (C : Int → Int → Prop) (g : Int → Int → V) : R2 := fun x y H Q => ∃ i j, x = .int i ∧ y = .int j ∧ C i j ∧ Q (g i j) H
def rI0 (g : Int → Int → V) : R2 := fun x y H Q => ∃ i j, x = .int i ∧ y = .int j ∧ Q (g i j) H
section
variable {X : Cx} {a b c : Expr} {ta tb tc : TE} {pos : Pos}
theorem binT (ha : PE X a ta) (hb : PE X b tb) {pins : List (Addr × Obj)} {s : Shared} {σ : St} {H : Hp} {R : V → V → Hp → Prop} (I : Inv X pins σ H s)
    (h : ta σ H fun x H1 => tb σ H1 fun y H2 => R x y H2) {Q : Value → Shared → Prop} {f : Value → Value → Sem Value}
    (hf : ∀ v u s2 x y H2, Inv X pins σ H2 s2 → RelV x v → RelV y u → R x y H2 → wpAny (model X.prog X.w) X.A (f v u) Q X.xe s2) :
    wpAny (model X.prog X.w) X.A (eval a X.env) (fun v s₁ => wpAny (model X.prog X.w) X.A (eval b X.env) (fun u s₂ => wpAny (model X.prog X.w) X.A (f v u) Q X.xe s₂) X.xe s₁) X.xe s := by
  refine thn (ha pins s σ H _ I h) fun v s1 ⟨x, H1, I1, r1, q1⟩ => ?_
  refine thn (hb pins s1 σ H1 _ I1 q1) fun u s2 ⟨y, H2, I2, r2, q2⟩ => ?_
  exact hf v u s2 x y H2 I2 r1 r2 q2
theorem pe_op {op : Operator} {r : R2} (ho : OpR X (binaryOp op) r) (ha : PE X a ta) (hb : PE X b tb) : PE X (.BinOp a op b pos) (tOp r ta tb) := by
  intro pins s σ H Q I h
  exact wpAny_BinOp (binT ha hb I h fun v u s2 x y H2 I2 rx ry q => ho pins s2 σ H2 x y v u Q I2 rx ry q)
theorem opI {f : Value → Value → Sem Value} {C : Int → Int → Prop} {g : Int → Int → Int}
    (rule : ∀ (i j : Int) (t u : Tok) (s : Shared) (Q : Value → Shared → Prop) (E : Value → Shared → Prop), C i j → Q (.int (g i j) s.toks) { s with toks := s.toks + 1 } → wpAny (model X.prog X.w) X.A (f (.int i t) (.int j u)) Q E s) :
    OpR X f (rI C fun i j => .int (g i j)) := by
  intro pins s σ H x y v u Q I rx ry h
  obtain ⟨i, j, rfl, rfl, hc, q⟩ := h
  obtain ⟨t, rfl⟩ := rx
  obtain ⟨t', rfl⟩ := ry
  exact rule i j t t' s _ _ hc ⟨.int (g i j), H, I.tok _, ⟨_, rfl⟩, q⟩
theorem opI0 {f : Value → Value → Sem Value} {g : Int → Int → Int}
    (rule : ∀ (i j : Int) (t u : Tok) (s : Shared) (Q : Value → Shared → Prop) (E : Value → Shared → Prop), Q (.int (g i j) s.toks) { s with toks := s.toks + 1 } → wpAny (model X.prog X.w) X.A (f (.int i t) (.int j u)) Q E s) :
    OpR X f (rI0 fun i j => .int (g i j)) := by
  intro pins s σ H x y v u Q I rx ry h
  obtain ⟨i, j, rfl, rfl, q⟩ := h
  obtain ⟨t, rfl⟩ := rx
  obtain ⟨t', rfl⟩ := ry
  exact rule i j t t' s _ _ ⟨.int (g i j), H, I.tok _, ⟨_, rfl⟩, q⟩
theorem opB0 {f : Value → Value → Sem Value} {g : Int → Int → Bool}
    (rule : ∀ (i j : Int) (t u : Tok) (s : Shared) (Q : Value → Shared → Prop) (E : Value → Shared → Prop), Q (.bool (g i j)) s → wpAny (model X.prog X.w) X.A (f (.int i t) (.int j u)) Q E s) :
    OpR X f (rI0 fun i j => .bl (g i j)) := by
  intro pins s σ H x y v u Q I rx ry h
  obtain ⟨i, j, rfl, rfl, q⟩ := h
  obtain ⟨t, rfl⟩ := rx
  obtain ⟨t', rfl⟩ := ry
  exact rule i j t t' s _ _ ⟨.bl (g i j), H, I, rfl, q⟩
def CDiv (i j : Int) : Prop := 0 < j ∧ j < 1073741824
def CMul (i j : Int) : Prop := (-(2 ^ 64) < i ∧ i < 2 ^ 64) ∨ (-(2 ^ 64) < j ∧ j < 2 ^ 64)
theorem CMul.ok {i j : Int} (h : CMul i j) : IntMulOk i j := by
  rcases h with ⟨h1, h2⟩ | ⟨h1, h2⟩
  · exact .of_left (intBits_le_64 h1 h2)
  · exact .of_right (intBits_le_64 h1 h2)
theorem op_add : OpR X (binaryOp .Add) (rI0 fun i j => .int (i + j)) := opI0 fun _ _ _ _ _ _ _ q => add_int q
theorem op_sub : OpR X (binaryOp .Sub) (rI0 fun i j => .int (i - j)) := opI0 fun _ _ _ _ _ _ _ q => sub_int q
theorem op_mul : OpR X (binaryOp .Mult) (rI CMul fun i j => .int (i * j)) := opI fun _ _ _ _ _ _ _ hc q => mul_int q hc.ok
theorem op_fdiv : OpR X (binaryOp .FloorDiv) (rI CDiv fun i j => .int (i / j)) := opI fun i j _ _ _ _ _ hc q => by
  have h1 : (0 : Int) < j := hc.1
  have h2 : j < 1073741824 := hc.2
  exact floordiv_int (by omega) (by rw [Int.fdiv_eq_ediv_of_nonneg i (by omega)]; exact q) (.inl (PyProof.noPylong_small (by omega)))
theorem op_mod : OpR X (binaryOp .Mod) (rI (fun _ j => 0 < j) fun i j => .int (i % j)) := opI fun i j _ _ _ _ _ hc q => by
  have h1 : (0 : Int) < j := hc
  exact mod_int' (by omega) (by rw [Int.fmod_eq_emod_of_nonneg i (by omega)]; exact q)
end
def scal : V → V → Bool
  | .non, .non => true | .non, .int _ => true | .int _, .non => true | .non, .bl _ => true | .bl _, .non => true | .non, .str _ => true | .str _, .non => true
  | .int _, .int _ => true | .bl _, .bl _ => true | .str _, .str _ => true | .byt _, .byt _ => true
  | .int _, .str _ => true | .str _, .int _ => true | .bl _, .str _ => true | .str _, .bl _ => true
  | _, _ => false
def rEq : R2 := fun x y H Q => scal x y = true ∧ Q (.bl (decide (x = y))) H
def rNe : R2 := fun x y H Q => scal x y = true ∧ Q (.bl (!decide (x = y))) H
theorem dec_int {i j : Int} : decide (V.int i = V.int j) = (i == j) := by
  rw [Bool.eq_iff_iff]
  simp
theorem dec_bl {i j : Bool} : decide (V.bl i = V.bl j) = (i == j) := by
  rw [Bool.eq_iff_iff]
  simp
theorem dec_str {i j : Str} : decide (V.str i = V.str j) = (i == j) := by
  rw [Bool.eq_iff_iff]
  simp
theorem dec_byt {i j : Array UInt8} : decide (V.byt i = V.byt j) = (i.toList == j.toList) := by
  rw [Bool.eq_iff_iff]
  cases i
  cases j
  simp
section
variable {X : Cx} {a b c : Expr} {ta tb tc : TE} {pos : Pos}
theorem fin_bl {pins : List (Addr × Obj)} {σ : St} {H : Hp} {s : Shared} {Q : VK} {k k' : Bool} (I : Inv X pins σ H s) (q : Q (.bl k) H) (e : k = k') : EP X pins σ Q (.bool k') s := by
  subst e
  exact ⟨.bl k, H, I, rfl, q⟩
theorem op_eq : OpR X (compareOp .Eq) rEq := by
  intro pins s σ H x y v u Q I rx ry h
  obtain ⟨hs, q⟩ := h
  cases x with
  | non =>
    cases rx
    cases y with
    | non => cases ry; exact PySem.EqNone.eq_none_none (fin_bl I q (by simp))
    | bl j => cases ry; exact PySem.EqNone.eq_none_bool (fin_bl I q (by simp))
    | int j => obtain ⟨t', rfl⟩ := ry; exact PySem.EqNone.eq_none_int (fin_bl I q (by simp))
    | str j => obtain ⟨t', rfl⟩ := ry; exact PySem.EqNone.eq_none_str (fin_bl I q (by simp))
    | _ => exact absurd (show false = true from hs) Bool.false_ne_true
  | bl i =>
    cases rx
    cases y with
    | non => cases ry; exact PySem.EqNone.eq_bool_none (fin_bl I q (by simp))
    | bl j => cases ry; exact eq_bool (fin_bl I q dec_bl)
    | str j => obtain ⟨t', rfl⟩ := ry; exact PySem.EqMixed.eq_bool_str (fin_bl I q (by simp))
    | _ => exact absurd (show false = true from hs) Bool.false_ne_true
  | int i =>
    obtain ⟨t, rfl⟩ := rx
    cases y with
    | non => cases ry; exact PySem.EqNone.eq_int_none (fin_bl I q (by simp))
    | int j => obtain ⟨t', rfl⟩ := ry; exact eq_int (fin_bl I q dec_int)
    | str j => obtain ⟨t', rfl⟩ := ry; exact PySem.EqMixed.eq_int_str (fin_bl I q (by simp))
    | _ => exact absurd (show false = true from hs) Bool.false_ne_true
  | str i =>
    obtain ⟨t, rfl⟩ := rx
    cases y with
    | non => cases ry; exact PySem.EqNone.eq_str_none (fin_bl I q (by simp))
    | bl j => cases ry; exact PySem.EqMixed.eq_str_bool (fin_bl I q (by simp))
    | int j => obtain ⟨t', rfl⟩ := ry; exact PySem.EqMixed.eq_str_int (fin_bl I q (by simp))
    | str j => obtain ⟨t', rfl⟩ := ry; exact eq_str (fin_bl I q dec_str)
    | _ => exact absurd (show false = true from hs) Bool.false_ne_true
  | byt i =>
    obtain ⟨t, rfl⟩ := rx
    cases y with
    | byt j => obtain ⟨t', rfl⟩ := ry; exact PySem.W.eq_bytes (fin_bl I q dec_byt)
    | _ => exact absurd (show false = true from hs) Bool.false_ne_true
  | _ => cases y <;> exact absurd (show false = true from hs) Bool.false_ne_true
theorem op_ne : OpR X (compareOp .NotEq) rNe := by
  intro pins s σ H x y v u Q I rx ry h
  obtain ⟨hs, q⟩ := h
  cases x with
  | non =>
    cases rx
    cases y with
    | non => cases ry; exact PySem.EqNone.ne_none_none (fin_bl I q (by simp))
    | bl j => cases ry; exact PySem.EqNone.ne_none_bool (fin_bl I q (by simp))
    | int j => obtain ⟨t', rfl⟩ := ry; exact PySem.EqNone.ne_none_int (fin_bl I q (by simp))
    | str j => obtain ⟨t', rfl⟩ := ry; exact PySem.EqNone.ne_none_str (fin_bl I q (by simp))
    | _ => exact absurd (show false = true from hs) Bool.false_ne_true
  | bl i =>
    cases rx
    cases y with
    | non => cases ry; exact PySem.EqNone.ne_bool_none (fin_bl I q (by simp))
    | bl j => cases ry; exact ne_bool (fin_bl I q (congrArg not dec_bl))
    | str j => obtain ⟨t', rfl⟩ := ry; exact PySem.EqMixed.ne_bool_str (fin_bl I q (by simp))
    | _ => exact absurd (show false = true from hs) Bool.false_ne_true
  | int i =>
    obtain ⟨t, rfl⟩ := rx
    cases y with
    | non => cases ry; exact PySem.EqNone.ne_int_none (fin_bl I q (by simp))
    | int j => obtain ⟨t', rfl⟩ := ry; exact ne_int (fin_bl I q (congrArg not dec_int))
    | str j => obtain ⟨t', rfl⟩ := ry; exact PySem.EqMixed.ne_int_str (fin_bl I q (by simp))
    | _ => exact absurd (show false = true from hs) Bool.false_ne_true
  | str i =>
    obtain ⟨t, rfl⟩ := rx
    cases y with
    | non => cases ry; exact PySem.EqNone.ne_str_none (fin_bl I q (by simp))
    | bl j => cases ry; exact PySem.EqMixed.ne_str_bool (fin_bl I q (by simp))
    | int j => obtain ⟨t', rfl⟩ := ry; exact PySem.EqMixed.ne_str_int (fin_bl I q (by simp))
    | str j => obtain ⟨t', rfl⟩ := ry; exact ne_str (fin_bl I q (congrArg not dec_str))
    | _ => exact absurd (show false = true from hs) Bool.false_ne_true
  | byt i =>
    obtain ⟨t, rfl⟩ := rx
    cases y with
    | byt j => obtain ⟨t', rfl⟩ := ry; exact PySem.W.ne_bytes (fin_bl I q (congrArg not dec_byt))
    | _ => exact absurd (show false = true from hs) Bool.false_ne_true
  | _ => cases y <;> exact absurd (show false = true from hs) Bool.false_ne_true
theorem op_lt : OpR X (compareOp .Lt) (rI0 fun i j => .bl (decide (i < j))) := opB0 fun _ _ _ _ _ _ _ q => lt_int q
theorem op_gt : OpR X (compareOp .Gt) (rI0 fun i j => .bl (decide (j < i))) := opB0 fun _ _ _ _ _ _ _ q => gt_int q
theorem op_lt_str : OpR X (compareOp .Lt) (fun x y H Q => ∃ i j, x = .str i ∧ y = .str j ∧ Q (.bl (decide (i.cps.toList < j.cps.toList))) H) := by
  intro pins s σ H x y v u Q I rx ry h
  obtain ⟨i, j, rfl, rfl, q⟩ := h
  obtain ⟨t, rfl⟩ := rx
  obtain ⟨t', rfl⟩ := ry
  exact lt_str (fin_bl I q rfl)
theorem op_in_str : OpR X (compareOp .In) (fun x y H Q => ∃ i j, x = .str i ∧ y = .str j ∧ Q (.bl (!(Builtin.Str.occurrences j i 0 j.length 1).isEmpty)) H) := by
  intro pins s σ H x y v u Q I rx ry h
  obtain ⟨i, j, rfl, rfl, q⟩ := h
  obtain ⟨t, rfl⟩ := rx
  obtain ⟨t', rfl⟩ := ry
  exact in_str (fin_bl I q rfl)
theorem op_isN : OpR X (compareOp .Is) (fun x y H Q => y = .non ∧ Q (.bl (decide (x = .non))) H) := by
  intro pins s σ H x y v u Q I rx ry h
  obtain ⟨rfl, q⟩ := h
  cases ry
  refine is_none_gen (fin_bl I q ?_)
  cases x <;> first
    | (cases rx; rfl)
    | (obtain ⟨t, rfl⟩ := rx; rfl)
theorem op_notin_str : OpR X (compareOp .NotIn) (fun x y H Q => ∃ i j, x = .str i ∧ y = .str j ∧ Q (.bl (!(!(Builtin.Str.occurrences j i 0 j.length 1).isEmpty))) H) := by
  intro pins s σ H x y v u Q I rx ry h
  obtain ⟨i, j, rfl, rfl, q⟩ := h
  obtain ⟨t, rfl⟩ := rx
  obtain ⟨t', rfl⟩ := ry
  exact notIn_str (fin_bl I q rfl)
theorem OpR.or {f : Value → Value → Sem Value} {r r' : R2} (h : OpR X f r) (h' : OpR X f r') : OpR X f (fun x y H Q => r x y H Q ∨ r' x y H Q) := by
  intro pins s σ H x y v u Q I rx ry q
  rcases q with q | q
  · exact h pins s σ H x y v u Q I rx ry q
  · exact h' pins s σ H x y v u Q I rx ry q
theorem nomark (b : Expr) {op : CmpOp} (h : op ≠ .In := by decide) (h2 : op ≠ .NotIn := by decide) : behindInMarks op b = false := by
  have e1 : (op == CmpOp.In) = false := by cases op <;> first | rfl | exact absurd rfl h
  have e2 : (op == CmpOp.NotIn) = false := by cases op <;> first | rfl | exact absurd rfl h2
  cases b <;> simp [behindInMarks, e1, e2]
theorem pe_cmpR {op : CmpOp} {r : R2} (ho : OpR X (compareOp op) r) (ha : PE X a ta) (hb : PE X b tb) (hm : behindInMarks op b = false) : PE X (.Compare a [op] [b] pos) (tOp r ta tb) := by
  intro pins s σ H Q I h
  exact wpAny_Compare1 (binT ha hb I h fun v u s2 x y H2 I2 rx ry q => ho pins s2 σ H2 x y v u Q I2 rx ry q) hm
def tTest (t : TE) : TT := fun σ H Q => t σ H fun x H' => ∃ k, x = .bl k ∧ Q k H'
theorem pt_cmpR {op : CmpOp} {r : R2} (ho : OpR X (compareOp op) r) (ha : PE X a ta) (hb : PE X b tb) (hm : behindInMarks op b = false) : PT X (.Compare a [op] [b] pos) (tTest (tOp r ta tb)) := by
  intro pins s σ H Q I h
  refine wpAny_isTrue_Compare1 (thn (ha pins s σ H _ I h) fun v s1 ⟨x, H1, I1, r1, q1⟩ => thn (hb pins s1 σ H1 _ I1 q1) fun u s2 ⟨y, H2, I2, r2, q2⟩ =>
    thn (ho pins s2 σ H2 x y v u _ I2 r1 r2 q2) fun c s3 ⟨z, H3, I3, r3, k, e, q3⟩ => ?_) hm
  subst e
  cases r3
  exact wpAny_truthy_bool ⟨H3, I3, q3⟩
theorem line63 : (sizeLine : Nat) < 2 ^ 63 := by rw [sizeLine_eq]; decide
theorem op_add_str : OpR X (binaryOp .Add) (fun x y H Q => ∃ i j, x = .str i ∧ y = .str j ∧ i.length + j.length ≤ sizeLine ∧ Q (.str (i ++ j)) H) := by
  intro pins s σ H x y v u Q I rx ry h
  obtain ⟨i, j, rfl, rfl, hz, q⟩ := h
  obtain ⟨t, rfl⟩ := rx
  obtain ⟨t', rfl⟩ := ry
  exact add_str (fun t' tk => ⟨.str (i ++ j), H, I.tok _, ⟨_, rfl⟩, q⟩) hz
theorem vals1 {x : V} {us : List Value} (r : Vals [x] us) : ∃ u, us = [u] ∧ RelV x u := by
  cases r with
  | cons r1 r2 => cases r2; exact ⟨_, rfl, r1⟩
theorem vals2 {x y : V} {us : List Value} (r : Vals [x, y] us) : ∃ u w', us = [u, w'] ∧ RelV x u ∧ RelV y w' := by
  cases r with
  | cons r1 r2 =>
    cases r2 with
    | cons r3 r4 => cases r4; exact ⟨_, _, rfl, r1, r3⟩
def LenV (K : PySem.W.Frag) (x : V) (H : Hp) (n : Nat) : Prop :=
  match x with
  | .str y => y.length ≤ sizeLine ∧ n = y.length
  | .byt y => y.size ≤ sizeLine ∧ n = y.size
  | .ref p => (∃ xs, SqL K H p xs ∧ n = xs.length) ∨ ∃ xs, SqT K H p xs ∧ n = xs.length
  | _ => False
theorem call_len : CallR X (.builtin "len") (fun xs H Q => ∃ x n, xs = [x] ∧ LenV X.K x H n ∧ Q (.int n) H) := by
  intro pins s σ H xs us Q I r h
  obtain ⟨x, n, rfl, e, q⟩ := h
  obtain ⟨u, rfl, rx⟩ := vals1 r
  have hl := line63
  have hs : sizeLine = 16777216 := sizeLine_eq
  cases x with
  | str y =>
    obtain ⟨t, rfl⟩ := rx
    obtain ⟨hy, e'⟩ : y.length ≤ sizeLine ∧ n = y.length := e
    subst e'
    exact len_str (by omega) ⟨.int _, H, I.tok _, ⟨_, rfl⟩, q⟩
  | byt y =>
    obtain ⟨t, rfl⟩ := rx
    obtain ⟨hy, e'⟩ : y.size ≤ sizeLine ∧ n = y.size := e
    subst e'
    exact PySem.W.len_bytes (by omega) ⟨.int _, H, I.tok _, ⟨_, rfl⟩, q⟩
  | ref p =>
    cases rx
    have e' : (∃ xs, SqL X.K H p xs ∧ n = xs.length) ∨ ∃ xs, SqT X.K H p xs ∧ n = xs.length := e
    rcases e' with ⟨xs, hx, e'⟩ | ⟨xs, hx, e'⟩
    · subst e'
      obtain ⟨its, r', pl, hz⟩ := I.list hx
      have hlen := r'.length
      exact Calls.call_len_list pl.isList (by simp only [List.size_toArray]; omega) ⟨.int xs.length, H, I.tok _, ⟨_, by simp only [List.size_toArray]; rw [hlen]⟩, q⟩
    · subst e'
      obtain ⟨its, r', pl, hz⟩ := I.tuple hx
      have hlen := r'.length
      exact len_tuple pl (by simp only [List.size_toArray]; omega) ⟨.int xs.length, H, I.tok _, ⟨_, by simp only [List.size_toArray]; rw [hlen]⟩, q⟩
  | _ => exact (show False from e).elim
end
end L2
namespace L2
open PySem PySem.Spec PyProof.Rows
structure ObjM (h : Heap) (x dx C : Addr) (mA : Str → Option Value) : Prop where
  obj : h.get? x = some (PySem.W.instObj C dx)
  ns : h.Ns1 dx mA
  ne : dx ≠ x
theorem lookIn_ns {h : Heap} {dx : Addr} {mA : Str → Option Value} (n : h.Ns1 dx mA) : ∃ od, h.get? dx = some od ∧ ∀ name, PySem.W.lookIn name od = some (mA name) := by
  obtain ⟨o, es, ep, ho, hd, hk, _, hm⟩ := n
  refine ⟨o, ho, fun name => ?_⟩
  have e := hm name
  unfold nsFind findBy at e
  rw [← Array.find?_toList] at e
  unfold PySem.W.lookIn
  rw [hd]
  dsimp only
  split
  · rename_i y q
    rw [q] at e
    exact congrArg some e
  · rename_i q
    rw [q] at e
    have a : es.toList.any (·.refKey) = false := by
      rw [List.any_eq_false]
      intro y hy
      obtain ⟨z, t, hkey⟩ := hk y (Array.mem_toList_iff.mp hy)
      simp [DictEntry.refKey, hkey]
    have a' : ¬ es.toList.any (·.refKey) = true := by rw [a]; exact Bool.false_ne_true
    rw [if_neg a']
    exact congrArg some e
theorem ObjM.look {h : Heap} {x dx C : Addr} {mA : Str → Option Value} (I : ObjM h x dx C mA) : ∃ od, PySem.W.InstAt h x (PySem.W.instObj C dx) C (some od) ∧ ∀ name, PySem.W.lookIn name od = some (mA name) :=
  let ⟨od, ho, hl⟩ := lookIn_ns I.ns
  ⟨od, ⟨I.obj, rfl, rfl, ho⟩, hl⟩
section
variable {prog : Program} {w : World} {A : Around} {E : Value → Shared → Prop} {s : Shared} {K : PySem.W.Frag} {x dx C f : Addr} {mA : Str → Option Value} {name : Str} {v : Value}
theorem get_map {expr : Bool} {Q : Value → Shared → Prop} (X : K.In s.heap) (I : ObjM s.heap x dx C mA) (hg : PySem.W.plainGet K C name = true) (hh : PySem.W.hasDictIn K C = true)
    (ha : PySem.W.findIn K (.ref C) name = some none) (hv : mA name = some v) (hv' : PySem.W.handedIn v = true) (h : Q v { s with toks := s.toks + 1 }) :
    wpAny (model prog w) A (getAttr (.ref x) name expr) Q E s := by
  obtain ⟨od, J, hl⟩ := I.look
  exact PySem.W.get_value X J (PySem.W.plainGet_of hg).1 (PySem.W.findObj_own hh ha rfl (by rw [hl, hv])) hv' h
theorem get_meth {pl : Sem Bool} {Q : Value × List Value → Shared → Prop} (X : K.In s.heap) (I : ObjM s.heap x dx C mA) (hg : PySem.W.plainGet K C name = true)
    (hf : PySem.W.findIn K (.ref C) name = some (some (.ref f))) (ht : PySem.W.isFn K (.ref f) = true) (hv : mA name = none) (h : Q (.ref f, [.ref x]) s) :
    wpAny (model prog w) A (getMethod (.ref x) name pl) Q E s := by
  obtain ⟨od, J, hl⟩ := I.look
  exact PySem.W.method_fn X J (PySem.W.plainGet_of hg).1 (PySem.W.plainGet_of hg).2 hf (beq_iff_eq.mp ht) (by show (PySem.W.lookIn name od).map (·.isSome) = some false; rw [hl, hv]; rfl) h
theorem set_map {ns : List Str} {Q : Unit → Shared → Prop} (X : K.In s.heap) (I : ObjM s.heap x dx C mA)
    (hs : PySem.W.findIn K (.ref C) "__setattr__" = some (some (.builtin "object.__setattr__"))) (hp : PySem.W.plainOver K C = true) (ht : PySem.W.takerIn K C name = some none) (hh : PySem.W.hasDictIn K C = true)
    (hw : PySem.Within mA ns) (hsz : ns.length ≤ sizeLine)
    (h : ∀ h', ObjM h' x dx C (fun y => if y = name then some v else mA y) → Heap.SameBut dx s.heap h' → Q () { s with heap := h', toks := s.toks + 2 }) :
    wpAny (model prog w) A (setAttr (.ref x) name v) Q E s := by
  obtain ⟨od, J, hl⟩ := I.look
  refine PySem.W.set_plain X J hs (PySem.W.osa_open (s := { s with toks := s.toks + 1 }) (r := none) X J hp ht fun b => ?_)
  obtain ⟨cd, hc, hd'⟩ := PySem.W.any_some hh
  have hx : s.heap.get? x = some ⟨.ref C, some dx, .plain, #[]⟩ := I.obj
  refine wpAny_bind (wpAny_pure (wpAny_bind (wpAny_bind (wpAny_loadPart hx (wpAny_bind (PySem.W.Looks.here (s := { s with toks := s.toks + 1 }) (PySem.W.looks_clsIn X hc) ?_))))))
  rw [hd']
  refine wpAny_pure (a := some dx) (wpAny_bind (wpAny_pure (wpAny_bind ?_)))
  refine wpAny_nsSet1 (s := { s with toks := s.toks + 1 }) I.ns fun h' hn2 hs2 => ?_
  obtain ⟨oD, esD, epD, hoD, hdD, hcD⟩ := hn2.count (PySem.Within.cons name v hw)
  refine wpAny_bind (wpAny_lookBehind hoD (by rw [hdD]; exact pastItsLine_dict (Nat.le_trans hcD (by rw [List.length_cons]; omega))) ?_)
  exact wpAny_pure (h _ ⟨(hs2.2 _ (Ne.symm I.ne)).trans I.obj, hn2, I.ne⟩ hs2)
theorem make_map {R : Result → Shared → Prop} {vs : List Value} {kw : List (Str × Value)} (X : K.In s.heap) (hm : PySem.W.makesIn K C = true)
    (hi : PySem.W.findIn K (.ref C) "__init__" = some (some (.ref f))) (hf : PySem.W.typeIn K (.ref f) = some (.type "function"))
    (h : codeAny (model prog w) (A.under (.builtin "type.__call__" ⟨.ref C :: vs, kw⟩)) (.call (.ref f) ⟨.ref (s.heap.objs.size + 1) :: vs, kw⟩) (PySem.W.InitBack (s.heap.objs.size + 1) R)
      { s with heap := (s.heap.push PySem.W.emptyDict).push (PySem.W.instObj C s.heap.objs.size) }) :
    codeAny (model prog w) A (.call (.ref C) ⟨vs, kw⟩) R s := by
  obtain ⟨hh, g, d, t, os⟩ := s
  exact PySem.W.make_core (PySem.W.makes_of X hm) (PySem.W.looks_findIn X hi) (fun self => PySem.W.bind_fn X self hf) (.inl rfl) h
end
def putF (f : Str) (v : V) : List (Str × V) → List (Str × V)
  | [] => [(f, v)]
  | (g, x) :: r => if g = f then (g, v) :: r else (g, x) :: putF f v r
theorem lookup_putF (f g : Str) (v : V) : ∀ fs : List (Str × V), (putF f v fs).lookup g = if g = f then some v else fs.lookup g
  | [] => by
    show List.lookup g [(f, v)] = _
    by_cases h : g = f
    · have hb : (g == f) = true := beq_iff_eq.mpr h
      simp only [List.lookup, hb, if_pos h]
    · have hb : (g == f) = false := beq_eq_false_iff_ne.mpr h
      simp only [List.lookup, hb, if_neg h]
  | (k, x) :: r => by
    have ih := lookup_putF f g v r
    rw [show putF f v ((k, x) :: r) = (if k = f then (k, v) :: r else (k, x) :: putF f v r) from rfl]
    by_cases hk : k = f
    · rw [if_pos hk]
      by_cases h : g = k
      · have hb : (g == k) = true := beq_iff_eq.mpr h
        simp only [List.lookup, hb, if_pos (h.trans hk)]
      · have hb : (g == k) = false := beq_eq_false_iff_ne.mpr h
        simp only [List.lookup, hb, if_neg (fun e : g = f => h (e.trans hk.symm))]
    · rw [if_neg hk]
      by_cases h : g = k
      · have hb : (g == k) = true := beq_iff_eq.mpr h
        simp only [List.lookup, hb, if_neg (fun e : g = f => hk (h.symm.trans e))]
      · have hb : (g == k) = false := beq_eq_false_iff_ne.mpr h
        simp only [List.lookup, hb]
        exact ih
theorem keys_putF (f : Str) (v : V) : ∀ fs : List (Str × V), f ∈ (putF f v fs).map (·.1) ∧ ∀ g, g ∈ fs.map (·.1) → g ∈ (putF f v fs).map (·.1)
  | [] => ⟨by simp [putF], fun g h => by simp at h⟩
  | (k, x) :: r => by
    obtain ⟨i1, i2⟩ := keys_putF f v r
    rw [show putF f v ((k, x) :: r) = (if k = f then (k, v) :: r else (k, x) :: putF f v r) from rfl]
    by_cases hk : k = f
    · rw [if_pos hk]
      subst hk
      exact ⟨by simp, fun g h => by simpa using h⟩
    · rw [if_neg hk]
      refine ⟨?_, fun g h => ?_⟩
      · rw [List.map_cons]
        exact List.mem_cons_of_mem _ i1
      · rw [List.map_cons] at h ⊢
        rcases List.mem_cons.mp h with e | e
        · exact List.mem_cons.mpr (.inl e)
        · exact List.mem_cons_of_mem _ (i2 g e)
theorem length_putF (f : Str) (v : V) : ∀ fs : List (Str × V), (putF f v fs).length ≤ fs.length + 1
  | [] => by simp [putF]
  | (k, x) :: r => by
    have ih := length_putF f v r
    rw [show putF f v ((k, x) :: r) = (if k = f then (k, v) :: r else (k, x) :: putF f v r) from rfl]
    by_cases hk : k = f
    · rw [if_pos hk, List.length_cons, List.length_cons]; omega
    · rw [if_neg hk, List.length_cons, List.length_cons]; omega
theorem RelO.some_of {v : V} {o : Option Value} (r : RelO (some v) o) : ∃ u, o = some u ∧ RelV v u := by
  cases o with
  | none => exact (show False from r).elim
  | some u => exact ⟨u, rfl, r⟩
theorem RelO.none_of {o : Option Value} (r : RelO none o) : o = none := by
  cases o with
  | none => rfl
  | some u => exact (show False from r).elim
theorem handed_of {v : V} {u : Value} (r : RelV v u) : PySem.W.handedIn u = true := by
  cases v with
  | non => cases (show u = Value.none from r); rfl
  | bl b => cases (show u = Value.bool b from r); rfl
  | int i => obtain ⟨t, e⟩ := (show ∃ t, u = Value.int i t from r); cases e; rfl
  | str x => obtain ⟨t, e⟩ := (show ∃ t, u = Value.str x t from r); cases e; rfl
  | byt b => obtain ⟨t, e⟩ := (show ∃ t, u = Value.bytes b t from r); cases e; rfl
  | flt b => obtain ⟨t, e⟩ := (show ∃ t, u = Value.float b t from r); cases e; rfl
  | ref a => cases (show u = Value.ref a from r); rfl
  | ty n => cases (show u = Value.type n from r); rfl
section
variable {P : Program} {w : World} {H H' : Hp} {h h' : Heap} {a C dx : Addr} {fs fs' : List (Str × V)}
theorem ins_get (hok : HOk P w H h) (e : H a = some (.ins C dx fs)) : ∃ mA, ObjM h a dx C mA ∧ (∀ f, RelO (fs.lookup f) (mA f)) ∧ PySem.Within mA (fs.map (·.1)) ∧ fs.length ≤ 1000 ∧ H dx = some (.own a) := by
  obtain ⟨d, z, ne, ob, mA, n, r, q⟩ := (show ObjOk P w H h a (.ins C dx fs) from hok a _ e)
  exact ⟨mA, ⟨ob, n, ne⟩, r, q, z, d⟩
end
structure Cls (K : PySem.W.Frag) (C : Addr) : Prop where
  pg : PySem.W.plainGet K C Str.empty = true
  hd : PySem.W.hasDictIn K C = true
  po : PySem.W.plainOver K C = true
  sa : PySem.W.findIn K (.ref C) "__setattr__" = some (some (.builtin "object.__setattr__"))
theorem Cls.get {K : PySem.W.Frag} {C : Addr} (c : Cls K C) (f : Str) : PySem.W.plainGet K C f = true := c.pg
def NoAttr (K : PySem.W.Frag) (C : Addr) (f : Str) : Prop := PySem.W.findIn K (.ref C) f = some none
theorem NoAttr.taker {K : PySem.W.Frag} {C : Addr} {f : Str} (n : NoAttr K C f) : PySem.W.takerIn K C f = some none := by
  unfold PySem.W.takerIn
  rw [show PySem.W.findIn K (.ref C) f = some none from n]
  rfl
structure Meth (K : PySem.W.Frag) (C : Addr) (m : Str) (f : Addr) : Prop where
  at_ : PySem.W.findIn K (.ref C) m = some (some (.ref f))
  fn : PySem.W.isFn K (.ref f) = true
  kp : PySem.W.keepIn K (.ref f) = true
section
variable {X : Cx} {pins : List (Addr × Obj)} {σ : St} {H : Hp} {s : Shared} {a C dx : Addr} {fs : List (Str × V)} {f : Str} {v : V} {A : Around} {E : Value → Shared → Prop}
theorem getattr_ok {b : Bool} {Q : Value → Shared → Prop} (I : Inv X pins σ H s) (e : H a = some (.ins C dx fs)) (c : Cls X.K C) (n : NoAttr X.K C f) (l : fs.lookup f = some v)
    (h : ∀ u s', Inv X pins σ H s' → RelV v u → Q u s') : wpAny (model X.prog X.w) A (getAttr (.ref a) f b) Q E s := by
  obtain ⟨mA, O, r, _, _, _⟩ := ins_get I.hok e
  obtain ⟨u, hu, ru⟩ := RelO.some_of (v := v) (o := mA f) (by rw [← l]; exact r f)
  exact get_map I.kIn O (c.get f) c.hd n hu (handed_of ru) (h u _ (I.tok _) ru)
theorem getmeth_ok {m : Str} {g : Addr} {pl : Sem Bool} {Q : Value × List Value → Shared → Prop} (I : Inv X pins σ H s) (e : H a = some (.ins C dx fs)) (c : Cls X.K C) (k : Meth X.K C m g) (l : fs.lookup m = none)
    (h : Q (.ref g, [.ref a]) s) : wpAny (model X.prog X.w) A (getMethod (.ref a) m pl) Q E s := by
  obtain ⟨mA, O, r, _, _, _⟩ := ins_get I.hok e
  have hn : mA m = none := RelO.none_of (by rw [← l]; exact r m)
  exact get_meth I.kIn O (c.get m) k.at_ k.fn hn h
theorem setattr_ok {y : V} {u : Value} {Q : Unit → Shared → Prop} (I : Inv X pins σ H s) (e : H a = some (.ins C dx fs)) (c : Cls X.K C) (n : NoAttr X.K C f) (hl : fs.length < 1000) (ry : RelV y u)
    (h : ∀ s', Inv X pins σ (upd H a (.ins C dx (putF f y fs))) s' → Q () s') : wpAny (model X.prog X.w) A (setAttr (.ref a) f u) Q E s := by
  obtain ⟨mA, O, r, wi, _, ho⟩ := ins_get I.hok e
  have hz : (fs.map (·.1)).length ≤ sizeLine := by rw [List.length_map, sizeLine_eq]; omega
  refine set_map I.kIn O c.sa c.po n.taker c.hd wi hz fun h' O' sb => h _ ?_
  have hd : ∃ o, h'.get? dx = some o := let ⟨o, _, _, e', _⟩ := O'.ns; ⟨o, e'⟩
  refine I.write (x := a) (e := dx) (by rw [e]; exact True.intro) (.inr ho) (fun b q hb z => (sb.2 b hb).trans z) hd ?_
  refine ⟨by rw [upd_ne O.ne]; exact ho, ?_, O.ne, O'.obj, _, O'.ns, fun g => ?_, fun g hg => ?_⟩
  · have := length_putF f y fs; omega
  · show RelO ((putF f y fs).lookup g) (if g = f then some u else mA g)
    rw [lookup_putF]
    by_cases q : g = f
    · rw [if_pos q, if_pos q]; exact ry
    · rw [if_neg q, if_neg q]; exact r g
  · by_cases q : g = f
    · rw [q]; exact (keys_putF f y fs).1
    · refine (keys_putF f y fs).2 g (wi g fun z => hg ?_)
      show (if g = f then some u else mA g) = none
      rw [if_neg q]; exact z
theorem Inv.made (I : Inv X pins σ H s) : Inv X pins σ (upd (upd H s.heap.objs.size (.own (s.heap.objs.size + 1))) (s.heap.objs.size + 1) (.ins C s.heap.objs.size []))
    { s with heap := (s.heap.push PySem.W.emptyDict).push (PySem.W.instObj C s.heap.objs.size) } := by
  have e1 : (s.heap.push PySem.W.emptyDict).get? s.heap.objs.size = some PySem.W.emptyDict := Heap.get?_push_size s.heap rfl
  have e2 : ((s.heap.push PySem.W.emptyDict).push (PySem.W.instObj C s.heap.objs.size)).get? (s.heap.objs.size + 1) = some (PySem.W.instObj C s.heap.objs.size) := by
    have := Heap.get?_push_size (s.heap.push PySem.W.emptyDict) (o := PySem.W.instObj C s.heap.objs.size) rfl
    rwa [Heap.size_push] at this
  have e3 : (s.heap.push PySem.W.emptyDict).Ns s.heap.objs.size (fun _ => none) := ⟨PySem.W.emptyDict, #[], _, e1, rfl, (fun e he => absurd he (by simp)), fun _ => rfl⟩
  have I1 := I.laid (a := s.heap.objs.size) (o := .own (s.heap.objs.size + 1)) (h' := s.heap.push PySem.W.emptyDict) (t' := s.toks) (fun b u q => Heap.get?_push_of_some _ q) (Nat.le_refl _) ⟨_, e1⟩
  refine I1.laid (a := s.heap.objs.size + 1) (o := .ins C s.heap.objs.size []) (t' := s.toks) (fun b u q => Heap.get?_push_of_some _ q) (Nat.le_of_eq (Heap.size_push _ _)) ?_
  have ne : s.heap.objs.size ≠ s.heap.objs.size + 1 := Nat.ne_of_lt (Nat.lt_succ_self _)
  refine ⟨by rw [upd_ne ne, upd_same], Nat.zero_le _, ne, e2, fun _ => none, (Heap.Ns1.of_empty e3).at fun o q => Heap.get?_push_of_some _ q, fun _ => True.intro, fun y hy => absurd rfl hy⟩
theorem attr_of {prog : Program} {w : World} {env : Env} {e : Expr} {f : Str} {pos : Pos} {s : Shared} {Q : Value → Shared → Prop} (hb : attributeBase e f env (eval e env) = eval e env)
    (h : wpAny (model prog w) A (eval e env) (fun o s₁ => wpAny (model prog w) A (getAttr o f true) Q E s₁) E s) : wpAny (model prog w) A (eval (.Attribute e f pos) env) Q E s :=
  Attribute_any_ h (by rw [arm_eval_Attribute, hb])
end
def tFld (K : PySem.W.Frag) (ta : TE) (f : Str) : TE := fun σ H Q => ta σ H fun x H1 => ∃ a C dx fs v, x = .ref a ∧ H1 a = some (.ins C dx fs) ∧ Cls K C ∧ NoAttr K C f ∧ fs.lookup f = some v ∧ Q v H1
def sFld (K : PySem.W.Frag) (ta tv : TE) (f : Str) : TS := fun D σ H => tv σ H fun y H1 => ta σ H1 fun x H2 => ∃ a C dx fs, x = .ref a ∧ H2 a = some (.ins C dx fs) ∧ Cls K C ∧ NoAttr K C f ∧ fs.length < 1000 ∧
  D.nx σ (upd H2 a (.ins C dx (putF f y fs)))
section
variable {X : Cx} {o e value : Expr} {f : Str} {pos pos' tpos : Pos} {ta tv : TE}
theorem pe_fld (he : PE X e ta) (hb : attributeBase e f X.env (eval e X.env) = eval e X.env) : PE X (.Attribute e f pos) (tFld X.K ta f) := by
  intro pins s σ H Q I h
  refine attr_of hb (thn (he pins s σ H _ I h) fun u s1 ⟨x, H1, I1, rx, a, C, dx, fs, v, ex, ea, c, n, l, q⟩ => ?_)
  subst ex
  obtain rfl : u = Value.ref a := rx
  exact getattr_ok I1 ea c n l fun u' s2 I2 ru => ⟨v, H1, I2, ru, q⟩
theorem ps_fld (ha : PE X o ta) (hv : PE X value tv) (hs : swapsWith value (some (.Attribute o f pos')) pos.line X.env = pure false) : PS X (.Assign [.Attribute o f pos'] value pos) (sFld X.K ta tv f) := by
  intro pins s σ H D I h
  refine plainObj_wpAny_Assign_Attribute (thn (hv pins s σ H _ I h) fun u s1 ⟨y, H1, I1, ry, q⟩ => thn (ha pins s1 σ H1 _ I1 q) fun ov s2 ⟨x, H2, I2, rx, a, C, dx, fs, ex, ea, c, n, l, q2⟩ => ?_) hs
  subst ex
  obtain rfl : ov = Value.ref a := rx
  exact setattr_ok I2 ea c n l ry fun s3 I3 => ⟨σ, _, I3, q2⟩
end
section
variable {X : Cx} {pins : List (Addr × Obj)} {σ : St} {H : Hp} {s : Shared} {A : Around} {E : Value → Shared → Prop} {Q : Value → Shared → Prop} {c : Value} {b : Bool}
inductive TyOf (K : PySem.W.Frag) (H : Hp) : V → Value → Prop where
  | non : TyOf K H .non (.type "NoneType")
  | bl (x : Bool) : TyOf K H (.bl x) (.type "bool")
  | int (i : Int) : TyOf K H (.int i) (.type "int")
  | str (x : Str) : TyOf K H (.str x) (.type "str")
  | flt (x : UInt64) : TyOf K H (.flt x) (.type "float")
  | lst {a : Addr} {xs : List V} (e : H a = some (.lst xs)) : TyOf K H (.ref a) (.type "list")
  | frz {a : Addr} {o : Obj} {xs : List V} (e : H a = some (.frz o (.lst xs))) : TyOf K H (.ref a) (.type "list")
  | tup {a : Addr} {xs : List V} (e : H a = some (.tup xs)) : TyOf K H (.ref a) (.type "tuple")
  | dK {a : Addr} {kvs : List (Key × V)} (e : H a = some (.dK kvs)) : TyOf K H (.ref a) (.type "dict")
  | dT {a : Addr} {kvs : List (List Key × V)} (e : H a = some (.dT kvs)) : TyOf K H (.ref a) (.type "dict")
  | ins {a C dx : Addr} {fs : List (Str × V)} (e : H a = some (.ins C dx fs)) (cl : Cls K C) (ha : PySem.W.findIn K (.ref C) "__class__" = some (some (.builtin "object.__class__")))
      (hn : PySem.W.specialIn K (.builtin "object.__class__") "__get__" = some (some (.builtin "getset_descriptor.__get__"))) (htk : PySem.W.takesIn K (.builtin "object.__class__") = some true)
      (hm : PySem.W.mroIn K C (.type "object") = some true) : TyOf K H (.ref a) (.ref C)
theorem isinst_ok {x : V} {u t : Value} (I : Inv X pins σ H s) (rx : RelV x u) (ty : TyOf X.K H x t) (e : PySem.W.kitOne X.K t c = some b) (h : ∀ tk, Q (.bool b) { s with toks := tk }) :
    wpAny (model X.prog X.w) A (call (.builtin "isinstance") [u, c]) Q E s := by
  cases ty with
  | non => cases (show u = Value.none from rx); exact PySem.W.kia_one PySem.W.kitx_none I.kIn True.intro e (fun z => nomatch z) h
  | bl y => cases (show u = Value.bool y from rx); exact PySem.W.kia_one PySem.W.kitx_bool I.kIn True.intro e (fun z => nomatch z) h
  | int i => obtain ⟨t, q⟩ := (show ∃ t, u = Value.int i t from rx); cases q; exact PySem.W.kia_one PySem.W.kitx_int I.kIn True.intro e (fun z => nomatch z) h
  | str y => obtain ⟨t, q⟩ := (show ∃ t, u = Value.str y t from rx); cases q; exact PySem.W.kia_one PySem.W.kitx_str I.kIn True.intro e (fun z => nomatch z) h
  | flt y => obtain ⟨t, q⟩ := (show ∃ t, u = Value.float y t from rx); cases q; exact PySem.W.kia_one PySem.W.kitx_float I.kIn True.intro e (fun z => nomatch z) h
  | @lst a xs ea =>
    cases (show u = Value.ref a from rx)
    obtain ⟨_, _, n, _, h1⟩ := (show ObjOk X.prog X.w H s.heap a (.lst xs) from I.hok a _ ea)
    exact PySem.W.kia_one PySem.W.kitx_list I.kIn ⟨_, h1, rfl⟩ e (fun z => nomatch z) h
  | @frz a ob xs ea =>
    cases (show u = Value.ref a from rx)
    obtain ⟨_, _, _, n, _, h1⟩ := (show ObjOk X.prog X.w H s.heap a (.frz ob (.lst xs)) from I.hok a _ ea)
    exact PySem.W.kia_one PySem.W.kitx_list I.kIn ⟨_, h1, rfl⟩ e (fun z => nomatch z) h
  | @tup a xs ea =>
    cases (show u = Value.ref a from rx)
    obtain ⟨_, _, _, p⟩ := (show ObjOk X.prog X.w H s.heap a (.tup xs) from I.hok a _ ea)
    obtain ⟨o, h1, h2, _⟩ := p
    exact PySem.W.kia_one PySem.W.kitx_tuple I.kIn ⟨o, h1, h2⟩ e (fun z => nomatch z) h
  | @dK a kvs ea =>
    cases (show u = Value.ref a from rx)
    obtain ⟨_, _, vs, _, p⟩ := (show ObjOk X.prog X.w H s.heap a (.dK kvs) from I.hok a _ ea)
    obtain ⟨o, es, ep, h1, h2, _⟩ := p
    exact PySem.W.kia_one PySem.W.kitx_dict I.kIn ⟨o, h1, h2.1⟩ e (fun z => nomatch z) h
  | @dT a kvs ea =>
    cases (show u = Value.ref a from rx)
    obtain ⟨_, _, xs, _, o, es, ep, h1, h2, _⟩ := (show ObjOk X.prog X.w H s.heap a (.dT kvs) from I.hok a _ ea)
    exact PySem.W.kia_one PySem.W.kitx_dict I.kIn ⟨o, h1, h2.1⟩ e (fun z => nomatch z) h
  | @ins a C dx fs ea cl ha hn htk hm =>
    cases (show u = Value.ref a from rx)
    obtain ⟨mA, O, _⟩ := ins_get I.hok ea
    obtain ⟨od, J, _⟩ := O.look
    exact PySem.W.kia_one (PySem.W.kitx_own (cl.get _) cl.hd ha hn htk hm) I.kIn J e (fun z => nomatch z) h
end
end L2
namespace L2
open PySem PySem.Spec PyProof.Rows
structure Room (k : Nat) (A : Around) : Prop where
  hd : A.handled = none
  dp : A.depth + 3 * k + 5 < recursionLimit
  un : A.units + 16 * k + 200 < cLine
theorem Room.mono {j k : Nat} {A : Around} (r : Room k A) (h : j ≤ k) : Room j A := ⟨r.hd, by have := r.dp; omega, by have := r.un; omega⟩
theorem Room.deeper {k : Nat} {A : Around} (r : Room (k + 1) A) (env : Env) : Room k (A.deeper env) :=
  ⟨r.hd, by have := r.dp; show A.depth + 1 + 3 * k + 5 < _; omega, by have := r.un; show A.units + 3 + 16 * k + 200 < _; omega⟩
theorem Room.in1 {k : Nat} {A : Around} (r : Room (k + 1) A) : Room k A.in1 :=
  ⟨r.hd, by have := r.dp; show A.depth + 3 * k + 5 < _; omega, by have := r.un; show A.units + 1 + 16 * k + 200 < _; omega⟩
theorem make_depth {A : Around} {C : Addr} {us : List Value} {kw : List (Str × Value)} : (A.under (.builtin "type.__call__" ⟨.ref C :: us, kw⟩)).depth = A.depth + 1 := by
  first | rfl | simp [Around.under, Code.weight, Code.isCreation, Code.isGuard, Code.isCaller, Code.frames, Code.isFrame, guardIds]
theorem make_units {A : Around} {C : Addr} {us : List Value} {kw : List (Str × Value)} : (A.under (.builtin "type.__call__" ⟨.ref C :: us, kw⟩)).units = A.units + 1 := by
  first | rfl | simp [Around.under, Code.cUnits, Code.frames, Code.isFrame]
theorem Room.make {k : Nat} {A : Around} (r : Room (k + 1) A) (C : Addr) (us : List Value) (kw : List (Str × Value)) : Room k (A.under (.builtin "type.__call__" ⟨.ref C :: us, kw⟩)) :=
  ⟨r.hd, by have := r.dp; rw [make_depth]; omega, by have := r.un; rw [make_units]; omega⟩
theorem Room.depth {k : Nat} {A : Around} (r : Room k A) : A.depth < recursionLimit := by have := r.dp; omega
theorem Room.units {k : Nat} {A : Around} (r : Room k A) : A.units + 64 < cLine := by have := r.un; omega
def tNil : TA := fun _ H Q => Q [] H
def tCons (ta : TE) (tr : TA) : TA := fun σ H Q => ta σ H fun x H1 => tr σ H1 fun xs H2 => Q (x :: xs) H2
section
variable {X : Cx} {e : Expr} {es : List Expr} {te : TE} {t : TA} {pos : Pos}
theorem pa_nil : PA X [] tNil := fun _ _ _ _ H Q I h => Calls.spliced_nil ⟨[], H, I, .nil, h⟩
theorem pa_cons (ha : PE X e te) (hr : PA X es t) (hs : starEach (e :: es) X.env = (false, eval e X.env) :: starEach es X.env := by rfl) : PA X (e :: es) (tCons te t) := by
  intro pos pins s σ H Q I h
  rw [hs]
  show wpAny _ _ (spliced ((false, eval e X.env) :: backTo pos (starEach es X.env))) _ _ s
  refine Calls.spliced_cons (thn (ha pins s σ H _ I h) fun u s1 ⟨x, H1, I1, r1, q1⟩ => ?_)
  exact thn (hr pos pins s1 σ H1 _ I1 q1) fun us s2 ⟨xs, H2, I2, r2, q2⟩ => ⟨x :: xs, H2, I2, .cons r1 r2, q2⟩
def tTup (t : TA) : TE := fun σ H Q => t σ H fun xs H1 => xs.length ≤ sizeLine ∧ ∀ p, H1 p = none → Q (.ref p) (upd H1 p (.tup xs))
def tLst (t : TA) : TE := fun σ H Q => t σ H fun xs H1 => xs.length ≤ sizeLine ∧ ∀ p, H1 p = none → Q (.ref p) (upd H1 p (.lst xs))
theorem pe_tup {x1} (h : PA X es t) : PE X (.Tuple es x1 pos) (tTup t) := by
  intro pins s σ H Q I hq
  refine wpAny_Tuple_spliced (thn (h pos pins s σ H _ I hq) fun us s1 ⟨xs, H1, I1, r, z, q⟩ => ⟨by rw [← r.length]; exact z, ?_⟩)
  have hf : H1 s1.heap.objs.size = none := I1.hok.fresh (Nat.le_refl _)
  refine ⟨.ref s1.heap.objs.size, upd H1 s1.heap.objs.size (.tup xs), I1.laid (t' := s1.toks) (fun b u e => Heap.get?_push_of_some _ e) (Nat.le_refl _) ?_, rfl, q _ hf⟩
  exact ⟨z, us, r, ⟨_, Heap.get?_push_size _ rfl, rfl, _, rfl⟩⟩
theorem pe_lst (h : PA X es t) : PE X (.List es pos) (tLst t) := by
  intro pins s σ H Q I hq
  refine wpAny_List_spliced (thn (h pos pins s σ H _ I hq) fun us s1 ⟨xs, H1, I1, r, z, q⟩ => ⟨by rw [← r.length]; exact z, ?_⟩)
  have hf : H1 s1.heap.objs.size = none := I1.hok.fresh (Nat.le_refl _)
  refine ⟨.ref s1.heap.objs.size, upd H1 s1.heap.objs.size (.lst xs), I1.laid (t' := s1.toks) (fun b u e => Heap.get?_push_of_some _ e) (Nat.le_refl _) ?_, rfl, q _ hf⟩
  exact ⟨z, us, 0, r, Heap.get?_push_size _ rfl⟩
end
abbrev Sp := List V → Hp → VK → XK → Prop
abbrev CXT := List Env → Hp → Shared → XK → Value → Shared → Prop
structure Env0 (P : Program) (w : World) (K : PySem.W.Frag) (mg : Str → Option Value) (base : Heap) (A : Around) (outer : List Env) (s : Shared) (H : Hp) : Prop where
  frames : A.frames = some outer
  mod : Mod K mg base
  bs : ∀ b o, base.get? b = some o → s.heap.get? b = some o ∧ H b = none
  bsz : base.objs.size ≤ s.heap.objs.size
  funs : s.heap.FunFrames base outer
  frf : ∀ b ∈ frs outer, H b = none
  hok : HOk P w H s.heap
  bare : AllBare s.gens
def CE (outer : List Env) (P : Program) (w : World) (H : Hp) (s : Shared) (Q : VK) (u : Value) (s' : Shared) : Prop :=
  ∃ v H', s'.os = s.os ∧ AllBare s'.gens ∧ Un (frs outer) [] H H' s.heap s'.heap ∧ HOk P w H' s'.heap ∧ RelV v u ∧ Q v H'
def CR (CX : CXT) (outer : List Env) (P : Program) (w : World) (H : Hp) (s : Shared) (Q : VK) (E : XK) (r : Result) (s' : Shared) : Prop :=
  match r with
  | .ok (.ret u) => CE outer P w H s Q u s'
  | .ok _ => False
  | .error e => CX outer H s E e s'
structure FnOk (P : Program) (w : World) (K : PySem.W.Frag) (mg : Str → Option Value) (base : Heap) (CX : CXT) (k : Nat) (f : Addr) (fd : FuncData) (ps : List Str) (sp : Sp) : Prop where
  len : ∀ vs H Q E, sp vs H Q E → vs.length = ps.length
  run : ∀ (A : Around) (outer : List Env) (s : Shared) (H : Hp) (args : Args) (us : List Value) (vs : List V) (Q : VK) (E : XK), Room k A → Env0 P w K mg base A outer s H → BindsTo s fd args (ps.zip us) → Vals vs us → sp vs H Q E →
    codeAny (model P w) A (.call (.ref f) args) (CR CX outer P w H s Q E) s
theorem FnOk.mono {P : Program} {w : World} {K : PySem.W.Frag} {mg : Str → Option Value} {base : Heap} {CX : CXT} {j k : Nat} {f : Addr} {fd : FuncData} {ps : List Str} {sp : Sp} (F : FnOk P w K mg base CX j f fd ps sp) (h : j ≤ k) :
    FnOk P w K mg base CX k f fd ps sp := ⟨F.len, fun A outer s H args us vs Q E hr => F.run A outer s H args us vs Q E (hr.mono h)⟩
theorem FnOk.imp {P : Program} {w : World} {K : PySem.W.Frag} {mg : Str → Option Value} {base : Heap} {CX : CXT} {k : Nat} {f : Addr} {fd : FuncData} {ps : List Str} {sp sp' : Sp} (F : FnOk P w K mg base CX k f fd ps sp)
    (h : ∀ vs H Q E, sp' vs H Q E → sp vs H Q E) : FnOk P w K mg base CX k f fd ps sp' :=
  ⟨fun vs H Q E q => F.len vs H Q E (h _ _ _ _ q), fun A outer s H args us vs Q E hr he hb hv hs => F.run A outer s H args us vs Q E hr he hb hv (h _ _ _ _ hs)⟩
theorem Env0.make {P : Program} {w : World} {K : PySem.W.Frag} {mg : Str → Option Value} {base : Heap} {A : Around} {outer : List Env} {s : Shared} {H : Hp} (e : Env0 P w K mg base A outer s H) (C : Addr) (us : List Value) (kw : List (Str × Value)) :
    Env0 P w K mg base (A.under (.builtin "type.__call__" ⟨.ref C :: us, kw⟩)) outer s H := ⟨by first | exact e.frames | (simpa [Around.under, Code.envs, Code.isFrame, pushEnvs] using e.frames), e.mod, e.bs, e.bsz, e.funs, e.frf, e.hok, e.bare⟩
theorem Env0.in1 {P : Program} {w : World} {K : PySem.W.Frag} {mg : Str → Option Value} {base : Heap} {A : Around} {outer : List Env} {s : Shared} {H : Hp} (e : Env0 P w K mg base A outer s H) :
    Env0 P w K mg base A.in1 outer s H := ⟨e.frames, e.mod, e.bs, e.bsz, e.funs, e.frf, e.hok, e.bare⟩
section
variable {X : Cx} {pins : List (Addr × Obj)} {σ : St} {H : Hp} {s s' : Shared}
theorem Inv.env0 (I : Inv X pins σ H s) : Env0 X.prog X.w X.K X.mg X.base X.A X.stack s H :=
  ⟨I.ok.frames, I.ok.mod, I.bs, Nat.le_trans I.ok.bsz I.sz, I.stack, I.stkFree, I.hok, I.bare⟩
theorem Inv.after {Q : VK} {u : Value} (I : Inv X pins σ H s) (h : CE X.stack X.prog X.w H s Q u s') : EP X pins σ Q u s' := by
  obtain ⟨v, H', os, bare, un, hok, r, q⟩ := h
  obtain ⟨hh, g, d, t, os'⟩ := s'
  obtain rfl : os' = s.os := os
  exact ⟨v, H', I.call (h' := hh) (g' := g) (d' := d) (t' := t) (ch := []) un hok bare (fun b z => absurd z (by simp)), r, q⟩
end
def tCall (sp : Sp) (dvs : List V) (E : XK) (t : TA) : TE := fun σ H Q => t σ H fun vs H1 => sp (vs ++ dvs) H1 Q E
def tMeth (C : Addr) (m : Str) (sp : Sp) (dvs : List V) (E : XK) (ta : TE) (t : TA) : TE := fun σ H Q => ta σ H fun x H1 => ∃ a dx fs, x = .ref a ∧ H1 a = some (.ins C dx fs) ∧ fs.lookup m = none ∧
  t σ H1 fun vs H2 => sp (x :: (vs ++ dvs)) H2 Q E
def tMake (C : Addr) (sp : Sp) (dvs : List V) (E : XK) (t : TA) : TE := fun σ H Q => t σ H fun vs H1 => ∀ x dx, H1 x = none → H1 dx = none → dx ≠ x →
  sp (.ref x :: (vs ++ dvs)) (upd (upd H1 dx (.own x)) x (.ins C dx [])) (fun v H2 => v = .non ∧ Q (.ref x) H2) E
def Binds (K : PySem.W.Frag) (fd : FuncData) (ps : List Str) (ds : List Value) : Prop :=
  ∀ (s : Shared) (us : List Value), K.In s.heap → (us ++ ds).length = ps.length → BindsTo s fd ⟨us, []⟩ (ps.zip (us ++ ds))
theorem Binds.all {K : PySem.W.Frag} {fd : FuncData} {ps : List Str} (h : ∀ us : List Value, us.length = ps.length → bindArgs fd ⟨us, []⟩ = pure (ps.zip us)) : Binds K fd ps [] := fun s us _ hl => by
  rw [List.append_nil] at hl ⊢
  exact .of_eq (h us hl)
def Passes (CX : CXT) (X : Cx) (E : XK) : Prop := ∀ (pins : List (Addr × Obj)) (σ : St) (H : Hp) (s : Shared) (e : Value) (s' : Shared), Inv X pins σ H s → CX X.stack H s E e s' → X.xe e s'
section
variable {X : Cx} {CX : CXT} {k : Nat} {f C : Addr} {fd : FuncData} {ps : List Str} {sp : Sp} {dvs : List V} {ds : List Value} {E : XK} {x m : Str} {p pos apos : Pos} {e o : Expr} {es : List Expr} {ta : TE} {t : TA}
theorem run_fn {pins : List (Addr × Obj)} {σ : St} {H : Hp} {s : Shared} {Q : VK} {us : List Value} {vs : List V} (F : FnOk X.prog X.w X.K X.mg X.base CX k f fd ps sp) (hr : Room k X.A) (hb : Binds X.K fd ps ds) (hd : Vals dvs ds) (hx : Passes CX X E)
    (I : Inv X pins σ H s) (r : Vals vs us) (h : sp (vs ++ dvs) H Q E) : wpAny (model X.prog X.w) X.A (call (.ref f) us) (EP X pins σ Q) X.xe s := by
  have r2 : Vals (vs ++ dvs) (us ++ ds) := r.append hd
  have hl : (us ++ ds).length = ps.length := by rw [← r2.length]; exact F.len _ _ _ _ h
  refine wpAny_call (codeAny_mono (F.run X.A X.stack s H ⟨us, []⟩ (us ++ ds) (vs ++ dvs) Q E hr I.env0 (hb s us I.kIn hl) r2 h) fun r s' hq => ?_)
  cases r with
  | error e => exact hx pins σ H s e s' I hq
  | ok fl =>
    cases fl with
    | ret u => exact I.after hq
    | next => exact False.elim hq
    | brk => exact False.elim hq
    | cont => exact False.elim hq
theorem pe_call (F : FnOk X.prog X.w X.K X.mg X.base CX k f fd ps sp) (hr : Room k X.A) (hg : Gl X x) (hm : X.mg x = some (.ref f)) (hk : PySem.W.keepIn X.K (.ref f) = true) (hb : Binds X.K fd ps ds) (hd : Vals dvs ds) (hx : Passes CX X E)
    (ha : PA X (e :: es) t) (hdb : (x == ("__debug__" : Str)) = false := by decide) (he : starEach (e :: es) X.env = (false, eval e X.env) :: starEach es X.env := by rfl) (hpl : (backTo pos (starEach es X.env)).any (·.1) = false := by rfl) :
    PE X (.Call (.Name x p) (e :: es) [] pos) (tCall sp dvs E t) := by
  intro pins s σ H Q I h
  refine wpAny_Call_Name_kw (ld_glob I hg hm ?_ hdb)
  refine PySem.W.callWith_K (h₀ := X.base) I.ok.mod.kin hk (thn (ha pos pins s σ H _ I h) fun us s1 ⟨vs, H1, I1, r, q⟩ => ⟨I1.kIn, ?_⟩) he hpl
  exact run_fn F hr hb hd hx I1 r q
theorem pe_meth0 {pl : Sem Bool} (he : PE X o ta) (c : Cls X.K C) (hm : Meth X.K C m f) (F : FnOk X.prog X.w X.K X.mg X.base CX k f fd ps sp) (hr : Room k X.A) (hb : Binds X.K fd ps ds) (hd : Vals dvs ds) (hx : Passes CX X E)
    (ht : eval (.Call (.Attribute o m apos) [] [] pos) X.env = (do
      let ov ← eval o X.env
      standAt apos.atName
      let (f, first) ← holding [ov] (getMethod ov m pl)
      callWith pos f first (backTo pos (starEach [] X.env)) (backToKw pos (keywordEach [] X.env))) := by rfl) :
    PE X (.Call (.Attribute o m apos) [] [] pos) (tMeth C m sp dvs E ta tNil) := by
  intro pins s σ H Q I h
  refine PySem.W.methodCall_KW (pl := pl) (thn (he pins s σ H _ I h) fun u s1 ⟨x, H1, I1, rx, a, dx, fs, ex, ea, l, q⟩ => ?_) ht
  subst ex
  obtain rfl : u = Value.ref a := rx
  refine getmeth_ok I1 ea c hm l ?_
  exact PySem.W.callWith_K0 (first := [.ref a]) I1.kIn hm.kp (run_fn (us := [.ref a]) (vs := [.ref a]) F hr hb hd hx I1 (.cons rfl .nil) q)
structure Mk (K : PySem.W.Frag) (C f : Addr) : Prop where
  makes : PySem.W.makesIn K C = true
  init : PySem.W.findIn K (.ref C) "__init__" = some (some (.ref f))
  fn : PySem.W.isFn K (.ref f) = true
  kp : PySem.W.keepIn K (.ref C) = true
theorem run_make {pins : List (Addr × Obj)} {σ : St} {H : Hp} {s : Shared} {Q : VK} {us : List Value} {vs : List V} (M : Mk X.K C f) (F : FnOk X.prog X.w X.K X.mg X.base CX k f fd ps sp) (hr : Room (k + 1) X.A) (hb : Binds X.K fd ps ds) (hd : Vals dvs ds)
    (hx : Passes CX X E) (I : Inv X pins σ H s) (r : Vals vs us)
    (h : ∀ x dx, H x = none → H dx = none → dx ≠ x → sp (.ref x :: (vs ++ dvs)) (upd (upd H dx (.own x)) x (.ins C dx [])) (fun v H2 => v = .non ∧ Q (.ref x) H2) E) :
    wpAny (model X.prog X.w) X.A (call (.ref C) us) (EP X pins σ Q) X.xe s := by
  have hq := h (s.heap.objs.size + 1) s.heap.objs.size (I.hok.fresh (Nat.le_succ _)) (I.hok.fresh (Nat.le_refl _)) (Nat.ne_of_lt (Nat.lt_succ_self _))
  have I2 := Inv.made (C := C) I
  have r2 : Vals (V.ref (s.heap.objs.size + 1) :: (vs ++ dvs)) (Value.ref (s.heap.objs.size + 1) :: (us ++ ds)) := .cons rfl (r.append hd)
  have hl : (Value.ref (s.heap.objs.size + 1) :: us ++ ds).length = ps.length := by
    have e := r2.length
    rw [F.len _ _ _ _ hq] at e
    exact e.symm
  refine wpAny_call (make_map (f := f) I.kIn M.makes M.init (beq_iff_eq.mp M.fn) (codeAny_mono (F.run _ X.stack _ _ ⟨Value.ref (s.heap.objs.size + 1) :: us, []⟩ (Value.ref (s.heap.objs.size + 1) :: (us ++ ds)) _ _ E (hr.make C us [])
    (I2.env0.make C us []) (hb _ (Value.ref (s.heap.objs.size + 1) :: us) I2.kIn hl) r2 hq) fun r s' hq' => ?_))
  cases r with
  | error e => exact hx pins σ _ _ e s' I2 hq'
  | ok fl =>
    cases fl with
    | ret u =>
      obtain ⟨v, H', I3, rv, ev, q3⟩ := I2.after hq'
      subst ev
      exact ⟨rv, ⟨V.ref (s.heap.objs.size + 1), H', I3, rfl, q3⟩⟩
    | next => exact False.elim hq'
    | brk => exact False.elim hq'
    | cont => exact False.elim hq'
theorem pe_make (M : Mk X.K C f) (F : FnOk X.prog X.w X.K X.mg X.base CX k f fd ps sp) (hr : Room (k + 1) X.A) (hg : Gl X x) (hm : X.mg x = some (.ref C)) (hb : Binds X.K fd ps ds) (hd : Vals dvs ds) (hx : Passes CX X E)
    (ha : PA X (e :: es) t) (hdb : (x == ("__debug__" : Str)) = false := by decide) (he : starEach (e :: es) X.env = (false, eval e X.env) :: starEach es X.env := by rfl) (hpl : (backTo pos (starEach es X.env)).any (·.1) = false := by rfl) :
    PE X (.Call (.Name x p) (e :: es) [] pos) (tMake C sp dvs E t) := by
  intro pins s σ H Q I h
  refine wpAny_Call_Name_kw (ld_glob I hg hm ?_ hdb)
  refine PySem.W.callWith_K (h₀ := X.base) I.ok.mod.kin M.kp (thn (ha pos pins s σ H _ I h) fun us s1 ⟨vs, H1, I1, r, q⟩ => ⟨I1.kIn, ?_⟩) he hpl
  exact run_make M F hr hb hd hx I1 r q
end
section
variable {X : Cx} {CX : CXT} {k : Nat} {f C : Addr} {fd : FuncData} {ps ks : List Str} {sp : Sp} {E : XK} {x m : Str} {p pos apos kpos : Pos} {e o : Expr} {es : List Expr} {kws : List Keyword} {te ta : TE} {t tk : TA} {nm : Option Str}
variable {g : List Value → List Value → List Value} {gV : List V → List V → List V}
end
structure FnScope (N P : List Str) (sc : Scope) : Prop where
  kind : sc.kind = .function
  co : sc.isCoroutine = false
  gen : sc.isGenerator = false
  nd : N.Nodup
  pre : N.take P.length = P
  par : ∀ x ∈ P, sc.names.lookup x = some .local ∨ sc.names.lookup x = some .cell
  nofree : ∀ y ∈ sc.names, y.2 ≠ .free
theorem bindL_out {kindOf : Str → Option NameKind} {x : Str} : ∀ {binds : List (Str × Value)} {m : Str → Option Value}, (∀ v, (x, v) ∉ binds) → bindL kindOf binds m x = m x
  | [], _, _ => rfl
  | (n, v) :: r, m, h => by
    unfold bindL
    rw [bindL_out fun w hw => h w (List.mem_cons_of_mem _ hw)]
    split
    · have : x ≠ n := by rintro rfl; exact h v List.mem_cons_self
      simp [this]
    · rfl
theorem bindC_out {kindOf : Str → Option NameKind} {x : Str} : ∀ {binds : List (Str × Value)} {m : Str → Option Value}, (∀ v, (x, v) ∉ binds) → bindC kindOf binds m x = m x
  | [], _, _ => rfl
  | (n, v) :: r, m, h => by
    unfold bindC
    rw [bindC_out fun w hw => h w (List.mem_cons_of_mem _ hw)]
    split
    · rfl
    · have : x ≠ n := by rintro rfl; exact h v List.mem_cons_self
      simp [this]
theorem bindL_get {kindOf : Str → Option NameKind} {x : Str} {v : Value} : ∀ {P : List Str} {vs : List Value} {i : Nat} {m : Str → Option Value}, P.Nodup → P[i]? = some x → vs[i]? = some v → kindOf x = some .local →
    bindL kindOf (P.zip vs) m x = some v
  | [], _, _, _, _, h, _, _ => by simp at h
  | _ :: _, [], _, _, _, _, h, _ => by simp at h
  | p :: P, w :: vs, 0, m, nd, h1, h2, hk => by
    simp at h1 h2; subst h1; subst h2
    show bindL kindOf ((p, w) :: P.zip vs) m p = _
    unfold bindL
    rw [bindL_out fun v hv => (List.nodup_cons.mp nd).1 (List.of_mem_zip hv).1, if_pos hk]
    simp
  | p :: P, w :: vs, i + 1, m, nd, h1, h2, hk => by
    show bindL kindOf ((p, w) :: P.zip vs) m x = _
    unfold bindL
    exact bindL_get (i := i) (List.nodup_cons.mp nd).2 (by simpa using h1) (by simpa using h2) hk
theorem bindC_get {kindOf : Str → Option NameKind} {x : Str} {v : Value} : ∀ {P : List Str} {vs : List Value} {i : Nat} {m : Str → Option Value}, P.Nodup → P[i]? = some x → vs[i]? = some v → kindOf x ≠ some .local →
    bindC kindOf (P.zip vs) m x = some v
  | [], _, _, _, _, h, _, _ => by simp at h
  | _ :: _, [], _, _, _, _, h, _ => by simp at h
  | p :: P, w :: vs, 0, m, nd, h1, h2, hk => by
    simp at h1 h2; subst h1; subst h2
    show bindC kindOf ((p, w) :: P.zip vs) m p = _
    unfold bindC
    rw [bindC_out fun v hv => (List.nodup_cons.mp nd).1 (List.of_mem_zip hv).1, if_neg hk]
    simp
  | p :: P, w :: vs, i + 1, m, nd, h1, h2, hk => by
    show bindC kindOf ((p, w) :: P.zip vs) m x = _
    unfold bindC
    exact bindC_get (i := i) (List.nodup_cons.mp nd).2 (by simpa using h1) (by simpa using h2) hk
def start (N : List Str) (vs : List V) : St := vs.map some ++ List.replicate (N.length - vs.length) none
def cxOf (CX : CXT) (P : Program) (w : World) (K : PySem.W.Frag) (mg : Str → Option Value) (base : Heap) (N : List Str) (qual : Str) (scope : Scope) (f : Addr) (cd : Value) (A : Around) (outer : List Env) (s : Shared) (H : Hp) (E : XK) : Cx where
  prog := P
  w := w
  K := K
  mg := mg
  base := base
  A := A.deeper (envOfC qual scope s.heap.objs.size f cd)
  N := N
  s₀ := s
  H₀ := H
  env := envOfC qual scope s.heap.objs.size f cd
  outer := outer
  stack := envOfC qual scope s.heap.objs.size f cd :: outer
  ex := []
  calm := true
  fn := fun _ => true
  pn := []
  xe := fun e s' => wpAny (model P w) (A.deeper (envOfC qual scope s.heap.objs.size f cd)) (leaving (envOfC qual scope s.heap.objs.size f cd) e) (fun _ s'' => CX outer H s E e s'') (fun e' s'' => CX outer H s E e' s'') s'
theorem cell_has {sc : Scope} {n : Nat} {x : Str} (h : sc.names.lookup x = some .cell) : ∃ c, (cellsFrom n sc.names []).lookup x = some c := by
  have q := PySem.W.cellsFrom_some sc.names n [] (.inl h)
  exact Option.isSome_iff_exists.mp q
theorem inv_start {CX : CXT} {P : Program} {w : World} {K : PySem.W.Frag} {mg : Str → Option Value} {base : Heap} {N ps : List Str} {qual : Str} {scope : Scope} {f : Addr} {cd : Value} {A : Around} {outer : List Env} {s s1 : Shared} {H : Hp} {E : XK} {us : List Value} {vs : List V}
    (S : FnScope N ps scope) (hd : A.handled = none) (e0 : Env0 P w K mg base A outer s H) (hl : vs.length = ps.length) (r : Vals vs us)
    (x : InCallC s s.heap.objs.size (bindL (envOfC qual scope s.heap.objs.size f cd).kindOf (ps.zip us) fun _ => none) (cellsFrom (s.heap.objs.size + 1) scope.names []) (bindC (envOfC qual scope s.heap.objs.size f cd).kindOf (ps.zip us) fun _ => none) s1) :
    Inv (cxOf CX P w K mg base N qual scope f cd A outer s H E) [] (start N vs) H s1 := by
  have hpl : ps.length ≤ N.length := by have := congrArg List.length S.pre; rw [List.length_take] at this; omega
  obtain ⟨h1, tk, rfl, hk⟩ := x.done
  have noA : ∀ b : Addr, b ∉ (cxOf CX P w K mg base N qual scope f cd A outer s H E).ex := fun b z => absurd (show b ∈ ([] : List Addr) from z) (by simp)
  refine ⟨⟨e0.mod, S.kind, rfl, rfl, Nat.le_refl _, fun y z c h1 h2 => ?_, fun y hy => ?_, fun y c _ h => ?_, fun _ => hd, Around.frames_deeper e0.frames, .inr ⟨rfl, rfl⟩, fun b z => absurd z (noA b), e0.bs, e0.bsz, fun b _ _ => noA b, fun b z => absurd z (noA b), e0.funs, e0.frf⟩,
    rfl, e0.bare, Un.kept hk, ⟨_, x.toInCall.ns, fun i y v h1 h2 h3 => ?_⟩, fun y c h => ⟨_, x.cell y c h⟩, e0.hok.fresh (Nat.le_refl _), fun y c h => ?_, fun p hp => absurd (show p ∈ ([] : List (Addr × Obj)) from hp) (by simp), e0.hok.kept hk, ?_⟩
  · exact name_of_addr x.apart (PySem.mem_of_lookup h1) (PySem.mem_of_lookup h2)
  · have hy : scope.names.lookup y = some .cell ∨ scope.names.lookup y = some .free := hy
    rcases hy with hy | hy
    · exact cell_has hy
    · exact absurd rfl (S.nofree _ (PySem.mem_of_lookup hy))
  · exact Nat.le_of_lt (x.above y c (PySem.mem_of_lookup h))
  · have hi : i < vs.length := by
      unfold start at h2
      by_cases hi : i < vs.length
      · exact hi
      · rw [List.getElem?_append_right (by simpa using hi)] at h2
        rw [List.getElem?_replicate] at h2
        split at h2 <;> cases h2
    have ha : vs[i]? = some v := by
      unfold start at h2
      rw [List.getElem?_append_left (by simpa using hi), List.getElem?_map] at h2
      cases e : vs[i]? with
      | none => rw [e] at h2; cases h2
      | some a => rw [e] at h2; cases h2; rfl
    obtain ⟨u, hu, rv⟩ := r.get ha
    have hp : ps[i]? = some y := by
      rw [← S.pre, List.getElem?_take_of_lt (by omega)]; exact h1
    have ndP : ps.Nodup := by rw [← S.pre]; exact S.nd.sublist (List.take_sublist _ _)
    refine ⟨u, rv, ?_⟩
    rcases S.par y (List.mem_of_getElem? hp) with k | k
    · exact .inl ⟨k, bindL_get ndP hp hu k⟩
    · obtain ⟨c, e⟩ := cell_has (n := s.heap.objs.size + 1) k
      refine .inr ⟨.inl k, c, e, ?_⟩
      have q := x.cell y c e
      rw [bindC_get ndP hp hu (by show scope.names.lookup y ≠ _; rw [k]; decide)] at q
      exact q
  · exact e0.hok.fresh (Nat.le_of_lt (x.above y c (PySem.mem_of_lookup h)))
  · unfold start
    show _ = N.length
    rw [List.length_append, List.length_map, List.length_replicate]
    omega
theorem fn_of {CX : CXT} {P : Program} {w : World} {K : PySem.W.Frag} {mg : Str → Option Value} {base : Heap} {k : Nat} {f : Addr} {name qual : Str} {params : Arguments} {body : List Stmt} {scope : Scope} {dV kV doc pm cdv ct oc : Value} {an od : Option Addr}
    {osl : Array (Option Value)} {N ps : List Str} {sp : Sp} (lk : K.lookup f = some ⟨oc, od, .func (PySem.W.fnOf name qual params body scope dV kV doc pm an cdv ct), osl⟩) (hcd : PySem.W.codeIn K cdv qual = true) (S : FnScope N ps scope)
    (len : ∀ vs H Q E, sp vs H Q E → vs.length = ps.length)
    (hbody : ∀ (A : Around) (outer : List Env) (s : Shared) (H : Hp) (vs : List V) (Q : VK) (E : XK), Room k (A.deeper (envOfC qual scope s.heap.objs.size f cdv)) → sp vs H Q E →
      ∃ t, PSs (cxOf CX P w K mg base N qual scope f cdv A outer s H E) body t ∧ t { nx := fun _ H' => Q .non H', rt := Q } (start N vs) H) :
    FnOk P w K mg base CX (k + 1) f (PySem.W.fnOf name qual params body scope dV kV doc pm an cdv ct) ps sp := by
  refine ⟨len, fun A outer s H args us vs Q E hr e0 hb r hsp => ?_⟩
  have hl := len _ _ _ _ hsp
  have KX : K.In s.heap := e0.mod.kin.keeps fun b o e => (e0.bs b o e).1
  have lim : s.heap.NoLimit := e0.mod.nolimit.keeps fun b o e => (e0.bs b o e).1
  have hkind : ∀ y ∈ ps.zip us, scope.names.lookup y.1 = some .local ∨ (scope.names.lookup y.1 = some .cell ∧ ((cellsFrom (s.heap.objs.size + 1) scope.names []).lookup y.1).isSome = true) := fun ⟨n, v⟩ hy => by
    rcases S.par n (List.of_mem_zip hy).1 with q | q
    · exact .inl q
    · exact .inr ⟨q, PySem.W.cellsFrom_some _ _ _ (.inl q)⟩
  refine codeAny_call_function hr.depth (KX _ _ lk) rfl S.co S.gen rfl (PySem.W.codeRec_of KX hcd) (hb _ _ _ _ ?_)
  refine wpAny_newFunctionEnv_cells S.kind hkind fun env he s1 x => ?_
  subst he
  refine ⟨lim.keeps x.toInCall.keep, codeAny_func ?_⟩
  obtain ⟨t, ht, hq⟩ := hbody A outer s H vs Q E (hr.deeper _) hsp
  have I : Inv (cxOf CX P w K mg base N qual scope f cdv A outer s H E) [] (start N vs) H s1 := inv_start S hr.hd e0 hl r x
  refine wpAny_mono (ht [] s1 (start N vs) H _ I hq) (fun fl s' hs => ?_) fun e s' hs => hs
  have fin : ∀ {σ' : St} {H' : Hp} {v : V} {u : Value}, Inv (cxOf CX P w K mg base N qual scope f cdv A outer s H E) [] σ' H' s' → RelV v u → Q v H' → CE outer P w H s Q u s' :=
    fun {σ' H' v u} J rv q => ⟨v, H', J.os, J.bare, J.base, J.hok, rv, q⟩
  cases fl with
  | ret u =>
    obtain ⟨v, σ', H', J, rv, q⟩ := hs
    exact fin J rv q
  | next =>
    obtain ⟨σ', H', J, q⟩ := hs
    exact fin (v := V.non) (u := Value.none) J rfl q
  | brk =>
    obtain ⟨_, _, _, q⟩ := hs
    exact False.elim q
  | cont =>
    obtain ⟨_, _, _, q⟩ := hs
    exact False.elim q
end L2
namespace L2
open PySem PySem.Spec PyProof.Rows
section
variable {X : Cx} {x : Str} {p pos : Pos} {e : Expr} {es : List Expr} {t : TA} {id T : String} {r : List V → Hp → VK → Prop}
def tCB (r : List V → Hp → VK → Prop) (t : TA) : TE := fun σ H Q => t σ H fun vs H1 => r vs H1 Q
theorem pe_callB (hc : CallR X (.builtin id) r) (hg : Gl X x) (hm : X.mg x = none) (hv : bootBuiltins x = some (.builtin id)) (ha : PA X (e :: es) t) (hn : x ≠ "__name__" := by decide) (hdb : (x == ("__debug__" : Str)) = false := by decide)
    (he : starEach (e :: es) X.env = (false, eval e X.env) :: starEach es X.env := by rfl) (hpl : (backTo pos (starEach es X.env)).any (·.1) = false := by rfl) : PE X (.Call (.Name x p) (e :: es) [] pos) (tCB r t) := by
  intro pins s σ H Q I h
  refine wpAny_Call_Name_kw (ld_blt I hg hm hv ?_ hn hdb)
  exact PyProof.Rows.callWith_builtin1 (thn (ha pos pins s σ H _ I h) fun us s1 ⟨vs, H1, I1, r1, q1⟩ => hc pins s1 σ H1 vs us Q I1 r1 q1) he hpl
theorem pe_callTy (hc : CallR X (.type T) r) (hg : Gl X x) (hm : X.mg x = none) (hv : bootBuiltins x = some (.type T)) (ha : PA X (e :: es) t) (hn : x ≠ "__name__" := by decide) (hdb : (x == ("__debug__" : Str)) = false := by decide)
    (he : starEach (e :: es) X.env = (false, eval e X.env) :: starEach es X.env := by rfl) (hpl : (backTo pos (starEach es X.env)).any (·.1) = false := by rfl) : PE X (.Call (.Name x p) (e :: es) [] pos) (tCB r t) := by
  intro pins s σ H Q I h
  refine wpAny_Call_Name_kw (ld_blt I hg hm hv ?_ hn hdb)
  exact PyProof.Rows.callWith_type1 (thn (ha pos pins s σ H _ I h) fun us s1 ⟨vs, H1, I1, r1, q1⟩ => hc pins s1 σ H1 vs us Q I1 r1 q1) he hpl
end
end L2
namespace HT
open PySem PyProof.Rows
section
open PySem.SeqAt
open PySem.AutoSeq1 (wpAny_loadPart')
open PySem.MeetsSeq PySem.MeetsSeq2 PySem.MeetsSeq3
end
section
variable {prog : Program} {w : World} {A : Around} {E : Value → Shared → Prop} {s : Shared}
theorem cat_tup {t b : Addr} {vs ws : List Value} {Q : Value → Shared → Prop} (ht : IsTup s.heap t vs.toArray) (hb : IsTup s.heap b ws.toArray) (hv : vs ≠ [])
    (h1 : ws = [] → Q (.ref t) s) (h2 : ws ≠ [] → Q (.ref s.heap.objs.size) { s with heap := s.heap.push { cls := .type "tuple", data := .seq (vs ++ ws).toArray } })
    (hsz : vs.length + ws.length ≤ sizeLine) : wpAny (model prog w) A (binaryOp .Add (.ref t) (.ref b)) Q E s := by
  obtain ⟨⟨cls, dd, data, sl⟩, ho, hc, n, hd⟩ := id ht
  obtain ⟨⟨cls2, dd2, data2, sl2⟩, ho2, hc2, n2, hd2⟩ := id hb
  simp only at hc hd hc2 hd2
  subst hc hd hc2 hd2
  have e : vs.toArray ++ ws.toArray = (vs ++ ws).toArray := by simp
  by_cases hw : ws = []
  · exact concat_meets ⟨_, ho, rfl⟩ ⟨_, ho2, rfl⟩ noFill_tuple_add seq_tuple_add PySem.F.slot_tuple_add PySem.F.entry_tuple_add (PySem.F.args_tuple_add_2 _ _)
      (tuple_addW1 t b vs.toArray ws.toArray n n2 dd dd2 sl sl2 (by simpa using hv) (by simp [hw])) ⟨ho, ho2, h1 hw⟩
  · refine concat_meets ⟨_, ho, rfl⟩ ⟨_, ho2, rfl⟩ noFill_tuple_add seq_tuple_add PySem.F.slot_tuple_add PySem.F.entry_tuple_add (PySem.F.args_tuple_add_2 _ _)
      (tuple_addW2 t b vs.toArray ws.toArray n n2 dd dd2 sl sl2 (by simpa using hv) (by simpa using hw) (by rw [List.size_toArray, List.size_toArray]; exact hsz)) ⟨ho, ho2, ?_⟩
    rw [e]
    exact h2 hw
def sIx (n d : Nat) : Option Int → Nat
  | none => d
  | some v => if v < 0 then (v + (n : Int)).toNat else min v.toNat n
theorem sIx_le (n d : Nat) (hd : d ≤ n) (o : Option Int) : sIx n d o ≤ n := by
  cases o with
  | none => exact hd
  | some v =>
    show (if v < 0 then (v + (n : Int)).toNat else min v.toNat n) ≤ n
    by_cases hv : v < 0
    · rw [if_pos hv]; omega
    · rw [if_neg hv]; exact Nat.min_le_right _ _
theorem clip_eq (v : Int) (n d : Nat) : (if v < 0 then max (v + (n : Int)) 0 else min v (n : Int)) = ((sIx n d (some v) : Nat) : Int) := by
  show (if v < 0 then max (v + (n : Int)) 0 else min v (n : Int)) = (((if v < 0 then (v + (n : Int)).toNat else min v.toNat n) : Nat) : Int)
  by_cases hv : v < 0
  · simp only [if_pos hv]; omega
  · simp only [if_neg hv]; omega
theorem adjust_gen (lo hi : Option Int) (n : Nat) : Builtin.Slice.sliceAdjust lo hi 1 (n : Int) = (((sIx n 0 lo : Nat) : Int), ((sIx n n hi : Nat) : Int)) := by
  have h1 : ¬ ((1 : Int) < 0) := by omega
  unfold Builtin.Slice.sliceAdjust
  simp only [h1, if_false]
  refine Prod.ext ?_ ?_
  · cases lo with
    | none => rfl
    | some v => exact clip_eq v n 0
  · cases hi with
    | none => rfl
    | some v => exact clip_eq v n n
theorem places_gen (i j : Nat) : Builtin.Slice.slicePlaces (i : Int) (j : Int) 1 = j - i := by
  unfold Builtin.Slice.slicePlaces
  have h1 : (1 : Int) > 0 := by omega
  simp only [h1, if_true, Int.ediv_one]
  split <;> omega
theorem slicePart_ {v : Value} {o : Option Int} {Q : Option Int → Shared → Prop} (p : IsPart v o) (h : Q o s) : wpAny (model prog w) A (Builtin.Slice.slicePartIndex v) Q E s := by
  cases p with
  | none => exact slicePart_none h
  | int i t => exact slicePart_int h
theorem sliceApplied_gen {sl : Addr} {vl vu : Value} {lo hi : Option Int} {n : Nat} {Q : Int × Int × Nat → Shared → Prop} (hs : s.heap.IsSliceOf sl vl vu .none) (pl : IsPart vl lo) (pu : IsPart vu hi)
    (h : Q (((sIx n 0 lo : Nat) : Int), 1, sIx n n hi - sIx n 0 lo) s) : wpAny (model prog w) A (Builtin.Slice.sliceApplied (.ref sl) (pure (n : Int))) Q E s := by
  obtain ⟨os, hos, hcs, hds⟩ := id hs
  unfold Builtin.Slice.sliceApplied Builtin.Slice.sliceFields
  refine wpAny_bind (wpAny_bind (wpAny_field hos hds (x := vl) rfl (wpAny_bind (wpAny_field hos hds (x := vu) rfl (wpAny_bind (wpAny_field hos hds (x := .none) rfl (wpAny_pure ?_)))))))
  refine wpAny_bind (slicePart_none ?_)
  show wpAny _ _ (if ((1 : Int) == 0) = true then _ else _) _ _ s
  rw [if_neg (by decide)]
  refine wpAny_bind (slicePart_ pl (wpAny_bind (slicePart_ pu (wpAny_bind (wpAny_pure ?_)))))
  show wpAny _ _ (match Builtin.Slice.sliceAdjust lo hi 1 (n : Int) with | (lo, hi) => pure (lo, (1 : Int), Builtin.Slice.slicePlaces lo hi 1)) _ _ s
  rw [adjust_gen lo hi n]
  show wpAny _ _ (pure (((sIx n 0 lo : Nat) : Int), (1 : Int), Builtin.Slice.slicePlaces ((sIx n 0 lo : Nat) : Int) ((sIx n n hi : Nat) : Int) 1)) _ _ s
  rw [places_gen]
  exact wpAny_pure h
theorem pick_gen (xs : Array Value) (i k : Nat) : ((List.range k).filterMap fun (m : Nat) => xs[((i : Int) + (m : Int) * 1).toNat]?).toArray = ((xs.toList.drop i).take k).toArray := by
  have e : (fun (m : Nat) => xs[((i : Int) + (m : Int) * 1).toNat]?) = fun m => xs[i + m]? := by
    funext m
    have : ((i : Int) + (m : Int) * 1).toNat = i + m := by omega
    rw [this]
  rw [e]
  have := pick_run xs i k
  rw [List.filterMap_map] at this
  have e2 : ((fun x => xs[x]?) ∘ fun x => i + x) = fun m => xs[i + m]? := rfl
  rw [e2] at this
  rw [this]
theorem getItem_tuple_cut {t sl : Addr} {items : Array Value} {vl vu : Value} {lo hi : Option Int} {Q : Value → Shared → Prop} (ht : IsTup s.heap t items) (hs : s.heap.IsSliceOf sl vl vu .none) (pl : IsPart vl lo) (pu : IsPart vu hi)
    (hw : ¬ (sIx items.size 0 lo = 0 ∧ sIx items.size items.size hi = items.size))
    (h : Q (.ref s.heap.objs.size) { s with heap := s.heap.push { cls := .type "tuple", data := .seq ((items.toList.drop (sIx items.size 0 lo)).take (sIx items.size items.size hi - sIx items.size 0 lo)).toArray } })
    (hsz : items.size ≤ sizeLine) : wpAny (model prog w) A (getItem (.ref t) (.ref sl)) Q E s := by
  have htake : sizeOk (.seq ((items.toList.drop (sIx items.size 0 lo)).take (sIx items.size items.size hi - sIx items.size 0 lo)).toArray) := by
    show ((items.toList.drop (sIx items.size 0 lo)).take (sIx items.size items.size hi - sIx items.size 0 lo)).toArray.size ≤ sizeLine
    rw [List.size_toArray, List.length_take, List.length_drop, Array.length_toList]
    omega
  have hj : sIx items.size items.size hi ≤ items.size := sIx_le _ _ (Nat.le_refl _) hi
  obtain ⟨os, hos, hcs, hds⟩ := id hs
  have hTs : s.TypeIs (.ref sl) "slice" := ⟨os, hos, hcs⟩
  unfold getItem
  try with_reducible refine wpAny_holding ?_
  first | refine wpAny_bind (wpAny_pure ?_) | skip
  refine wpAny_bind (wpAny_sequenceKey ht.typeIs (by decide) ?_)
  refine wpAny_bind (wpAny_callSpecial?_slot (name := Str.ofString "__getitem__") ht.typeIs PyProof.Rows.slot_tuple_getitem
    (wpAny_call_entry PyProof.Rows.slot_tuple_getitem ht.typeIs entry_tuple_getitem ?_ (args_tuple_getitem _ _)))
  show wpAny _ _ (Builtin.Tuple.tupleItemsOf (.ref t) >>= _) _ _ s
  refine wpAny_bind (tupleItemsOf_ ht ?_)
  refine wpAny_bind (wpAny_typeOf hTs ?_)
  rw [if_pos (by decide)]
  refine wpAny_bind (sliceApplied_gen hs pl pu ?_)
  have hno : ¬ ((((sIx items.size 0 lo : Nat) : Int) == 0 && (1 : Int) == 1 && (sIx items.size items.size hi - sIx items.size 0 lo) == items.size) = true) := by
    intro q
    rw [Bool.and_eq_true, Bool.and_eq_true] at q
    have q1 : ((sIx items.size 0 lo : Nat) : Int) = 0 := eq_of_beq q.1.1
    have q2 : sIx items.size items.size hi - sIx items.size 0 lo = items.size := eq_of_beq q.2
    exact hw ⟨by omega, by omega⟩
  show wpAny _ _ (if (((sIx items.size 0 lo : Nat) : Int) == 0 && (1 : Int) == 1 && (sIx items.size items.size hi - sIx items.size 0 lo) == items.size) = true then _ else _) _ _ s
  rw [if_neg hno, pick_gen]
  first
    | exact wpAny_bind (m := Builtin.Tuple.tupleExact _) (wpAny_newObj_type (wpAny_pure ⟨_, rfl, wpAny_pure h⟩) htake)
    | exact wpAny_bind (m := Builtin.Tuple.tupleExact _) (wpAny_newObj_type (wpAny_bind (wpAny_pure (wpAny_pure ⟨_, rfl, wpAny_pure h⟩))) htake)
    | exact wpAny_bind (wpAny_bind (m := Builtin.Tuple.tupleExact _) (wpAny_newObj_type (wpAny_pure (wpAny_pure ⟨_, rfl, wpAny_pure h⟩)) htake))
    | exact wpAny_bind (wpAny_bind (m := Builtin.Tuple.tupleExact _) (wpAny_newObj_type (wpAny_pure ⟨_, rfl, wpAny_pure h⟩) htake))
end
end HT
namespace L2
open PySem PySem.Spec PyProof.Rows
abbrev TO := St → Hp → (Option Int → Hp → Prop) → Prop
def PO (X : Cx) (e : Option Expr) (t : TO) : Prop :=
  ∀ (pins : List (Addr × Obj)) (s : Shared) (σ : St) (H : Hp) (Q : Option Int → Hp → Prop), Inv X pins σ H s → t σ H Q →
    wpAny (model X.prog X.w) X.A (evalPart e X.env) (fun u s' => ∃ o H', Inv X pins σ H' s' ∧ IsPart u o ∧ Q o H') X.xe s
def tPart (t : TE) : TO := fun σ H Q => t σ H fun x H1 => ∃ i, x = .int i ∧ Q (some i) H1
section
variable {X : Cx} {e : Expr} {te : TE} {lo hi : Option Expr} {tl th : TO} {pos p2 : Pos}
theorem po_some (h : PE X e te) : PO X (some e) (tPart te) := by
  intro pins s σ H Q I hw
  rw [evalPart_some]
  refine thn (h pins s σ H _ I hw) fun u s1 ⟨x, H1, I1, r1, q1⟩ => ?_
  obtain ⟨i, rfl, q⟩ := q1
  obtain ⟨t, rfl⟩ := r1
  exact ⟨some i, H1, I1, .int i t, q⟩
def SlR (X : Cx) (r : V → Option Int → Option Int → Hp → VK → Prop) : Prop :=
  ∀ (pins : List (Addr × Obj)) (s : Shared) (σ : St) (H : Hp) (x : V) (v vl vu : Value) (lo hi : Option Int) (sl : Addr) (Q : VK), Inv X pins σ H s → RelV x v → s.heap.IsSliceOf sl vl vu .none → IsPart vl lo → IsPart vu hi → r x lo hi H Q →
    ∃ T id, typeLookup (.type T) "__getitem__" = pure (some (.builtin id)) ∧ s.TypeIs v T ∧ wpAny (model X.prog X.w) X.A (getItem v (.ref sl)) (EP X pins σ Q) X.xe s
theorem SlR.or {r r' : V → Option Int → Option Int → Hp → VK → Prop} (h : SlR X r) (h' : SlR X r') : SlR X (fun x lo hi H Q => r x lo hi H Q ∨ r' x lo hi H Q) := by
  intro pins s σ H x v vl vu lo hi sl Q I rx hs pl pu q
  rcases q with q | q
  · exact h pins s σ H x v vl vu lo hi sl Q I rx hs pl pu q
  · exact h' pins s σ H x v vl vu lo hi sl Q I rx hs pl pu q
def tSl (r : V → Option Int → Option Int → Hp → VK → Prop) (te : TE) (tl th : TO) : TE := fun σ H Q => te σ H fun x H1 => tl σ H1 fun l H2 => th σ H2 fun u H3 => r x l u H3 Q
theorem pe_slice {r : V → Option Int → Option Int → Hp → VK → Prop} (hr : SlR X r) (he : PE X e te) (hl : PO X lo tl) (hu : PO X hi th) : PE X (.Subscript e (.Slice lo hi none p2) pos) (tSl r te tl th) := by
  intro pins s σ H Q I h
  refine Subscript_ (thn (he pins s σ H _ I h) fun v s1 ⟨x, H1, I1, r1, q1⟩ => ?_)
  refine wpAny_Slice (thn (hl pins s1 σ H1 _ I1 q1) fun vl s2 ⟨l, H2, I2, pl, q2⟩ => thn (hu pins s2 σ H2 _ I2 q2) fun vu s3 ⟨u, H3, I3, pu, q3⟩ => ?_)
  rw [evalPart_none]
  refine wpAny_pure ?_
  have I4 : Inv X pins σ H3 { s3 with heap := s3.heap.push { cls := .type "slice", data := .fields #[vl, vu, .none] } } := I3.kept (t' := s3.toks) fun b ob q => Heap.get?_push_of_some _ q
  obtain ⟨T, id, hT, ht, hg⟩ := hr pins { s3 with heap := s3.heap.push { cls := .type "slice", data := .fields #[vl, vu, .none] } } σ H3 x v vl vu l u s3.heap.objs.size Q I4 r1 (Heap.IsSliceOf.new ..) pl pu q3
  show wpAny (model X.prog X.w) X.A (subscriptTail e (.Slice lo hi none p2) v (.ref s3.heap.objs.size)) (EP X pins σ Q) X.xe { s3 with heap := s3.heap.push { cls := .type "slice", data := .fields #[vl, vu, .none] } }
  exact tail_any (ops := [.ref s3.heap.objs.size, v]) ht hT hg (by with_unfolding_all rfl)
def cutV (xs : List V) (lo hi : Option Int) : List V := (xs.drop (HT.sIx xs.length 0 lo)).take (HT.sIx xs.length xs.length hi - HT.sIx xs.length 0 lo)
theorem cutV_length (xs : List V) (lo hi : Option Int) : (cutV xs lo hi).length ≤ xs.length := by
  unfold cutV
  rw [List.length_take, List.length_drop]
  omega
def rSlT (K : PySem.W.Frag) : V → Option Int → Option Int → Hp → VK → Prop := fun x lo hi H Q => ∃ a xs, x = .ref a ∧ SqT K H a xs ∧
  ¬ (HT.sIx xs.length 0 lo = 0 ∧ HT.sIx xs.length xs.length hi = xs.length) ∧ ∀ p, H p = none → Q (.ref p) (upd H p (.tup (cutV xs lo hi)))
theorem sl_tup : SlR X (rSlT X.K) := by
  intro pins s σ H x v vl vu lo hi sl Q I rx hs pl pu h
  obtain ⟨a, xs, rfl, hx, hw, q⟩ := h
  cases rx
  obtain ⟨its, r, ht, hz⟩ := I.tuple hx
  have hlen : its.toArray.size = xs.length := by rw [List.size_toArray]; exact r.length.symm
  refine ⟨"tuple", _, PyProof.Rows.slot_tuple_getitem.lookup, ht.typeIs, ?_⟩
  refine HT.getItem_tuple_cut ht hs pl pu (by rw [hlen]; exact hw) ?_ (by rw [hlen]; exact hz)
  rw [hlen]
  refine ⟨.ref s.heap.objs.size, _, I.laid (t' := s.toks) (o := .tup (cutV xs lo hi)) (fun b ob q => Heap.get?_push_of_some _ q) (Nat.le_refl _) ?_, rfl, q _ (I.hok.fresh (Nat.le_refl _))⟩
  exact ⟨Nat.le_trans (cutV_length xs lo hi) hz, _, (r.drop (HT.sIx xs.length 0 lo)).take (HT.sIx xs.length xs.length hi - HT.sIx xs.length 0 lo), IsTup.new _ _⟩
def rCatT (K : PySem.W.Frag) : R2 := fun x y H Q => ∃ a b xs ys, x = .ref a ∧ y = .ref b ∧ SqT K H a xs ∧ SqT K H b ys ∧ xs ≠ [] ∧ xs.length + ys.length ≤ sizeLine ∧
  (ys = [] → Q (.ref a) H) ∧ (ys ≠ [] → ∀ p, H p = none → Q (.ref p) (upd H p (.tup (xs ++ ys))))
theorem Vals.nil_iff {xs : List V} {us : List Value} (r : Vals xs us) : us = [] ↔ xs = [] := by
  cases r with
  | nil => simp
  | cons _ _ => simp
theorem op_catT : OpR X (binaryOp .Add) (rCatT X.K) := by
  intro pins s σ H x y v u Q I rx ry h
  obtain ⟨a, b, xs, ys, rfl, rfl, ha, hb, hx, hz, q1, q2⟩ := h
  cases rx
  cases ry
  obtain ⟨its, r1, p1, _⟩ := I.tuple ha
  obtain ⟨its2, r2, p2, _⟩ := I.tuple hb
  refine HT.cat_tup p1 p2 (fun z => hx (r1.nil_iff.mp z)) (fun z => ⟨.ref a, H, I, rfl, q1 (r2.nil_iff.mp z)⟩) (fun z => ?_) (by rw [← r1.length, ← r2.length]; exact hz)
  refine ⟨.ref s.heap.objs.size, _, I.laid (t' := s.toks) (o := .tup (xs ++ ys)) (fun b ob q => Heap.get?_push_of_some _ q) (Nat.le_refl _) ?_, rfl, q2 (fun w => z (r2.nil_iff.mpr w)) _ (I.hok.fresh (Nat.le_refl _))⟩
  exact ⟨by rw [List.length_append]; exact hz, _, r1.append r2, IsTup.new _ _⟩
end
end L2
namespace L2
open PySem PySem.Spec PyProof.Rows
def ixN (n : Nat) (i : Int) : Option Nat := if 0 ≤ i then (if i < n then some i.toNat else none) else if -(n : Int) ≤ i then some (i + n).toNat else none
def atI {α : Type} (xs : List α) (i : Int) : Option α := (ixN xs.length i).bind fun j => xs[j]?
theorem ixN_seq {n : Nat} {i : Int} {j : Nat} (h : ixN n i = some j) : seqIndex? i n = some j ∧ j < n ∧ -(n : Int) ≤ i ∧ i < n := by
  unfold ixN at h
  by_cases h0 : 0 ≤ i
  · rw [if_pos h0] at h
    by_cases h1 : i < n
    · rw [if_pos h1] at h
      have e : i.toNat = j := Option.some.inj h
      exact ⟨by rw [seqIndex_of h0 h1, e], by omega, by omega, h1⟩
    · rw [if_neg h1] at h; cases h
  · rw [if_neg h0] at h
    by_cases h1 : -(n : Int) ≤ i
    · rw [if_pos h1] at h
      have e : (i + n).toNat = j := Option.some.inj h
      exact ⟨by rw [seqIndex_neg (by omega) h1, e], by omega, h1, by omega⟩
    · rw [if_neg h1] at h; cases h
theorem atI_get {α : Type} {xs : List α} {i : Int} {v : α} (h : atI xs i = some v) : ∃ j, seqIndex? i xs.length = some j ∧ xs[j]? = some v ∧ j < xs.length ∧ -(xs.length : Int) ≤ i ∧ i < xs.length := by
  unfold atI at h
  cases e : ixN xs.length i with
  | none => rw [e] at h; cases h
  | some j =>
    rw [e] at h
    obtain ⟨h1, h2, h3, h4⟩ := ixN_seq e
    exact ⟨j, h1, h, h2, h3, h4⟩
def PlainIx (b : Expr) : Prop := ∀ o i, subscripted b false o i = operate [o, i] (getItem o i)
def IxR (X : Cx) (r : R2) : Prop :=
  ∀ (value slice : Expr) (pins : List (Addr × Obj)) (s : Shared) (σ : St) (H : Hp) (x y : V) (v u : Value) (Q : VK), Inv X pins σ H s → RelV x v → RelV y u → r x y H Q →
    subscripted slice false v u = operate [v, u] (getItem v u) → wpAny (model X.prog X.w) X.A (subscriptTail value slice v u) (EP X pins σ Q) X.xe s
def MtR (X : Cx) (id : String) (r : V → List V → Hp → VK → Prop) : Prop :=
  ∀ (pins : List (Addr × Obj)) (s : Shared) (σ : St) (H : Hp) (x : V) (xs : List V) (v : Value) (us : List Value) (Q : VK), Inv X pins σ H s → RelV x v → Vals xs us → r x xs H Q →
    wpAny (model X.prog X.w) X.A (call (.builtin id) (v :: us)) (EP X pins σ Q) X.xe s
section
variable {X : Cx} {a b : Expr} {ta tb : TE} {pos : Pos}
theorem IxR.or {r r' : R2} (h : IxR X r) (h' : IxR X r') : IxR X (fun x y H Q => r x y H Q ∨ r' x y H Q) := by
  intro value slice pins s σ H x y v u Q I rx ry q hs
  rcases q with q | q
  · exact h value slice pins s σ H x y v u Q I rx ry q hs
  · exact h' value slice pins s σ H x y v u Q I rx ry q hs
theorem MtR.or {id : String} {r r' : V → List V → Hp → VK → Prop} (h : MtR X id r) (h' : MtR X id r') : MtR X id (fun x xs H Q => r x xs H Q ∨ r' x xs H Q) := by
  intro pins s σ H x xs v us Q I rx rs q
  rcases q with q | q
  · exact h pins s σ H x xs v us Q I rx rs q
  · exact h' pins s σ H x xs v us Q I rx rs q
theorem pe_ix {r : R2} (hr : IxR X r) (ha : PE X a ta) (hb : PE X b tb) (hs : PlainIx b) : PE X (.Subscript a b pos) (tOp r ta tb) := by
  intro pins s σ H Q I h
  exact Subscript_ (binT ha hb I h fun v u s2 x y H2 I2 rx ry q => hr a b pins s2 σ H2 x y v u Q I2 rx ry q (hs _ _))
def rIxL (K : PySem.W.Frag) : R2 := fun x y H Q => ∃ p xs i v, x = .ref p ∧ y = .int i ∧ SqL K H p xs ∧ atI xs i = some v ∧ Q v H
def rIxT (K : PySem.W.Frag) : R2 := fun x y H Q => ∃ p xs i v, x = .ref p ∧ y = .int i ∧ SqT K H p xs ∧ atI xs i = some v ∧ Q v H
def rIxS : R2 := fun x y H Q => ∃ z i c, x = .str z ∧ y = .int i ∧ z.length ≤ sizeLine ∧ atI z.cps.toList i = some c ∧ Q (.str ⟨#[c]⟩) H
theorem ix_list : IxR X (rIxL X.K) := by
  intro value slice pins s σ H x y v u Q I rx ry h hs
  obtain ⟨p, xs, i, z, rfl, rfl, hq, he, q⟩ := h
  cases rx
  obtain ⟨t, rfl⟩ := ry
  obtain ⟨its, r, pl, hz⟩ := I.list hq
  obtain ⟨j, h1, h2, h3, h4, h5⟩ := atI_get he
  obtain ⟨w, ew, rw'⟩ := r.get h2
  have hl := r.length
  have hn := line63
  have fin : EP X pins σ Q w s := ⟨z, H, I, rw', q⟩
  by_cases h0 : 0 ≤ i
  · have hj : i.toNat = j := by
      rw [seqIndex_of h0 h5] at h1
      exact Option.some.inj h1
    exact item_listR pl.isList h0 (by omega) (by rw [hj]; simpa using ew) fin hs
  · have hj : (i + (its.toArray.size : Int)).toNat = j := by
      rw [seqIndex_neg (by omega) h4] at h1
      rw [List.size_toArray, ← hl]
      exact Option.some.inj h1
    exact subscriptTail_builtinR (x := w) pl.isList.typeIs slot_list_getitem.lookup
      (wpAny_getItem_list_neg (Q := fun r s' => r = w ∧ EP X pins σ Q r s') pl.isList (by omega) (by rw [List.size_toArray] <;> omega) (by omega) (by rw [hj]; simpa using ew) ⟨rfl, fin⟩) hs
theorem ix_tup : IxR X (rIxT X.K) := by
  intro value slice pins s σ H x y v u Q I rx ry h hs
  obtain ⟨p, xs, i, z, rfl, rfl, hq, he, q⟩ := h
  cases rx
  obtain ⟨t, rfl⟩ := ry
  obtain ⟨its, r, pl, hz⟩ := I.tuple hq
  obtain ⟨j, h1, h2, h3, h4, h5⟩ := atI_get he
  obtain ⟨w, ew, rw'⟩ := r.get h2
  have hl := r.length
  have hn := line63
  have fin : EP X pins σ Q w s := ⟨z, H, I, rw', q⟩
  exact subscriptTail_builtinR (x := w) pl.typeIs slot_tuple_getitem.lookup
    (getItem_tuple (j := j) (Q := fun r s' => r = w ∧ EP X pins σ Q r s') pl (by omega) (by omega) (by rw [List.size_toArray, ← hl]; exact h1) (by simpa using ew) ⟨rfl, fin⟩) hs
theorem ix_str : IxR X rIxS := by
  intro value slice pins s σ H x y v u Q I rx ry h hs
  obtain ⟨z, i, c, rfl, rfl, hz, he, q⟩ := h
  obtain ⟨t, rfl⟩ := rx
  obtain ⟨t', rfl⟩ := ry
  obtain ⟨j, h1, h2, h3, h4, h5⟩ := atI_get he
  have hl : z.cps.toList.length = z.length := by simp [Str.length]
  rw [hl] at h1 h4 h5
  have hn := line63
  exact tail_any (typeIs_str s z t) slot_str_getitem.lookup (getItem_str (c := c) (by
    have e1 : decide (i < -(2 ^ 63 : Int)) = false := decide_eq_false (by omega)
    have e2 : decide (i ≥ 2 ^ 63) = false := decide_eq_false (by omega)
    rw [e1, e2, Bool.or_false]) (by rw [h1]; simpa using h2) ⟨.str ⟨#[c]⟩, H, I.tok _, ⟨_, rfl⟩, q⟩) hs
def rIx (K : PySem.W.Frag) : R2 := fun x y H Q => rIxL K x y H Q ∨ rIxT K x y H Q ∨ rIxS x y H Q
theorem ix_seq : IxR X (rIx X.K) := ix_list.or (ix_tup.or ix_str)
theorem Inv.lst {pins : List (Addr × Obj)} {σ : St} {H : Hp} {s : Shared} {p : Addr} {xs : List V} (I : Inv X pins σ H s) (h : H p = some (.lst xs)) :
    ∃ (its : List Value) (n : Nat), Vals xs its ∧ s.heap.get? p = some { cls := .type "list", data := .seq its.toArray n } ∧ xs.length ≤ sizeLine := by
  obtain ⟨z, its, n, r, e⟩ := I.hok p _ h
  exact ⟨its, n, r, e, z⟩
theorem slice_bounds (lo hi : Option Int) (n : Nat) : (sliceBounds lo hi none n).1 = ((HT.sIx n 0 lo : Nat) : Int) ∧ (sliceBounds lo hi none n).2.1 = ((HT.sIx n n hi : Nat) : Int) ∧ (sliceBounds lo hi none n).2.2 = 1 := by
  refine ⟨?_, ?_, rfl⟩
  · cases lo with
    | none => simp [sliceBounds, HT.sIx]
    | some i =>
      simp only [sliceBounds, HT.sIx, Option.getD_none, show (1 : Int) > 0 by decide, if_true]
      by_cases h : i < 0
      · simp only [h, if_true] <;> omega
      · simp only [h, if_false] <;> omega
  · cases hi with
    | none => simp [sliceBounds, HT.sIx]
    | some i =>
      simp only [sliceBounds, HT.sIx, Option.getD_none, show (1 : Int) > 0 by decide, if_true]
      by_cases h : i < 0
      · simp only [h, if_true] <;> omega
      · simp only [h, if_false] <;> omega
theorem slicePick_cut (its : List Value) (lo hi : Option Int) : slicePick its.toArray lo hi none = ((its.drop (HT.sIx its.length 0 lo)).take (HT.sIx its.length its.length hi - HT.sIx its.length 0 lo)).toArray := by
  obtain ⟨h1, h2, h3⟩ := slice_bounds lo hi its.toArray.size
  unfold slicePick
  rw [h1, h2, h3]
  simp only [sliceRange_one, pick_run, List.size_toArray] <;> rfl
def rSlL (K : PySem.W.Frag) : V → Option Int → Option Int → Hp → VK → Prop := fun x lo hi H Q => ∃ a xs, x = .ref a ∧ SqL K H a xs ∧ ∀ p, H p = none → Q (.ref p) (upd H p (.lst (cutV xs lo hi)))
theorem sl_list : SlR X (rSlL X.K) := by
  intro pins s σ H x v vl vu lo hi sl Q I rx hs pl pu h
  obtain ⟨a, xs, rfl, hx, q⟩ := h
  cases rx
  obtain ⟨its, r, ht, hz⟩ := I.list hx
  have hlen := r.length
  refine ⟨"list", _, slot_list_getitem.lookup, ht.isList.typeIs, ?_⟩
  refine wpAny_getItem_list_slice ht.isList hs pl pu .none (by simp) ?_ (by rw [List.size_toArray] <;> omega)
  rw [slicePick_cut, ← hlen]
  refine ⟨.ref s.heap.objs.size, _, I.laid (t' := s.toks) (o := .lst (cutV xs lo hi)) (fun b ob q => Heap.get?_push_of_some _ q) (Nat.le_refl _) ?_, rfl, q _ (I.hok.fresh (Nat.le_refl _))⟩
  exact ⟨Nat.le_trans (cutV_length xs lo hi) hz, _, 0, (r.drop (HT.sIx xs.length 0 lo)).take (HT.sIx xs.length xs.length hi - HT.sIx xs.length 0 lo), Heap.get?_push_size _ rfl⟩
def flatV : V → Bool
  | .non => true
  | .bl _ => true
  | .int _ => true
  | .str _ => true
  | _ => false
def eqV : V → V → Bool
  | .non, .non => true
  | .bl a, .bl b => a == b
  | .bl a, .int b => (if a then 1 else 0) == b
  | .int a, .bl b => a == (if b then 1 else 0)
  | .int a, .int b => a == b
  | .str a, .str b => a == b
  | _, _ => false
theorem eqAt_V {A : Around} {s : Shared} {y x : V} {u v : Value} (ry : RelV y u) (rx : RelV x v) (fy : flatV y = true) (fx : flatV x = true) : SeqAt.EqAt A s u v (eqV y x) := by
  cases y with
  | non =>
    cases ry
    cases x with
    | non => cases rx; exact SeqAt.EqAt.same _
    | bl b => cases rx; exact SeqAt.EqAt.none_bool b
    | int b => obtain ⟨t, rfl⟩ := rx; exact SeqAt.EqAt.none_int b t
    | str b => obtain ⟨t, rfl⟩ := rx; exact SeqAt.EqAt.none_str b t
    | _ => exact absurd (show false = true from fx) Bool.false_ne_true
  | bl a =>
    cases ry
    cases x with
    | non => cases rx; exact SeqAt.EqAt.bool_none a
    | bl b => cases rx; exact SeqAt.EqAt.bool_bool a b
    | int b => obtain ⟨t, rfl⟩ := rx; exact SeqAt.EqAt.bool_int a b t
    | str b => obtain ⟨t, rfl⟩ := rx; exact SeqAt.EqAt.bool_str a b t
    | _ => exact absurd (show false = true from fx) Bool.false_ne_true
  | int a =>
    obtain ⟨t', rfl⟩ := ry
    cases x with
    | non => cases rx; exact SeqAt.EqAt.int_none a t'
    | bl b => cases rx; exact SeqAt.EqAt.int_bool a t' b
    | int b => obtain ⟨t, rfl⟩ := rx; exact SeqAt.EqAt.int_int a t' b t
    | str b => obtain ⟨t, rfl⟩ := rx; exact SeqAt.EqAt.int_str a t' b t
    | _ => exact absurd (show false = true from fx) Bool.false_ne_true
  | str a =>
    obtain ⟨t', rfl⟩ := ry
    cases x with
    | non => cases rx; exact SeqAt.EqAt.str_none a t'
    | bl b => cases rx; exact SeqAt.EqAt.str_bool a t' b
    | int b => obtain ⟨t, rfl⟩ := rx; exact SeqAt.EqAt.str_int a t' b t
    | str b => obtain ⟨t, rfl⟩ := rx; exact SeqAt.EqAt.str_str a t' b t
    | _ => exact absurd (show false = true from fx) Bool.false_ne_true
  | _ => exact absurd (show false = true from fy) Bool.false_ne_true
def eqU (x : V) (u : Value) : Bool := match u with
  | .none => eqV .non x
  | .bool b => eqV (.bl b) x
  | .int i _ => eqV (.int i) x
  | .str z _ => eqV (.str z) x
  | _ => false
theorem eqU_of {x y : V} {u : Value} (r : RelV y u) (f : flatV y = true) : eqU x u = eqV y x := by
  cases y with
  | non => cases r; rfl
  | bl b => cases r; rfl
  | int i => obtain ⟨t, rfl⟩ := r; rfl
  | str z => obtain ⟨t, rfl⟩ := r; rfl
  | _ => exact absurd (show false = true from f) Bool.false_ne_true
theorem any_eqU {x : V} : ∀ {xs : List V} {us : List Value}, Vals xs us → xs.all flatV = true → us.any (eqU x) = xs.any fun y => eqV y x
  | _, _, .nil, _ => rfl
  | y :: xs, u :: us, .cons r t, f => by
    rw [List.all_cons, Bool.and_eq_true] at f
    rw [List.any_cons, List.any_cons, eqU_of r f.1, any_eqU t f.2]
theorem mem_eqAt {A : Around} {s : Shared} {x : V} {v : Value} (rx : RelV x v) (fx : flatV x = true) : ∀ {xs : List V} {us : List Value}, Vals xs us → xs.all flatV = true → ∀ u ∈ us, SeqAt.EqAt A s u v (eqU x u)
  | _, _, .nil, _ => fun u hu => by cases hu
  | y :: xs, u :: us, .cons r t, f => fun u' hu => by
    rw [List.all_cons, Bool.and_eq_true] at f
    rcases List.mem_cons.mp hu with rfl | hu
    · rw [eqU_of r f.1]; exact eqAt_V r rx f.1 fx
    · exact mem_eqAt rx fx t f.2 u' hu
def inV (x : V) (xs : List V) : Bool := xs.any fun y => eqV y x
def rIn (K : PySem.W.Frag) (neg : Bool) : R2 := fun x y H Q => ∃ p xs, y = .ref p ∧ (SqL K H p xs ∨ SqT K H p xs) ∧ flatV x = true ∧ xs.all flatV = true ∧ Q (.bl (if neg then !inV x xs else inV x xs)) H
theorem op_in_seq : OpR X (compareOp .In) (rIn X.K false) := by
  intro pins s σ H x y v u Q I rx ry h
  obtain ⟨p, xs, rfl, hq, fx, fs, q⟩ := h
  cases ry
  rcases hq with hq | hq
  · obtain ⟨its, r, pl, hz⟩ := I.list hq
    refine SeqAt.in_listAt (eqU x) pl.isList (fun w hw => mem_eqAt rx fx r fs w (by simpa using hw)) ⟨.bl _, H, I, rfl, ?_⟩
    rw [show its.toArray.any (eqU x) = its.any (eqU x) by simp, any_eqU r fs]
    exact q
  · obtain ⟨its, r, pl, hz⟩ := I.tuple hq
    refine SeqAt.in_tupleAt (eqU x) pl (fun w hw => mem_eqAt rx fx r fs w (by simpa using hw)) ⟨.bl _, H, I, rfl, ?_⟩
    rw [show its.toArray.any (eqU x) = its.any (eqU x) by simp, any_eqU r fs]
    exact q
theorem op_notIn_seq : OpR X (compareOp .NotIn) (rIn X.K true) := by
  intro pins s σ H x y v u Q I rx ry h
  obtain ⟨p, xs, rfl, hq, fx, fs, q⟩ := h
  cases ry
  rcases hq with hq | hq
  · obtain ⟨its, r, pl, hz⟩ := I.list hq
    refine SeqAt.notIn_listAt (eqU x) pl.isList (fun w hw => mem_eqAt rx fx r fs w (by simpa using hw)) ⟨.bl _, H, I, rfl, ?_⟩
    rw [show its.toArray.any (eqU x) = its.any (eqU x) by simp, any_eqU r fs]
    exact q
  · obtain ⟨its, r, pl, hz⟩ := I.tuple hq
    refine SeqAt.notIn_tupleAt (eqU x) pl (fun w hw => mem_eqAt rx fx r fs w (by simpa using hw)) ⟨.bl _, H, I, rfl, ?_⟩
    rw [show its.toArray.any (eqU x) = its.any (eqU x) by simp, any_eqU r fs]
    exact q
theorem CallR.or {f : Value} {r r' : List V → Hp → VK → Prop} (h : CallR X f r) (h' : CallR X f r') : CallR X f (fun xs H Q => r xs H Q ∨ r' xs H Q) := by
  intro pins s σ H xs us Q I rs q
  rcases q with q | q
  · exact h pins s σ H xs us Q I rs q
  · exact h' pins s σ H xs us Q I rs q
theorem call_list_of : CallR X (.type "list") (fun xs H Q => ∃ p ys, xs = [.ref p] ∧ (SqL X.K H p ys ∨ SqT X.K H p ys) ∧ ∀ l, H l = none → Q (.ref l) (upd H l (.lst ys))) := by
  intro pins s σ H xs us Q I r h
  obtain ⟨p, ys, rfl, hq, q⟩ := h
  obtain ⟨u, rfl, rx⟩ := vals1 r
  cases rx
  have fin : ∀ (its : List Value), Vals ys its → ys.length ≤ sizeLine → ∀ (h' : Heap) (c' : Nat), (∀ b o', s.heap.get? b = some o' → h'.get? b = some o') →
      h'.get? s.heap.objs.size = some { cls := .type "list", dict := none, data := .seq its.toArray c', slots := #[] } → EP X pins σ Q (.ref s.heap.objs.size) { s with heap := h' } := fun its r' hz h' c' kp e =>
    ⟨.ref s.heap.objs.size, _, I.laid (t' := s.toks) kp (Nat.le_refl _) (show ObjOk X.prog X.w _ h' _ (.lst ys) from ⟨hz, its, c', r', e⟩), rfl, q _ (I.hok.fresh (Nat.le_refl _))⟩
  rcases hq with hq | hq
  · obtain ⟨its, r', pl, hz⟩ := I.list hq
    have hlen := r'.length
    obtain ⟨o, ho, hc, n, hd⟩ := pl.isList
    exact call_list_seq p (.inl rfl) ho hc hd (fun h' c' kp e => fin its r' hz h' c' kp e) (by simp only [List.size_toArray] <;> omega)
  · obtain ⟨its, r', pl, hz⟩ := I.tuple hq
    have hlen := r'.length
    obtain ⟨o, ho, hc, n, hd⟩ := pl
    exact call_list_seq p (.inr rfl) ho hc hd (fun h' c' kp e => fin its r' hz h' c' kp e) (by simp only [List.size_toArray] <;> omega)
theorem call_tuple_of : CallR X (.type "tuple") (fun xs H Q => ∃ p ys, xs = [.ref p] ∧ ((SqL X.K H p ys ∧ ∀ l, H l = none → Q (.ref l) (upd H l (.tup ys))) ∨ (SqT X.K H p ys ∧ Q (.ref p) H))) := by
  intro pins s σ H xs us Q I r h
  obtain ⟨p, ys, rfl, h⟩ := h
  obtain ⟨u, rfl, rx⟩ := vals1 r
  cases rx
  rcases h with ⟨hq, q⟩ | ⟨hq, q⟩
  · obtain ⟨its, r', pl, hz⟩ := I.list hq
    have hlen := r'.length
    refine call_tuple_list pl.isList (fun h' kp => ?_) (by simp only [List.size_toArray] <;> omega)
    have I1 : Inv X pins σ H { s with heap := h' } := I.kept (t' := s.toks) kp
    have I2 : Inv X pins σ (upd H h'.objs.size (.tup ys)) { s with heap := h'.push { cls := .type "tuple", data := .seq its.toArray } } :=
      I1.laid (t' := s.toks) (fun b o e => Heap.get?_push_of_some _ e) (Nat.le_refl _) (show ObjOk X.prog X.w _ _ _ (.tup ys) from ⟨hz, its, r', IsTup.new _ _⟩)
    exact ⟨.ref h'.objs.size, _, I2, rfl, q _ (I1.hok.fresh (Nat.le_refl _))⟩
  · obtain ⟨its, r', pl, hz⟩ := I.tuple hq
    exact call_tuple_same pl ⟨.ref p, H, I, rfl, q⟩
def tyV (K : PySem.W.Frag) (T : String) (x : V) (H : Hp) : Prop := match x with
  | .str _ => T = "str"
  | .int _ => T = "int"
  | .ref p => (T = "list" ∧ ∃ xs, SqL K H p xs) ∨ (T = "tuple" ∧ ∃ o, K.lookup p = some o ∧ o.cls = .type "tuple" ∧ o.dict = none) ∨
      (T = "dict" ∧ ((∃ kvs, H p = some (.dK kvs)) ∨ ∃ kvs, H p = some (.dT kvs))) ∨ (T = "set" ∧ ∃ S n, H p = some (.set S n))
  | _ => False
theorem tyV_is {pins : List (Addr × Obj)} {σ : St} {H : Hp} {s : Shared} {T : String} {x : V} {v : Value} (I : Inv X pins σ H s) (r : RelV x v) (ty : tyV X.K T x H) :
    s.TypeIs v T ∧ ∀ a, v = .ref a → ∃ ob, s.heap.get? a = some ob ∧ ob.dict = none := by
  cases x with
  | str z =>
    obtain ⟨t, rfl⟩ := r
    cases (show T = "str" from ty)
    exact ⟨typeIs_str s z t, fun _ e => nomatch e⟩
  | int i =>
    obtain ⟨t, rfl⟩ := r
    cases (show T = "int" from ty)
    exact ⟨typeIs_int s i t, fun _ e => nomatch e⟩
  | ref p =>
    cases r
    rcases ty with ⟨rfl, xs, hq⟩ | ⟨rfl, o, hk, hc, hd⟩ | ⟨rfl, hk⟩ | ⟨rfl, S, n, hk⟩
    · obtain ⟨its, _, pl, _⟩ := I.list hq
      refine ⟨pl.isList.typeIs, fun a e => ?_⟩
      cases e
      obtain ⟨o, n, e, c, hd, _⟩ := pl
      exact ⟨o, e, hd⟩
    · refine ⟨⟨o, I.kIn p o hk, hc⟩, fun a e => ?_⟩
      cases e
      exact ⟨o, I.kIn _ o hk, hd⟩
    · have z : ∃ o, s.heap.get? p = some o ∧ o.ExactDict := by
        rcases hk with ⟨kvs, hk⟩ | ⟨kvs, hk⟩
        · obtain ⟨_, _, _, _, o, _, _, e, ex, _⟩ := I.hok p _ hk
          exact ⟨o, e, ex⟩
        · obtain ⟨_, _, _, _, o, _, _, e, ex, _⟩ := I.hok p _ hk
          exact ⟨o, e, ex⟩
      obtain ⟨o, e, ex⟩ := z
      refine ⟨⟨o, e, ex.1⟩, fun a e2 => ?_⟩
      cases e2
      exact ⟨o, e, ex.2.1⟩
    · obtain ⟨o, _, _, _, e, ex, _⟩ := I.hok p _ hk
      refine ⟨⟨o, e, ex.1⟩, fun a e2 => ?_⟩
      cases e2
      exact ⟨o, e, ex.2.1⟩
  | _ => exact False.elim ty
def tBM (K : PySem.W.Frag) (T : String) (r : V → List V → Hp → VK → Prop) (to : TE) (t : TA) : TE := fun σ H Q => to σ H fun x H1 => tyV K T x H1 ∧ t σ H1 fun xs H2 => r x xs H2 Q
variable {o e : Expr} {es : List Expr} {to : TE} {t : TA} {name : Str} {apos cpos : Pos} {T id : String} {r : V → List V → Hp → VK → Prop}
theorem pe_bm (pa : PlainAttrs T) (slot : Slot T name id) (hty : typeOf (.builtin id) = pure (.type "method_descriptor")) (hm : MtR X id r) (ho : PE X o to) (ha : PA X (e :: es) t)
    (hbase : attributeBase o name X.env (eval o X.env) = eval o X.env := by rfl)
    (hfew : ((backTo cpos (starEach (e :: es) X.env)).all (fun x => !x.1) && (backToKw cpos (keywordEach [] X.env)).all (fun x => x.1.isSome)
      && decide ((e :: es).length + ([] : List Keyword).length + (if ([] : List Keyword).isEmpty then 0 else 1) < 30)) = true := by rfl)
    (hline : (apos.endLine == cpos.line) = true := by rfl) (hs : starEach (e :: es) X.env = (false, eval e X.env) :: starEach es X.env := by rfl) (hplain : (backTo cpos (starEach es X.env)).any (·.1) = false := by rfl) :
    PE X (.Call (.Attribute o name apos) (e :: es) [] cpos) (tBM X.K T r to t) := by
  intro pins s σ H Q I h
  refine wpAny_Call_method_late hbase hfew hline rfl (thn (ho pins s σ H _ I h) fun v s1 ⟨x, H1, I1, r1, ty, q1⟩ => ?_)
  obtain ⟨h1, h2⟩ := tyV_is I1 r1 ty
  refine ⟨T, id, pa, slot, hty, h1, h2, ?_⟩
  have hA := ha cpos pins s1 σ H1 _ I1 q1
  rw [hs] at hA ⊢
  refine Calls.callWith_builtin (by show (false || (backTo cpos (starEach es X.env)).any (·.1)) = false; rw [hplain] <;> rfl) (Calls.evalArgs_plain ?_)
  exact thn hA fun us s2 ⟨vs, H2, I2, r2, q2⟩ => hm pins s2 σ H2 x vs v us Q I2 r1 r2 q2
end
end L2
namespace L2
open PySem PySem.Spec PyProof.Rows
def MtM (X : Cx) (id : String) (r : V → List V → Hp → VK → Prop) : Prop :=
  ∀ (pins : List (Addr × Obj)) (s : Shared) (σ : St) (H : Hp) (x : V) (xs : List V) (v : Value) (us : List Value) (Q : VK), Inv X pins σ H s → RelV x v → Vals xs us → r x xs H Q →
    wpAny (model X.prog X.w) X.A (call (.builtin id) (v :: us)) (EP X pins σ Q) X.xe s
theorem Vals.one : ∀ {x : V} {us : List Value}, Vals [x] us → ∃ u, us = [u] ∧ RelV x u
  | _, _, .cons r .nil => ⟨_, rfl, r⟩
theorem Vals.reverse {xs : List V} {us : List Value} (h : Vals xs us) : Vals xs.reverse us.reverse := by
  induction h with
  | nil => exact .nil
  | cons r t ih => rw [List.reverse_cons, List.reverse_cons]; exact Vals.append ih (.cons r .nil)
section
variable {X : Cx} {pins : List (Addr × Obj)} {σ : St} {H : Hp} {s : Shared} {l b : Addr} {xs ys zs : List V}
theorem Inv.lset {its its' : List Value} {n : Nat} {f : Array Value → Array Value} {t' : Nat} (I : Inv X pins σ H s) (hH : H l = some (.lst xs))
    (e : s.heap.get? l = some { cls := .type "list", data := .seq its.toArray n }) (hf : f its.toArray = its'.toArray) (hv : Vals ys its') (hz : ys.length ≤ sizeLine) :
    Inv X pins σ (upd H l (.lst ys)) { s with heap := s.heap.update l (Obj.mapSeq f), toks := t' } := by
  have q := PySem.IsL.update e f
  rw [hf] at q
  refine I.write (x := l) (e := l) (by rw [hH]; exact trivial) (.inl rfl) (fun b' u hb hu => (Heap.get?_update_other s.heap (Obj.mapSeq f) (Ne.symm hb)).trans hu) ⟨_, q⟩ ?_
  exact ⟨hz, its', _, hv, q⟩
theorem Inv.lnew {its : List Value} {t' : Nat} (I : Inv X pins σ H s) (hv : Vals ys its) (hz : ys.length ≤ sizeLine) :
    Inv X pins σ (upd H s.heap.objs.size (.lst ys)) { s with heap := s.heap.push { cls := .type "list", data := .seq its.toArray }, toks := t' } :=
  I.laid (fun _ _ q => Heap.get?_push_of_some _ q) (Nat.le_refl _) ⟨hz, its, 0, hv, Heap.get?_push_size _ rfl⟩
theorem Inv.fresh (I : Inv X pins σ H s) : H s.heap.objs.size = none := I.hok.fresh (Nat.le_refl _)
theorem Inv.lstM (I : Inv X pins σ H s) (hH : H l = some (.lst xs)) : xs.length ≤ sizeLine ∧ ∃ (its : List Value) (n : Nat), Vals xs its ∧ xs.length = its.length ∧ s.heap.get? l = some { cls := .type "list", data := .seq its.toArray n } := by
  obtain ⟨z, its, n, r, e⟩ := I.hok l _ hH
  exact ⟨z, its, n, r, r.length, e⟩
end
section
variable {X : Cx}
def rAppend : V → List V → Hp → VK → Prop := fun x vs H Q => ∃ l xs y, x = .ref l ∧ vs = [y] ∧ H l = some (.lst xs) ∧ xs.length < sizeLine ∧ Q .non (upd H l (.lst (xs ++ [y])))
theorem mt_append : MtM X "list.append" rAppend := by
  intro pins s σ H x vs v us Q I rx rv h
  obtain ⟨l, xs, y, rfl, rfl, hH, hz, q⟩ := h
  cases rx
  obtain ⟨u, rfl, ru⟩ := rv.one
  obtain ⟨z, its, n, r, hl, e⟩ := I.lstM hH
  refine call_meets F.slot_list_append ⟨_, e, rfl⟩ F.entry_list_append (F.args_list_append_2 _ _) (PySem.list_append l its.toArray n u (by rw [List.size_toArray]; omega)) ⟨e, ?_⟩
  refine ⟨.non, _, I.lset (its' := its ++ [u]) hH e (by simp) (r.append (.cons ru .nil)) ?_, rfl, q⟩
  rw [List.length_append, List.length_singleton]
  omega
def rCat : R2 := fun x y H Q => ∃ l b xs zs, x = .ref l ∧ y = .ref b ∧ H l = some (.lst xs) ∧ H b = some (.lst zs) ∧ xs.length + zs.length ≤ sizeLine ∧ ∀ p, H p = none → Q (.ref p) (upd H p (.lst (xs ++ zs)))
theorem op_cat : OpR X (binaryOp .Add) rCat := by
  intro pins s σ H x y v u Q I rx ry h
  obtain ⟨l, b, xs, zs, rfl, rfl, hH, hB, hz, q⟩ := h
  cases rx
  cases ry
  obtain ⟨z, its, n, r, hl, e⟩ := I.lstM hH
  obtain ⟨z2, its2, n2, r2, hl2, e2⟩ := I.lstM hB
  refine PySem.P.add_list e e2 ?_ (by rw [List.size_toArray, List.size_toArray]; omega)
  have ea : its.toArray ++ its2.toArray = (its ++ its2).toArray := by simp
  rw [ea]
  exact ⟨.ref _, _, I.lnew (t' := s.toks) (r.append r2) (by rw [List.length_append]; omega), rfl, q _ I.fresh⟩
end
section
variable {prog : Program} {w : World} {A : Around} {E : Value → Shared → Prop} {s : Shared}
set_option maxRecDepth 100000 in
end
section
variable {X : Cx}
end
end L2
namespace L2
open PySem PySem.Spec PyProof.Rows
section
variable {κ : Type} [DecidableEq κ]
def valV (kvs : List (κ × V)) (k : κ) : Option V := (kvs.find? fun kv => decide (kv.1 = k)).map (·.2)
def putK (kvs : List (κ × V)) (k : κ) (v : V) : List (κ × V) :=
  if (kvs.any fun kv => decide (kv.1 = k)) = true then kvs.map (fun kv => if kv.1 = k then (kv.1, v) else kv) else kvs ++ [(k, v)]
def dropK (kvs : List (κ × V)) (k : κ) : List (κ × V) := kvs.filter fun kv => decide (kv.1 ≠ k)
theorem valV_pos {p : κ × V} {r : List (κ × V)} {k : κ} (e : p.1 = k) : valV (p :: r) k = some p.2 := by simp [valV, List.find?_cons, e]
theorem valV_neg {p : κ × V} {r : List (κ × V)} {k : κ} (e : ¬ p.1 = k) : valV (p :: r) k = valV r k := by simp [valV, List.find?_cons, e]
theorem valV_any (k : κ) : ∀ kvs : List (κ × V), (kvs.any fun kv => decide (kv.1 = k)) = (valV kvs k).isSome
  | [] => rfl
  | p :: r => by
    rw [List.any_cons]
    by_cases e : p.1 = k
    · simp only [valV_pos e, decide_eq_true e, Bool.true_or, Option.isSome_some]
    · rw [valV_neg e, decide_eq_false e, Bool.false_or]; exact valV_any k r
theorem valV_map (k j : κ) (y : V) : ∀ kvs : List (κ × V), valV (kvs.map fun kv => if kv.1 = k then (kv.1, y) else kv) j = (valV kvs j).map fun x => if j = k then y else x
  | [] => rfl
  | p :: r => by
    have ih := valV_map k j y r
    rw [List.map_cons]
    by_cases h : p.1 = k
    · rw [if_pos h]
      by_cases e : p.1 = j
      · rw [valV_pos (p := (p.1, y)) e, valV_pos e, Option.map_some, if_pos (e.symm.trans h)]
      · rw [valV_neg (p := (p.1, y)) e, valV_neg e, ih]
    · rw [if_neg h]
      by_cases e : p.1 = j
      · rw [valV_pos (p := p) e, valV_pos e, Option.map_some, if_neg (fun z => h (e.trans z))]
      · rw [valV_neg (p := p) e, valV_neg e, ih]
theorem valV_snoc (k j : κ) (y : V) : ∀ kvs : List (κ × V), valV kvs k = none → valV (kvs ++ [(k, y)]) j = if j = k then some y else valV kvs j
  | [], _ => by
    by_cases e : k = j
    · rw [if_pos e.symm]; exact valV_pos (p := (k, y)) e
    · rw [if_neg (fun z => e z.symm)]; exact valV_neg (p := (k, y)) e
  | p :: r, hn => by
    rw [List.cons_append]
    have hk : ¬ p.1 = k := fun z => by rw [valV_pos z] at hn; cases hn
    rw [valV_neg hk] at hn
    have ih := valV_snoc k j y r hn
    by_cases e : p.1 = j
    · rw [valV_pos e, valV_pos e, if_neg (fun z => hk (e.trans z))]
    · rw [valV_neg e, valV_neg e, ih]
theorem valV_put (kvs : List (κ × V)) (k j : κ) (y : V) : valV (putK kvs k y) j = if j = k then some y else valV kvs j := by
  unfold putK
  by_cases a : (kvs.any fun kv => decide (kv.1 = k)) = true
  · rw [if_pos a, valV_map]
    rw [valV_any] at a
    by_cases e : j = k
    · obtain ⟨x, hx⟩ := Option.isSome_iff_exists.mp a
      rw [if_pos e, e, hx, Option.map_some, if_pos rfl]
    · rw [if_neg e]
      cases valV kvs j with
      | none => rfl
      | some x => rw [Option.map_some, if_neg e]
  · rw [if_neg a]
    refine valV_snoc k j y kvs ?_
    rw [valV_any] at a
    cases q : valV kvs k with
    | none => rfl
    | some x => rw [q] at a; exact (a rfl).elim
theorem length_putK (kvs : List (κ × V)) (k : κ) (v : V) : (putK kvs k v).length ≤ kvs.length + 1 := by
  unfold putK
  split
  · rw [List.length_map]; omega
  · rw [List.length_append, List.length_cons, List.length_nil]; omega
theorem putK_new {kvs : List (κ × V)} {k : κ} (v : V) (h : valV kvs k = none) : putK kvs k v = kvs ++ [(k, v)] := by
  unfold putK
  rw [valV_any, h]
  exact if_neg (by decide)
theorem RelO.isSome_eq {o : Option V} {u : Option Value} (r : RelO o u) : o.isSome = u.isSome := by
  cases o with
  | none => cases u with
    | none => rfl
    | some _ => exact (show False from r).elim
  | some _ => cases u with
    | none => exact (show False from r).elim
    | some _ => rfl
theorem RelO.getD {o : Option V} {u : Option Value} {d : V} {d' : Value} (r : RelO o u) (rd : RelV d d') : RelV (o.getD d) (u.getD d') := by
  cases o with
  | none => cases u with
    | none => exact rd
    | some _ => exact (show False from r).elim
  | some _ => cases u with
    | none => exact (show False from r).elim
    | some _ => exact r
theorem KV.val {kvs : List (κ × V)} {vs : List (κ × Value)} (r : KV kvs vs) (k : κ) : RelO (valV kvs k) (valueAt vs k) := by
  unfold KV at r
  induction r with
  | nil => exact True.intro
  | @cons p q ps qs h t ih =>
    obtain ⟨h1, h2⟩ := h
    by_cases e : p.1 = k
    · have e' : q.1 = k := h1.symm.trans e
      have b : valueAt (q :: qs) k = some q.2 := by simp [valueAt, List.find?_cons, e']
      rw [valV_pos e, b]; exact h2
    · have e' : ¬ q.1 = k := fun z => e (h1.trans z)
      have b : valueAt (q :: qs) k = valueAt qs k := by simp [valueAt, List.find?_cons, e']
      rw [valV_neg e, b]; exact ih
theorem KV.any {kvs : List (κ × V)} {vs : List (κ × Value)} (r : KV kvs vs) (k : κ) : (kvs.any fun kv => decide (kv.1 = k)) = vs.any fun kv => decide (kv.1 = k) := by
  unfold KV at r
  induction r with
  | nil => rfl
  | cons h t ih => rw [List.any_cons, List.any_cons, ih, h.1]
theorem KV.repl {kvs : List (κ × V)} {vs : List (κ × Value)} (r : KV kvs vs) (k : κ) {y : V} {u : Value} (ry : RelV y u) :
    KV (kvs.map fun kv => if kv.1 = k then (kv.1, y) else kv) (vs.map fun kv => if kv.1 = k then (kv.1, u) else kv) := by
  unfold KV at r ⊢
  induction r with
  | nil => exact .nil
  | @cons p q ps qs h t ih =>
    rw [List.map_cons, List.map_cons]
    refine .cons ?_ ih
    obtain ⟨h1, h2⟩ := h
    by_cases e : p.1 = k
    · rw [if_pos e, if_pos (h1.symm.trans e)]; exact ⟨h1, ry⟩
    · rw [if_neg e, if_neg (fun z => e (h1.trans z))]; exact ⟨h1, h2⟩
theorem KV.put {kvs : List (κ × V)} {vs : List (κ × Value)} (r : KV kvs vs) (k : κ) {y : V} {u : Value} (ry : RelV y u) : KV (putK kvs k y) (stored vs k u) := by
  unfold putK stored
  rw [r.any k]
  by_cases e : (vs.any fun kv => decide (kv.1 = k)) = true
  · rw [if_pos e, if_pos e]; exact r.repl k ry
  · rw [if_neg e, if_neg e]; exact Paired.snoc r ⟨rfl, ry⟩
theorem KV.drop {kvs : List (κ × V)} {vs : List (κ × Value)} (r : KV kvs vs) (k : κ) : KV (dropK kvs k) (without vs k) := by
  unfold KV at r ⊢
  unfold dropK without
  induction r with
  | nil => exact .nil
  | @cons p q ps qs h t ih =>
    obtain ⟨h1, h2⟩ := h
    rw [List.filter_cons, List.filter_cons]
    by_cases e : p.1 = k
    · have a : ¬ decide (p.1 ≠ k) = true := by simp [e]
      have b : ¬ decide (q.1 ≠ k) = true := by simp [h1.symm.trans e]
      rw [if_neg a, if_neg b]; exact ih
    · have e' : ¬ q.1 = k := fun z => e (h1.trans z)
      have a : decide (p.1 ≠ k) = true := by simp [e]
      have b : decide (q.1 ≠ k) = true := by simp [e']
      rw [if_pos a, if_pos b]; exact .cons ⟨h1, h2⟩ ih
theorem KV.length {kvs : List (κ × V)} {vs : List (κ × Value)} (r : KV kvs vs) : kvs.length = vs.length := Paired.length r
end
theorem kV_is {P : Program} {w : World} {k : Key} {u : Value} (r : RelV (kV k) u) : (mixKind P w).is k u = true := by
  cases k with
  | inl i => obtain ⟨t, e⟩ := (show ∃ t, u = Value.int i t from r); subst e; exact mixKind_int P w i t
  | inr x => obtain ⟨t, e⟩ := (show ∃ t, u = Value.str x t from r); subst e; exact mixKind_str P w x t
theorem items_are {P : Program} {w : World} : ∀ {ks : List Key} {us : List Value}, Vals (ks.map kV) us → ItemsAre (mixKind P w) ks us
  | [], _, r => by rw [List.map_nil] at r; cases r; exact .nil
  | k :: ks, _, r => by
    rw [List.map_cons] at r
    cases r with
    | cons h t => exact .cons (kV_is h) (items_are t)
abbrev KT (H : Hp) : List (List Key × V) → List (List Key × Addr × Value) → Prop := Paired fun p q => p.1 = q.1 ∧ H q.2.1 = some (.tup (p.1.map kV)) ∧ RelV p.2 q.2.2
theorem KT.val {H : Hp} {kvs : List (List Key × V)} {xs : List (List Key × Addr × Value)} (r : KT H kvs xs) (k : List Key) : RelO (valV kvs k) ((atKey xs k).map (·.2)) := by
  induction r with
  | nil => exact True.intro
  | @cons p q ps qs h t ih =>
    obtain ⟨h1, _, h2⟩ := h
    by_cases e : p.1 = k
    · have e' : q.1 = k := h1.symm.trans e
      have b : atKey (q :: qs) k = some q.2 := by simp [atKey, List.find?_cons, e']
      rw [valV_pos e, b]; exact h2
    · have e' : ¬ q.1 = k := fun z => e (h1.trans z)
      have b : atKey (q :: qs) k = atKey qs k := by simp [atKey, List.find?_cons, e']
      rw [valV_neg e, b]; exact ih
theorem KT.repl {H : Hp} {kvs : List (List Key × V)} {xs : List (List Key × Addr × Value)} (r : KT H kvs xs) (k : List Key) {y : V} {u : Value} (ry : RelV y u) :
    KT H (kvs.map fun kv => if kv.1 = k then (kv.1, y) else kv) (xs.map (putAt k u)) := by
  induction r with
  | nil => exact .nil
  | @cons p q ps qs h t ih =>
    rw [List.map_cons, List.map_cons]
    refine .cons ?_ ih
    obtain ⟨h1, h2, h3⟩ := h
    unfold putAt
    by_cases e : p.1 = k
    · rw [if_pos e, if_pos (h1.symm.trans e)]; exact ⟨h1, h2, ry⟩
    · rw [if_neg e, if_neg (fun z => e (h1.trans z))]; exact ⟨h1, h2, h3⟩
theorem KT.put {H : Hp} {kvs : List (List Key × V)} {xs : List (List Key × Addr × Value)} (r : KT H kvs xs) (k : List Key) {b : Addr} {y : V} {u : Value} (hb : H b = some (.tup (k.map kV))) (ry : RelV y u) :
    KT H (putK kvs k y) (storedH xs k b u) := by
  have e : (kvs.any fun kv => decide (kv.1 = k)) = (atKey xs k).isSome := by
    rw [valV_any, (r.val k).isSome_eq, Option.isSome_map]
  unfold putK storedH
  rw [e]
  by_cases q : (atKey xs k).isSome = true
  · rw [if_pos q, if_pos q]; exact r.repl k ry
  · rw [if_neg q, if_neg q]; exact Paired.snoc r ⟨rfl, hb, ry⟩
theorem KT.keeps {H H' : Hp} {kvs : List (List Key × V)} {xs : List (List Key × Addr × Value)} (r : KT H kvs xs) (ht : ∀ b ys, H b = some (.tup ys) → H' b = some (.tup ys)) : KT H' kvs xs :=
  Paired.mapP r fun _ _ z => ⟨z.1, ht _ _ z.2.1, z.2.2⟩
section
variable {P : Program} {w : World} {H : Hp} {h : Heap} {a : Addr}
theorem rd_of {u : HO} (ok : HOk P w H h) (e : Rd H a u) : ObjOk P w H h a u := e.ok ok
theorem dk_rd {kvs : List (Key × V)} (ok : HOk P w H h) (e : Rd H a (.dK kvs)) : kvs.length ≤ sizeLine ∧ (a == sysModules) = false ∧ ∃ vs, KV kvs vs ∧ h.DictOf (mixKind P w) a vs :=
  show ObjOk P w H h a (.dK kvs) from rd_of ok e
theorem dk_of {kvs : List (Key × V)} (ok : HOk P w H h) (e : H a = some (.dK kvs)) : kvs.length ≤ sizeLine ∧ (a == sysModules) = false ∧ ∃ vs, KV kvs vs ∧ h.DictOf (mixKind P w) a vs := dk_rd ok (.inl e)
theorem key_of {ks : List Key} (ok : HOk P w H h) (e : H a = some (.tup (ks.map kV))) : (tupleKind (mixKind P w)).is h ks a := by
  obtain ⟨_, its, r, o, h1, h2, n, h3⟩ := (show ObjOk P w H h a (.tup (ks.map kV)) from ok a _ e)
  exact ⟨o, its.toArray, n, h1, h2, h3, by simpa using items_are r⟩
theorem dt_rd {kvs : List (List Key × V)} (ok : HOk P w H h) (e : Rd H a (.dT kvs)) : kvs.length ≤ sizeLine ∧ (a == sysModules) = false ∧
    ∃ xs, KT H kvs xs ∧ h.DictOfH (tupleKind (mixKind P w)) a xs := by
  obtain ⟨z, y, xs, r, o, es, ep, h1, h2, h3, h4, h5⟩ := (show ObjOk P w H h a (.dT kvs) from rd_of ok e)
  refine ⟨z, y, xs, r, o, es, ep, h1, h2, h3, h4, fun x hx => ?_, h5⟩
  have all : ∀ {l : List (List Key × V)} {m : List (List Key × Addr × Value)}, KT H l m → ∀ x ∈ m, (tupleKind (mixKind P w)).is h x.1 x.2.1 := by
    intro l m q
    induction q with
    | nil => intro x hx; exact nomatch hx
    | @cons p q ps qs hq t ih =>
      intro x hx
      rcases List.mem_cons.mp hx with e | hx
      · subst e
        exact key_of ok (by rw [← hq.1]; exact hq.2.1)
      · exact ih x hx
  exact all r x hx
theorem dt_of {kvs : List (List Key × V)} (ok : HOk P w H h) (e : H a = some (.dT kvs)) : kvs.length ≤ sizeLine ∧ (a == sysModules) = false ∧
    ∃ xs, KT H kvs xs ∧ h.DictOfH (tupleKind (mixKind P w)) a xs := dt_rd ok (.inl e)
end
def DGet (H : Hp) (a : Addr) (y : V) (r : Option V) : Prop :=
  (∃ kvs k, Rd H a (.dK kvs) ∧ y = kV k ∧ r = valV kvs k) ∨ ∃ kvs k b, Rd H a (.dT kvs) ∧ y = .ref b ∧ H b = some (.tup (k.map kV)) ∧ r = valV kvs k
def DPut (H : Hp) (a : Addr) (y v : V) (H' : Hp) : Prop :=
  (∃ kvs k, H a = some (.dK kvs) ∧ y = kV k ∧ kvs.length < sizeLine ∧ H' = upd H a (.dK (putK kvs k v))) ∨
  ∃ kvs k b, H a = some (.dT kvs) ∧ y = .ref b ∧ H b = some (.tup (k.map kV)) ∧ kvs.length < sizeLine ∧ H' = upd H a (.dT (putK kvs k v))
theorem DGet.k {H : Hp} {a : Addr} {kvs : List (Key × V)} {k : Key} (e : H a = some (.dK kvs)) : DGet H a (kV k) (valV kvs k) := .inl ⟨kvs, k, .inl e, rfl, rfl⟩
theorem DGet.t {H : Hp} {a b : Addr} {kvs : List (List Key × V)} {k : List Key} (e : H a = some (.dT kvs)) (eb : H b = some (.tup (k.map kV))) : DGet H a (.ref b) (valV kvs k) := .inr ⟨kvs, k, b, .inl e, rfl, eb, rfl⟩
theorem DPut.k {H : Hp} {a : Addr} {kvs : List (Key × V)} {k : Key} {v : V} (e : H a = some (.dK kvs)) (hl : kvs.length < sizeLine) : DPut H a (kV k) v (upd H a (.dK (putK kvs k v))) := .inl ⟨kvs, k, e, rfl, hl, rfl⟩
theorem DPut.t {H : Hp} {a b : Addr} {kvs : List (List Key × V)} {k : List Key} {v : V} (e : H a = some (.dT kvs)) (eb : H b = some (.tup (k.map kV))) (hl : kvs.length < sizeLine) :
    DPut H a (.ref b) v (upd H a (.dT (putK kvs k v))) := .inr ⟨kvs, k, b, e, rfl, eb, hl, rfl⟩
section
variable {X : Cx} {pins : List (Addr × Obj)} {σ : St} {H : Hp} {s : Shared} {a : Addr} {y v : V} {u r : Value} {o : Option V} {A : Around} {E : Value → Shared → Prop}
theorem Inv.big (I : Inv X pins σ H s) : sysModules < s.heap.objs.size := by
  have h : mainGlobals < s.heap.objs.size := (I.mod.glob.keeps I.bk).lt
  exact Nat.lt_trans (by decide) h
theorem d_getItem {Q : Value → Shared → Prop} (hu : A.units + 1 < cLine) (I : Inv X pins σ H s) (g : DGet H a y (some v)) (ry : RelV y u) (h : ∀ w' s', Inv X pins σ H s' → RelV v w' → Q w' s') :
    wpAny (model X.prog X.w) A (getItem (.ref a) u) Q E s := by
  rcases g with ⟨kvs, k, e, ey, l⟩ | ⟨kvs, k, b, e, ey, eb, l⟩
  · subst ey
    obtain ⟨z, hd, vs, rel, dd⟩ := dk_rd I.hok e
    obtain ⟨w', hw, rw'⟩ := RelO.some_of (v := v) (o := valueAt vs k) (by rw [l]; exact rel.val k)
    exact wpAny_getItem_of (kV_is ry) dd.mapOf hw (h w' _ (I.tok _) rw')
  · subst ey
    cases (show u = Value.ref b from ry)
    obtain ⟨z, hd, xs, rel, dd⟩ := dt_rd I.hok e
    obtain ⟨w', hw, rw'⟩ := RelO.some_of (v := v) (o := (atKey xs k).map (·.2)) (by rw [l]; exact rel.val k)
    obtain ⟨p, hp, hp2⟩ := Option.map_eq_some_iff.mp hw
    refine wpAny_getItem_heap (tupleKind_room_in1 hu) (key_of I.hok eb) dd hp ?_
    rw [hp2]
    exact h w' _ (I.tok _) rw'
theorem d_in {Q : Value → Shared → Prop} (hu : A.units + 1 < cLine) (I : Inv X pins σ H s) (g : DGet H a y o) (ry : RelV y u) (h : ∀ s', Inv X pins σ H s' → Q (.bool o.isSome) s') :
    wpAny (model X.prog X.w) A (compareOp .In u (.ref a)) Q E s := by
  rcases g with ⟨kvs, k, e, ey, l⟩ | ⟨kvs, k, b, e, ey, eb, l⟩
  · subst ey
    obtain ⟨z, hd, vs, rel, dd⟩ := dk_rd I.hok e
    refine wpAny_in_of (kV_is ry) hd dd.mapOf ?_
    rw [← (rel.val k).isSome_eq, ← l]
    exact h _ (I.tok _)
  · subst ey
    cases (show u = Value.ref b from ry)
    obtain ⟨z, hd, xs, rel, dd⟩ := dt_rd I.hok e
    refine wpAny_in_heap (tupleKind_room_in1 hu) (key_of I.hok eb) hd dd ?_
    have q := (rel.val k).isSome_eq
    rw [Option.isSome_map] at q
    rw [← q, ← l]
    exact h _ (I.tok _)
theorem d_notIn {Q : Value → Shared → Prop} (hu : A.units + 1 < cLine) (I : Inv X pins σ H s) (g : DGet H a y o) (ry : RelV y u) (h : ∀ s', Inv X pins σ H s' → Q (.bool (!o.isSome)) s') :
    wpAny (model X.prog X.w) A (compareOp .NotIn u (.ref a)) Q E s := by
  rcases g with ⟨kvs, k, e, ey, l⟩ | ⟨kvs, k, b, e, ey, eb, l⟩
  · subst ey
    obtain ⟨z, hd, vs, rel, dd⟩ := dk_rd I.hok e
    refine wpAny_notIn_of (kV_is ry) hd dd.mapOf ?_
    rw [← (rel.val k).isSome_eq, ← l]
    exact h _ (I.tok _)
  · subst ey
    cases (show u = Value.ref b from ry)
    obtain ⟨z, hd, xs, rel, dd⟩ := dt_rd I.hok e
    refine wpAny_notIn_heap (tupleKind_room_in1 hu) (key_of I.hok eb) hd dd ?_
    have q := (rel.val k).isSome_eq
    rw [Option.isSome_map] at q
    rw [← q, ← l]
    exact h _ (I.tok _)
theorem d_write {h' : Heap} {t' : Nat} {ob : HO} (I : Inv X pins σ H s) (mu : Mut (H a)) (hs : Heap.SameBut a s.heap h') (he : ∃ q, h'.get? a = some q) (new : ObjOk X.prog X.w (upd H a ob) h' a ob) :
    Inv X pins σ (upd H a ob) { s with heap := h', toks := t' } :=
  I.write (x := a) (e := a) mu (.inl rfl) (fun b q hb z => (hs.2 b hb).trans z) he new
theorem dk_new {P : Program} {w : World} {H' : Hp} {h' : Heap} {kvs : List (Key × V)} {vs : List (Key × Value)} (z : kvs.length ≤ sizeLine) (hd : (a == sysModules) = false) (rel : KV kvs vs) (dd : h'.DictOf (mixKind P w) a vs) :
    ObjOk P w H' h' a (.dK kvs) := ⟨z, hd, vs, rel, dd⟩
theorem d_setItem {H' : Hp} {Q : Unit → Shared → Prop} (hu : A.units + 1 < cLine) (I : Inv X pins σ H s) (g : DPut H a y v H') (ry : RelV y u) (rv : RelV v r) (h : ∀ s', Inv X pins σ H' s' → Q () s') :
    wpAny (model X.prog X.w) A (setItem (.ref a) u r) Q E s := by
  rcases g with ⟨kvs, k, e, ey, l, eH⟩ | ⟨kvs, k, b, e, ey, eb, l, eH⟩
  · subst ey eH
    obtain ⟨z, hd, vs, rel, dd⟩ := dk_of I.hok e
    have hz : vs.length ≤ sizeLine := by rw [← rel.length]; exact z
    have hl : (putK kvs k v).length ≤ sizeLine := by have := length_putK kvs k v; omega
    refine wpAny_setItem_pairs (hsz := hz) (kV_is ry) dd fun h' dd' hs => h _ ?_
    have he : ∃ q, h'.get? a = some q := let ⟨q, _, _, hq, _⟩ := dd'; ⟨q, hq⟩
    exact d_write I (by rw [e]; exact True.intro) hs he (dk_new hl hd (rel.put k rv) dd')
  · subst ey eH
    cases (show u = Value.ref b from ry)
    obtain ⟨z, hd, xs, rel, dd⟩ := dt_of I.hok e
    have hz : xs.length ≤ sizeLine := by rw [← Paired.length rel]; exact z
    have hl : (putK kvs k v).length ≤ sizeLine := by have := length_putK kvs k v; omega
    refine wpAny_setItem_heap (hsz := hz) (tupleKind_room_in1 hu) (key_of I.hok eb) dd fun h' dd' hs => h _ ?_
    obtain ⟨q, es, ep, hq, h2, h3, h4, _, h5⟩ := dd'
    refine d_write I (by rw [e]; exact True.intro) hs ⟨q, hq⟩ ⟨hl, hd, _, (rel.put k eb rv).keeps fun c ys ec => ?_, q, es, ep, hq, h2, h3, h4, h5⟩
    rw [upd_ne (ne_of ec e (fun z => nomatch z))]
    exact ec
end
section
variable {X : Cx} {pins : List (Addr × Obj)} {σ : St} {H : Hp} {s : Shared} {a : Addr} {kvs : List (Key × V)} {k : Key} {u : Value} {A : Around} {E : Value → Shared → Prop}
theorem d_len {Q : Value → Shared → Prop} (I : Inv X pins σ H s) (e : Rd H a (.dK kvs)) (h : ∀ t s', Inv X pins σ H s' → Q (.int kvs.length t) s') : wpAny (model X.prog X.w) A (call (.builtin "len") [.ref a]) Q E s := by
  obtain ⟨z, hd, vs, rel, dd⟩ := dk_rd I.hok e
  refine call_len_dict hd dd (by rw [← rel.length]; rw [sizeLine_eq] at z; omega) ?_
  rw [← rel.length]
  exact h _ _ (I.tok _)
end
def NoSl (i : Expr) : Prop := ∀ ov iv, subscripted i false ov iv = operate [ov, iv] (getItem ov iv)
theorem subD_of {prog : Program} {w : World} {A : Around} {E : Value → Shared → Prop} {s : Shared} {env : Env} {value slice : Expr} {pos : Pos} {T id : String} {Q : Value → Shared → Prop}
    (hl : typeLookup (.type T) "__getitem__" = pure (some (.builtin id))) (hs : NoSl slice)
    (h : wpAny (model prog w) A (eval value env) (fun o s₁ => wpAny (model prog w) A (eval slice env) (fun i s₂ => s₂.TypeIs o T ∧ wpAny (model prog w) A (getItem o i) Q E s₂) E s₁) E s) :
    wpAny (model prog w) A (eval (.Subscript value slice pos) env) Q E s := by
  refine Subscript_ (wpAny_mono h (fun o s₁ h₁ => wpAny_mono h₁ (fun i s₂ h₂ => ?_) fun _ _ x => x) fun _ _ x => x)
  obtain ⟨hT, h₂⟩ := h₂
  unfold subscriptTail
  refine wpAny_bind ?_
  rw [getitemInPython_of_ne hT.not_modules]
  refine wpAny_bind (wpAny_specialOf hT hl ?_)
  have fin : wpAny (model prog w) A (subscripted slice false o i) (fun r s₃ => wpAny (model prog w) A (letTemporaryGo value o r >>= fun _ => pure r) Q E s₃) E s₂ := by
    rw [hs o i]
    exact wpAny_operating (wpAny_mono h₂ (fun r s₃ h₃ => wpAny_bind (wpAny_letTemporaryGo (wpAny_pure h₃))) fun _ _ x => x)
  first
    | exact wpAny_pure (wpAny_bind fin)
    | exact wpAny_bind (wpAny_pure (wpAny_bind fin))
    | exact wpAny_bind fin
theorem dict_typeIs {X : Cx} {pins : List (Addr × Obj)} {σ : St} {H : Hp} {s : Shared} {a : Addr} {y : V} {o : Option V} (I : Inv X pins σ H s) (g : DGet H a y o) : s.TypeIs (.ref a) "dict" := by
  rcases g with ⟨kvs, k, e, _, _⟩ | ⟨kvs, k, b, e, _, _, _⟩
  · obtain ⟨_, _, vs, _, dd⟩ := dk_rd I.hok e
    exact dd.typeIs
  · obtain ⟨_, _, xs, _, dd⟩ := dt_rd I.hok e
    exact dd.typeIs
def tDGet (td ty : TE) : TE := fun σ H Q => td σ H fun x H1 => ty σ H1 fun y H2 => ∃ a v, x = .ref a ∧ DGet H2 a y (some v) ∧ Q v H2
def tDIn (ty td : TE) : TE := fun σ H Q => ty σ H fun y H1 => td σ H1 fun x H2 => ∃ a o, x = .ref a ∧ DGet H2 a y o ∧ Q (.bl o.isSome) H2
def tDNotIn (ty td : TE) : TE := fun σ H Q => ty σ H fun y H1 => td σ H1 fun x H2 => ∃ a o, x = .ref a ∧ DGet H2 a y o ∧ Q (.bl (!o.isSome)) H2
def sDPut (td ty tv : TE) : TS := fun D σ H => tv σ H fun v H1 => td σ H1 fun x H2 => ty σ H2 fun y H3 => ∃ a H4, x = .ref a ∧ DPut H3 a y v H4 ∧ D.nx σ H4
section
variable {X : Cx} {o i e value : Expr} {pos pos' tpos : Pos} {td ty tv : TE}
theorem pe_dget (hu : X.A.units + 1 < cLine) (ho : PE X o td) (hi : PE X i ty) (hs : NoSl i) : PE X (.Subscript o i pos) (tDGet td ty) := by
  intro pins s σ H Q I h
  refine subD_of PySem.F.slot_dict_getitem.lookup hs (thn (ho pins s σ H _ I h) fun u s1 ⟨x, H1, I1, rx, q1⟩ => thn (hi pins s1 σ H1 _ I1 q1) fun iv s2 ⟨y, H2, I2, ry, a, v, ex, g, q2⟩ => ?_)
  subst ex
  obtain rfl : u = Value.ref a := rx
  exact ⟨dict_typeIs I2 g, d_getItem hu I2 g ry fun w' s3 I3 rw' => ⟨v, H2, I3, rw', q2⟩⟩
theorem pc_din (hu : X.A.units + 1 < cLine) (hi : PE X i ty) (ho : PE X o td) : PC X .In i o (tDIn ty td) := by
  intro pins s σ H Q I h
  refine thn (hi pins s σ H _ I h) fun iv s1 ⟨y, H1, I1, ry, q1⟩ => thn (ho pins s1 σ H1 _ I1 q1) fun u s2 ⟨x, H2, I2, rx, a, ov, ex, g, q2⟩ => ?_
  subst ex
  obtain rfl : u = Value.ref a := rx
  exact d_in hu I2 g ry fun s3 I3 => ⟨.bl ov.isSome, H2, I3, rfl, q2⟩
theorem pc_dnotin (hu : X.A.units + 1 < cLine) (hi : PE X i ty) (ho : PE X o td) : PC X .NotIn i o (tDNotIn ty td) := by
  intro pins s σ H Q I h
  refine thn (hi pins s σ H _ I h) fun iv s1 ⟨y, H1, I1, ry, q1⟩ => thn (ho pins s1 σ H1 _ I1 q1) fun u s2 ⟨x, H2, I2, rx, a, ov, ex, g, q2⟩ => ?_
  subst ex
  obtain rfl : u = Value.ref a := rx
  exact d_notIn hu I2 g ry fun s3 I3 => ⟨.bl (!ov.isSome), H2, I3, rfl, q2⟩
theorem ps_dput (hu : X.A.units + 1 < cLine) (ho : PE X o td) (hi : PE X i ty) (hv : PE X value tv) (hs : swapsWith value (some (.Subscript o i pos')) pos.line X.env = pure false) :
    PS X (.Assign [.Subscript o i pos'] value pos) (sDPut td ty tv) := by
  intro pins s σ H D I h
  refine wpAny_Assign_Subscript (thn (hv pins s σ H _ I h) fun r s1 ⟨v, H1, I1, rv, q1⟩ => thn (ho pins s1 σ H1 _ I1 q1) fun u s2 ⟨x, H2, I2, rx, q2⟩ => thn (hi pins s2 σ H2 _ I2 q2) fun iv s3 ⟨y, H3, I3, ry, a, H4, ex, g, q3⟩ => ?_) hs
  subst ex
  obtain rfl : u = Value.ref a := rx
  exact d_setItem hu I3 g ry rv fun s4 I4 => ⟨σ, H4, I4, q3⟩
end
theorem dk_empty {P : Program} {w : World} {H : Hp} (h : Heap) (hb : sysModules < h.objs.size) : ObjOk P w H (h.push { cls := .type "dict", data := .dict #[] }) h.objs.size (.dK []) :=
  ⟨Nat.zero_le _, beq_eq_false_iff_ne.mpr (Ne.symm (Nat.ne_of_lt hb)), [], .nil, Heap.DictOf.new h⟩
theorem dt_empty {P : Program} {w : World} {H : Hp} (h : Heap) (hb : sysModules < h.objs.size) : ObjOk P w H (h.push { cls := .type "dict", data := .dict #[] }) h.objs.size (.dT []) :=
  ⟨Nat.zero_le _, beq_eq_false_iff_ne.mpr (Ne.symm (Nat.ne_of_lt hb)), [], .nil, _, #[], 0, Heap.get?_push_size _ rfl, ⟨rfl, rfl, rfl⟩, rfl, rfl, List.nodup_nil⟩
def tDNewK : TE := fun _ H Q => ∀ p, H p = none → Q (.ref p) (upd H p (.dK []))
def tDNewT : TE := fun _ H Q => ∀ p, H p = none → Q (.ref p) (upd H p (.dT []))
section
variable {X : Cx} {pos : Pos}
theorem pe_dnewK : PE X (.Dict [] [] pos) tDNewK := fun pins s σ H Q I h =>
  wpAny_Dict_empty ⟨.ref s.heap.objs.size, _, I.laid (a := s.heap.objs.size) (o := .dK []) (t' := s.toks) (fun _ _ q => Heap.get?_push_of_some _ q) (Nat.le_refl _) (dk_empty s.heap I.big), rfl, h _ (I.hok.fresh (Nat.le_refl _))⟩
theorem pe_dnewT : PE X (.Dict [] [] pos) tDNewT := fun pins s σ H Q I h =>
  wpAny_Dict_empty ⟨.ref s.heap.objs.size, _, I.laid (a := s.heap.objs.size) (o := .dT []) (t' := s.toks) (fun _ _ q => Heap.get?_push_of_some _ q) (Nat.le_refl _) (dt_empty s.heap I.big), rfl, h _ (I.hok.fresh (Nat.le_refl _))⟩
end
structure M2 (X : Cx) (o : Expr) (m : Str) (apos : Pos) (e f : Expr) (cpos : Pos) : Prop where
  base : attributeBase o m X.env (eval o X.env) = eval o X.env
  few : ((backTo cpos (starEach [e, f] X.env)).all (fun x => !x.1) && (backToKw cpos (keywordEach [] X.env)).all (fun x => x.1.isSome)
    && decide (([e, f] : List Expr).length + ([] : List Keyword).length + (if ([] : List Keyword).isEmpty then 0 else 1) < 30)) = true
  line : (apos.endLine == cpos.line) = true
  trees : backTo cpos (starEach [e, f] X.env) = [(false, eval e X.env), (false, eval f X.env)]
def IsD (H : Hp) (a : Addr) : Prop := (∃ kvs, Rd H a (.dK kvs)) ∨ ∃ kvs, Rd H a (.dT kvs)
theorem isD_at {X : Cx} {pins : List (Addr × Obj)} {σ : St} {H : Hp} {s : Shared} {a : Addr} (I : Inv X pins σ H s) (d : IsD H a) :
    s.TypeIs (.ref a) "dict" ∧ (∀ b, Value.ref a = .ref b → ∃ ob, s.heap.get? b = some ob ∧ ob.dict = none) ∧ (a == sysModules) = false := by
  rcases d with ⟨kvs, e⟩ | ⟨kvs, e⟩
  · obtain ⟨_, hd, vs, _, dd⟩ := dk_rd I.hok e
    refine ⟨dd.typeIs, fun b q => ?_, hd⟩
    cases q
    obtain ⟨ob, _, _, h1, h2, _⟩ := dd
    exact ⟨ob, h1, h2.2.1⟩
  · obtain ⟨_, hd, xs, _, dd⟩ := dt_rd I.hok e
    refine ⟨dd.typeIs, fun b q => ?_, hd⟩
    cases q
    obtain ⟨ob, _, _, h1, h2, _⟩ := dd
    exact ⟨ob, h1, h2.2.1⟩
section
variable {X : Cx} {pins : List (Addr × Obj)} {σ : St} {H : Hp} {s : Shared} {a : Addr} {y d : V} {u r : Value} {o : Option V} {A : Around} {E : Value → Shared → Prop}
end
section
variable {X : Cx} {o e f : Expr} {apos cpos : Pos} {td ty tx : TE}
end
section
variable {X : Cx} {pins : List (Addr × Obj)} {σ : St} {H : Hp} {s : Shared} {a : Addr} {kvs : List (Key × V)} {A : Around} {E : Value → Shared → Prop}
end
section
variable {X : Cx} {pins : List (Addr × Obj)} {σ : St} {H : Hp} {s : Shared} {a : Addr} {y : V} {u : Value} {A : Around} {E : Value → Shared → Prop}
end
end L2
namespace Att
open PySem PySem.W PySem.Calls PyProof.Rows
theorem ints_of_wellAll {P : Params} {h : Heap} : ∀ (ns : List Int) (vs : List Value), WellAll P h vs (ns.map WData.int) → IntsAre vs ns := by
  intro ns
  induction ns with
  | nil =>
    intro vs w
    rw [List.map_nil] at w
    cases w
    exact .nil
  | cons n ns ih =>
    intro vs w
    rw [List.map_cons] at w
    cases w with
    | cons a b =>
      cases a
      exact .cons _ _ (ih _ b)
theorem script_of {l : OpenLaw} {n : Nat} (hn : l.most = some n) {P : Params} {h : Heap} {args : List WData} {vals : List Value}
    (hpre : l.row.toRowW.claim.pre args = true) (hwl : WellAll P h vals args) :
    ∃ a vs ns, vals = [Value.ref a] ∧ args = [WData.list (ns.map WData.int)] ∧ h.get? a = some { cls := .type "list", data := .seq vs.toArray } ∧ IntsAre vs ns ∧ ns.length ≤ n := by
  have hsh : WShape.hasAll [] args [.list .int] = true := (pre_splitW hpre).1
  have hc : l.pre.holds [] { args := args } = true := (pre_splitW hpre).2
  obtain ⟨d, r, rfl, h1, h2⟩ := hasAllW_cons hsh
  obtain rfl := hasAllW_nil h2
  obtain ⟨xs, rfl, h3⟩ := hasW_list h1
  obtain ⟨ns, rfl⟩ := items_int h3
  have hlen : ns.length ≤ n := by
    unfold OpenLaw.pre at hc
    have h4 : (WTm.not (.lt (.lit (.int (n : Int))) (.len (.arg 0)))).holds [] { args := [.list (ns.map .int)] } = true := by
      have h4 := (holds_andW hc).1
      rw [hn] at h4
      exact h4
    have h5 := condW_of h4 (w_not (w_lt w_lit (w_len_list (w_arg rfl))))
    rw [List.length_map] at h5
    refine Nat.le_of_not_lt fun q => ?_
    have q' : (n : Int) < ((ns.length : Nat) : Int) := by omega
    first
      | (rw [decide_eq_true q'] at h5; exact absurd h5 (by decide))
      | (simp at h5; omega)
  cases hwl with
  | cons w1 w2 =>
    cases w2
    cases w1 with
    | list ho hall => exact ⟨_, _, ns, rfl, rfl, ho, ints_of_wellAll ns _ hall, hlen⟩
theorem post_true (l : OpenLaw) (args : List WData) : l.row.toRowW.claim.post args (.bool true) args = true :=
  postW_of (r := l.row.toRowW) (X := (true == true))
    (show WShape.has [] (.bool true) .bool = true by first | rfl | decide | simp [WShape.has, WShape.arms, WShape.armsAll])
    (show (WTm.eq .res (.lit (.bool true))).value [] { args := args, res := some (.bool true), after := args } = some (.bool (true == true)) from w_eq_bool (w_res rfl) w_lit) rfl
theorem attach_call {l : OpenLaw} {n : Nat} {q : Program} {loose : List Str} {XP : (Str → Option Value) → Heap → Prop} {YP : World → Heap → Prop} {d : DefRec}
    (hn : l.most = some n) (hdf : d.params.defaults = [])
    (call : ∀ (w : World) (s₀ s₁ : Shared) (mg mb : Str → Option Value) (fa : Addr) (o : Obj) (pm cd doc : Value) (a : Addr) (vs : List Value) (ns : List Int),
      Ground q loose [] XP w s₀ mg mb s₁.heap → YP w s₁.heap →
      s₁.heap.get? fa = some o → o.data = .func (docDef d.name d.params d.body d.scope pm cd doc) → s₁.heap.CodeRec cd d.name → mg d.name = some (.ref fa) →
      s₁.heap.get? a = some { cls := .type "list", data := .seq vs.toArray } → IntsAre vs ns → ns.length ≤ n → s₁.gens = #[] →
      codeAny (model l.prog w) callerA (.call (.ref fa) ⟨[.ref a], []⟩) (fun r s' => r = .ok (.ret (.bool true)) ∧ OldK s₁.heap s'.heap ∧ s'.os = s₁.os ∧ AllBare s'.gens) s₁) :
    WalkO q loose XP YP l.row.toRowW d [] (fun f vs => PySem.call f vs) := by
  intro w s₀ s₁ mg mb G Y fa o pm cd doc dV kV ho hd hcd hD hmg hg args vals as hpre hlay hrd hwl hlo
  obtain rfl : dV = .none := Dflts.none hD hdf
  obtain rfl : kV = .none := Dflts.noKw hD
  obtain ⟨a, vs, ns, rfl, rfl, hobj, hints, hlen⟩ := script_of hn hpre hwl
  refine enter_call (codeAny_mono (call w s₀ s₁ mg mb fa o pm cd doc a vs ns G Y ho (fd_plain hd) hcd hmg hobj hints hlen hg) fun r s' hq => ?_)
  obtain ⟨rfl, h2, h3, h4⟩ := hq
  exact ⟨.inl ⟨.bool true, .bool true, [], rfl, fun _ => rfl, .bool true, post_true l _, fun _ => ⟨List.Pairwise.nil, fun _ hm => (nomatch hm)⟩⟩, h2, h3, h4⟩
section
variable {prog : Program} {w : World} {A : Around} {E : Value → Shared → Prop} {s : Shared} {K : Frag}
end
end Att
namespace L2
open PySem PySem.Spec PyProof.Rows
theorem vals_ints : ∀ {vs : List Value} {ns : List Int}, IntsAre vs ns → Vals (ns.map V.int) vs
  | _, _, .nil => .nil
  | _, _, .cons n t h => .cons ⟨t, rfl⟩ (vals_ints h)
end L2
namespace L2
open PySem PySem.Spec PyProof.Rows
abbrev KOf {K : PySem.W.Frag} {h : Heap} (_ : K.In h) : PySem.W.Frag := K
end L2
namespace L2
open PySem PySem.Spec PyProof.Rows
def inClass (s : Stmt) (j : Nat) : Stmt := match s with
  | .ClassDef _ _ _ body _ _ _ _ _ _ _ => body.getD j (.Pass ⟨0, 0, 0, 0⟩)
  | _ => .Pass ⟨0, 0, 0, 0⟩
def defArgs (s : Stmt) : Arguments := match s with
  | .FunctionDef _ a _ _ _ _ _ _ _ _ => a
  | _ => { posonlyargs := [], args := [], vararg := none, kwonlyargs := [], kw_defaults := [], kwarg := none, defaults := [] }
def defBody (s : Stmt) : List Stmt := match s with
  | .FunctionDef _ _ b _ _ _ _ _ _ _ => b
  | _ => []
def defScope (s : Stmt) : Scope := match s with
  | .FunctionDef _ _ _ _ _ _ sc _ _ _ => sc
  | _ => { kind := .function, names := [], isGenerator := false, isCoroutine := false }
abbrev CX0 : CXT := fun _ _ _ _ _ _ => False
abbrev E0 : XK := fun _ _ _ => False
theorem pass0 {X : Cx} : Passes CX0 X E0 := fun _ _ _ _ _ _ _ h => h.elim
structure Fun (K : PySem.W.Frag) (x qual : Str) (st : Stmt) (f : Addr) (fd : FuncData) : Prop where
  ex : ∃ (oc : Value) (od : Option Addr) (kV doc pm : Value) (an : Option Addr) (cdv ct : Value) (osl : Array (Option Value)),
    fd = PySem.W.fnOf x qual (defArgs st) (defBody st) (defScope st) .none kV doc pm an cdv ct ∧ K.lookup f = some ⟨oc, od, .func fd, osl⟩ ∧ PySem.W.codeIn K cdv qual = true
  kp : PySem.W.keepIn K (.ref f) = true
section
variable {P : Program} {w : World} {K : PySem.W.Frag} {mg : Str → Option Value} {base : Heap}
theorem Fun.ok {x qual : Str} {st : Stmt} {f : Addr} {fd : FuncData} {N ps : List Str} {k : Nat} {sp : Sp} (F : Fun K x qual st f fd) (S : FnScope N ps (defScope st)) (len : ∀ vs H Q E, sp vs H Q E → vs.length = ps.length)
    (hbody : ∀ (cdv : Value) (A : Around) (outer : List Env) (s : Shared) (H : Hp) (vs : List V) (Q : VK) (E : XK), Room k (A.deeper (envOfC qual (defScope st) s.heap.objs.size f cdv)) → sp vs H Q E →
      ∃ t, PSs (cxOf CX0 P w K mg base N qual (defScope st) f cdv A outer s H E).nox (defBody st) t ∧ t { nx := fun _ H' => Q .non H', rt := Q } (start N vs) H) : FnOk P w K mg base CX0 (k + 1) f fd ps sp := by
  obtain ⟨oc, od, kV, doc, pm, an, cdv, ct, osl, rfl, lk, hcd⟩ := F.ex
  refine fn_of lk hcd S len fun A outer s H vs Q E hr hsp => ?_
  obtain ⟨t, h, q⟩ := hbody cdv A outer s H vs Q E hr hsp
  exact ⟨t, h.nox, q⟩
theorem Fun.binds {x qual : Str} {st : Stmt} {f : Addr} {fd : FuncData} {ps : List Str} (F : Fun K x qual st f fd)
    (h : ∀ (kV doc pm : Value) (an : Option Addr) (cdv ct : Value) (us : List Value), us.length = ps.length → bindArgs (PySem.W.fnOf x qual (defArgs st) (defBody st) (defScope st) .none kV doc pm an cdv ct) ⟨us, []⟩ = pure (ps.zip us)) : Binds K fd ps [] := by
  obtain ⟨oc, od, kV, doc, pm, an, cdv, ct, osl, rfl, lk, hcd⟩ := F.ex
  exact .all (h kV doc pm an cdv ct)
theorem fun_mk {x qual : Str} {st : Stmt} {f : Addr} {oc : Value} {od an : Option Addr} {osl : Array (Option Value)} {kV doc pm cdv ct : Value} (l : K.lookup f = some ⟨oc, od, .func (PySem.W.fnOf x qual (defArgs st) (defBody st) (defScope st) .none kV doc pm an cdv ct), osl⟩)
    (c : PySem.W.codeIn K cdv qual = true) (k : PySem.W.keepIn K (.ref f) = true) : Fun K x qual st f (PySem.W.fnOf x qual (defArgs st) (defBody st) (defScope st) .none kV doc pm an cdv ct) := ⟨⟨oc, od, kV, doc, pm, an, cdv, ct, osl, rfl, l, c⟩, k⟩
end
theorem hu_of {A : Around} {k : Nat} (hr : Room k A) : A.units + 1 < cLine := Nat.lt_of_le_of_lt (Nat.add_le_add_left (by decide : 1 ≤ 64) _) hr.units
section
variable {X : Cx}
theorem pv (i : Nat) {x : Str} {pos : Pos} (hN : X.N[i]? = some x := by rfl) (hv : Vis X.env.scope x := by first | exact Or.inl rfl | exact Or.inr (Or.inl rfl) | exact Or.inr (Or.inr rfl)) (hd : (x == ("__debug__" : Str)) = false := by decide)
    (hcd : (x == ("__classdict__" : Str)) = false := by decide) : PE X (.Name x pos) (tVar i) := pe_var hN hv hd hcd
end
theorem ite2 {c A B : Prop} [Decidable c] (h1 : c → A) (h2 : ¬ c → B) : if c then A else B := by
  by_cases h : c
  · rw [if_pos h]
    exact h1 h
  · rw [if_neg h]
    exact h2 h
def Same (H H' : Hp) : Prop := ∀ b o, H b = some o → H' b = some o
theorem Same.refl (H : Hp) : Same H H := fun _ _ h => h
theorem Same.trans {H H1 H2 : Hp} (a : Same H H1) (b : Same H1 H2) : Same H H2 := fun c o h => b c o (a c o h)
theorem Same.free {H H' : Hp} (e : Same H H') {l : Addr} (h : H' l = Option.none) : H l = Option.none := by
  cases q : H l with
  | none => rfl
  | some o =>
    rw [e l o q] at h
    cases h
theorem Same.seq {K : PySem.W.Frag} {H H' : Hp} {a : Addr} {xs : List V} (e : Same H H') (h : SqL K H a xs) : SqL K H' a xs := by
  rcases h with (h | ⟨o, h⟩) | h
  · exact .inl (.inl (e _ _ h))
  · exact .inl (.inr ⟨o, e _ _ h⟩)
  · exact .inr h
section
variable {X : Cx}
theorem call_lenD : CallR X (.builtin "len") (fun xs H Q => ∃ a kvs, xs = [V.ref a] ∧ H a = some (.dK kvs) ∧ Q (.int kvs.length) H) := by
  intro pins s σ H xs us Q I r h
  obtain ⟨a, kvs, rfl, ha, q⟩ := h
  obtain ⟨u, rfl, ru⟩ := vals1 r
  cases ru
  exact d_len I (.inl ha) fun t s' I' => ⟨.int kvs.length, H, I', ⟨t, rfl⟩, q⟩
end
section
variable {κ : Type} [DecidableEq κ]
end
end L2
namespace Tx
open PySem PySem.Builtin PySem.Builtin.Str PySem.StrLaws PyProof.Rows
abbrev mk (l : List Nat) : Str := ⟨l.toArray⟩
theorem mk_len (l : List Nat) : (mk l).length = l.length := by show l.toArray.size = _; simp
theorem mk_app (a b : List Nat) : mk a ++ mk b = mk (a ++ b) := by
  show (⟨a.toArray ++ b.toArray⟩ : Str) = _
  simp
end Tx
namespace L2
open PySem PySem.Spec PyProof.Rows
abbrev NoE : Value → Shared → Prop := fun _ _ => False
section
variable {prog : Program} {w : World} {A : Around} {R : Result → Shared → Prop} {s : Shared}
theorem compLoop_any {elt target iter : Expr} {ifs : List Expr} {scope : Scope} {pos : Pos} {it acc : Value} {env : Env} (I : Nat → Shared → Prop)
    (turn : ∀ n s, I n s → wpAny (model prog w) A (pyNext it) (fun r s₁ => match r with
      | none => R (.ok .next) s₁
      | some v => wpAny (model prog w) A (letOwnedTupleGo target it v) (fun _ s₂ => wpAny (model prog w) A (assign target env v) (fun _ s₃ =>
          wpAny (model prog w) A (forIn ifs true fun c r => if r = true then do let ok ← isTrue c env (eval c env); pure (ForInStep.yield ok) else pure (ForInStep.yield r)) (fun ok s₄ =>
            if ok = true then wpAny (model prog w) A (eval elt env) (fun x s₅ => wpAny (model prog w) A (call (.builtin "list.append") [acc, x]) (fun _ s₆ => ∃ m, m < n ∧ I m s₆) NoE s₅) NoE s₄
            else ∃ m, m < n ∧ I m s₄) NoE s₃) NoE s₂) NoE s₁) NoE s)
    (n : Nat) (h : I n s) : codeAny (model prog w) A (.compLoop (.ListComp elt [⟨target, iter, ifs, 0⟩] scope pos) 0 it acc env) R s := by
  refine codeAny_loop rfl I (fun n s hI => ?_) n h
  show wpAny _ A ((compTurn (.ListComp elt [⟨target, iter, ifs, 0⟩] scope pos) 0 it acc env).onRaise (fun x => do noteFrame x env; theTreesLotGoes x)) _ _ s
  refine wpAny_noted ?_
  rw [compTurn_list]
  refine wpAny_noRaise ?_
  refine wpAny_bind (wpAny_standAt (wpAny_bind (wpAny_mono (turn n s hI) (fun r s₁ h₁ => ?_) fun _ _ h' => h')))
  cases r with
  | none => exact wpAny_pure h₁
  | some v =>
    refine wpAny_bind (wpAny_mono h₁ (fun _ s₂ h₂ => wpAny_bind (wpAny_mono h₂ (fun _ s₃ h₃ => wpAny_bind (wpAny_mono h₃ (fun ok s₄ h₄ => ?_) fun _ _ h' => h')) fun _ _ h' => h')) fun _ _ h' => h')
    cases ok with
    | false => exact wpAny_pure ⟨rfl, h₄⟩
    | true => exact wpAny_bind (wpAny_bind (wpAny_mono h₄ (fun x s₅ h₅ => wpAny_bind (wpAny_mono h₅ (fun _ s₆ h₆ => wpAny_pure (wpAny_pure ⟨rfl, h₆⟩)) fun _ _ h' => h')) fun _ _ h' => h'))
end
def clos (env : Env) : List (Str × NameKind) → List (Str × Addr) → List (Str × Addr)
  | [], cs => cs
  | (n, k) :: r, cs => clos env r (if (k == NameKind.free) = true then (n, (env.cells.lookup n).getD 0) :: cs else cs)
theorem closureFor_clos {scope : Scope} {env : Env} (h : ∀ y ∈ scope.names, y.2 = NameKind.free → ∃ c, env.cells.lookup y.1 = some c) : closureFor scope env = pure (clos env scope.names []) := by
  have all : ∀ (l : List (Str × NameKind)) (cs : List (Str × Addr)), (∀ y ∈ l, y.2 = NameKind.free → ∃ c, env.cells.lookup y.1 = some c) →
      (forIn l cs fun (x : Str × NameKind) (cs : List (Str × Addr)) => (if (x.2 == NameKind.free) = true then do let a ← cellOf env x.1; pure (ForInStep.yield ((x.1, a) :: cs)) else pure (ForInStep.yield cs) : Sem (ForInStep (List (Str × Addr))))) = pure (clos env l cs) := by
    intro l
    induction l with
    | nil => intro cs _; rfl
    | cons y l ih =>
      intro cs hy
      obtain ⟨n, k⟩ := y
      rw [List.forIn_cons]
      by_cases hk : (k == NameKind.free) = true
      · obtain ⟨c, hc⟩ := hy (n, k) List.mem_cons_self (by simpa using hk)
        have e1 : cellOf env n = pure c := by unfold cellOf; rw [hc]
        have e2 : clos env ((n, k) :: l) cs = clos env l ((n, c) :: cs) := by
          show clos env l (if (k == NameKind.free) = true then (n, (env.cells.lookup n).getD 0) :: cs else cs) = _
          rw [if_pos hk, hc]; rfl
        rw [e2, ← ih ((n, c) :: cs) fun z hz => hy z (List.mem_cons_of_mem _ hz)]
        simp only [hk, if_true, e1, pure_bind]
      · have e2 : clos env ((n, k) :: l) cs = clos env l cs := by
          show clos env l (if (k == NameKind.free) = true then (n, (env.cells.lookup n).getD 0) :: cs else cs) = _
          rw [if_neg hk]
        rw [e2, ← ih cs fun z hz => hy z (List.mem_cons_of_mem _ hz)]
        have hk' : (k == NameKind.free) = false := by simpa using hk
        simp only [hk', Bool.false_eq_true, if_false, pure_bind]
  have e := all scope.names [] h
  unfold closureFor
  first
    | (rw [show (pure (clos env scope.names []) : Sem (List (Str × Addr))) = (pure (clos env scope.names []) >>= fun cs => pure cs) from rfl, ← e]; rfl)
    | (simp only [bind_pure]; exact e)
    | (simpa using e)
theorem clos_look {env : Env} {x : Str} {c : Addr} : ∀ {l : List (Str × NameKind)} {cs : List (Str × Addr)}, (∀ y ∈ l, y.2 = NameKind.free → ∃ c, env.cells.lookup y.1 = some c) →
    (∀ y d, cs.lookup y = some d → env.cells.lookup y = some d) → (clos env l cs).lookup x = some c → env.cells.lookup x = some c
  | [], _, _, hc, h => hc x c h
  | (n, k) :: r, cs, hy, hc, h => by
    refine clos_look (l := r) (cs := if (k == NameKind.free) = true then (n, (env.cells.lookup n).getD 0) :: cs else cs) (fun z hz => hy z (List.mem_cons_of_mem _ hz)) (fun y d q => ?_) h
    by_cases hk : (k == NameKind.free) = true
    · rw [if_pos hk] at q
      obtain ⟨c', hc'⟩ := hy (n, k) List.mem_cons_self (by simpa using hk)
      rw [hc', List.lookup_cons] at q
      by_cases e : (y == n) = true
      · rw [e] at q
        have e' : y = n := by simpa using e
        rw [e', hc']; exact q
      · have e' : (y == n) = false := by simpa using e
        rw [e'] at q
        exact hc y d q
    · rw [if_neg hk] at q
      exact hc y d q
theorem clos_has {env : Env} {x : Str} : ∀ {l : List (Str × NameKind)} {cs : List (Str × Addr)}, ((x, NameKind.free) ∈ l ∨ ∃ c, cs.lookup x = some c) → ∃ c, (clos env l cs).lookup x = some c
  | [], _, h => by
    rcases h with h | h
    · cases h
    · exact h
  | (n, k) :: r, cs, h => by
    refine clos_has (l := r) (cs := if (k == NameKind.free) = true then (n, (env.cells.lookup n).getD 0) :: cs else cs) ?_
    rcases h with h | ⟨c, h⟩
    · rcases List.mem_cons.mp h with e | e
      · cases e
        refine .inr ?_
        rw [if_pos (by rfl), List.lookup_cons, beq_self_eq_true]
        exact ⟨_, rfl⟩
      · exact .inl e
    · refine .inr ?_
      by_cases hk : (k == NameKind.free) = true
      · rw [if_pos hk, List.lookup_cons]
        by_cases e : (x == n) = true
        · rw [e]; exact ⟨_, rfl⟩
        · have e' : (x == n) = false := by simpa using e
          rw [e']; exact ⟨c, h⟩
      · rw [if_neg hk]; exact ⟨c, h⟩
theorem lookup_relabel_free {env : Env} : ∀ {names : List (Str × NameKind)} {x : Str}, names.lookup x = some .free →
    (names.map fun (n, k) => if (k == NameKind.free && env.scope.kind == .function && env.kindOf n == some .cell) then (n, NameKind.cell) else (n, k)).lookup x = some .cell ∨
    (names.map fun (n, k) => if (k == NameKind.free && env.scope.kind == .function && env.kindOf n == some .cell) then (n, NameKind.cell) else (n, k)).lookup x = some .free
  | [], _, h => by simp at h
  | (n, k) :: r, x, h => by
    have ih := @lookup_relabel_free env r x
    rw [List.map_cons]
    show List.lookup x ((if (k == NameKind.free && env.scope.kind == .function && env.kindOf n == some .cell) = true then (n, NameKind.cell) else (n, k)) :: _) = _ ∨ List.lookup x ((if (k == NameKind.free && env.scope.kind == .function && env.kindOf n == some .cell) = true then (n, NameKind.cell) else (n, k)) :: _) = _
    cases hx : x == n with
    | true =>
      simp only [List.lookup_cons, hx] at h
      cases h
      by_cases hc : (NameKind.free == NameKind.free && env.scope.kind == .function && env.kindOf n == some .cell) = true
      · rw [if_pos hc]; exact .inl (by simp only [List.lookup_cons, hx])
      · rw [if_neg hc]; exact .inr (by simp only [List.lookup_cons, hx])
    | false =>
      simp only [List.lookup_cons, hx] at h
      by_cases hc : (k == NameKind.free && env.scope.kind == .function && env.kindOf n == some .cell) = true
      · rw [if_pos hc]; simp only [List.lookup_cons, hx]; exact ih h
      · rw [if_neg hc]; simp only [List.lookup_cons, hx]; exact ih h
theorem relabel_cf {env : Env} : ∀ {names : List (Str × NameKind)} {x : Str}, (∀ y ∈ names, y.2 ≠ NameKind.cell) →
    ((names.map fun (n, k) => if (k == NameKind.free && env.scope.kind == .function && env.kindOf n == some .cell) then (n, NameKind.cell) else (n, k)).lookup x = some .cell ∨
    (names.map fun (n, k) => if (k == NameKind.free && env.scope.kind == .function && env.kindOf n == some .cell) then (n, NameKind.cell) else (n, k)).lookup x = some .free) → (x, NameKind.free) ∈ names
  | [], _, _, h => by rcases h with h | h <;> simp at h
  | (n, k) :: r, x, hn, h => by
    have ih := @relabel_cf env r x fun y hy => hn y (List.mem_cons_of_mem _ hy)
    have hk := hn (n, k) List.mem_cons_self
    rw [List.map_cons] at h
    by_cases hc : (k == NameKind.free && env.scope.kind == .function && env.kindOf n == some .cell) = true
    · have hk1 : k = NameKind.free := by
        rw [Bool.and_eq_true, Bool.and_eq_true] at hc
        simpa using hc.1.1
      simp only [hc, if_true, List.lookup_cons] at h
      cases hx : x == n with
      | true => have e : x = n := by simpa using hx
                rw [e, hk1]; exact List.mem_cons_self
      | false => rw [hx] at h; exact List.mem_cons_of_mem _ (ih h)
    · have hc' : (k == NameKind.free && env.scope.kind == .function && env.kindOf n == some .cell) = false := by simpa using hc
      simp only [hc', Bool.false_eq_true, if_false, List.lookup_cons] at h
      cases hx : x == n with
      | true =>
        rw [hx] at h
        have e : x = n := by simpa using hx
        rcases h with h | h
        · exact absurd (Option.some.inj h) hk
        · rw [e, Option.some.inj h]; exact List.mem_cons_self
      | false => rw [hx] at h; exact List.mem_cons_of_mem _ (ih h)
def cxComp (X : Cx) (Nc : List Str) (scope : Scope) (cl : List (Str × Addr)) (C : Addr) (s : Shared) (H : Hp) (ex : List Addr) : Cx where
  prog := X.prog
  w := X.w
  K := X.K
  mg := X.mg
  base := X.base
  A := X.A
  N := Nc
  s₀ := s
  H₀ := H
  env := compEnvC scope cl C X.env
  outer := X.stack
  stack := X.stack
  ex := ex
  fn := fun _ => false
  calm := X.calm
  pn := []
  xe := NoE
def pickS (js : List (Option Nat)) (σ : St) : St := js.map fun o => match o with
  | none => none
  | some j => (σ[j]?).getD none
structure CompOk (X : Cx) (Nc : List Str) (js : List (Option Nat)) (scope : Scope) : Prop where
  kind : scope.kind = .function
  nocell : ∀ y ∈ scope.names, y.2 ≠ NameKind.cell
  names : ∀ y ∈ scope.names, y.2 = NameKind.local → scope.names.lookup y.1 = some NameKind.local
  free : ∀ y ∈ scope.names, y.2 = NameKind.free → X.env.kindOf y.1 = some NameKind.cell ∨ X.env.kindOf y.1 = some NameKind.free
  len : js.length = Nc.length
  map : ∀ (i : Nat) (y : Str) (j : Nat), Nc[i]? = some y → js[i]? = some (some j) → X.N[j]? = some y ∧ scope.names.lookup y = some NameKind.free
def compB (sc : Scope) (N Nc : List Str) (js : List (Option Nat)) (scope : Scope) : Bool :=
  scope.kind == .function && scope.names.all (fun y => y.2 != NameKind.cell) && scope.names.all (fun y => y.2 != NameKind.local || scope.names.lookup y.1 == some NameKind.local) &&
  scope.names.all (fun y => y.2 != NameKind.free || sc.names.lookup y.1 == some NameKind.cell || sc.names.lookup y.1 == some NameKind.free) && js.length == Nc.length &&
  (Nc.zip js).all (fun p => match p.2 with | none => true | some j => N[j]? == some p.1 && scope.names.lookup p.1 == some NameKind.free)
theorem compOk_of {X : Cx} {sc : Scope} {N Nc : List Str} {js : List (Option Nat)} {scope : Scope} (hsc : X.env.scope = sc) (hN : X.N = N) (h : compB sc N Nc js scope = true) : CompOk X Nc js scope := by
  unfold compB at h
  rw [Bool.and_eq_true, Bool.and_eq_true, Bool.and_eq_true, Bool.and_eq_true, Bool.and_eq_true] at h
  obtain ⟨⟨⟨⟨⟨h1, h2⟩, h3⟩, h4⟩, h5⟩, h6⟩ := h
  rw [List.all_eq_true] at h2 h3 h4 h6
  have h5' : js.length = Nc.length := by simpa using h5
  refine ⟨by simpa using h1, fun y hy => by simpa using h2 y hy, fun y hy e => ?_, fun y hy e => ?_, h5', fun i y j e1 e2 => ?_⟩
  · have q := h3 y hy
    rw [e] at q
    simpa using q
  · have q := h4 y hy
    rw [e] at q
    show X.env.scope.names.lookup y.1 = _ ∨ X.env.scope.names.lookup y.1 = _
    rw [hsc]
    simpa using q
  · have hm : (y, some j) ∈ Nc.zip js := by
      refine List.mem_of_getElem? (i := i) ?_
      rw [List.getElem?_zip_eq_some]
      exact ⟨e1, e2⟩
    have q := h6 _ hm
    simp only [Bool.and_eq_true, beq_iff_eq] at q
    rw [hN]
    exact q
def PTs (X : Cx) (ifs : List Expr) (t : TT) : Prop :=
  ∀ (pins : List (Addr × Obj)) (s : Shared) (σ : St) (H : Hp) (Q : Bool → Hp → Prop), Inv X pins σ H s → t σ H Q →
    wpAny (model X.prog X.w) X.A (forIn ifs true fun c r => if r = true then do let ok ← isTrue c X.env (eval c X.env); pure (ForInStep.yield ok) else pure (ForInStep.yield r)) (TP X pins σ Q) X.xe s
def tYes : TT := fun _ H Q => Q true H
theorem pts_nil {X : Cx} : PTs X [] tYes := fun pins s σ H Q I h => wpAny_tests_nil ⟨H, I, h⟩
theorem pts_one {X : Cx} {c : Expr} {t : TT} (hc : PT X c t) : PTs X [c] t := fun pins s σ H Q I h => wpAny_tests_one (hc pins s σ H Q I h)
def tComp (js : List (Option Nat)) (wi : TI) (g : TG) (tt : TT) (te : TE) : TE := fun σ H Q => wi σ H fun J H1 => ∀ D, H1 D = none → ∃ W : Nat → Nat → St → Hp → List V → Prop, (∃ m, W 0 m (pickS js σ) (upd H1 D (.lst [])) []) ∧
  ∀ i m σ' H' ys, W i m σ' H' ys → H' D = some (.lst ys) ∧ ((J.stop i H' ∧ Q (.ref D) H') ∨ (J.go i H' ∧ ys.length < sizeLine ∧ ∀ x H2, J.yld i H' x H2 → g x σ' H2 fun σ2 H3 => tt σ2 H3 fun b H4 =>
    if b = true then te σ2 H4 fun v H5 => H5 D = some (.lst ys) ∧ ∃ m', m' < m ∧ W (i + 1) m' σ2 (upd H5 D (.lst (ys ++ [v]))) (ys ++ [v]) else ∃ m', m' < m ∧ W (i + 1) m' σ2 H4 ys))
section
variable {X : Cx} {elt target iter : Expr} {ifs : List Expr} {scope : Scope} {pos : Pos} {Nc : List Str} {js : List (Option Nat)} {wi : TI} {g : TG} {tt : TT} {te : TE}
theorem comp_block {pins : List (Addr × Obj)} {σ : St} {H2 : Hp} {s₂ : Shared} {E : Value → Shared → Prop} {it : Addr} {fp : List Addr} {tn : Nat → Heap → Prop} {J : It} {Q : VK} {RR : Value → Addr → Result → Shared → Prop} (ok : CompOk X Nc js scope) (hc : X.calm = true)
    (hg : ∀ C cl s H ex, PG (cxComp X Nc scope cl C s H ex) target g) (ht : ∀ C cl s H ex, PTs (cxComp X Nc scope cl C s H ex) ifs tt) (he : ∀ C cl s H ex, PE (cxComp X Nc scope cl C s H ex) elt te)
    (I2 : Inv X pins σ H2 s₂) (T : Turn X.prog X.w X.K target J fp it tn) (st2 : tn 0 s₂.heap) (f2 : ∀ b ∈ fp, FpOk X pins H2 b)
    (h : ∀ D, H2 D = none → ∃ W : Nat → Nat → St → Hp → List V → Prop, (∃ m, W 0 m (pickS js σ) (upd H2 D (.lst [])) []) ∧
      ∀ i m σ' H' ys, W i m σ' H' ys → H' D = some (.lst ys) ∧ ((J.stop i H' ∧ Q (.ref D) H') ∨ (J.go i H' ∧ ys.length < sizeLine ∧ ∀ x H2, J.yld i H' x H2 → g x σ' H2 fun σ2 H3 => tt σ2 H3 fun b H4 =>
        if b = true then te σ2 H4 fun v H5 => H5 D = some (.lst ys) ∧ ∃ m', m' < m ∧ W (i + 1) m' σ2 (upd H5 D (.lst (ys ++ [v]))) (ys ++ [v]) else ∃ m', m' < m ∧ W (i + 1) m' σ2 H4 ys)))
    (hRR : ∀ (D C : Addr) (s' : Shared) (H' : Hp) (m : Str → Option Value), Inv X pins σ H' s' → s'.heap.Ns C m → FpOk X pins H' C → Q (.ref D) H' → RR (.ref D) C (.ok .next) s') :
    wpAny (model X.prog X.w) X.A (newList []) (fun acc s₃ => wpAny (model X.prog X.w) X.A (newFunctionEnv scope X.env.globals (clos X.env scope.names []) [] X.env.qual none .none (some X.env)) (fun cenv s₄ =>
      codeAny (model X.prog X.w) X.A (.compStart (.ListComp elt [⟨target, iter, ifs, 0⟩] scope pos) 0 (.ref it) acc { cenv with scope := relabel scope X.env }) (RR acc cenv.locals) s₄) E s₃) E s₂ := by
  have hfr : ∀ y ∈ scope.names, y.2 = NameKind.free → ∃ c, X.env.cells.lookup y.1 = some c := fun y hy e => I2.ok.has y.1 (ok.free y hy e)
  refine wpAny_newObj_type (wpAny_newFunctionEnv ok.nocell (by intro y hy; simp at hy) (fun h₁ hns₁ hsb₁ => ?_) ok.kind)
  dsimp only at hns₁ hsb₁ ⊢
  generalize hHL : s₂.heap.push { cls := .type "list", dict := none, data := .seq ([] : List Value).toArray } = HL at hns₁ hsb₁ ⊢
  have hC : HL.objs.size = s₂.heap.objs.size + 1 := by rw [← hHL, Heap.size_push]
  have hCle : s₂.heap.objs.size ≤ HL.objs.size := by rw [hC]; exact Nat.le_succ _
  have hDC : s₂.heap.objs.size ≠ HL.objs.size := by rw [hC]; exact Nat.ne_of_lt (Nat.lt_succ_self _)
  have old : ∀ b o, s₂.heap.get? b = some o → h₁.get? b = some o := fun b o e => hsb₁.extBut b o (Nat.ne_of_lt (Nat.lt_of_lt_of_le (Heap.lt_size e) hCle)) (Heap.get?_push_of_some _ (hHL ▸ Heap.get?_push_of_some _ e))
  have hacc : h₁.get? s₂.heap.objs.size = some { cls := .type "list", dict := none, data := .seq ([] : List Value).toArray } := hsb₁.extBut _ _ hDC (Heap.get?_push_of_some _ (hHL ▸ Heap.get?_push_size _ rfl))
  have hD0 : H2 s₂.heap.objs.size = none := I2.hok.fresh (Nat.le_refl _)
  have hC0 : H2 HL.objs.size = none := I2.hok.fresh hCle
  obtain ⟨W, ⟨m0, w0⟩, turn⟩ := h _ hD0
  have hlook : ∀ x c, (clos X.env scope.names []).lookup x = some c → X.env.cells.lookup x = some c := fun x c e => clos_look hfr (fun y d q => by simp at q) e
  have hlt : ∀ b ∈ fp, b < s₂.heap.objs.size := fun b hb => let ⟨o, e, _⟩ := T.obj 0 _ st2 b hb; Heap.lt_size e
  have okc : (cxComp X Nc scope (clos X.env scope.names []) HL.objs.size s₂ H2 fp).Ok := by
    refine ⟨I2.ok.mod, by show scope.kind = _; exact ok.kind, I2.ok.glob, I2.ok.blt, hCle, fun x y c e1 e2 => I2.ok.inj x y c (hlook x c e1) (hlook y c e2), fun x hx => ?_, fun x c z _ => absurd z Bool.false_ne_true, I2.ok.hd, I2.ok.frames, .inl rfl, fun b hb => ⟨?_, fun x c e => (f2 b hb).2.2.2.2.1 x c (hlook x c e)⟩,
      I2.bs, Nat.le_trans I2.ok.bsz I2.sz, fun b o e hb => ?_, fun b hb z => ?_, I2.stack, I2.stkFree⟩
    · exact clos_has (.inl (relabel_cf ok.nocell hx))
    · exact Nat.ne_of_lt (Nat.lt_of_lt_of_le (hlt b hb) hCle)
    · rcases (f2 b hb).2.2.2.1 with z | z
      · exact I2.ok.noex b o e z
      · exact absurd (Nat.lt_of_lt_of_le (Heap.lt_size e) (Nat.le_trans I2.ok.bsz z)) (Nat.lt_irrefl _)
    · rcases List.mem_cons.mp (I2.stkSub b z) with e | e
      · exact (f2 b hb).2.1 e
      · exact (f2 b hb).2.2.1 e
  have fpc : ∀ {H' : Hp}, (∀ b ∈ fp, H' b = none) → ∀ b ∈ fp, FpOk (cxComp X Nc scope (clos X.env scope.names []) HL.objs.size s₂ H2 fp) [] H' b := fun {H'} hn b hb =>
    ⟨hn b hb, (okc.exf b hb).1, okc.exfs b hb, .inl hb, (okc.exf b hb).2, fun p hp => absurd (show p ∈ ([] : List (Addr × Obj)) from hp) (by simp)⟩
  have Ic : Inv (cxComp X Nc scope (clos X.env scope.names []) HL.objs.size s₂ H2 fp) [] (pickS js σ) (upd H2 s₂.heap.objs.size (.lst [])) { s₂ with heap := h₁, toks := s₂.toks + ([] : List (Str × Value)).length } := by
    refine ⟨okc, rfl, I2.bare, Un.laid old (Nat.le_refl _) hD0, ⟨_, hns₁, fun i x v e1 e2 e3 => ?_⟩, fun x c e => ?_, ?_, fun x c e => ?_, fun p hp => absurd (show p ∈ ([] : List (Addr × Obj)) from hp) (by simp), ?_, ?_⟩
    · have e1' : Nc[i]? = some x := e1
      unfold pickS at e2
      rw [List.getElem?_map] at e2
      cases ej : js[i]? with
      | none => rw [ej] at e2; simp at e2
      | some oj =>
        rw [ej] at e2
        cases oj with
        | none => simp at e2
        | some j =>
          have e2' : (σ[j]?).getD none = some v := by simpa using e2
          have e2'' : σ[j]? = some (some v) := by
            cases q : σ[j]? with
            | none => rw [q] at e2'; simp at e2'
            | some z => rw [q] at e2'; simp at e2'; rw [e2']
          obtain ⟨hN, hF⟩ := ok.map i x j e1' ej
          have hmem : (x, NameKind.free) ∈ scope.names := PySem.mem_of_lookup hF
          have hkX := ok.free _ hmem rfl
          obtain ⟨m, hn, hl⟩ := I2.loc
          have hvis : Vis X.env.scope x := by
            rcases hkX with z | z
            · exact .inr (.inl z)
            · exact .inr (.inr z)
          obtain ⟨u, ru, lk⟩ := hl j x v hN e2'' hvis
          refine ⟨u, ru, .inr ?_⟩
          rcases lk with ⟨k1, _⟩ | ⟨_, c, ec, ic⟩
          · have k1' : X.env.kindOf x = some NameKind.local := k1
            rcases hkX with z | z
            · rw [z] at k1'; cases k1'
            · rw [z] at k1'; cases k1'
          · obtain ⟨c', hc'⟩ := clos_has (env := X.env) (l := scope.names) (cs := []) (x := x) (.inl hmem)
            have e' := hlook x c' hc'
            rw [ec] at e'
            cases e'
            exact ⟨lookup_relabel_free hF, c, hc', ic.keeps old⟩
    · obtain ⟨v, q⟩ := I2.cell x c (hlook x c e)
      exact ⟨v, q.keeps old⟩
    · show upd H2 s₂.heap.objs.size (.lst []) HL.objs.size = none
      rw [upd_ne (Ne.symm hDC)]; exact hC0
    · obtain ⟨v, q⟩ := I2.cell x c (hlook x c e)
      rw [upd_ne (Nat.ne_of_lt q.lt)]
      exact I2.freeC x c (hlook x c e)
    · exact I2.hok.laid old (Nat.le_refl _) ⟨Nat.zero_le _, [], _, .nil, hacc⟩
    · show (pickS js σ).length = Nc.length
      unfold pickS
      rw [List.length_map]; exact ok.len
  have back : ∀ {σ' : St} {H' : Hp} {s' : Shared}, Inv (cxComp X Nc scope (clos X.env scope.names []) HL.objs.size s₂ H2 fp) [] σ' H' s' → Inv X pins σ H' s' := fun {σ' H' s'} I4 =>
    I2.call' (ch := fp) I4.os I4.base I4.hok I4.bare fun b hb => ⟨(f2 b hb).2.2.2.1, (f2 b hb).2.1, (f2 b hb).2.2.2.2.1, (f2 b hb).2.2.2.2.2⟩
  have st1 : tn 0 h₁ := T.keep 0 _ _ st2 fun b _ o e => old b o e
  have loop : ∀ s₃ : Shared, s₃ = { s₂ with heap := h₁, toks := s₂.toks + ([] : List (Str × Value)).length } →
      codeAny (model X.prog X.w) X.A (.compLoop (.ListComp elt [⟨target, iter, ifs, 0⟩] scope pos) 0 (.ref it) (.ref s₂.heap.objs.size) (compEnvC scope (clos X.env scope.names []) HL.objs.size X.env))
        (RR (.ref s₂.heap.objs.size) HL.objs.size) s₃ := by
    rintro s₃ rfl
    refine compLoop_any (fun n s' => ∃ i σ' H' ys, Inv (cxComp X Nc scope (clos X.env scope.names []) HL.objs.size s₂ H2 fp) [] σ' H' s' ∧ tn i s'.heap ∧ (∀ b ∈ fp, H' b = none) ∧ W i n σ' H' ys) ?_ m0
      ⟨0, pickS js σ, _, [], Ic, st1, fun b hb => by rw [upd_ne (Nat.ne_of_lt (hlt b hb))]; exact (f2 b hb).1, w0⟩
    rintro n s3 ⟨i, σ3, H3, ys, I3, st3, fr3, w3⟩
    obtain ⟨hD3, tn3⟩ := turn i n σ3 H3 ys w3
    rcases tn3 with ⟨stop, q⟩ | ⟨go, hys, step⟩
    · refine thn (T.done (cxComp X Nc scope (clos X.env scope.names []) HL.objs.size s₂ H2 fp) rfl rfl rfl hc i [] s3 σ3 H3 NoE I3 (fpc fr3) st3 stop) fun r s4 ⟨hr, I4⟩ => ?_
      subst hr
      obtain ⟨m4, n4, _⟩ := I4.loc
      exact hRR _ _ s4 H3 m4 (back I4) n4 (I2.fpOk hCle I4.free) q
    · refine thn (T.item (cxComp X Nc scope (clos X.env scope.names []) HL.objs.size s₂ H2 fp) rfl rfl rfl hc i [] s3 σ3 H3 NoE I3 (fpc fr3) st3 go) fun r s4 ⟨u, hr, h4⟩ => ?_
      subst hr
      refine thn h4 fun _ s5 ⟨x, H5, I5, r5, y5, st5, fr5⟩ => ?_
      have I5' := I5.pinned (fpc fr5) (T.obj _ _ st5)
      have fin : ∀ {σ7 : St} {H7 : Hp} {s7 : Shared} {zs : List V} {m' : Nat}, Inv (cxComp X Nc scope (clos X.env scope.names []) HL.objs.size s₂ H2 fp) ([] ++ pinsAt fp s5.heap) σ7 H7 s7 → m' < n → W (i + 1) m' σ7 H7 zs →
          ∃ m, m < n ∧ ∃ i σ' H' ys, Inv (cxComp X Nc scope (clos X.env scope.names []) HL.objs.size s₂ H2 fp) [] σ' H' s7 ∧ tn i s7.heap ∧ (∀ b ∈ fp, H' b = none) ∧ W i m σ' H' ys := fun {σ7 H7 s7 zs m'} I7 hm w7 => by
        refine ⟨m', hm, i + 1, σ7, H7, zs, I7.unpinned, T.keep _ _ _ st5 fun b hb o e => (I7.pin (b, o) (List.mem_append_right _ (List.mem_append_right _ (mem_pinsAt hb e)))).1, fun b hb => ?_, w7⟩
        obtain ⟨o, e, d⟩ := T.obj _ _ st5 b hb
        exact (I7.pin (b, o) (List.mem_append_right _ (List.mem_append_right _ (mem_pinsAt hb e)))).2.1
      refine thn (hg _ _ _ _ _ _ s5 σ3 H5 x u _ I5' r5 (step x H5 y5)) fun _ s6 ⟨σ6, H6, I6, q6⟩ => ?_
      refine thn (ht _ _ _ _ _ _ s6 σ6 H6 _ I6 q6) fun b s7 ⟨H7, I7, q7⟩ => ?_
      cases b with
      | false =>
        obtain ⟨m', hm, w7⟩ := q7
        exact fin I7 hm w7
      | true =>
        refine thn (he _ _ _ _ _ _ s7 σ6 H7 _ I7 q7) fun v s8 ⟨y, H8, I8, r8, hD8, m', hm, w8⟩ => ?_
        refine thn (mt_append _ s8 σ6 H8 (.ref s₂.heap.objs.size) [y] (.ref s₂.heap.objs.size) [v] (fun _ H9 => H9 = upd H8 s₂.heap.objs.size (.lst (ys ++ [y]))) I8 rfl (.cons r8 .nil) ⟨_, ys, y, rfl, rfl, hD8, hys, rfl⟩) fun v9 s9 ⟨_, H9, I9, _, e9⟩ => ?_
        subst e9
        exact fin I9 hm w8
  exact codeAny_compStart_list (loop _ rfl) (T.self X.A 0 _ _ _ st1 (loop _ rfl))
theorem pe_comp (ok : CompOk X Nc js scope) (hc : X.calm = true) (hi : PI X target iter wi)
    (hg : ∀ C cl s H ex, PG (cxComp X Nc scope cl C s H ex) target g) (ht : ∀ C cl s H ex, PTs (cxComp X Nc scope cl C s H ex) ifs tt) (he : ∀ C cl s H ex, PE (cxComp X Nc scope cl C s H ex) elt te)
    (hs : ∀ x, foldedSetIterable iter X.env x = pure x := by intro _; rfl) : PE X (.ListComp elt [⟨target, iter, ifs, 0⟩] scope pos) (tComp js wi g tt te) := by
  intro pins s σ H Q I h
  have hfr : ∀ y ∈ scope.names, y.2 = NameKind.free → ∃ c, X.env.cells.lookup y.1 = some c := fun y hy e => I.ok.has y.1 (ok.free y hy e)
  rw [eval_ListComp]
  refine wpAny_comprehension_free (use := none) rfl hs (closureFor_clos hfr) ok.kind ok.names (thn (hi pins s σ H _ I h) fun v s1 h1 => thn h1 fun itv s2 h2 => ?_)
  obtain ⟨it, fp, tn, J, H2, e, I2, T, st2, f2, h⟩ := h2
  subst e
  refine comp_block (RR := fun acc C => compPost (model X.prog X.w) X.A X.xe none (EP X pins σ Q) acc C) (Q := Q) ok hc hg ht he I2 T st2 f2 h ?_
  intro D C s' H' m I' n' fC q
  refine ⟨m, n', fun h' sb => ⟨.ref D, H', ?_, rfl, q⟩⟩
  exact I'.turned (t' := s'.toks) (fun b o hb e => (sb.2 b hb).trans e) fC.1 fC.2.1 fC.2.2.2.1 fC.2.2.2.2.1 fC.2.2.2.2.2
theorem ps_setComp {i : Nat} {y : Str} {py spos : Pos} (ok : CompOk X Nc js scope) (hc : X.calm = true) (hi : PI X target iter wi)
    (hg : ∀ C cl s H ex, PG (cxComp X Nc scope cl C s H ex) target g) (ht : ∀ C cl s H ex, PTs (cxComp X Nc scope cl C s H ex) ifs tt) (he : ∀ C cl s H ex, PE (cxComp X Nc scope cl C s H ex) elt te)
    (hN : X.N.Nodup) (hy : X.N[i]? = some y) (hx : Loc X.env.scope y) (hsw : swapsWith (.ListComp elt [⟨target, iter, ifs, 0⟩] scope pos) (some (.Name y py)) spos.line X.env = pure true)
    (hs : ∀ x, foldedSetIterable iter X.env x = pure x := by intro _; rfl) (hf : X.fn y = true ∨ X.env.scope.names.lookup y = some .local := by first | exact .inl rfl | exact .inr rfl | assumption) :
    PS X (.Assign [.Name y py] (.ListComp elt [⟨target, iter, ifs, 0⟩] scope pos) spos) (fun D σ H => tComp js wi g tt te σ H fun v H' => D.nx (σ.set i (some v)) H') := by
  intro pins s σ H D I h
  have hfr : ∀ y ∈ scope.names, y.2 = NameKind.free → ∃ c, X.env.cells.lookup y.1 = some c := fun y hy e => I.ok.has y.1 (ok.free y hy e)
  rw [exec_Assign_Name_used _ _ _ _ hsw]
  refine wpAny_bind (wpAny_standAt (wpAny_bind ?_))
  show wpAny _ X.A (do let _ ← comprehension (.ListComp elt [⟨target, iter, ifs, 0⟩] scope pos) scope X.env _ (newList []) false (eval iter X.env) (some (assign (.Name y py) X.env))) _ _ s
  refine wpAny_bind (thn (wpAny_comprehension_free (use := some (assign (.Name y py) X.env)) (Q := fun _ s' => SP X pins D .next s') rfl hs (closureFor_clos hfr) ok.kind ok.names
    (thn (hi pins s σ H _ I h) fun v s1 h1 => thn h1 fun itv s2 h2 => ?_)) fun _ s' hq => wpAny_pure (wpAny_pure hq))
  obtain ⟨it, fp, tn, J, H2, e, I2, T, st2, f2, h⟩ := h2
  subst e
  refine comp_block (RR := fun acc C => compPost (model X.prog X.w) X.A X.xe (some (assign (.Name y py) X.env)) (fun _ s' => SP X pins D .next s') acc C) (Q := fun v H' => D.nx (σ.set i (some v)) H') ok hc hg ht he I2 T st2 f2 h ?_
  intro Da C s' H' m I' n' fC q
  show wpAny _ X.A (assign (.Name y py) X.env (.ref Da)) _ _ _
  refine wpAny_assign_Name (store_ok2 I' hN hy hx (show RelV (.ref Da) (.ref Da) from rfl) (fun s'' I'' hsb => ?_) hf)
  obtain ⟨a, sb, ha⟩ := hsb
  have hCa : C ≠ a := by
    rcases ha with e | e
    · rw [e]; exact fC.2.1
    · exact fun z => fC.2.2.2.2.1 y a e z.symm
  refine ⟨m, n'.sameBut sb hCa, fun h' sb' => ⟨σ.set i (some (.ref Da)), H', ?_, q⟩⟩
  exact I''.turned (t' := s''.toks) (fun b o hb e => (sb'.2 b hb).trans e) fC.1 fC.2.1 fC.2.2.2.1 fC.2.2.2.2.1 fC.2.2.2.2.2
end
section
variable {js : List (Option Nat)} {g : TG} {tt : TT} {te : TE} {σ : St} {H : Hp} {Q : VK}
def CompW (J : It) (js : List (Option Nat)) (g : TG) (tt : TT) (te : TE) (σ : St) (H : Hp) (Q : VK) : Prop :=
  ∀ D, H D = none → ∃ W : Nat → Nat → St → Hp → List V → Prop, (∃ m, W 0 m (pickS js σ) (upd H D (.lst [])) []) ∧
  ∀ i m σ' H' ys, W i m σ' H' ys → H' D = some (.lst ys) ∧ ((J.stop i H' ∧ Q (.ref D) H') ∨ (J.go i H' ∧ ys.length < sizeLine ∧ ∀ x H2, J.yld i H' x H2 → g x σ' H2 fun σ2 H3 => tt σ2 H3 fun b H4 =>
    if b = true then te σ2 H4 fun v H5 => H5 D = some (.lst ys) ∧ ∃ m', m' < m ∧ W (i + 1) m' σ2 (upd H5 D (.lst (ys ++ [v]))) (ys ++ [v]) else ∃ m', m' < m ∧ W (i + 1) m' σ2 H4 ys))
structure Src (J : It) (n : Nat) (f : Nat → V) (Ok : Hp → Prop) : Prop where
  go : ∀ i H, i < n → Ok H → J.go i H
  yld : ∀ i H x H', i < n → Ok H → J.yld i H x H' → H' = H ∧ x = f i
  stop : ∀ H, Ok H → J.stop n H
theorem src_list {K : PySem.W.Frag} {a : Addr} {xs : List V} : Src (Itl K a) xs.length (fun i => (xs[i]?).getD .non) (fun H => SqL K H a xs) :=
  ⟨fun i H hi h => ⟨xs, xs[i], h, by simp [hi]⟩, fun i H x H' hi h y => ⟨y.1, by rw [y.2 xs h]; rfl⟩, fun H h => ⟨xs, h, Nat.le_refl _⟩⟩
theorem src_tup {K : PySem.W.Frag} {a : Addr} {xs : List V} : Src (Itt K a) xs.length (fun i => (xs[i]?).getD .non) (fun H => SqT K H a xs) :=
  ⟨fun i H hi h => ⟨xs, xs[i], h, by simp [hi]⟩, fun i H x H' hi h y => ⟨y.1, by rw [y.2 xs h]; rfl⟩, fun H h => ⟨xs, h, Nat.le_refl _⟩⟩
theorem src_range {lo : Int} {n : Nat} : Src (Itr lo n) n (fun i => .int (lo + i)) (fun _ => True) :=
  ⟨fun i H hi _ => hi, fun i H x H' hi _ y => y, fun H _ => Nat.le_refl _⟩
theorem comp_by {J : It} {n : Nat} {f : Nat → V} {Ok : Hp → Prop} (S : Src J n f Ok) (hn : n ≤ sizeLine) (Pv : Addr → Nat → St → Hp → List V → Prop) (h0 : ∀ D, H D = none → Pv D 0 (pickS js σ) (upd H D (.lst [])) [])
    (hk : ∀ D i σ' H' ys, H D = none → i ≤ n → Pv D i σ' H' ys → Ok H' ∧ H' D = some (.lst ys) ∧ ys.length ≤ i)
    (hs : ∀ D i σ' H' ys (R : St → Hp → List V → Prop), H D = none → i < n → Pv D i σ' H' ys → (∀ a b c, Pv D (i + 1) a b c → R a b c) → g (f i) σ' H' fun σ2 H3 => tt σ2 H3 fun b H4 =>
      if b = true then te σ2 H4 fun v H5 => H5 D = some (.lst ys) ∧ R σ2 (upd H5 D (.lst (ys ++ [v]))) (ys ++ [v]) else R σ2 H4 ys)
    (hd : ∀ D σ' H' ys, H D = none → Pv D n σ' H' ys → Q (.ref D) H') : CompW J js g tt te σ H Q := by
  intro D hD
  refine ⟨fun i m σ' H' ys => m = n - i ∧ i ≤ n ∧ Pv D i σ' H' ys, ⟨n, by simp, Nat.zero_le _, h0 D hD⟩, ?_⟩
  rintro i m σ' H' ys ⟨rfl, hi, p⟩
  obtain ⟨q1, q2, q3⟩ := hk D i σ' H' ys hD hi p
  refine ⟨q2, ?_⟩
  by_cases hlt : i < n
  · refine .inr ⟨S.go i H' hlt q1, by omega, fun x H2 y => ?_⟩
    obtain ⟨rfl, rfl⟩ := S.yld i H' x H2 hlt q1 y
    exact hs D i σ' _ ys (fun σ2 H3 ys' => ∃ m', m' < n - i ∧ (m' = n - (i + 1) ∧ i + 1 ≤ n ∧ Pv D (i + 1) σ2 H3 ys')) hD hlt p fun a b c r => ⟨n - (i + 1), by omega, rfl, hlt, r⟩
  · have e : i = n := by omega
    subst e
    exact .inl ⟨S.stop H' q1, hd D σ' H' ys hD p⟩
end
end L2
namespace L2
open PySem PySem.Spec PyProof.Rows
section
variable {X : Cx} {tg : Expr}
end
section
variable {X : Cx}
def clsV : V → Option Value
  | .ty n => some (.type n)
  | .ref a => some (.ref a)
  | _ => none
theorem clsV_rel {c : V} {u v : Value} (h : clsV c = some u) (r : RelV c v) : v = u := by
  cases c with
  | ty n => cases h; exact r
  | ref a => cases h; exact r
  | _ => cases h
def rIsi (K : PySem.W.Frag) : List V → Hp → VK → Prop := fun xs H Q => ∃ x c u t b, xs = [x, c] ∧ clsV c = some u ∧ TyOf K H x t ∧ PySem.W.kitOne K t u = some b ∧ Q (.bl b) H
theorem call_isinst : CallR X (.builtin "isinstance") (rIsi X.K) := by
  intro pins s σ H xs us Q I r h
  obtain ⟨x, c, u, t, b, rfl, hu, ty, e, q⟩ := h
  obtain ⟨v, u', rfl, rv, ru'⟩ := vals2 r
  cases clsV_rel hu ru'
  exact isinst_ok I rv ty e fun tk => ⟨.bl b, H, I.tok _, rfl, q⟩
theorem bools_at {bs : List Bool} {its : List Value} (r : Vals (bs.map V.bl) its) {i : Nat} {v : Value} (h : its[i]? = some v) : ∃ b, bs[i]? = some b ∧ v = .bool b := by
  have hi : i < its.length := (List.getElem?_eq_some_iff.mp h).1
  have hl := r.length
  rw [List.length_map] at hl
  have hb : bs[i]? = some bs[i] := List.getElem?_eq_getElem (by omega)
  obtain ⟨u, hu, ru⟩ := r.get (i := i) (x := V.bl bs[i]) (by rw [List.getElem?_map, hb]; rfl)
  rw [h] at hu; cases hu
  exact ⟨_, hb, ru⟩
theorem call_all_bools (hc : X.calm = true) : CallR X (.builtin "all") (fun xs H Q => ∃ (p : Addr) (bs : List Bool), xs = [.ref p] ∧ SqL X.K H p (bs.map V.bl) ∧ Q (.bl (bs.all id)) H) := by
  intro pins s σ H xs us Q I r h
  obtain ⟨p, bs, rfl, hq, q⟩ := h
  obtain ⟨u, rfl, ru⟩ := vals1 r
  cases ru
  obtain ⟨its, rv, pl, hz⟩ := I.list hq
  have hl := pl.isList
  have hlt : p < s.heap.objs.size := by obtain ⟨_, e, _⟩ := hl; exact Heap.lt_size e
  refine call_all_walk (wpAny_pyIter_list hl ?_)
  refine ⟨s.heap.objs.size, [s.heap.objs.size, p], [s.heap.objs.size], its.toArray.size, _, _, fun i => (bs[i]?).getD true, rfl, Walks.list (A := X.A.in1) (I.ok.hd hc) _ p (Nat.ne_of_lt hlt) its.toArray,
    ⟨⟨_, Heap.get?_push_size _ rfl, rfl, rfl⟩, hl.push _⟩, fun i v s' Q' E' hP hQ => ?_, fun h' tk hk => ?_⟩
  · obtain ⟨b, e, rfl⟩ := bools_at rv (i := i) (v := v) (by simpa using hP)
    simp only [e, Option.getD_some] at hQ
    exact wpAny_truthy_bool hQ
  · have e : ((List.range its.toArray.size).all fun i => (bs[i]?).getD true) = bs.all id := by
      have hb := rv.length
      rw [List.length_map] at hb
      rw [List.size_toArray, ← hb]; exact LSm.range_all bs
    rw [e]
    exact ⟨.bl (bs.all id), H, I.kept (t' := tk) (LSm.kept_iter hk), rfl, q⟩
def rSlS : V → Option Int → Option Int → Hp → VK → Prop := fun x lo hi H Q => ∃ z, x = .str z ∧ z.length ≤ sizeLine ∧ Q (.str (Txt.slice z lo hi)) H
theorem sl_str : SlR X rSlS := by
  intro pins s σ H x v vl vu lo hi sl Q I rx hs pl pu h
  obtain ⟨z, rfl, hz, q⟩ := h
  obtain ⟨t, rfl⟩ := rx
  obtain ⟨o, ho, hc, hd⟩ := hs
  refine ⟨"str", _, PySem.F.slot_str_getitem.lookup, typeIs_str _ _ _, ?_⟩
  have fin : ∀ (l u : Option Int) (t' : Tok) (k : Nat), Q (.str (Txt.slice z l u)) H → EP X pins σ Q (.str (Txt.slice z l u) t') { s with toks := k } := fun l u t' k q => ⟨.str _, H, I.tok _, ⟨_, rfl⟩, q⟩
  cases pl with
  | none =>
    cases pu with
    | none => exact wpAny_getItem_str_slice (l := none) (u := none) (st := none) ⟨o, ho, hc, hd⟩ rfl (post_val_or_str ⟨Nat.le_trans (Txt.slice_le z _ _) hz, fun t' k => fin _ _ t' k q⟩)
    | int j uj => exact wpAny_getItem_str_slice (l := none) (u := some (j, uj)) (st := none) ⟨o, ho, hc, hd⟩ rfl (post_val_or_str ⟨Nat.le_trans (Txt.slice_le z _ _) hz, fun t' k => fin _ _ t' k q⟩)
  | int i ui =>
    cases pu with
    | none => exact wpAny_getItem_str_slice (l := some (i, ui)) (u := none) (st := none) ⟨o, ho, hc, hd⟩ rfl (post_val_or_str ⟨Nat.le_trans (Txt.slice_le z _ _) hz, fun t' k => fin _ _ t' k q⟩)
    | int j uj => exact wpAny_getItem_str_slice (l := some (i, ui)) (u := some (j, uj)) (st := none) ⟨o, ho, hc, hd⟩ rfl (post_val_or_str ⟨Nat.le_trans (Txt.slice_le z _ _) hz, fun t' k => fin _ _ t' k q⟩)
end
end L2
namespace L2
open PySem PySem.Spec PyProof.Rows
theorem boot_lenT : bootBuiltins "len" = some (.builtin "len") := by decide +kernel
theorem boot_isinstanceT : bootBuiltins "isinstance" = some (.builtin "isinstance") := by decide +kernel
theorem boot_allT : bootBuiltins "all" = some (.builtin "all") := by decide +kernel
theorem boot_listT : bootBuiltins "list" = some (.type "list") := by decide +kernel
theorem boot_tupleT : bootBuiltins "tuple" = some (.type "tuple") := by decide +kernel
section
variable {X : Cx}
def rAddS : R2 := fun x y H Q => ∃ i j, x = .str i ∧ y = .str j ∧ i.length + j.length ≤ sizeLine ∧ Q (.str (i ++ j)) H
def rAddI : R2 := rI0 fun i j => .int (i + j)
def rAddA (K : PySem.W.Frag) : R2 := fun x y H Q => rAddI x y H Q ∨ rAddS x y H Q ∨ rCat x y H Q ∨ rCatT K x y H Q
theorem op_addA : OpR X (binaryOp .Add) (rAddA X.K) := op_add.or (op_add_str.or (op_cat.or op_catT))
theorem rAddA_int {K : PySem.W.Frag} {i j : Int} {H : Hp} {Q : VK} : rAddA K (.int i) (.int j) H Q ↔ Q (.int (i + j)) H := by
  constructor
  · rintro (⟨a, b, e1, e2, q⟩ | ⟨a, b, e1, _⟩ | ⟨a, b, _, _, e1, _⟩ | ⟨a, b, _, _, e1, _⟩)
    · cases e1; cases e2; exact q
    · cases e1
    · cases e1
    · cases e1
  · exact fun q => .inl ⟨i, j, rfl, rfl, q⟩
theorem rAddA_str {K : PySem.W.Frag} {i j : Str} {H : Hp} {Q : VK} : rAddA K (.str i) (.str j) H Q ↔ (i.length + j.length ≤ sizeLine ∧ Q (.str (i ++ j)) H) := by
  constructor
  · rintro (⟨a, b, e1, _⟩ | ⟨a, b, e1, e2, q⟩ | ⟨a, b, _, _, e1, _⟩ | ⟨a, b, _, _, e1, _⟩)
    · cases e1
    · cases e1; cases e2; exact q
    · cases e1
    · cases e1
  · exact fun q => .inr (.inl ⟨i, j, rfl, rfl, q⟩)
theorem rEq_int {i j : Int} {H : Hp} {Q : VK} : rEq (.int i) (.int j) H Q ↔ Q (.bl (decide (i = j))) H := by
  unfold rEq
  have e : decide (V.int i = V.int j) = decide (i = j) := by
    by_cases h : i = j
    · subst h; simp
    · simp [h]
  rw [e]
  exact ⟨fun h => h.2, fun h => ⟨rfl, h⟩⟩
theorem rEq_str {i j : Str} {H : Hp} {Q : VK} : rEq (.str i) (.str j) H Q ↔ Q (.bl (decide (i = j))) H := by
  unfold rEq
  have e : decide (V.str i = V.str j) = decide (i = j) := by
    by_cases h : i = j
    · subst h; simp
    · simp [h]
  rw [e]
  exact ⟨fun h => h.2, fun h => ⟨rfl, h⟩⟩
def inS (c s : Str) : Bool := !(Builtin.Str.occurrences s c 0 s.length 1).isEmpty
def rInS : R2 := fun x y H Q => ∃ i j, x = .str i ∧ y = .str j ∧ Q (.bl (inS i j)) H
def rNotInS : R2 := fun x y H Q => ∃ i j, x = .str i ∧ y = .str j ∧ Q (.bl (!inS i j)) H
def rInA (K : PySem.W.Frag) : R2 := fun x y H Q => rInS x y H Q ∨ rIn K false x y H Q
def rNotInA (K : PySem.W.Frag) : R2 := fun x y H Q => rNotInS x y H Q ∨ rIn K true x y H Q
theorem op_inS : OpR X (compareOp .In) rInS := op_in_str
theorem op_notinS : OpR X (compareOp .NotIn) rNotInS := op_notin_str
theorem op_inA : OpR X (compareOp .In) (rInA X.K) := op_inS.or op_in_seq
theorem op_notinA : OpR X (compareOp .NotIn) (rNotInA X.K) := op_notinS.or op_notIn_seq
def rLenA (K : PySem.W.Frag) : List V → Hp → VK → Prop := fun xs H Q => (∃ x n, xs = [x] ∧ LenV K x H n ∧ Q (.int n) H) ∨ ∃ a kvs, xs = [V.ref a] ∧ H a = some (.dK kvs) ∧ Q (.int kvs.length) H
theorem call_lenA : CallR X (.builtin "len") (rLenA X.K) := call_len.or call_lenD
theorem rLenA_str {K : PySem.W.Frag} {z : Str} {H : Hp} {Q : VK} : rLenA K [.str z] H Q ↔ (z.length ≤ sizeLine ∧ Q (.int z.length) H) := by
  constructor
  · rintro (⟨x, n, e1, e2, q⟩ | ⟨a, kvs, e1, _⟩)
    · cases e1
      obtain ⟨h1, rfl⟩ : z.length ≤ sizeLine ∧ n = z.length := e2
      exact ⟨h1, q⟩
    · cases e1
  · exact fun q => .inl ⟨.str z, z.length, rfl, ⟨q.1, rfl⟩, q.2⟩
theorem rLenA_lst {K : PySem.W.Frag} {a : Addr} {xs : List V} {H : Hp} {Q : VK} (h : SqL K H a xs) (q : Q (.int xs.length) H) : rLenA K [.ref a] H Q := .inl ⟨.ref a, xs.length, rfl, .inl ⟨xs, h, rfl⟩, q⟩
def rSlA (K : PySem.W.Frag) : V → Option Int → Option Int → Hp → VK → Prop := fun x lo hi H Q => rSlS x lo hi H Q ∨ rSlL K x lo hi H Q ∨ rSlT K x lo hi H Q
theorem sl_any : SlR X (rSlA X.K) := sl_str.or (sl_list.or sl_tup)
theorem rIx_str {K : PySem.W.Frag} {z : Str} {i : Int} {H : Hp} {Q : VK} : rIx K (.str z) (.int i) H Q ↔ (z.length ≤ sizeLine ∧ ∃ c, atI z.cps.toList i = some c ∧ Q (.str ⟨#[c]⟩) H) := by
  constructor
  · rintro (⟨p, xs, j, v, e1, _⟩ | ⟨p, xs, j, v, e1, _⟩ | ⟨y, j, c, e1, e2, h1, h2, q⟩)
    · cases e1
    · cases e1
    · cases e1; cases e2; exact ⟨h1, c, h2, q⟩
  · rintro ⟨h1, c, h2, q⟩
    exact .inr (.inr ⟨z, i, c, rfl, rfl, h1, h2, q⟩)
theorem rIx_lst {K : PySem.W.Frag} {a : Addr} {xs : List V} {i : Int} {v : V} {H : Hp} {Q : VK} (h : SqL K H a xs) (e : atI xs i = some v) (q : Q v H) : rIx K (.ref a) (.int i) H Q := .inl ⟨a, xs, i, v, rfl, rfl, h, e, q⟩
theorem rIx_tup {K : PySem.W.Frag} {a : Addr} {xs : List V} {i : Int} {v : V} {H : Hp} {Q : VK} (h : SqT K H a xs) (e : atI xs i = some v) (q : Q v H) : rIx K (.ref a) (.int i) H Q := .inr (.inl ⟨a, xs, i, v, rfl, rfl, h, e, q⟩)
theorem rI_int {C : Int → Int → Prop} {g : Int → Int → V} {i j : Int} {H : Hp} {Q : VK} : rI C g (.int i) (.int j) H Q ↔ (C i j ∧ Q (g i j) H) := by
  constructor
  · rintro ⟨a, b, e1, e2, q⟩; cases e1; cases e2; exact q
  · exact fun q => ⟨i, j, rfl, rfl, q⟩
theorem rI0_int {g : Int → Int → V} {i j : Int} {H : Hp} {Q : VK} : rI0 g (.int i) (.int j) H Q ↔ Q (g i j) H := by
  constructor
  · rintro ⟨a, b, e1, e2, q⟩; cases e1; cases e2; exact q
  · exact fun q => ⟨i, j, rfl, rfl, q⟩
theorem exBl {k : Bool} {P : Bool → Prop} : (∃ c, V.bl k = V.bl c ∧ P c) ↔ P k := by
  constructor
  · rintro ⟨c, e, q⟩; cases e; exact q
  · exact fun q => ⟨k, rfl, q⟩
theorem exInt {k : Int} {P : Int → Prop} : (∃ c, V.int k = V.int c ∧ P c) ↔ P k := by
  constructor
  · rintro ⟨c, e, q⟩; cases e; exact q
  · exact fun q => ⟨k, rfl, q⟩
theorem exSlot {v : V} {P : V → Prop} : (∃ x, some (some v) = some (some x) ∧ P x) ↔ P v := by
  constructor
  · rintro ⟨c, e, q⟩; cases e; exact q
  · exact fun q => ⟨v, rfl, q⟩
end
theorem Same.upd {H : Hp} {a : Addr} {o : HO} (h : H a = none) : Same H (upd H a o) := fun b u e => by rw [upd_ne (ne_of_none e h)]; exact e
theorem Same.tup {K : PySem.W.Frag} {H H' : Hp} {a : Addr} {xs : List V} (e : Same H H') (h : SqT K H a xs) : SqT K H' a xs := by
  rcases h with (h | ⟨o, h⟩) | h
  · exact .inl (.inl (e _ _ h))
  · exact .inl (.inr ⟨o, e _ _ h⟩)
  · exact .inr h
theorem TyOf.same {K : PySem.W.Frag} {H H' : Hp} {x : V} {t : Value} (s : Same H H') (h : TyOf K H x t) : TyOf K H' x t := by
  cases h with
  | non => exact .non
  | bl b => exact .bl b
  | int i => exact .int i
  | str z => exact .str z
  | flt z => exact .flt z
  | lst e => exact .lst (s _ _ e)
  | frz e => exact .frz (s _ _ e)
  | tup e => exact .tup (s _ _ e)
  | dK e => exact .dK (s _ _ e)
  | dT e => exact .dT (s _ _ e)
  | ins e cl ha hn htk hm => exact .ins (s _ _ e) cl ha hn htk hm
section
variable {X : Cx} {st : Stmt} {rest : List Stmt} {t u : TS}
def tMid (t u : TS) : TS := fun D σ H => ∃ M : St → Hp → Prop, t { D with nx := M } σ H ∧ ∀ σ' H', M σ' H' → u D σ' H'
theorem pss_mid (h1 : PS X st t) (h2 : PSs X rest u) : PSs X (st :: rest) (tMid t u) := by
  intro pins s σ H D I h
  obtain ⟨M, q1, q2⟩ := h
  refine wpAny_execs_cons (thn (h1 pins s σ H { D with nx := M } I q1) fun f s1 q => ?_)
  cases f with
  | next =>
    obtain ⟨σ', H', I', q⟩ := q
    exact h2 pins s1 σ' H' D I' (q2 σ' H' q)
  | ret v => exact q
  | brk => exact q
  | cont => exact q
end
end L2
namespace L2
open PySem PySem.Spec PyProof.Rows
theorem exRef {k : Addr} {P : Addr → Prop} : (∃ c, V.ref k = V.ref c ∧ P c) ↔ P k := by
  constructor
  · rintro ⟨c, e, q⟩; cases e; exact q
  · exact fun q => ⟨k, rfl, q⟩
theorem atI_in {α : Type} {xs : List α} {i : Int} (h0 : 0 ≤ i) (h1 : i < xs.length) : ∃ v, atI xs i = some v ∧ v ∈ xs ∧ xs[i.toNat]? = some v := by
  have hk : i.toNat < xs.length := by omega
  refine ⟨xs[i.toNat], ?_, List.getElem_mem hk, List.getElem?_eq_getElem hk⟩
  unfold atI ixN
  rw [if_pos h0, if_pos h1]
  exact List.getElem?_eq_getElem hk
theorem mod_lt' {i j : Int} (h : 0 < j) : 0 ≤ i % j ∧ i % j < j := ⟨Int.emod_nonneg _ (by omega), Int.emod_lt_of_pos _ h⟩
theorem ite_ft {A B : Prop} : (if false = true then A else B) = B := if_neg Bool.false_ne_true
theorem ite_tf {A B : Prop} : (if true = false then A else B) = B := if_neg (by decide)
theorem newO {H : Hp} {p : Addr} (hp : H p = none) (o : HO) : ∃ H', upd H p o = H' ∧ Same H H' ∧ H' p = some o := ⟨_, rfl, Same.upd hp, upd_same⟩
def ForW (J : It) (g : TG) (tb : TS) (D : Ends) (σ : St) (H : Hp) : Prop := ∃ W : Nat → Nat → St → Hp → Prop, (∃ m, W 0 m σ H) ∧ ∀ i m σ H, W i m σ H →
  (J.stop i H ∧ D.nx σ H) ∨ (J.go i H ∧ ∃ N : St → Hp → Prop, (∀ σ' H', N σ' H' → ∃ m', m' < m ∧ W (i + 1) m' σ' H') ∧ ∀ x H', J.yld i H x H' → g x σ H' fun σ2 H2 => tb { D with nx := N, ct := N, bk := D.nx } σ2 H2)
theorem tFor_eq {wi : TI} {g : TG} {tb : TS} {D : Ends} {σ : St} {H : Hp} : tFor wi g tb D σ H = wi σ H fun J H1 => ForW J g tb D σ H1 := rfl
theorem tComp_eq {js : List (Option Nat)} {wi : TI} {g : TG} {tt : TT} {te : TE} {σ : St} {H : Hp} {Q : VK} : tComp js wi g tt te σ H Q = wi σ H fun J H1 => CompW J js g tt te σ H1 Q := rfl
theorem comp_1 {J : It} {n : Nat} {f : Nat → V} {Ok : Hp → Prop} {js : List (Option Nat)} {te : TE} {σ : St} {H : Hp} {Q : VK} (S : Src J n f Ok) (hn : n ≤ sizeLine) (σr : St) (hσ : pickS js σ = none :: σr) (Pr : Nat → V → Prop)
    (hOk : ∀ H', Same H H' → Ok H') (hs : ∀ i H' (R : V → Hp → Prop), i < n → Same H H' → (∀ v H'', Same H' H'' → Pr i v → R v H'') → te (some (f i) :: σr) H' R)
    (hd : ∀ D H' ys, H D = none → Same H H' → H' D = some (.lst ys) → ys.length = n → (∀ i v, ys[i]? = some v → Pr i v) → Q (.ref D) H') : CompW J js (gName 0) tYes te σ H Q := by
  refine comp_by S hn (fun D i σ' H' ys => (∃ a, σ' = a :: σr) ∧ Same H H' ∧ H' D = some (.lst ys) ∧ ys.length = i ∧ ∀ j v, ys[j]? = some v → Pr j v) ?_ ?_ ?_ ?_
  · intro D hD
    exact ⟨⟨none, hσ⟩, Same.upd hD, upd_same, rfl, fun j v e => by simp at e⟩
  · rintro D i σ' H' ys hD hi ⟨_, s, h, hl, _⟩
    exact ⟨hOk _ s, h, Nat.le_of_eq hl⟩
  · rintro D i σ' H' ys R hD hi ⟨⟨a, rfl⟩, s, h, hl, hp⟩ hR
    show te (some (f i) :: σr) H' _
    refine hs i H' _ hi s fun v H'' s2 pv => ⟨s2 _ _ h, hR _ _ _ ⟨⟨_, rfl⟩, ?_, upd_same, by simp [hl], fun j v' e => ?_⟩⟩
    · intro b o e
      rw [upd_ne (ne_of_none e hD)]
      exact s2 b o (s b o e)
    · rw [List.getElem?_append] at e
      split at e
      · exact hp j v' e
      · rename_i hj
        have e1 : j = ys.length := by
          have := (List.getElem?_eq_some_iff.mp e).1
          simp at this; omega
        subst e1
        simp at e
        subst e
        rw [hl]; exact pv
  · rintro D σ' H' ys hD ⟨_, s, h, hl, hp⟩
    exact hd D H' ys hD s h hl hp
section
variable {K : PySem.W.Frag} {H : Hp} {Q : VK}
def NotStr (K : PySem.W.Frag) (H : Hp) (x : V) : Prop := ∃ t, TyOf K H x t ∧ PySem.W.kitOne K t (.type "str") = some false
theorem NotStr.same {H' : Hp} {x : V} (s : Same H H') (h : NotStr K H x) : NotStr K H' x := let ⟨t, a, b⟩ := h; ⟨t, a.same s, b⟩
end
end L2
namespace L2
open PySem PySem.Spec PyProof.Rows
theorem kit_list_list {K : PySem.W.Frag} : PySem.W.kitOne K (.type "list") (.type "list") = some true := by kernel_rfl
section
variable {K : PySem.W.Frag} {H : Hp} {Q : VK}
def rTupOf (K : PySem.W.Frag) : List V → Hp → VK → Prop := fun xs H Q => ∃ p ys, xs = [.ref p] ∧ ((SqL K H p ys ∧ ∀ l, H l = none → Q (.ref l) (upd H l (.tup ys))) ∨ SqT K H p ys ∧ Q (.ref p) H)
def rListOf (K : PySem.W.Frag) : List V → Hp → VK → Prop := fun xs H Q => ∃ p ys, xs = [.ref p] ∧ (SqL K H p ys ∨ SqT K H p ys) ∧ ∀ l, H l = none → Q (.ref l) (upd H l (.lst ys))
end
def rIsN : R2 := fun x y H Q => y = .non ∧ Q (.bl (decide (x = .non))) H
section
variable {H : Hp} {Q : VK}
theorem rIsN_ref {a : Addr} : rIsN (.ref a) .non H Q ↔ Q (.bl false) H := ⟨fun h => h.2, fun h => ⟨rfl, h⟩⟩
theorem rIsN_non : rIsN .non .non H Q ↔ Q (.bl true) H := ⟨fun h => h.2, fun h => ⟨rfl, h⟩⟩
end
mutual
inductive Den (K : PySem.W.Frag) (H : Hp) : V → PyData → Prop
  | non : Den K H .non .none
  | bl (b : Bool) : Den K H (.bl b) (.bool b)
  | int (i : Int) : Den K H (.int i) (.int i)
  | str (x : Str) : Den K H (.str x) (.str x)
  | lst {a : Addr} {xs : List V} {ds : List PyData} : SqL K H a xs → DenAll K H xs ds → Den K H (.ref a) (.list ds)
  | tup {a : Addr} {xs : List V} {ds : List PyData} : SqT K H a xs → DenAll K H xs ds → Den K H (.ref a) (.tuple ds)
inductive DenAll (K : PySem.W.Frag) (H : Hp) : List V → List PyData → Prop
  | nil : DenAll K H [] []
  | cons {x : V} {xs : List V} {d : PyData} {ds : List PyData} : Den K H x d → DenAll K H xs ds → DenAll K H (x :: xs) (d :: ds)
end
theorem denStrs {K : PySem.W.Frag} {H : Hp} : ∀ ys : List Str, DenAll K H (ys.map V.str) (ys.map PyData.str)
  | [] => .nil
  | y :: ys => .cons (.str y) (denStrs ys)
def rEqD (K : PySem.W.Frag) : R2 := fun x y H Q => ∃ d e, Den K H x d ∧ Den K H y e ∧ SeqAt.shaped d = true ∧ SeqAt.shaped e = true ∧ Q (.bl (PyData.eqv d e)) H
def rNeD (K : PySem.W.Frag) : R2 := fun x y H Q => ∃ d e, Den K H x d ∧ Den K H y e ∧ SeqAt.shaped d = true ∧ SeqAt.shaped e = true ∧ Q (.bl (!PyData.eqv d e)) H
def rEqH (K : PySem.W.Frag) : R2 := fun x y H Q => rEq x y H Q ∨ rEqD K x y H Q
def rNeH (K : PySem.W.Frag) : R2 := fun x y H Q => rNe x y H Q ∨ rNeD K x y H Q
section
variable {K : PySem.W.Frag} {H : Hp} {Q : VK}
theorem rEqH_str {i j : Str} : rEqH K (.str i) (.str j) H Q ↔ Q (.bl (decide (i = j))) H := by
  constructor
  · rintro (h | ⟨d, e, h1, h2, _, _, q⟩)
    · exact rEq_str.mp h
    · cases h1; cases h2
      rw [show decide (i = j) = PyData.eqv (.str i) (.str j) from by simp only [PyData.eqv]; by_cases z : i = j <;> simp [z]]; exact q
  · exact fun q => .inl (rEq_str.mpr q)
theorem rEqH_int {i j : Int} : rEqH K (.int i) (.int j) H Q ↔ Q (.bl (decide (i = j))) H := by
  constructor
  · rintro (h | ⟨d, e, h1, h2, _, _, q⟩)
    · exact rEq_int.mp h
    · cases h1; cases h2
      rw [show decide (i = j) = PyData.eqv (.int i) (.int j) from by simp only [PyData.eqv]; by_cases z : i = j <;> simp [z]]; exact q
  · exact fun q => .inl (rEq_int.mpr q)
end
section
variable {X : Cx}
theorem op_isX : OpR X (compareOp .Is) rIsN := op_isN
theorem call_tupOf : CallR X (.type "tuple") (rTupOf X.K) := by
  intro pins s σ H xs us Q I r h
  obtain ⟨p, ys, e, h⟩ := h
  exact call_tuple_of pins s σ H xs us Q I r ⟨p, ys, e, h⟩
theorem call_listOf : CallR X (.type "list") (rListOf X.K) := call_list_of
mutual
theorem Den.reads {pins : List (Addr × Obj)} {σ : St} {H : Hp} {s : Shared} (I : Inv X pins σ H s) : ∀ {x : V} {d : PyData} {u : Value}, Den X.K H x d → RelV x u → ∃ as, Reads s.heap u d as
  | _, _, _, .non, r => by cases r; exact ⟨_, .none⟩
  | _, _, _, .bl b, r => by cases r; exact ⟨_, .bool b⟩
  | _, _, _, .int i, r => by obtain ⟨t, rfl⟩ := r; exact ⟨_, .int i t⟩
  | _, _, _, .str x, r => by obtain ⟨t, rfl⟩ := r; exact ⟨_, .str x t⟩
  | _, _, _, .lst h hs, r => by
    cases r
    obtain ⟨its, rv, pl, _⟩ := I.list h
    obtain ⟨o, ho, hc, n, hd⟩ := pl.isList
    obtain ⟨as, ra⟩ := DenAll.reads I hs rv
    exact ⟨_, .list ho hc hd (by simpa using ra)⟩
  | _, _, _, .tup h hs, r => by
    cases r
    obtain ⟨its, rv, pl, _⟩ := I.tuple h
    obtain ⟨o, ho, hc, n, hd⟩ := pl
    obtain ⟨as, ra⟩ := DenAll.reads I hs rv
    exact ⟨_, .tuple ho hc hd (by simpa using ra)⟩
theorem DenAll.reads {pins : List (Addr × Obj)} {σ : St} {H : Hp} {s : Shared} (I : Inv X pins σ H s) : ∀ {xs : List V} {ds : List PyData} {us : List Value}, DenAll X.K H xs ds → Vals xs us → ∃ as, ReadsAll s.heap us ds as
  | _, _, _, .nil, r => by cases r; exact ⟨_, .nil⟩
  | _, _, _, .cons h hs, r => by
    cases r with
    | cons r1 r2 =>
      obtain ⟨as, ra⟩ := Den.reads I h r1
      obtain ⟨bs, rb⟩ := DenAll.reads I hs r2
      exact ⟨_, .cons ra rb⟩
end
theorem op_eqD (hu : X.A.units + 64 < cLine) : OpR X (compareOp .Eq) (rEqD X.K) := by
  intro pins s σ H x y v u Q I rx ry h
  obtain ⟨d, e, h1, h2, s1, s2, q⟩ := h
  obtain ⟨as, ra⟩ := h1.reads I rx
  obtain ⟨bs, rb⟩ := h2.reads I ry
  exact eq_dataH ra rb s1 s2 hu ⟨.bl _, H, I, rfl, q⟩
theorem op_neD (hu : X.A.units + 64 < cLine) : OpR X (compareOp .NotEq) (rNeD X.K) := by
  intro pins s σ H x y v u Q I rx ry h
  obtain ⟨d, e, h1, h2, s1, s2, q⟩ := h
  obtain ⟨as, ra⟩ := h1.reads I rx
  obtain ⟨bs, rb⟩ := h2.reads I ry
  exact ne_dataH ra rb s1 s2 hu ⟨.bl _, H, I, rfl, q⟩
theorem op_eqH (hu : X.A.units + 64 < cLine) : OpR X (compareOp .Eq) (rEqH X.K) := op_eq.or (op_eqD hu)
theorem op_neH (hu : X.A.units + 64 < cLine) : OpR X (compareOp .NotEq) (rNeH X.K) := op_ne.or (op_neD hu)
variable {K : PySem.W.Frag}
theorem op_addK (h : X.K = K) : OpR X (binaryOp .Add) (rAddA K) := h ▸ op_addA
theorem op_notinK (h : X.K = K) : OpR X (compareOp .NotIn) (rNotInA K) := h ▸ op_notinA
theorem ix_seqK (h : X.K = K) : IxR X (rIx K) := h ▸ ix_seq
end
end L2
namespace L2
open PySem PySem.Spec PyProof.Rows PySem.W
section
variable {H : Hp} {Q : VK}
end
section
variable {X : Cx}
end
end L2
namespace L2
open PySem PySem.Spec PyProof.Rows
theorem comp_1d {J : It} {n : Nat} {f : Nat → V} {Ok : Hp → Prop} {js : List (Option Nat)} {te : TE} {σ : St} {H : Hp} {Q : VK} (S : Src J n f Ok) (hn : n ≤ sizeLine) (σr : St) (hσ : pickS js σ = none :: σr) (Pr : Addr → Nat → V → Hp → Prop)
    (mono : ∀ D i v (H1 H2 : Hp), (∀ b o, b ≠ D → H1 b = some o → H2 b = some o) → Pr D i v H1 → Pr D i v H2)
    (hOk : ∀ H', Same H H' → Ok H') (hs : ∀ D i H' (R : V → Hp → Prop), i < n → H D = none → Same H H' → (∃ ys, H' D = some (.lst ys)) → (∀ v H'', Same H' H'' → Pr D i v H'' → R v H'') → te (some (f i) :: σr) H' R)
    (hd : ∀ D H' ys, H D = none → Same H H' → H' D = some (.lst ys) → ys.length = n → (∀ i v, ys[i]? = some v → Pr D i v H') → Q (.ref D) H') : CompW J js (gName 0) tYes te σ H Q := by
  refine comp_by S hn (fun D i σ' H' ys => (∃ a, σ' = a :: σr) ∧ Same H H' ∧ H' D = some (.lst ys) ∧ ys.length = i ∧ ∀ j v, ys[j]? = some v → Pr D j v H') ?_ ?_ ?_ ?_
  · intro D hD
    exact ⟨⟨none, hσ⟩, Same.upd hD, upd_same, rfl, fun j v e => by simp at e⟩
  · rintro D i σ' H' ys hD hi ⟨_, s, h, hl, _⟩
    exact ⟨hOk _ s, h, Nat.le_of_eq hl⟩
  · rintro D i σ' H' ys R hD hi ⟨⟨a, rfl⟩, s, h, hl, hp⟩ hR
    show te (some (f i) :: σr) H' _
    refine hs D i H' _ hi hD s ⟨_, h⟩ fun v H'' s2 pv => ⟨s2 _ _ h, hR _ _ _ ⟨⟨_, rfl⟩, ?_, upd_same, by simp [hl], fun j v' e => ?_⟩⟩
    · intro b o e
      rw [upd_ne (ne_of_none e hD)]
      exact s2 b o (s b o e)
    · have up : ∀ b o, b ≠ D → H'' b = some o → upd H'' D (.lst (ys ++ [v])) b = some o := fun b o hb e => by rw [upd_ne hb]; exact e
      rw [List.getElem?_append] at e
      split at e
      · exact mono _ _ _ _ _ (fun b o hb e => up b o hb (s2 b o e)) (hp j v' e)
      · have e1 : j = ys.length := by
          have := (List.getElem?_eq_some_iff.mp e).1
          simp at this; omega
        subst e1
        simp at e
        subst e
        rw [hl]; exact mono _ _ _ _ _ up pv
  · rintro D σ' H' ys hD ⟨_, s, h, hl, hp⟩
    exact hd D H' ys hD s h hl hp
theorem comp_f {J : It} {n : Nat} {f : Nat → V} {Ok : Hp → Prop} {js : List (Option Nat)} {tt : TT} {te : TE} {σ : St} {H : Hp} {Q : VK} (S : Src J n f Ok) (hn : n ≤ sizeLine) (σr : St) (hσ : pickS js σ = none :: σr) (keep : Nat → Bool) (val : Nat → V)
    (hOk : ∀ H', Same H H' → Ok H') (hs : ∀ i H' (R : Bool → Hp → Prop), i < n → Same H H' → (∀ H'', Same H' H'' → R (keep i) H'') → tt (some (f i) :: σr) H' R)
    (he : ∀ i H' (R : V → Hp → Prop), i < n → Same H H' → (∀ H'', Same H' H'' → R (val i) H'') → te (some (f i) :: σr) H' R)
    (hd : ∀ D H', H D = none → Same H H' → H' D = some (.lst (((List.range n).filter keep).map val)) → Q (.ref D) H') : CompW J js (gName 0) tt te σ H Q := by
  refine comp_by S hn (fun D i σ' H' ys => (∃ a, σ' = a :: σr) ∧ Same H H' ∧ H' D = some (.lst ys) ∧ ys = ((List.range i).filter keep).map val) ?_ ?_ ?_ ?_
  · intro D hD
    exact ⟨⟨none, hσ⟩, Same.upd hD, upd_same, rfl⟩
  · rintro D i σ' H' ys hD hi ⟨_, s, h, rfl⟩
    refine ⟨hOk _ s, h, ?_⟩
    rw [List.length_map]
    exact Nat.le_trans (List.length_filter_le _ _) (by simp)
  · rintro D i σ' H' ys R hD hi ⟨⟨a, rfl⟩, s, h, rfl⟩ hR
    show tt (some (f i) :: σr) H' _
    refine hs i H' _ hi s fun H2 s2 => ?_
    cases hk : keep i with
    | false =>
      rw [if_neg Bool.false_ne_true]
      refine hR _ _ _ ⟨⟨_, rfl⟩, s.trans s2, s2 _ _ h, ?_⟩
      rw [List.range_succ, List.filter_append, List.filter_cons, hk]; simp
    | true =>
      rw [if_pos rfl]
      refine he i H2 _ hi (s.trans s2) fun H3 s3 => ⟨s3 _ _ (s2 _ _ h), hR _ _ _ ⟨⟨_, rfl⟩, ?_, upd_same, ?_⟩⟩
      · intro b o e
        rw [upd_ne (ne_of_none e hD)]
        exact s3 b o (s2 b o (s b o e))
      · rw [List.range_succ, List.filter_append, List.filter_cons, hk]; simp
  · rintro D σ' H' ys hD ⟨_, s, h, rfl⟩
    exact hd D H' hD s h
structure CMeth (K : PySem.W.Frag) (C : Addr) (m : Str) (f : Addr) : Prop where
  ga : PySem.W.specialIn K (.ref C) "__getattribute__" = some (some (.builtin "type.__getattribute__"))
  rd : PySem.W.readsIn K C (.type "type") = true
  at_ : PySem.W.findCls K (.ref C) (.type "type") m = some (.val (.ref f))
  kp : PySem.W.keepIn K (.ref f) = true
structure TyI (K : PySem.W.Frag) (C : Addr) : Prop where
  ha : PySem.W.findIn K (.ref C) "__class__" = some (some (.builtin "object.__class__"))
  hn : PySem.W.specialIn K (.builtin "object.__class__") "__get__" = some (some (.builtin "getset_descriptor.__get__"))
  htk : PySem.W.takesIn K (.builtin "object.__class__") = some true
  hm : PySem.W.mroIn K C (.type "object") = some true
theorem kit_mk {K : PySem.W.Frag} {C D : Addr} {cd : ClassData} {b : Bool} (hc : PySem.W.clsIn K D = some cd) (ht : PySem.W.typeIn K (.ref D) = some (.type "type")) (hs : PySem.W.subIn K (.ref C) (.ref D) = some b) (ho : PySem.W.subIn K (.ref C) (.ref C) = some true) :
    PySem.W.kitOne K (.ref C) (.ref D) = some b := by
  unfold PySem.W.kitOne
  by_cases e : (Value.ref C == Value.ref D) = true
  · rw [if_pos e]
    have e' : C = D := by
      have := eq_of_beq e
      injection this
    rw [← e', ho] at hs
    exact hs
  · rw [if_neg e]
    show (if ((PySem.W.clsIn K D).isSome && PySem.W.typeIn K (.ref D) == some (.type "type")) = true then PySem.W.subIn K (.ref C) (.ref D) else none) = _
    rw [hc, ht, if_pos (by simp), hs]
section
variable {X : Cx}
def rLtS : R2 := fun x y H Q => ∃ i j, x = .str i ∧ y = .str j ∧ Q (.bl (decide (i.cps.toList < j.cps.toList))) H
def rLtA : R2 := fun x y H Q => rI0 (fun i j => .bl (decide (i < j))) x y H Q ∨ rLtS x y H Q
theorem op_ltA : OpR X (compareOp .Lt) rLtA := op_lt.or op_lt_str
theorem rLtA_int {i j : Int} {H : Hp} {Q : VK} : rLtA (.int i) (.int j) H Q ↔ Q (.bl (decide (i < j))) H := by
  constructor
  · rintro (⟨a, b, e1, e2, q⟩ | ⟨a, b, e1, _⟩)
    · cases e1; cases e2; exact q
    · cases e1
  · exact fun q => .inl ⟨i, j, rfl, rfl, q⟩
end
section
variable {X : Cx} {o e : Expr} {es : List Expr} {apos pos : Pos} {m : Str} {C f : Addr} {fd : FuncData} {ps : List Str} {sp : Sp} {CX : CXT} {k : Nat} {E : XK} {dvs : List V} {ds : List Value} {ta : TE} {t : TA}
def tAlt (t u : TE) : TE := fun σ H Q => t σ H Q ∨ u σ H Q
theorem pe_alt {t u : TE} (h1 : PE X e t) (h2 : PE X e u) : PE X e (tAlt t u) := fun pins s σ H Q I h => h.elim (h1 pins s σ H Q I) (h2 pins s σ H Q I)
def tCMeth (C : Addr) (sp : Sp) (dvs : List V) (E : XK) (ta : TE) (t : TA) : TE := fun σ H Q => ta σ H fun x H1 => x = .ref C ∧ t σ H1 fun vs H2 => sp (vs ++ dvs) H2 Q E
theorem pe_cmeth {pl : Sem Bool} (he : PE X o ta) (hm : CMeth X.K C m f) (F : FnOk X.prog X.w X.K X.mg X.base CX k f fd ps sp) (hr : Room k X.A) (hb : Binds X.K fd ps ds) (hd : Vals dvs ds) (hx : Passes CX X E) (ha : PA X (e :: es) t)
    (hst : starEach (e :: es) X.env = (false, eval e X.env) :: starEach es X.env := by rfl) (hpl : (backTo pos (starEach es X.env)).any (·.1) = false := by rfl)
    (ht : eval (.Call (.Attribute o m apos) (e :: es) [] pos) X.env = (do
      let ov ← eval o X.env
      standAt apos.atName
      let (f, first) ← holding [ov] (getMethod ov m pl)
      callWith pos f first (backTo pos (starEach (e :: es) X.env)) (backToKw pos (keywordEach [] X.env))) := by rfl) :
    PE X (.Call (.Attribute o m apos) (e :: es) [] pos) (tCMeth C sp dvs E ta t) := by
  intro pins s σ H Q I h
  refine PySem.W.methodCall_KW (pl := pl) (thn (he pins s σ H _ I h) fun u s1 ⟨x, H1, I1, rx, ex, q⟩ => ?_) ht
  subst ex
  obtain rfl : u = Value.ref C := rx
  refine PySem.W.method_cls I1.kIn hm.ga (PySem.W.cls_value I1.kIn hm.rd hm.at_ rfl ?_)
  refine PySem.W.callWith_K (first := []) (h₀ := X.base) I.ok.mod.kin hm.kp (thn (ha pos pins _ σ H1 _ (I1.tok _) q) fun us s2 ⟨vs, H2, I2, r, q2⟩ => ⟨I2.kIn, ?_⟩) hst hpl
  exact run_fn (us := us) (vs := vs) F hr hb hd hx I2 r q2
end
end L2
namespace L2
open PySem PySem.Spec PyProof.Rows
theorem while_w {c : TT} {tb : TS} {D : Ends} {σ : St} {H : Hp} (W : Nat → St → Hp → Prop) (m0 : Nat) (h0 : W m0 σ H)
    (hs : ∀ m σ H, W m σ H → c σ H fun b H1 => if b = true then ∃ N : St → Hp → Prop, (∀ σ' H', N σ' H' → ∃ m', m' < m ∧ W m' σ' H') ∧ tb { D with nx := N, ct := N, bk := D.nx } σ H1 else D.nx σ H1) : tWhile c tb D σ H := ⟨W, ⟨m0, h0⟩, hs⟩
theorem range_filter {α β : Type} (d : α) (P : α → Bool) (g : α → β) : ∀ ps : List α, ((List.range ps.length).filter fun i => P ((ps[i]?).getD d)).map (fun i => g ((ps[i]?).getD d)) = (ps.filter P).map g := by
  intro ps
  have h : (List.range ps.length).map (fun i => (ps[i]?).getD d) = ps := by
    refine List.ext_getElem? fun i => ?_
    rw [List.getElem?_map]
    by_cases hi : i < ps.length
    · rw [List.getElem?_range hi, List.getElem?_eq_getElem hi, Option.map_some, List.getElem?_eq_getElem hi]; rfl
    · rw [List.getElem?_eq_none (by simp; omega), List.getElem?_eq_none (by omega)]; rfl
  conv => rhs; rw [← h]
  rw [List.filter_map, List.map_map]; rfl
theorem inV_str (z : Str) (r : List Str) : inV (.str z) (r.map V.str) = decide (z ∈ r) := by
  unfold inV
  rw [Bool.eq_iff_iff, List.any_eq_true, decide_eq_true_eq]
  constructor
  · rintro ⟨v, hv, e⟩
    obtain ⟨l, hl, rfl⟩ := List.mem_map.mp hv
    have e' : (l == z) = true := e
    rw [← eq_of_beq e']; exact hl
  · intro h
    exact ⟨.str z, List.mem_map.mpr ⟨z, h, rfl⟩, (beq_self_eq_true z : (z == z) = true)⟩
theorem flat_strs (qs : List Str) : (qs.map V.str).all flatV = true := by
  rw [List.all_eq_true]; intro v hv
  obtain ⟨l, _, rfl⟩ := List.mem_map.mp hv; rfl
theorem rNotIn_lst {K : PySem.W.Frag} {H : Hp} {Q : VK} {z : Str} {a : Addr} {r : List Str} (h : SqL K H a (r.map V.str)) (q : Q (.bl (!decide (z ∈ r))) H) : rNotInA K (.str z) (.ref a) H Q :=
  .inr ⟨a, _, rfl, .inl h, rfl, flat_strs _, by rw [if_pos rfl, inV_str]; exact q⟩
theorem none_of {H H' : Hp} (s : Same H H') {p : Addr} (h : H' p = none) : H p = none := by
  cases e : H p with
  | none => rfl
  | some o => rw [s _ _ e] at h; cases h
section
variable {X : Cx}
theorem pg_tupK {K : PySem.W.Frag} {pos : Pos} {es : List Expr} {k : Nat} {t : TGs} {n : Nat} (hK : X.K = K) (hc : X.calm = true) (h : PGs X es t)
    (hn : (assignEach es X.env).length = n := by rfl) (hst : (assignEach es X.env).findIdx? (·.1) = none := by rfl) : PG X (.Tuple es k pos) (gTup K n t) := hK ▸ pg_tup hc h hn hst
end
end L2
namespace L2
open PySem PySem.Spec PyProof.Rows PySem.W
def Ite (K : PySem.W.Frag) (a : Addr) : It :=
  ⟨fun i H => ∃ xs x, SqL K H a xs ∧ xs[i]? = some x, fun i H x H' => ∃ p v, H p = none ∧ (∀ xs, SqL K H a xs → xs[i]? = some v) ∧ x = .ref p ∧ H' = upd H p (.tup [.int i, v]), fun i H => ∃ xs, SqL K H a xs ∧ xs.length ≤ i⟩
def iEnum (K : PySem.W.Frag) (ta : TA) : TI := fun σ H R => ta σ H fun vs H1 => ∃ a, vs = [.ref a] ∧ (∃ xs, SqL K H1 a xs) ∧ R (Ite K a) H1
theorem comp_e {K : PySem.W.Frag} {a : Addr} {xs : List V} {js : List (Option Nat)} {te : TE} {σ : St} {H : Hp} {Q : VK} (hn : xs.length ≤ sizeLine) (σr : St) (hσ : pickS js σ = none :: none :: σr) (Pr : Addr → Nat → V → Hp → Prop)
    (mono : ∀ D i v (H1 H2 : Hp), (∀ b o, b ≠ D → H1 b = some o → H2 b = some o) → Pr D i v H1 → Pr D i v H2)
    (ha : SqL K H a xs) (hs : ∀ D i H' (R : V → Hp → Prop) (hi : i < xs.length), H D = none → Same H H' → (∃ ys, H' D = some (.lst ys)) → (∀ v H'', Same H' H'' → Pr D i v H'' → R v H'') → te (some (.int i) :: some xs[i] :: σr) H' R)
    (hd : ∀ D H' ys, H D = none → Same H H' → H' D = some (.lst ys) → ys.length = xs.length → (∀ i v, ys[i]? = some v → Pr D i v H') → Q (.ref D) H') : CompW (Ite K a) js (gTup K 2 (gCons (gName 0) (gCons (gName 1) gNil))) tYes te σ H Q := by
  intro D hD
  refine ⟨fun i m σ' H' ys => m = xs.length - i ∧ i ≤ xs.length ∧ (∃ u v, σ' = u :: v :: σr) ∧ Same H H' ∧ H' D = some (.lst ys) ∧ ys.length = i ∧ ∀ j v, ys[j]? = some v → Pr D j v H', ⟨xs.length, by simp, Nat.zero_le _, ⟨none, none, hσ⟩, Same.upd hD, upd_same, rfl, fun j v e => by simp at e⟩, ?_⟩
  rintro i m σ' H' ys ⟨rfl, hi, ⟨u, v, rfl⟩, s, h, hl, hp⟩
  refine ⟨h, ?_⟩
  by_cases hlt : i < xs.length
  · refine .inr ⟨⟨xs, xs[i], s.seq ha, List.getElem?_eq_getElem hlt⟩, by omega, ?_⟩
    rintro x H2 ⟨p, w, hpn, hw, rfl, rfl⟩
    have ew : w = xs[i] := by have := hw xs (s.seq ha); rw [List.getElem?_eq_getElem hlt] at this; exact (Option.some.inj this).symm
    subst ew
    obtain ⟨H3, e3, s3, h3⟩ : ∃ H3, upd H' p (.tup [.int i, xs[i]]) = H3 ∧ Same H' H3 ∧ H3 p = some (.tup [.int i, xs[i]]) := ⟨_, rfl, Same.upd hpn, upd_same⟩
    rw [e3]
    refine ⟨p, _, rfl, SqT.of h3, rfl, _, _, rfl, _, _, rfl, rfl, ?_⟩
    unfold tYes; dsimp only
    rw [if_pos rfl]
    show te (some (.int i) :: some xs[i] :: σr) H3 _
    refine hs D i H3 _ hlt hD (s.trans s3) ⟨_, s3 _ _ h⟩ fun v H'' s2 pv => ⟨s2 _ _ (s3 _ _ h), xs.length - (i + 1), by omega, rfl, hlt, ⟨_, _, rfl⟩, ?_, upd_same, by simp [hl], fun j v' e => ?_⟩
    · intro b o e
      rw [upd_ne (ne_of_none e hD)]; exact s2 _ _ (s3 _ _ (s b o e))
    · have up : ∀ b o, b ≠ D → H'' b = some o → upd H'' D (.lst (ys ++ [v])) b = some o := fun b o hb q => by rw [upd_ne hb]; exact q
      by_cases hj : j < ys.length
      · rw [List.getElem?_append_left hj] at e
        exact mono _ _ _ _ _ up (mono _ _ _ _ _ (fun b o _ q => s2 _ _ (s3 _ _ q)) (hp j v' e))
      · have hj2 := (List.getElem?_eq_some_iff.mp e).1
        have ej : j = ys.length := by simp at hj2; omega
        subst ej
        rw [List.getElem?_append_right (Nat.le_refl _), Nat.sub_self] at e
        cases e
        rw [hl]; exact mono _ _ _ _ _ up pv
  · have e : i = xs.length := by omega
    subst e
    exact .inl ⟨⟨xs, s.seq ha, Nat.le_refl _⟩, hd D H' ys hD s h hl hp⟩
def intD (kvs kvs' : List (Key × V)) : Prop := kvs.length = kvs'.length ∧ ∀ p ∈ kvs, valV kvs' p.1 = some p.2 ∧ ∃ i, p.2 = .int i
def tListRev (K : PySem.W.Frag) (te : TE) : TE := fun σ H Q => te σ H fun x H1 => ∃ a xs, x = .ref a ∧ SqL K H1 a xs ∧ ∀ p, H1 p = none → Q (.ref p) (upd H1 p (.lst xs.reverse))
def tThaw (te : TE) : TE := fun σ H Q => ∃ (a : Addr) (kvs : List (Key × V)), H a = some (.dK kvs) ∧ te σ H fun v H1 => ∃ o, H1 a = some (.frz o (.dK kvs)) ∧ Q v (upd H1 a (.dK kvs))
section
variable {X : Cx} {pins : List (Addr × Obj)} {σ : St} {H : Hp} {s : Shared} {h' : Heap} {tg : Expr}
theorem Inv.turned2 {t' : Nat} {e it : Addr} (I : Inv X pins σ H s) (k : ∀ b o, b ≠ e → b ≠ it → s.heap.get? b = some o → h'.get? b = some o) (f1 : FpOk X pins H e) (f2 : FpOk X pins H it) : Inv X pins σ H { s with heap := h', toks := t' } := by
  obtain ⟨a0, a1, a2, a3, a4, a5⟩ := f1
  obtain ⟨b0, b1, b2, b3, b4, b5⟩ := f2
  have ne : ∀ b u, H b = some u → b ≠ e := fun b u q z => by rw [z, a0] at q; cases q
  have nit : ∀ b u, H b = some u → b ≠ it := fun b u q z => by rw [z, b0] at q; cases q
  refine I.step (g' := s.gens) (d' := s.drawn) (ch := [e, it]) (fun b hb => ?_) (fun b o _ _ hc q _ => k b o (fun z => hc (by simp [z])) (fun z => hc (by simp [z])) q) (fun b o _ _ hc q _ => ⟨o.slots, k b o (fun z => hc (by simp [z])) (fun z => hc (by simp [z])) q⟩) (fun _ _ _ _ n => n)
    (fun b o hc q => ⟨o, k b o (fun z => hc (by simp [z])) (fun z => hc (by simp [z])) q⟩) (fun _ _ q => q) (fun _ _ _ q => q) (fun b ps q => ⟨#[], by rw [q]; simp⟩) (fun m hm => ?_) (fun b u q => ?_) I.bare
  · rcases List.mem_cons.mp hb with z | z
    · subst z; exact ⟨a3, a1, a4, a5⟩
    · rw [List.mem_singleton.mp z]; exact ⟨b3, b1, b4, b5⟩
  · obtain ⟨o, es, ep, ho, r⟩ := hm
    exact ⟨o, es, ep, k _ o (Ne.symm a1) (Ne.symm b1) ho, r⟩
  · refine (I.hok b u q).stay (fun c v hc z => k c v ?_ ?_ z) (fun _ z => z) fun _ _ z => z
    · rcases hc with z | z
      · rw [z]; exact ne b u q
      · exact ne c _ z
    · rcases hc with z | z
      · rw [z]; exact nit b u q
      · exact nit c _ z
theorem turn_enum {P : Program} {w : World} {K : PySem.W.Frag} {elts : List Expr} {x1 : Nat} {pos : Pos} (a e it : Addr) (hei : e ≠ it) : Turn P w K (.Tuple elts x1 pos) (Ite K a) [e, it] e (fun i h => (∃ old, IsEnum h e it i old) ∧ h.IsListIter it a i) where
  mem := by simp
  obj := fun i h st b hb => by
    obtain ⟨⟨old, he⟩, o, e1, c, d⟩ := st
    rcases List.mem_cons.mp hb with z | z
    · subst z; exact ⟨_, he, fun v z => by cases z⟩
    · rw [List.mem_singleton.mp z]; exact ⟨o, e1, fun v z => by rw [d] at z; cases z⟩
  keep := fun i h h' st k => by
    obtain ⟨⟨old, he⟩, hit⟩ := st
    exact ⟨⟨old, k e (by simp) _ he⟩, hit.at fun o q => k it (by simp) o q⟩
  item := by
    intro X hP hw hK hc i pins s σ H E I hf st hg
    subst hP hw hK
    obtain ⟨⟨old, he⟩, hit⟩ := st
    obtain ⟨xs, x, hq, hx⟩ := hg
    obtain ⟨its, rv, p, hz⟩ := I.list hq
    obtain ⟨u, hu, ru⟩ := rv.get hx
    refine wpAny_pyNext_enum_item he hit p.isList (x := u) (by simpa using hu) hei fun h' ho hit' hT hsz hk => ?_
    refine ⟨_, rfl, ?_⟩
    refine wpAny_letOwnedTupleGo_enum ho fun h2 he2 hs2 => ?_
    have hfr : H s.heap.objs.size = none := I.hok.fresh (Nat.le_refl _)
    have helt : e < s.heap.objs.size := Heap.lt_size he
    have hilt : it < s.heap.objs.size := by obtain ⟨_, z, _⟩ := hit; exact Heap.lt_size z
    have hL := Heap.get?_push_size s.heap (o := { cls := .type "tuple", data := .seq #[.int i s.toks, u] }) rfl
    have I1 : Inv X pins σ (upd H s.heap.objs.size (.tup [.int i, x])) { s with heap := s.heap.push { cls := .type "tuple", data := .seq #[.int i s.toks, u] }, toks := s.toks + 1 } :=
      I.laid (t' := s.toks + 1) (fun b o q => Heap.get?_push_of_some _ q) (Nat.le_refl _) ⟨by simp only [List.length_cons, List.length_nil]; decide, [.int i s.toks, u], .cons ⟨_, rfl⟩ (.cons ru .nil), ⟨_, hL, rfl, _, rfl⟩⟩
    have up : ∀ b, b < s.heap.objs.size → upd H s.heap.objs.size (.tup [.int i, x]) b = H b := fun b hb => upd_ne (Nat.ne_of_lt hb)
    have fp : ∀ b, b < s.heap.objs.size → FpOk X pins H b → FpOk X pins (upd H s.heap.objs.size (.tup [.int i, x])) b := fun b hb ⟨c0, c1, c2, c3, c4, c5⟩ => ⟨by rw [up b hb]; exact c0, c1, c2, c3, c4, c5⟩
    have I2 : Inv X pins σ (upd H s.heap.objs.size (.tup [.int i, x])) { s with heap := h2, toks := s.toks + 1 } := by
      refine I1.turned2 (h' := h2) (t' := s.toks + 1) (fun b o h1 h3 q => ?_) (fp e helt (hf e (by simp))) (fp it hilt (hf it (by simp)))
      rw [hs2.2 b h1]
      by_cases z : b = s.heap.objs.size
      · subst z
        have q' : (s.heap.push { cls := .type "tuple", data := .seq #[.int i s.toks, u] }).get? s.heap.objs.size = some o := q
        rw [hL] at q'; rw [← q']; exact hT
      · have q' : s.heap.get? b = some o := by
          have q2 : (s.heap.push { cls := .type "tuple", data := .seq #[.int i s.toks, u] }).get? b = some o := q
          rw [Heap.get?_push_ne _ _ _ z] at q2; exact q2
        exact hk b o h1 h3 q'
    exact ⟨.ref s.heap.objs.size, _, I2, rfl, ⟨s.heap.objs.size, x, hfr, fun ys hy => by rw [I.list_inj hy hq]; exact hx, rfl, rfl⟩, ⟨⟨_, by simpa using he2⟩, hit'.at fun o y => (hs2.2 it hei.symm).trans y⟩, fun b hb => by
      have hb' : b < s.heap.objs.size := by
        rcases List.mem_cons.mp hb with z | z
        · rw [z]; exact helt
        · rw [List.mem_singleton.mp z]; exact hilt
      rw [up b hb']; exact (hf b hb).1⟩
  done := by
    intro X hP hw hK hc i pins s σ H E I hf st hg
    subst hP hw hK
    obtain ⟨⟨old, he⟩, hit⟩ := st
    obtain ⟨xs, hq, hx⟩ := hg
    obtain ⟨its, rv, p, hz⟩ := I.list hq
    have hl := rv.length
    exact wpAny_pyNext_enum_end (I.ok.hd hc) he hit p.isList (by simp; omega) fun h' hk => ⟨rfl, I.turned2 (t' := s.toks) (fun b o h1 h3 q => hk b o h3 q) (hf e (by simp)) (hf it (by simp))⟩
  self := fun _ _ _ _ _ st h => by
    obtain ⟨⟨old, he⟩, _⟩ := st
    exact wpAny_pyIter_enum he h
theorem boot_enumerateT : bootBuiltins "enumerate" = some (.type "enumerate") := by decide +kernel
theorem pi_enum {a : Expr} {ta : TA} {p pos : Pos} {elts : List Expr} {x1 : Nat} {tpos : Pos} (hg : Gl X "enumerate") (hm : X.mg "enumerate" = none) (ha : PA X [a] ta) (hs : starEach [a] X.env = [(false, eval a X.env)] := by rfl) : PI X (.Tuple elts x1 tpos) (.Call (.Name "enumerate" p) [a] [] pos) (iEnum X.K ta) := by
  intro pins s σ H R I h
  refine Call_ (ld_blt I hg hm boot_enumerateT (PyProof.Rows.callWith_type1 (thn (ha pos pins s σ H _ I h) fun us s1 ⟨vs, H1, I1, r1, q1⟩ => ?_) hs rfl))
  obtain ⟨l, e, ⟨xs, hq⟩, q⟩ := q1
  subst e
  cases r1 with
  | cons r rr =>
    cases rr
    cases r
    obtain ⟨its, rv, pl, hz⟩ := I1.list hq
    refine call_enumerate_list pl.isList fun h' he hit hsz hk => ?_
    refine wpAny_pyIter_enum he ?_
    have I2 := I1.kept (t' := s1.toks) hk
    refine ⟨s1.heap.objs.size + 1, [s1.heap.objs.size + 1, s1.heap.objs.size], _, _, H1, rfl, I2, turn_enum l _ _ (Nat.succ_ne_self _), ⟨⟨_, he⟩, hit⟩, fun b hb => ?_, q⟩
    have hb' : s1.heap.objs.size ≤ b := by
      rcases List.mem_cons.mp hb with z | z
      · rw [z]; exact Nat.le_succ _
      · rw [List.mem_singleton.mp z]; exact Nat.le_refl _
    exact I1.fpOk hb' (I1.hok.fresh hb')
theorem pe_fldK {K : PySem.W.Frag} {e : Expr} {ta : TE} {f : Str} {pos : Pos} (hK : X.K = K) (he : PE X e ta) (hb : attributeBase e f X.env (eval e X.env) = eval e X.env) : PE X (.Attribute e f pos) (tFld K ta f) := hK ▸ pe_fld he hb
end
end L2
namespace L2
open PySem PySem.Spec PyProof.Rows PySem.W
section
variable {prog : Program} {w : World} {A : Around} {E : Value → Shared → Prop} {s : Shared}
theorem nolen_lri : typeLookup (.type "list_reverseiterator") "__len__" = pure none := by rw [typeLookup_type, builtinLookup_eq_fast]; kernel_rfl
theorem hint_lri : typeLookup (.type "list_reverseiterator") "__length_hint__" = pure (some (.builtin "list_reverseiterator.__length_hint__")) := by rw [typeLookup_type, builtinLookup_eq_fast]; kernel_rfl
theorem wpAny_hint_rev {I l : Addr} {i : Int} {Q : Bool → Shared → Prop} (hit : s.heap.IsRevIter I l i) (h : Q false s) : wpAny (model prog w) A (Builtin.List.listLengthHint (.ref I)) Q E s := by
  unfold Builtin.List.listLengthHint
  refine wpAny_bind (wpAny_specialOf hit.typeIs nolen_lri ?_)
  show wpAny _ A (specialOf (Value.ref I) (Str.ofString "__length_hint__") >>= _) _ _ _
  refine wpAny_bind (wpAny_specialOf hit.typeIs hint_lri ?_)
  generalize hid : ("list_reverseiterator.__length_hint__" : String) = id0
  wp_delta
  rw [show splitId id0 = some ("list_reverseiterator", "__length_hint__") from by subst hid; decide +kernel]
  subst hid
  refine wpAny_bind (wpAny_isInstance (b := true) hit.typeIs (by rw [isSubtype_type]; kernel_rfl) ?_)
  exact wpAny_pure h
theorem wpAny_extend_rev {R : Result → Shared → Prop} {I l : Addr} {items : Array Value} (hh : A.handled = none) (hit : s.heap.IsRevIter I l ((items.size : Int) - 1)) (hl : s.heap.IsList l items) (hlI : l ≠ I) (hsz : items.size ≤ sizeLine) (S : Addr) (res : Value) (c₀ : Nat)
    (hS : s.heap.get? S = some { cls := .type "list", data := .seq #[] c₀ }) (hSI : S ≠ I) (hSl : S ≠ l)
    (hR : ∀ h' tk acc' c', (∀ b o, b ≠ S → b ≠ I → s.heap.get? b = some o → h'.get? b = some o) → h'.get? S = some { cls := .type "list", dict := none, data := .seq acc' c', slots := #[] } →
      ItemsOf (fun i v => items[items.size - 1 - i]? = some v) acc' items.size → R (.ok (.ret res)) { s with heap := h', toks := tk }) :
    wpAny (model prog w) A.in1 (Builtin.List.listExtendWith (.ref S) (.ref I) res)
      (fun fin s' => match fin with | .done f => R (.ok f) s' | .again c' => c'.quiet = true ∧ codeAny (model prog w) A c' R s') (fun e s' => R (.error e) s') s := by
  have W := (Walks.listRev (prog := prog) (w := w) (A := A.in1) hh I l hlI items).toS
  have hSf : S ∉ [I, l] := fun hm => by
    rcases List.mem_cons.mp hm with z | z
    · exact hSI z
    · exact hSl (List.mem_singleton.mp z)
  unfold Builtin.List.listExtendWith
  refine wpAny_bind (wpAny_typeOf hit.typeIs ?_)
  have h1 : Builtin.List.listSameRef (.ref S) (.ref I) = false := by simp [Builtin.List.listSameRef, hSI]
  have h2 : (Value.type "list_reverseiterator" == Value.type "list") = false := by decide
  have h3 : (Value.type "list_reverseiterator" == Value.type "tuple") = false := by decide
  simp only [h1, h2, h3, Bool.or_false, Bool.false_eq_true, if_false]
  refine wpAny_bind (wpAny_pyIter_revIter hit ?_)
  refine wpAny_bind (wpAny_holding (wpAny_hint_rev hit ?_))
  refine wpAny_ite_split (fun hab => absurd hab (by decide)) (fun _ => wpAny_pure ⟨plainId_quiet F.plain_extend_loop _, codeAny_extend_loopS W hsz S hSf res items.size 0 _ #[] c₀ rfl (Nat.zero_le _) ⟨Nat.zero_le _, by simpa using hit, hl⟩ hS (ItemsOf.nil _) fun s' acc' c' hm hS' hacc => ?_⟩)
  rw [Moved.eq_with hm]
  refine hR s'.heap s'.toks acc' c' (fun b o hb hbI e => hm.heap b o (fun hmem => ?_) e) hS' hacc
  rcases List.mem_cons.mp hmem with e' | hmem
  · exact hb e'
  · exact hbI (List.mem_singleton.mp hmem)
theorem call_list_rev {Q : Value → Shared → Prop} {I l : Addr} {items : Array Value} (hh : A.handled = none) (hit : s.heap.IsRevIter I l ((items.size : Int) - 1)) (hl : s.heap.IsList l items) (hlI : l ≠ I) (hsz : items.size ≤ sizeLine)
    (hQ : ∀ h' tk acc' c', (∀ b o, b ≠ I → s.heap.get? b = some o → h'.get? b = some o) →
      h'.get? s.heap.objs.size = some { cls := .type "list", dict := none, data := .seq acc' c', slots := #[] } → ItemsOf (fun i v => items[items.size - 1 - i]? = some v) acc' items.size → Q (.ref s.heap.objs.size) { s with heap := h', toks := tk }) :
    wpAny (model prog w) A (call (.type "list") [.ref I]) Q E s := by
  refine callType_codes (Q₁ := fun obj s₁ => obj = .ref s.heap.objs.size ∧ s₁ = { s with heap := s.heap.push { cls := .type "list", data := .seq #[] } }) F.called_list (F.typeCall_list_1 _) F.entry_list_init
    (code_list_new _ ⟨rfl, rfl⟩) fun obj s₁ h₁ => ?_
  obtain ⟨rfl, rfl⟩ := h₁
  have hS : (s.heap.push { cls := .type "list", data := .seq #[] }).get? s.heap.objs.size = some { cls := .type "list", data := .seq #[] } := Heap.get?_push_size _ rfl
  have hIlt : I < s.heap.objs.size := by obtain ⟨_, z, _⟩ := hit; exact Heap.lt_size z
  have hllt : l < s.heap.objs.size := by obtain ⟨_, z, _⟩ := hl; exact Heap.lt_size z
  refine ⟨⟨_, hS, rfl⟩, F.args_list_init_2 _ _, ?_⟩
  show wpAny _ _ (do let old ← Builtin.List.listItems (.ref s.heap.objs.size); Builtin.List.listUpdate (.ref s.heap.objs.size) (fun _ => #[]); letGo old.toList.reverse; Builtin.List.listExtendWith (.ref s.heap.objs.size) (.ref I) .none) _ _ _
  refine wpAny_bind ?_
  unfold Builtin.List.listItems
  refine wpAny_bind (wpAny_seqItems hS rfl (wpAny_pure ?_))
  show wpAny _ _ (updateSeq s.heap.objs.size (fun _ => #[]) >>= fun _ => letGo (#[] : Array Value).toList.reverse >>= fun _ => Builtin.List.listExtendWith (.ref s.heap.objs.size) (.ref I) .none) _ _ _
  refine wpAny_bind (wpAny_updateSeq hS rfl ?_)
  have hS₂ := Heap.get?_update_self (Obj.mapSeq (fun _ => (#[] : Array Value))) hS rfl
  have oth : ∀ b o, b ≠ s.heap.objs.size → s.heap.get? b = some o → ((s.heap.push { cls := .type "list", data := .seq #[] }).update s.heap.objs.size (Obj.mapSeq (fun _ => (#[] : Array Value)))).get? b = some o :=
    fun b o hb e => (Heap.get?_update_other _ _ (Ne.symm hb)).trans (Heap.get?_push_of_some _ e)
  refine wpAny_bind (wpAny_letGo ?_)
  refine wpAny_extend_rev (A := A.in1) hh (hit.at fun o e => oth I o (Nat.ne_of_lt hIlt) e) (hl.at fun o e => oth l o (Nat.ne_of_lt hllt) e) hlI hsz s.heap.objs.size .none _ hS₂ (Nat.ne_of_gt hIlt) (Nat.ne_of_gt hllt) fun h' tk acc' c' hk hS' hacc => ?_
  exact ⟨rfl, hQ h' tk acc' c' (fun b o hb e => hk b o (Nat.ne_of_lt (Heap.lt_size e)) hb (oth b o (Nat.ne_of_lt (Heap.lt_size e)) e)) hS' hacc⟩
end
section
variable {X : Cx}
theorem boot_reversedT : bootBuiltins "reversed" = some (.type "reversed") := by decide +kernel
theorem rev_items {its : List Value} {acc : Array Value} (h : ItemsOf (fun i v => its.toArray[its.toArray.size - 1 - i]? = some v) acc its.toArray.size) : acc.toList = its.reverse := by
  obtain ⟨h1, h2⟩ := h
  have h1' : acc.size = its.length := by simpa using h1
  refine List.ext_getElem? fun i => ?_
  by_cases hi : i < its.length
  · have hi' : i < acc.size := by omega
    have e : its[its.length - 1 - i]? = some acc[i] := by simpa using h2 i acc[i] (Array.getElem?_eq_getElem hi')
    rw [List.getElem?_reverse hi, e]
    simp [hi']
  · rw [List.getElem?_eq_none (by simp; omega), List.getElem?_eq_none (by simp; omega)]
theorem pe_listRev {e : Expr} {te : TE} {p1 p2 q1 q2 : Pos} (hc : X.calm = true) (hg1 : Gl X "list") (hm1 : X.mg "list" = none) (hg2 : Gl X "reversed") (hm2 : X.mg "reversed" = none) (he : PE X e te)
    (hs1 : starEach [Expr.Call (.Name "reversed" p2) [e] [] q2] X.env = [(false, eval (.Call (.Name "reversed" p2) [e] [] q2) X.env)] := by rfl) (hs2 : starEach [e] X.env = [(false, eval e X.env)] := by rfl) :
    PE X (.Call (.Name "list" p1) [.Call (.Name "reversed" p2) [e] [] q2] [] q1) (tListRev X.K te) := by
  intro pins s σ H Q I h
  refine Call_ (ld_blt I hg1 hm1 boot_listT (PyProof.Rows.callWith_type1 ?_ hs1 rfl))
  rw [hs1]
  show wpAny _ _ (spliced ((false, eval (.Call (.Name "reversed" p2) [e] [] q2) X.env) :: [])) _ _ s
  refine Calls.spliced_cons ?_
  refine Call_ (ld_blt I hg2 hm2 boot_reversedT (PyProof.Rows.callWith_type1 ?_ hs2 rfl))
  rw [hs2]
  show wpAny _ _ (spliced ((false, eval e X.env) :: [])) _ _ s
  refine Calls.spliced_cons (thn (he pins s σ H _ I h) fun u s1 ⟨x, H1, I1, r1, q1⟩ => ?_)
  refine Calls.spliced_nil ?_
  obtain ⟨a, xs, rfl, hq, q⟩ := q1
  cases r1
  obtain ⟨its, rv, pl, hz⟩ := I1.list hq
  have hl := pl.isList
  have hlt : a < s1.heap.objs.size := by obtain ⟨_, z, _⟩ := hl; exact Heap.lt_size z
  refine call_reversed_list hl ?_
  refine Calls.spliced_nil ?_
  have hlen := rv.length
  refine call_list_rev (I := s1.heap.objs.size) (l := a) (items := its.toArray) (I1.ok.hd hc) ⟨_, Heap.get?_push_size _ rfl, rfl, rfl⟩ (hl.push _) (Nat.ne_of_lt hlt) (by rw [List.size_toArray, ← hlen]; exact hz) fun h' tk acc' c' hk hS' hacc => ?_
  have hp : (s1.heap.push (revObj a ((its.toArray.size : Int) - 1))).objs.size = s1.heap.objs.size + 1 := Heap.size_push ..
  have keep : ∀ b u, s1.heap.get? b = some u → h'.get? b = some u := fun b u z => hk b u (Nat.ne_of_lt (Heap.lt_size z)) (Heap.get?_push_of_some _ z)
  have hfr : H1 (s1.heap.objs.size + 1) = none := I1.hok.fresh (Nat.le_succ _)
  have hS2 : h'.get? (s1.heap.objs.size + 1) = some { cls := .type "list", dict := none, data := .seq acc' c', slots := #[] } := by rw [← hp]; exact hS'
  have ea : acc' = its.reverse.toArray := by rw [← rev_items hacc]
  refine ⟨.ref (s1.heap.objs.size + 1), upd H1 (s1.heap.objs.size + 1) (.lst xs.reverse), I1.laid (t' := tk) keep (Nat.le_succ _) ⟨by rw [List.length_reverse]; exact hz, its.reverse, c', rv.reverse, by rw [hS2, ea]⟩, ?_, q _ hfr⟩
  show Value.ref _ = Value.ref _
  rw [← hp]
end
section
variable {X : Cx} {pins : List (Addr × Obj)} {σ : St} {H : Hp} {s : Shared} {a : Addr} {kvs : List (Key × V)} {tg : Expr}
theorem Inv.freeze (I : Inv X pins σ H s) (e : H a = some (.dK kvs)) : ∃ o, s.heap.get? a = some o ∧ Inv X pins σ (upd H a (.frz o (.dK kvs))) s := by
  obtain ⟨z, hd, vs, rel, dd⟩ := dk_of I.hok e
  obtain ⟨o, es, ep, ho, r⟩ := id dd
  exact ⟨o, ho, I.write (x := a) (e := a) (t' := s.toks) (h' := s.heap) (by rw [e]; exact True.intro) (.inl rfl) (fun b u _ q => q) ⟨o, ho⟩ ⟨ho, z, hd, vs, rel, dd⟩⟩
theorem Inv.thaw {o : Obj} (I : Inv X pins σ H s) (e : H a = some (.frz o (.dK kvs))) (hn : ∀ ob u, X.H₀ a ≠ some (.frz ob u)) : Inv X pins σ (upd H a (.dK kvs)) s := by
  have ne : ∀ b, H b = none → b ≠ a := fun b q z => by rw [z, e] at q; cases q
  refine ⟨I.ok, I.os, I.bare, ⟨I.base.keep, I.base.slot, fun b ob q n hx => ?_, I.base.there, fun b xs q => ?_, fun b ob u q => ?_, fun b ps q => ?_⟩, I.loc, I.cell, ?_, fun x c q => ?_, fun p hp => ?_, fun b u q => ?_, I.len⟩
  · have := I.base.free b ob q n hx; rw [upd_ne (ne b this)]; exact this
  · have := I.base.tups b xs q; rw [upd_ne (ne_of this e (by intro z; cases z))]; exact this
  · have := I.base.frzs b ob u q
    by_cases z : b = a
    · subst z; exact absurd q (hn _ _)
    · rw [upd_ne z]; exact this
  · obtain ⟨m, h⟩ := I.base.tbls b ps q
    exact ⟨m, by rw [upd_ne (ne_of h e (by intro z; cases z))]; exact h⟩
  · rw [upd_ne (ne _ I.free)]; exact I.free
  · rw [upd_ne (ne _ (I.freeC x c q))]; exact I.freeC x c q
  · obtain ⟨h1, h2, h3⟩ := I.pin p hp
    exact ⟨h1, by rw [upd_ne (ne _ h2)]; exact h2, h3⟩
  · have ow : ∀ c y, H c = some (.own y) → upd H a (.dK kvs) c = some (.own y) := fun c y r => by rw [upd_ne (ne_of r e (by intro z; cases z))]; exact r
    have tu : ∀ c xs, H c = some (.tup xs) → upd H a (.dK kvs) c = some (.tup xs) := fun c xs r => by rw [upd_ne (ne_of r e (by intro z; cases z))]; exact r
    by_cases z : b = a
    · subst z
      rw [upd_same] at q; cases q
      exact (show ObjOk X.prog X.w H s.heap b (.dK kvs) from (I.hok b _ e).2).stay (fun c v _ r => r) (fun c r => ow c _ r) tu
    · rw [upd_ne z] at q
      exact (I.hok b u q).stay (fun c v _ r => r) (fun c r => ow c _ r) tu
theorem pe_thaw {e : Expr} {te : TE} (he : PE X e te) : PE X e (tThaw te) := by
  intro pins s σ H Q I h
  obtain ⟨a, kvs, hH, h⟩ := h
  refine thn (he pins s σ H _ I h) fun v s1 ⟨x, H1, I1, r1, o, e1, q⟩ => ?_
  refine ⟨x, _, I1.thaw e1 (fun ob u z => ?_), r1, q⟩
  have := I.base.frzs a ob u z
  rw [hH] at this; cases this
end
structure FunD (K : PySem.W.Frag) (x qual : Str) (st : Stmt) (f : Addr) (fd : FuncData) (T : Addr) (ds : List Value) : Prop where
  ex : ∃ (oc : Value) (od : Option Addr) (kV doc pm : Value) (an : Option Addr) (cdv ct : Value) (osl : Array (Option Value)) (oT : Obj) (nT : Nat),
    fd = PySem.W.fnOf x qual (defArgs st) (defBody st) (defScope st) (.ref T) kV doc pm an cdv ct ∧ K.lookup f = some ⟨oc, od, .func fd, osl⟩ ∧ PySem.W.codeIn K cdv qual = true ∧ K.lookup T = some oT ∧ oT.data = .seq ds.toArray nT
  kp : PySem.W.keepIn K (.ref f) = true
section
variable {P : Program} {w : World} {K : PySem.W.Frag} {mg : Str → Option Value} {base : Heap}
theorem FunD.ok {x qual : Str} {st : Stmt} {f : Addr} {fd : FuncData} {T : Addr} {ds : List Value} {N ps : List Str} {k : Nat} {sp : Sp} (F : FunD K x qual st f fd T ds) (S : FnScope N ps (defScope st)) (len : ∀ vs H Q E, sp vs H Q E → vs.length = ps.length)
    (hbody : ∀ (cdv : Value) (A : Around) (outer : List Env) (s : Shared) (H : Hp) (vs : List V) (Q : VK) (E : XK), Room k (A.deeper (envOfC qual (defScope st) s.heap.objs.size f cdv)) → sp vs H Q E →
      ∃ t, PSs (cxOf CX0 P w K mg base N qual (defScope st) f cdv A outer s H E).nox (defBody st) t ∧ t { nx := fun _ H' => Q .non H', rt := Q } (start N vs) H) : FnOk P w K mg base CX0 (k + 1) f fd ps sp := by
  obtain ⟨oc, od, kV, doc, pm, an, cdv, ct, osl, oT, nT, rfl, lk, hcd, _⟩ := F.ex
  refine fn_of lk hcd S len fun A outer s H vs Q E hr hsp => ?_
  obtain ⟨t, h, q⟩ := hbody cdv A outer s H vs Q E hr hsp
  exact ⟨t, h.nox, q⟩
theorem FunD.binds {x qual : Str} {st : Stmt} {f : Addr} {fd : FuncData} {T : Addr} {ds : List Value} {ps : List Str} (es : List Value) (F : FunD K x qual st f fd T ds)
    (h : ∀ (kV doc pm : Value) (an : Option Addr) (cdv ct : Value) (us : List Value), (us ++ es).length = ps.length → ∃ k, bindArgs (PySem.W.fnOf x qual (defArgs st) (defBody st) (defScope st) (.ref T) kV doc pm an cdv ct) ⟨us, []⟩ = seqItems? (.ref T) >>= k ∧ k (some ds.toArray) = pure (ps.zip (us ++ es))) : Binds K fd ps es := by
  obtain ⟨oc, od, kV, doc, pm, an, cdv, ct, osl, oT, nT, rfl, lk, hcd, lT, hT⟩ := F.ex
  intro s us X hl
  obtain ⟨k, h1, h2⟩ := h kV doc pm an cdv ct us hl
  exact PySem.W.binds_K X rfl lT hT h1 h2
theorem fund_mk {x qual : Str} {st : Stmt} {f T : Addr} {oc : Value} {od an : Option Addr} {osl : Array (Option Value)} {kV doc pm cdv ct : Value} {oT : Obj} {nT : Nat} {ds : List Value} (l : K.lookup f = some ⟨oc, od, .func (PySem.W.fnOf x qual (defArgs st) (defBody st) (defScope st) (.ref T) kV doc pm an cdv ct), osl⟩)
    (c : PySem.W.codeIn K cdv qual = true) (k : PySem.W.keepIn K (.ref f) = true) (lT : K.lookup T = some oT) (hT : oT.data = .seq ds.toArray nT) : FunD K x qual st f (PySem.W.fnOf x qual (defArgs st) (defBody st) (defScope st) (.ref T) kV doc pm an cdv ct) T ds := ⟨⟨oc, od, kV, doc, pm, an, cdv, ct, osl, oT, nT, rfl, l, c, lT, hT⟩, k⟩
end
end L2
namespace L2
open PySem PySem.Spec PyProof.Rows PySem.W
section
variable {X : Cx} {pins : List (Addr × Obj)} {σ : St} {H : Hp} {s : Shared} {h' : Heap} {tg : Expr}
theorem Inv.turnedL {t' : Nat} (fp : List Addr) (I : Inv X pins σ H s) (k : ∀ b o, b ∉ fp → s.heap.get? b = some o → h'.get? b = some o) (f : ∀ b ∈ fp, FpOk X pins H b) : Inv X pins σ H { s with heap := h', toks := t' } := by
  have ne : ∀ b u, H b = some u → b ∉ fp := fun b u q z => by rw [(f b z).1] at q; cases q
  refine I.step (g' := s.gens) (d' := s.drawn) (ch := fp) (fun b hb => ?_) (fun b o _ _ hc q _ => k b o hc q) (fun b o _ _ hc q _ => ⟨o.slots, k b o hc q⟩) (fun _ _ _ _ n => n)
    (fun b o hc q => ⟨o, k b o hc q⟩) (fun _ _ q => q) (fun _ _ _ q => q) (fun b ps q => ⟨#[], by rw [q]; simp⟩) (fun m hm => ?_) (fun b u q => ?_) I.bare
  · obtain ⟨_, a1, _, a3, a4, a5⟩ := f b hb
    exact ⟨a3, a1, a4, a5⟩
  · obtain ⟨o, es, ep, ho, r⟩ := hm
    exact ⟨o, es, ep, k _ o (fun z => (f _ z).2.1 rfl) ho, r⟩
  · refine (I.hok b u q).stay (fun c v hc z => k c v ?_ z) (fun _ z => z) fun _ _ z => z
    rcases hc with z | z
    · rw [z]; exact ne b u q
    · exact ne c _ z
end
end L2
namespace L2
open PySem PySem.Spec PyProof.Rows PySem.W
section
variable {X : Cx} {pins : List (Addr × Obj)} {σ : St} {H : Hp} {s : Shared} {a : Addr} {kvs : List (Key × V)} {k : Key} {u : Value} {A : Around} {E : Value → Shared → Prop}
theorem d_setd {z : V} {r : Value} {Q : Value → Shared → Prop} (I : Inv X pins σ H s) (e : H a = some (.dK kvs)) (ry : RelV (kV k) u) (rz : RelV z r) (hz : kvs.length < sizeLine)
    (h1 : ∀ v w' s', valV kvs k = some v → Inv X pins σ H s' → RelV v w' → Q w' s') (h2 : valV kvs k = none → ∀ s', Inv X pins σ (upd H a (.dK (putK kvs k z))) s' → Q r s') :
    wpAny (model X.prog X.w) A (call (.builtin "dict.setdefault") [.ref a, u, r]) Q E s := by
  obtain ⟨z0, hd, vs, rel, dd⟩ := dk_of I.hok e
  refine call_meetsIn PySem.F.slot_dict_setdefault dd.typeIs PySem.F.entry_dict_setdefault (PySem.F.args_dict_setdefault_3 _ _ _) (kt_meets_setdefault (mixKind X.prog X.w) a (kV_is ry) hd r) ⟨vs, dd, by rw [← rel.length]; exact z0, fun v hv => ?_, fun hn h' dd' hs => ?_⟩
  · cases l : valV kvs k with
    | none =>
      have := RelO.none_of (o := valueAt vs k) (by rw [← l]; exact rel.val k)
      rw [this] at hv; cases hv
    | some x =>
      obtain ⟨w', hw, rw'⟩ := RelO.some_of (v := x) (o := valueAt vs k) (by rw [← l]; exact rel.val k)
      rw [hw] at hv; cases hv
      exact h1 x _ _ l (I.tok _) rw'
  · have l : valV kvs k = none := by
      cases l : valV kvs k with
      | none => rfl
      | some x =>
        obtain ⟨w', hw, _⟩ := RelO.some_of (v := x) (o := valueAt vs k) (by rw [← l]; exact rel.val k)
        rw [hw] at hn; cases hn
    refine h2 l _ ?_
    have he : ∃ q, h'.get? a = some q := let ⟨q, _, _, hq, _⟩ := dd'; ⟨q, hq⟩
    exact d_write I (by rw [e]; exact True.intro) hs he (dk_new (by have := length_putK kvs k z; omega) hd (rel.put k rz) dd')
end
def tDSetd (td ty tx : TE) : TE := fun σ H Q => td σ H fun x H1 => ∃ a, x = .ref a ∧ IsD H1 a ∧ ty σ H1 fun y H2 => tx σ H2 fun z H3 => ∃ kvs k, H3 a = some (.dK kvs) ∧ y = kV k ∧ kvs.length < sizeLine ∧
  (∀ v, valV kvs k = some v → Q v H3) ∧ (valV kvs k = none → Q z (upd H3 a (.dK (putK kvs k z))))
section
variable {X : Cx} {o e f : Expr} {apos cpos : Pos} {td ty tx : TE}
theorem pe_dsetd (ho : PE X o td) (he : PE X e ty) (hf : PE X f tx) (m : M2 X o "setdefault" apos e f cpos) : PE X (.Call (.Attribute o "setdefault" apos) [e, f] [] cpos) (tDSetd td ty tx) := by
  intro pins s σ H Q I h
  refine wpAny_Call_method m.base m.few m.line PySem.F.plainAttrs_dict PySem.F.slot_dict_setdefault PySem.F.type_dict_setdefault (thn (ho pins s σ H _ I h) fun u s1 ⟨x, H1, I1, rx, a, ex, d, q1⟩ => ?_)
  subst ex
  obtain rfl : u = Value.ref a := rx
  obtain ⟨t1, t2, _⟩ := isD_at I1 d
  refine ⟨t1, t2, ?_⟩
  rw [m.trees]
  refine Calls.callWith_builtin rfl (Calls.evalArgs_plain (Calls.spliced_cons (thn (he pins s1 σ H1 _ I1 q1) fun iv s2 ⟨y, H2, I2, ry, q2⟩ =>
    Calls.spliced_cons (thn (hf pins s2 σ H2 _ I2 q2) fun fv s3 ⟨z, H3, I3, rz, kvs, k, hH, ey, hz, q3, q4⟩ => Calls.spliced_nil ?_))))
  subst ey
  exact d_setd I3 hH ry rz hz (fun v w' s' l I' r' => ⟨v, H3, I', r', q3 v l⟩) (fun l s' I' => ⟨z, _, I', rz, q4 l⟩)
end
section
variable {α β : Type}
def TOk (n : Nat) (P : α → Prop) : KasT α → Prop
  | .ret a => P a
  | .ask i j k => i < n ∧ j < n ∧ ∀ b, TOk n P (k b)
def kRun (lt : Nat → Nat → Bool) : KasT α → α
  | .ret a => a
  | .ask i j k => kRun lt (k (lt i j))
theorem TOk.run {n : Nat} {P : α → Prop} {lt : Nat → Nat → Bool} : ∀ {t : KasT α}, TOk n P t → P (kRun lt t)
  | .ret _, h => h
  | .ask i j k, h => show P (kRun lt (k (lt i j))) from TOk.run (h.2.2 (lt i j))
theorem TOk.wp {n : Nat} {P : α → Prop} {lt : Nat → Nat → Bool} {cmp : Nat → Nat → (Bool → Shared → Prop) → Shared → Prop} {Q : α → Shared → Prop} {s : Shared} (hc : ∀ i j C, i < n → j < n → C (lt i j) s → cmp i j C s) : ∀ {t : KasT α}, TOk n P t → Q (kRun lt t) s → t.kasWp cmp Q s
  | .ret _, _, q => q
  | .ask i j k, h, q => hc i j _ h.1 h.2.1 (TOk.wp hc (h.2.2 _) q)
theorem TOk.bind {n : Nat} {P : α → Prop} {R : β → Prop} {f : α → KasT β} (hf : ∀ a, P a → TOk n R (f a)) : ∀ {t : KasT α}, TOk n P t → TOk n R (t.bind f)
  | .ret _, h => hf _ h
  | .ask i j k, h => ⟨h.1, h.2.1, fun b => TOk.bind hf (h.2.2 b)⟩
end
def PermN (n : Nat) (p : Array Nat) : Prop := p.Perm (List.toArray (List.range n))
theorem PermN.list {n : Nat} {p : Array Nat} (h : PermN n p) : p.toList.Perm (List.range n) := Array.perm_iff_toList_perm.mp h
theorem PermN.lt {n : Nat} {p : Array Nat} (h : PermN n p) (hn : 0 < n) (i : Nat) : p.getD i 0 < n := by
  by_cases hi : i < p.size
  · have h1 : p[i] ∈ List.range n := h.list.mem_iff.mp (by simp)
    have e : p.getD i 0 = p[i] := by simp [Array.getD, hi]
    rw [e]; exact List.mem_range.mp h1
  · have e : p.getD i 0 = 0 := by simp [Array.getD, hi]
    rw [e]; exact hn
theorem PermN.rev {n : Nat} {p : Array Nat} (h : PermN n p) (i j : Nat) : PermN n (kas_rev p i j) := (mirror_perm _ _ _ _).trans h
theorem PermN.bub {n : Nat} {p : Array Nat} (h : PermN n p) (i j : Nat) : PermN n (bubble p i j) := (bubble_perm _ _ _).trans h
section
variable {n : Nat} (hn : 0 < n)
include hn
theorem ok_asc {p : Array Nat} (hp : PermN n p) : ∀ f m, TOk n (fun _ => True) (kas_asc p f m)
  | 0, m => trivial
  | f + 1, m => ⟨hp.lt hn _, hp.lt hn _, fun b => by
      show TOk n _ (if b = true then _ else _)
      split
      · exact trivial
      · exact ok_asc hp f (m + 1)⟩
theorem ok_desc : ∀ f (p : Array Nat) m q, PermN n p → TOk n (fun r => PermN n r.1) (kas_desc f p m q)
  | 0, p, m, q, hp => hp
  | f + 1, p, m, q, hp => ⟨hp.lt hn _, hp.lt hn _, fun b => by
      show TOk n _ (if b = true then _ else _)
      split
      · split
        · exact ok_desc f _ _ _ (hp.rev _ _)
        · exact ok_desc f _ _ _ hp
      · refine ⟨hp.lt hn _, hp.lt hn _, fun d => ?_⟩
        show TOk n _ (if d = true then _ else _)
        split
        · exact hp
        · exact ok_desc f _ _ _ hp⟩
theorem ok_tail3 {p : Array Nat} (hp : PermN n p) (m r : Nat) : TOk n (fun r => PermN n r.2) (kas_tail3 m r p) := by
  unfold kas_tail3
  refine TOk.bind (P := fun _ => True) (fun k _ => ?_) (ok_asc hn (hp.rev _ _) _ _)
  exact hp.rev 0 m
theorem ok_descPart {p : Array Nat} (hp : PermN n p) (m r : Nat) : TOk n (fun r => PermN n r.2) (kas_descPart m r p) := TOk.bind (fun a ha => by
  split
  · exact ok_tail3 hn (PermN.rev ha _ _) _ _
  · exact ok_tail3 hn ha _ _) (ok_desc hn _ _ _ _ hp)
theorem ok_count {p : Array Nat} (hp : PermN n p) (r : Nat) : TOk n (fun r => PermN n r.2) (kas_count r p) := TOk.bind (fun a _ => by
  split
  · exact hp
  · split
    · refine ⟨hp.lt hn _, hp.lt hn _, fun b => ?_⟩
      show TOk n _ (if b = true then _ else _)
      split
      · exact hp
      · exact ok_descPart hn (hp.rev _ _) _ _
    · exact ok_descPart hn hp _ _) (ok_asc hn hp _ _)
theorem ok_place {p : Array Nat} (hp : PermN n p) (k : Nat) : ∀ f l r, TOk n (fun _ => True) (kas_place p k f l r)
  | 0, l, r => trivial
  | f + 1, l, r => by
    show TOk n _ (if l ≥ r then _ else _)
    split
    · exact trivial
    · refine ⟨hp.lt hn _, hp.lt hn _, fun b => ?_⟩
      show TOk n _ (if b = true then _ else _)
      split
      · exact ok_place hp k f _ _
      · exact ok_place hp k f _ _
theorem ok_bin : ∀ f (p : Array Nat) k, PermN n p → TOk n (PermN n) (kas_bin f p k)
  | 0, p, k, hp => hp
  | f + 1, p, k, hp => TOk.bind (fun l _ => ok_bin f _ _ (hp.bub _ _)) (ok_place hn hp k _ _ _)
theorem ok_sort : TOk n (PermN n) (kas_sort n) := TOk.bind (fun r hr => by
  split
  · exact ok_bin hn _ _ _ hr
  · exact hr) (ok_count hn (Array.Perm.refl _) n)
end
theorem range_getD (vs : List Value) : (List.range vs.length).map (fun i => vs.getD i Value.none) = vs := by
  refine List.ext_getElem (by simp) fun i h1 h2 => ?_
  simp [h2]
section
variable {prog : Program} {w : World} {A : Around} {E : Value → Shared → Prop} {s : Shared}
theorem list_sort_asked {a : Addr} {vs : List Value} {n : Nat} {P : PySem.Fin → Shared → Prop} (ho : s.heap.get? a = some (seqObj "list" vs.toArray n)) (h64 : vs.length < 64) (lt : Nat → Nat → Bool) (κ : SortKind)
    (hk : 2 ≤ vs.length → ∀ h', (∀ b o, b ≠ a → s.heap.get? b = some o → h'.get? b = some o) → ∀ Q : SortKind → Shared → Prop, Q κ { s with heap := h' } → wpAny (model prog w) A (keyKind' vs.toArray) Q (fun _ _ => False) { s with heap := h' })
    (hask : ∀ h', (∀ b o, b ≠ a → s.heap.get? b = some o → h'.get? b = some o) → ∀ i j C, i < vs.length → j < vs.length → C (lt i j) { s with heap := h' } → kas_ask prog w A κ vs i j C { s with heap := h' })
    (h : ∀ p : Array Nat, PermN vs.length p → (2 ≤ vs.length → p = kRun lt (kas_sort vs.length)) → P (.done (.ret .none)) { s with heap := sortedHeap s.heap a vs (List.toArray (p.toList.map fun i => vs.getD i Value.none)) }) :
    wpAny (model prog w) A (Builtin.«list.sort» ⟨[.ref a], []⟩) P E s := by
  rw [list_sort_plain]
  have ha : a < s.heap.objs.size := Heap.lt_size ho
  refine wpAny_bind (listItems_at ho rfl ?_)
  refine wpAny_bind (listUpdate_at ho rfl ?_ (by rw [List.size_toArray, sizeLine_eq]; omega) (Nat.zero_le _))
  obtain ⟨e1, ho1⟩ : ∃ e1, (s.heap.update a (Obj.mapSeq fun _ => #[])).get? a = some (seqObj "list" #[] e1) := ⟨_, get?_update_seq ho (fun _ => #[])⟩
  refine wpAny_bind (seqEpoch_at ho1 rfl ?_)
  refine wpAny_bind (wpAny_newTuple ?_ (by show vs.length ≤ _; rw [sizeLine_eq]; omega))
  refine wpAny_bind (wpAny_newList ?_ (Nat.zero_le _))
  refine wpAny_holding ?_
  have ho6 : (((s.heap.update a (Obj.mapSeq fun _ => #[])).push (seqObj "tuple" vs.toArray 0)).push (seqObj "list" #[] 0)).get? a = some (seqObj "list" #[] e1) := by
    rw [Heap.get?_push_ne _ _ _ (by rw [size_push', Heap.size_update]; exact Nat.ne_of_lt (Nat.lt_succ_of_lt ha)), Heap.get?_push_ne _ _ _ (by rw [Heap.size_update]; exact Nat.ne_of_lt ha)]
    exact ho1
  have keep : ∀ b o, b ≠ a → s.heap.get? b = some o → (((s.heap.update a (Obj.mapSeq fun _ => (#[] : Array Value))).push (seqObj "tuple" vs.toArray 0)).push (seqObj "list" #[] 0)).get? b = some o := fun b o hb e => by
    refine Heap.get?_push_of_some _ (Heap.get?_push_of_some _ ?_)
    rw [Heap.get?_update_ne _ _ _ _ hb]; exact e
  show wpAny (model prog w) A _ P E { s with heap := ((s.heap.update a (Obj.mapSeq fun _ => (#[] : Array Value))).push (seqObj "tuple" vs.toArray 0)).push (seqObj "list" #[] 0) }
  dsimp only
  by_cases h2 : vs.toArray.size < 2
  · rw [if_pos h2, if_pos h2]
    refine wpAny_bind (wpAny_pure ?_)
    rw [StateT.run_pure]
    refine wpAny_bind (wpAny_pure ?_)
    dsimp only
    refine wpAny_bind (seqEpoch_at ho6 rfl ?_)
    have hz : ((arrOf (SortSt.mk' general' (vs.toArray.zip vs.toArray) #[] 7 none)).map (·.2)) = List.toArray ((List.toArray (List.range vs.length)).toList.map fun i => vs.getD i Value.none) := by
      have e := range_getD vs
      show ((vs.toArray.zip vs.toArray).map (·.2)) = List.toArray ((List.range vs.length).map fun i => vs.getD i Value.none)
      rw [e]
      apply Array.toList_inj.mp
      simp
      exact List.map_snd_zip (Nat.le_refl _)
    rw [hz]
    refine wpAny_bind (listUpdate_at ho6 rfl ?_ (Nat.zero_le _) (by simp only [List.size_toArray, List.length_map, List.length_range]; rw [sizeLine_eq]; omega))
    simp only [bne_self_eq_false, Bool.false_eq_true, if_false]
    exact wpAny_pure (h (List.toArray (List.range vs.length)) (Array.Perm.refl _) (fun z => by rw [List.size_toArray] at h2; omega))
  · rw [if_neg h2, if_neg h2]
    rw [List.size_toArray] at h2
    have h2' : 2 ≤ vs.length := by omega
    refine wpAny_bind (wpAny_mono (hk h2' _ keep (fun κ' s0 => κ' = κ ∧ s0 = { s with heap := ((s.heap.update a (Obj.mapSeq fun _ => (#[] : Array Value))).push (seqObj "tuple" vs.toArray 0)).push (seqObj "list" #[] 0) }) ⟨rfl, rfl⟩) (fun κ' s0 hk' => ?_) fun _ _ x => x.elim)
    obtain ⟨rfl, rfl⟩ := hk'
    have hok := ok_sort (n := vs.length) (by omega)
    refine wpAny_bind (wpAny_mono (kat_run (Q := fun st' s' => ∃ p : Array Nat, p.size = vs.length ∧ arrOf st' = p.map (kas_item (vs.toArray.zip vs.toArray)) ∧ failedOf st' = none ∧ p = kRun lt (kas_sort vs.length) ∧ s' = { s with heap := ((s.heap.update a (Obj.mapSeq fun _ => (#[] : Array Value))).push (seqObj "tuple" vs.toArray 0)).push (seqObj "list" #[] 0) })
      (G := fun p s' => p = kRun lt (kas_sort vs.length) ∧ s' = { s with heap := ((s.heap.update a (Obj.mapSeq fun _ => (#[] : Array Value))).push (seqObj "tuple" vs.toArray 0)).push (seqObj "list" #[] 0) })
      rfl h2' h64 (fun p' st' s' a1 a2 a3 a4 => ⟨p', a1, a2, a3, a4.1, a4.2⟩) (TOk.wp (lt := lt) (fun i j C hi hj hC => hask _ keep i j C hi hj hC) hok ⟨rfl, rfl⟩)) ?_ fun _ _ e => e)
    rintro ⟨⟨⟩, st'⟩ s' ⟨p, hp, har, hf, hpe, rfl⟩
    dsimp only
    have hP : PermN vs.length p := by rw [hpe]; exact hok.run
    refine wpAny_bind (seqEpoch_at ho6 rfl ?_)
    rw [kat_snds rfl har]
    refine wpAny_bind (listUpdate_at ho6 rfl ?_ (Nat.zero_le _) (by simp only [List.size_toArray, List.length_map, Array.length_toList]; rw [sizeLine_eq]; omega))
    rw [hf]
    simp only [bne_self_eq_false, Bool.false_eq_true, if_false]
    exact wpAny_pure (h p hP fun _ => hpe)
end
def rSortS (K : PySem.W.Frag) : List V → Hp → VK → Prop := fun xs H Q => ∃ (p : Addr) (ss : List Str), xs = [.ref p] ∧ SqL K H p (ss.map V.str) ∧ ss.length < 64 ∧ ∀ l ss', H l = none → ss'.Perm ss → sortedS ss' = true → Q (.ref l) (upd H l (.lst (ss'.map V.str)))
def rSortD : List V → Hp → VK → Prop := fun xs H Q => ∃ (p : Addr) (kvs : List (Key × V)) (ss : List Str), xs = [.ref p] ∧ Rd H p (.dK kvs) ∧ kvs.map (·.1) = ss.map Sum.inr ∧ ss.length < 64 ∧ ∀ l ss', H l = none → ss'.Perm ss → sortedS ss' = true → Q (.ref l) (upd H l (.lst (ss'.map V.str)))
theorem strsAre_of : ∀ {ss : List Str} {its : List Value}, Vals (ss.map V.str) its → StrsAre its ss
  | [], _, r => by cases r; exact .nil
  | x :: ss, _, r => by
    cases r with
    | cons h t => obtain ⟨t0, rfl⟩ := h; exact .cons _ _ (strsAre_of t)
theorem strs_vals {ss : List Str} {its : List Value} (h : StrsAre its ss) : Vals (ss.map V.str) its := by
  induction h with
  | nil => exact .nil
  | cons x t h ih => exact .cons ⟨t, rfl⟩ ih
section
variable {X : Cx}
theorem call_sortS : CallR X (.builtin "sorted") (rSortS X.K) := by
  intro pins s σ H xs us Q I r h
  obtain ⟨p, ss, rfl, hq, h64, q⟩ := h
  obtain ⟨u, rfl, ru⟩ := vals1 r
  cases ru
  obtain ⟨its, rv, pl, hz⟩ := I.list hq
  have hn := rv.length
  rw [List.length_map] at hn
  refine sorted_strs pl.isList (strsAre_of rv) (by omega) fun out ss' a1 a2 a3 => ?_
  obtain ⟨e, he⟩ := sortedAll_at s.heap its out
  have hl : ss'.length < 64 := by rw [a2.length_eq]; exact h64
  have I1 := I.laid (a := s.heap.objs.size + 1) (o := .lst (ss'.map V.str)) (h' := sortedAll s.heap its out) (t' := s.toks) (fun _ _ q => sortedAll_old q) (Nat.le_succ _) ⟨by rw [List.length_map, sizeLine_eq]; omega, out.toList, e, strs_vals a1, he⟩
  exact ⟨.ref (s.heap.objs.size + 1), _, I1, rfl, q _ _ (I.hok.fresh (Nat.le_succ _)) a2 a3⟩
theorem key_str {P : Program} {w : World} {z : Str} {v : Value} (h : (mixKind P w).is (Sum.inr z) v = true) : ∃ t, v = .str z t := Value.isStrOf_shape h
theorem key_rel {P : Program} {w : World} {k : Key} {v : Value} (h : (mixKind P w).is k v = true) : RelV (kV k) v := by
  cases k with
  | inl i => obtain ⟨t, e⟩ := Value.isInt_shape (k := i) (v := v) h; exact ⟨t, e⟩
  | inr x => obtain ⟨t, e⟩ := Value.isStrOf_shape (x := x) (v := v) h; exact ⟨t, e⟩
theorem strsAre_at : ∀ {its : List Value} {ss : List Str}, its.length = ss.length → (∀ (j : Nat) v, its[j]? = some v → ∃ z t, ss[j]? = some z ∧ v = .str z t) → StrsAre its ss
  | [], [], _, _ => .nil
  | [], _ :: _, h, _ => by simp at h
  | _ :: _, [], h, _ => by simp at h
  | v :: its, z :: ss, h, hv => by
    obtain ⟨z', t, e1, e2⟩ := hv 0 v rfl
    cases e1
    rw [e2]
    exact .cons _ _ (strsAre_at (by simpa using h) fun j u e => by
      obtain ⟨a, b, c, d⟩ := hv (j + 1) u (by simpa using e)
      exact ⟨a, b, by simpa using c, d⟩)
theorem kv_key : ∀ {r : List (Key × V)} {rs : List (Key × Value)}, KV r rs → ∀ {i : Nat} {k : Key} {x : Value}, rs[i]? = some (k, x) → ∃ y, r[i]? = some (k, y) ∧ RelV y x := by
  intro r rs h
  unfold KV at h
  induction h with
  | nil => intro i k x e; simp at e
  | @cons p q ps qs h t ih =>
    intro i k x e
    cases i with
    | zero =>
      simp only [List.getElem?_cons_zero, Option.some.injEq] at e
      subst e
      exact ⟨p.2, by simp only [List.getElem?_cons_zero]; rw [show (k, p.2) = p from by rw [← show p.1 = k from h.1]], h.2⟩
    | succ i => exact ih (by simpa using e)
theorem call_sortD (hc : X.calm = true) : CallR X (.builtin "sorted") rSortD := by
  intro pins s σ H xs us Q I r h
  obtain ⟨p, kvs, ss, rfl, hq, hks, h64, q⟩ := h
  obtain ⟨u, rfl, ru⟩ := vals1 r
  cases ru
  obtain ⟨z, hd, vs, rel, dd⟩ := dk_rd I.hok hq
  obtain ⟨ep, hat⟩ := dd.dictAt
  have hn : vs.length = ss.length := by rw [← rel.length]; have := congrArg List.length hks; simpa using this
  refine Calls.call_function_entry kind_sorted plain_sorted entry_sorted (args_sorted1 _) ?_
  unfold Builtin.«sorted»
  refine wpAny_bind (m := checkCount "sorted" 1 1 _) (wpAny_pure ?_)
  refine wpAny_bind (kdu_collect (A := X.A.in1) (kdl_dict (knd := mixKind X.prog X.w) (kvs := vs) (ep := ep) hd) (I.ok.hd hc) hat (by rw [sizeLine_eq]; omega) fun h' tk acc hk hacc => ?_)
  have hal : acc.toList.length = ss.length := by rw [Array.length_toList]; exact hacc.1.trans hn
  have hS : StrsAre acc.toList ss := strsAre_at hal fun j v e => by
    obtain ⟨k, x, hx, hkv⟩ := hacc.2 j v (by rw [← Array.getElem?_toList]; exact e)
    obtain ⟨y, hy, _⟩ := kv_key rel hx
    have h1 : (kvs.map (·.1))[j]? = some k := by rw [List.getElem?_map, hy]; rfl
    rw [hks, List.getElem?_map] at h1
    cases e2 : ss[j]? with
    | none => rw [e2] at h1; cases h1
    | some z' =>
      rw [e2] at h1
      cases h1
      obtain ⟨t, ht⟩ := key_str hkv
      exact ⟨z', t, rfl, ht⟩
  refine wpAny_bind (wpAny_newList ?_ (by rw [hal, sizeLine_eq]; omega))
  have hoL : (h'.push (seqObj "list" acc.toList.toArray 0)).get? h'.objs.size = some (seqObj "list" acc.toList.toArray 0) := Heap.get?_push_size _ rfl
  refine wpAny_bind (wpAny_holding (wpAny_call_entry slot_list_sort ⟨_, hoL, rfl⟩ entry_list_sort (list_sort_treeK (s := { s with heap := h'.push (seqObj "list" acc.toList.toArray 0), toks := tk }) (vs := acc.toList) strKind_oneLt hoL hS.keysOf (fun v₁ v₂ rest e => keyKind_strs (by rw [← e]; exact hS)) (by omega) fun st' a1 a2 => ⟨_, rfl, ?_⟩) (args_list_sort _)))
  refine wpAny_pure ⟨_, rfl, ?_⟩
  obtain ⟨ss', b1, b2, b3⟩ := sorted_out_str hS a1 a2
  generalize (arrOf st').map (·.2) = out at b1 ⊢
  obtain ⟨e, he⟩ := sortedHeap_at (out := out) hoL
  have hl : ss'.length < 64 := by rw [b2.length_eq]; exact h64
  have I1 := I.kept (t' := tk) hk
  have I2 := I1.laid (a := h'.objs.size) (o := .lst (ss'.map V.str)) (h' := sortedHeap (h'.push (seqObj "list" acc.toList.toArray 0)) h'.objs.size acc.toList out) (t' := tk) (fun b o e => by
    have hb : b < h'.objs.size := Heap.lt_size e
    rw [sortedHeap_old (Nat.ne_of_lt hb) (by rw [size_push']; exact Nat.lt_succ_of_lt hb)]
    exact Heap.get?_push_of_some _ e) (Nat.le_refl _) ⟨by rw [List.length_map, sizeLine_eq]; omega, out.toList, e, strs_vals b1, he⟩
  exact ⟨.ref h'.objs.size, _, I2, rfl, q _ _ (I1.hok.fresh (Nat.le_refl _)) b2 b3⟩
def pairOf (H : Hp) : V → Int × Str
  | .ref a => match H a with
    | some (.tup [.int i, .str z]) => (i, z)
    | _ => (0, "")
  | _ => (0, "")
def ltP (x y : Int × Str) : Bool := if x.1 = y.1 then (if x.2 = y.2 then false else decide (x.2.cps.toList < y.2.cps.toList)) else decide (x.1 < y.1)
theorem tup_at {P : Program} {w : World} {H : Hp} {h : Heap} {a : Addr} {i : Int} {z : Str} (ok : ObjOk P w H h a (.tup [.int i, .str z])) : ∃ o n t t', h.get? a = some o ∧ o.cls = .type "tuple" ∧ o.data = .seq #[.int i t, .str z t'] n := by
  obtain ⟨_, its, rv, o, ho, hc, n, hd⟩ := ok
  cases rv with
  | cons h1 r =>
    cases r with
    | cons h2 r =>
      cases r
      obtain ⟨t, rfl⟩ := h1
      obtain ⟨t', rfl⟩ := h2
      exact ⟨o, n, t, t', ho, hc, hd⟩
theorem tups_of {P : Program} {w : World} {H : Hp} {h h' : Heap} (hok : ∀ a o, H a = some o → ObjOk P w H h a o) (hk : ∀ b o, h.get? b = some o → h'.get? b = some o) : ∀ {ys : List V} {its : List Value}, Vals ys its → (∀ v ∈ ys, ∃ a i z, v = .ref a ∧ H a = some (.tup [.int i, .str z])) →
    ∃ fs, KatTups h' its fs ∧ fs.length = its.length ∧ ∀ v ∈ fs, ∃ i t, v = .int i t
  | [], _, r, _ => by cases r; exact ⟨[], trivial, rfl, by simp⟩
  | y :: ys, _, r, hT => by
    cases r with
    | cons h1 r =>
      obtain ⟨fs, g1, g2, g3⟩ := tups_of hok hk r fun v hv => hT v (List.mem_cons_of_mem _ hv)
      obtain ⟨a, i, z, rfl, ha⟩ := hT y List.mem_cons_self
      cases h1
      obtain ⟨o, n, t, t', e1, e2, e3⟩ := tup_at (hok _ _ ha)
      refine ⟨.int i t :: fs, KatTups.cons (hk _ _ e1) e2 e3 rfl g1, by simp [g2], fun v hv => ?_⟩
      rcases List.mem_cons.mp hv with e | e
      · exact ⟨i, t, e⟩
      · exact g3 v e
theorem vals_pick {ys : List V} {its : List Value} (r : Vals ys its) : ∀ (l : List Nat), (∀ i ∈ l, i < ys.length) → Vals (l.map fun i => ys.getD i .non) (l.map fun i => its.getD i Value.none)
  | [], _ => .nil
  | i :: l, h => by
    have hi := h i List.mem_cons_self
    obtain ⟨u, hu, ru⟩ := r.get (List.getElem?_eq_getElem hi)
    refine .cons ?_ (vals_pick r l fun j hj => h j (List.mem_cons_of_mem _ hj))
    show RelV (ys.getD i .non) (its.getD i Value.none)
    rw [List.getD_eq_getElem?_getD, List.getElem?_eq_getElem hi, List.getD_eq_getElem?_getD, hu]
    exact ru
theorem range_getV (vs : List V) : (List.range vs.length).map (fun i => vs.getD i .non) = vs := by
  refine List.ext_getElem (by simp) fun i h1 h2 => ?_
  simp [h2]
theorem boot_sortedT : bootBuiltins "sorted" = some (.builtin "sorted") := by decide +kernel
end
def Iti (o : Obj) (a : Addr) (kvs : List (Key × V)) : It := ⟨fun i H => H a = some (.frz o (.dK kvs)) ∧ i < kvs.length, fun i H x H' => ∃ p k v, H p = none ∧ kvs[i]? = some (k, v) ∧ x = .ref p ∧ H' = upd H p (.tup [kV k, v]), fun i H => H a = some (.frz o (.dK kvs)) ∧ kvs.length ≤ i⟩
def iItems (td : TE) : TI := fun σ H R => td σ H fun x H1 => ∃ (a : Addr) (kvs : List (Key × V)), x = .ref a ∧ H1 a = some (.dK kvs) ∧ ∀ o, R (Iti o a kvs) (upd H1 a (.frz o (.dK kvs)))
theorem comp_i {K : PySem.W.Frag} {o : Obj} {a : Addr} {kvs : List (Key × V)} {js : List (Option Nat)} {te : TE} {σ : St} {H : Hp} {Q : VK} (hn : kvs.length ≤ sizeLine) (σr : St) (hσ : pickS js σ = none :: none :: σr) (Pr : Addr → Nat → V → Hp → Prop)
    (mono : ∀ D i v (H1 H2 : Hp), (∀ b o, b ≠ D → H1 b = some o → H2 b = some o) → Pr D i v H1 → Pr D i v H2)
    (ha : H a = some (.frz o (.dK kvs))) (hs : ∀ D i H' (R : V → Hp → Prop) (hi : i < kvs.length), H D = none → Same H H' → (∃ ys, H' D = some (.lst ys)) → (∀ v H'', Same H' H'' → Pr D i v H'' → R v H'') → te (some (kV kvs[i].1) :: some kvs[i].2 :: σr) H' R)
    (hd : ∀ D H' ys, H D = none → Same H H' → H' D = some (.lst ys) → ys.length = kvs.length → (∀ i v, ys[i]? = some v → Pr D i v H') → Q (.ref D) H') : CompW (Iti o a kvs) js (gTup K 2 (gCons (gName 0) (gCons (gName 1) gNil))) tYes te σ H Q := by
  intro D hD
  refine ⟨fun i m σ' H' ys => m = kvs.length - i ∧ i ≤ kvs.length ∧ (∃ u v, σ' = u :: v :: σr) ∧ Same H H' ∧ H' D = some (.lst ys) ∧ ys.length = i ∧ ∀ j v, ys[j]? = some v → Pr D j v H', ⟨kvs.length, by simp, Nat.zero_le _, ⟨none, none, hσ⟩, Same.upd hD, upd_same, rfl, fun j v e => by simp at e⟩, ?_⟩
  rintro i m σ' H' ys ⟨rfl, hi, ⟨u, v, rfl⟩, s, h, hl, hp⟩
  refine ⟨h, ?_⟩
  by_cases hlt : i < kvs.length
  · refine .inr ⟨⟨s _ _ ha, hlt⟩, by omega, ?_⟩
    rintro x H2 ⟨p, k, w, hpn, hw, rfl, rfl⟩
    rw [List.getElem?_eq_getElem hlt] at hw
    have ek : kvs[i] = (k, w) := Option.some.inj hw
    obtain ⟨H3, e3, s3, h3⟩ : ∃ H3, upd H' p (.tup [kV k, w]) = H3 ∧ Same H' H3 ∧ H3 p = some (.tup [kV k, w]) := ⟨_, rfl, Same.upd hpn, upd_same⟩
    rw [e3]
    refine ⟨p, _, rfl, SqT.of h3, rfl, _, _, rfl, _, _, rfl, rfl, ?_⟩
    unfold tYes; dsimp only
    rw [if_pos rfl]
    show te (some (kV k) :: some w :: σr) H3 _
    have hs' := fun R => hs D i H3 R hlt
    simp only [ek] at hs'
    refine hs' _ hD (s.trans s3) ⟨_, s3 _ _ h⟩ fun v H'' s2 pv => ⟨s2 _ _ (s3 _ _ h), kvs.length - (i + 1), by omega, rfl, hlt, ⟨_, _, rfl⟩, ?_, upd_same, by simp [hl], fun j v' e => ?_⟩
    · intro b o e
      rw [upd_ne (ne_of_none e hD)]; exact s2 _ _ (s3 _ _ (s b o e))
    · have up : ∀ b o, b ≠ D → H'' b = some o → upd H'' D (.lst (ys ++ [v])) b = some o := fun b o hb q => by rw [upd_ne hb]; exact q
      by_cases hj : j < ys.length
      · rw [List.getElem?_append_left hj] at e
        exact mono _ _ _ _ _ up (mono _ _ _ _ _ (fun b o _ q => s2 _ _ (s3 _ _ q)) (hp j v' e))
      · have hj2 := (List.getElem?_eq_some_iff.mp e).1
        have ej : j = ys.length := by simp at hj2; omega
        subst ej
        rw [List.getElem?_append_right (Nat.le_refl _), Nat.sub_self] at e
        cases e
        rw [hl]; exact mono _ _ _ _ _ up pv
  · have e : i = kvs.length := by omega
    subst e
    exact .inl ⟨⟨s _ _ ha, Nat.le_refl _⟩, hd D H' ys hD s h hl hp⟩
section
variable {X : Cx}
theorem turn_items {P : Program} {w : World} {K : PySem.W.Frag} {elts : List Expr} {x1 : Nat} {pos : Pos} (o : Obj) (a it : Addr) (kvs : List (Key × V)) : Turn P w K (.Tuple elts x1 pos) (Iti o a kvs) [it] it (fun i h => ∃ es ep ok ov, o.data = .dict es ep ∧ IsItemIter h it a i kvs.length ep ok ov) where
  mem := by simp
  obj := fun i h st b hb => by
    have e : b = it := by simpa using hb
    subst e
    obtain ⟨_, _, _, _, _, e⟩ := st
    exact ⟨_, e, fun v z => by cases z⟩
  keep := fun i h h' st k => by
    obtain ⟨es, ep, ok, ov, hd, hit⟩ := st
    exact ⟨es, ep, ok, ov, hd, k it (by simp) _ hit⟩
  item := by
    intro X hP hw hK hc i pins s σ H E I hf st hg
    subst hP hw hK
    obtain ⟨es, ep, ok, ov, hd, hit⟩ := st
    obtain ⟨hfr, hi⟩ := hg
    obtain ⟨ho, z, hds, vs, rel, dd⟩ := (show ObjOk X.prog X.w H s.heap a (.frz o (.dK kvs)) from I.hok a _ hfr)
    obtain ⟨o', es', ep', ho', hx, hdat, r⟩ := dd
    rw [ho] at ho'; cases ho'
    rw [hd] at hdat; cases hdat
    have hm : s.heap.DictAt (mixKind X.prog X.w) a vs ep := ⟨o, es, ho, hx, hd, r⟩
    have hl := rel.length
    rw [hl] at hit
    obtain ⟨⟨k, u⟩, hq⟩ : ∃ q, vs[i]? = some q := ⟨_, List.getElem?_eq_getElem (by omega)⟩
    obtain ⟨y, hy, ry⟩ := kv_key rel hq
    obtain ⟨f0, f1, f2, f3, f4, f5⟩ := hf it (by simp)
    refine wpAny_pyNext_items_item hit hm hq fun key h' hkey hit' hT hsz hk => ?_
    refine ⟨_, rfl, ?_⟩
    refine wpAny_letOwnedTupleGo_items hit' fun hh hitt hs2 => ?_
    have hfr' : H s.heap.objs.size = none := I.hok.fresh (Nat.le_refl _)
    have hlt : it < s.heap.objs.size := Heap.lt_size hit
    have hL := Heap.get?_push_size s.heap (o := { cls := .type "tuple", data := .seq #[key, u] }) rfl
    have I1 : Inv X pins σ (upd H s.heap.objs.size (.tup [kV k, y])) { s with heap := s.heap.push { cls := .type "tuple", data := .seq #[key, u] }, toks := s.toks } :=
      I.laid (t' := s.toks) (fun b o q => Heap.get?_push_of_some _ q) (Nat.le_refl _) ⟨by simp only [List.length_cons, List.length_nil]; decide, [key, u], .cons (key_rel hkey) (.cons ry .nil), ⟨_, hL, rfl, _, rfl⟩⟩
    have up : ∀ b, b < s.heap.objs.size → upd H s.heap.objs.size (.tup [kV k, y]) b = H b := fun b hb => upd_ne (Nat.ne_of_lt hb)
    have I2 : Inv X pins σ (upd H s.heap.objs.size (.tup [kV k, y])) { s with heap := hh, toks := s.toks } := by
      refine Inv.turnedL (s := { s with heap := s.heap.push { cls := .type "tuple", data := .seq #[key, u] }, toks := s.toks }) (h' := hh) (t' := s.toks) [it] I1 (fun b o hb q => ?_) (fun b hb => ?_)
      · have hb' : b ≠ it := by simpa using hb
        rw [hs2.2 b hb']
        by_cases e : b = s.heap.objs.size
        · subst e
          have q' : (s.heap.push { cls := .type "tuple", data := .seq #[key, u] }).get? s.heap.objs.size = some o := q
          rw [hL] at q'; rw [← q']; exact hT
        · have q2 : (s.heap.push { cls := .type "tuple", data := .seq #[key, u] }).get? b = some o := q
          rw [Heap.get?_push_ne _ _ _ e] at q2
          exact hk b o hb' q2
      · have e : b = it := by simpa using hb
        subst e
        obtain ⟨c0, c1, c2, c3, c4, c5⟩ := hf b hb
        exact ⟨by rw [up b hlt]; exact c0, c1, c2, c3, c4, c5⟩
    exact ⟨.ref s.heap.objs.size, _, I2, rfl, ⟨s.heap.objs.size, k, y, hfr', hy, rfl, rfl⟩, ⟨es, ep, key, u, hd, by rw [hl]; exact hitt⟩, fun b hb => by
      have e : b = it := by simpa using hb
      subst e
      rw [up b hlt]; exact (hf b hb).1⟩
  done := by
    intro X hP hw hK hc i pins s σ H E I hf st hg
    subst hP hw hK
    obtain ⟨es, ep, ok, ov, hd, hit⟩ := st
    obtain ⟨hfr, hi⟩ := hg
    obtain ⟨ho, z, hds, vs, rel, dd⟩ := (show ObjOk X.prog X.w H s.heap a (.frz o (.dK kvs)) from I.hok a _ hfr)
    obtain ⟨o', es', ep', ho', hx, hdat, r⟩ := dd
    rw [ho] at ho'; cases ho'
    rw [hd] at hdat; cases hdat
    have hm : s.heap.DictAt (mixKind X.prog X.w) a vs ep := ⟨o, es, ho, hx, hd, r⟩
    have hl := rel.length
    rw [hl] at hit
    obtain ⟨f0, f1, f2, f3, f4, f5⟩ := hf it (by simp)
    exact wpAny_pyNext_items_end (I.ok.hd hc) hit hm (List.getElem?_eq_none (by omega)) fun h' eb => ⟨rfl, I.turned (t' := s.toks) (fun b o hb e => eb b o hb e) f0 f1 f3 f4 f5⟩
  self := fun _ _ _ _ _ st h => by
    obtain ⟨es, ep, ok, ov, hd, hit⟩ := st
    exact kcp_self hit h
theorem pi_items {o : Expr} {td : TE} {apos cpos : Pos} {elts : List Expr} {x1 : Nat} {tpos : Pos} (ho : PE X o td) (hbase : attributeBase o "items" X.env (eval o X.env) = eval o X.env := by rfl) (hline : (apos.endLine == cpos.line) = true := by rfl) : PI X (.Tuple elts x1 tpos) (.Call (.Attribute o "items" apos) [] [] cpos) (iItems td) := by
  intro pins s σ H R I h
  refine wpAny_Call_method0_late hbase hline (thn (ho pins s σ H _ I h) fun v s1 ⟨x, H1, I1, r1, q1⟩ => ?_)
  obtain ⟨a, kvs, rfl, hH, q⟩ := q1
  cases r1
  obtain ⟨t1, t2, _⟩ := isD_at I1 (.inl ⟨kvs, .inl hH⟩)
  obtain ⟨z, hds, vs, rel, dd⟩ := dk_of I1.hok hH
  obtain ⟨ob, es, ep, hob, hx, hdat, r⟩ := id dd
  refine ⟨"dict", "dict.items", PySem.F.plainAttrs_dict, PySem.F.slot_dict_items, PySem.F.type_dict_items, t1, t2, Calls.callWith_builtin rfl (PySem.evalArgs_none ?_)⟩
  refine call_meetsIn PySem.F.slot_dict_items t1 PySem.F.entry_dict_items (PySem.F.args_dict_items_1 _) (meets_dict_items (mixKind X.prog X.w) a hds) ⟨⟨vs, dd⟩, ?_⟩
  have hm : (s1.heap.push { cls := .type "dict_items", data := .fields #[.ref a] }).DictAt (mixKind X.prog X.w) a vs ep := ⟨ob, es, Heap.get?_push_of_some _ hob, hx, hdat, r⟩
  refine wpAny_pyIter_items (knd := mixKind X.prog X.w) (v := s1.heap.objs.size) (d := a) ⟨_, Heap.get?_push_size _ rfl, rfl, rfl⟩ hm ?_
  have keep : ∀ b u, s1.heap.get? b = some u → ((s1.heap.push { cls := .type "dict_items", data := .fields #[.ref a] }).push { cls := .type "dict_itemiterator", data := .fields #[.none, .bool false, .ref a, .int 0 0, .int vs.length 0, .int ep 0, .none, .none] }).get? b = some u := fun b u e => Heap.get?_push_of_some _ (Heap.get?_push_of_some _ e)
  have I2 := I1.kept (t' := s1.toks) keep
  obtain ⟨o2, ho2, I3⟩ := I2.freeze hH
  have e2 : o2 = ob := by
    have := keep a ob hob
    rw [show _ = some o2 from ho2] at this
    exact Option.some.inj this
  subst e2
  have hl := rel.length
  have hsz : (s1.heap.push { cls := .type "dict_items", data := .fields #[.ref a] }).objs.size = s1.heap.objs.size + 1 := Heap.size_push ..
  have hfr : ∀ b, s1.heap.objs.size ≤ b → upd H1 a (.frz o2 (.dK kvs)) b = none := fun b hb => by
    have hn := I1.hok.fresh (a := b) hb
    rw [upd_ne (ne_of_none hH hn).symm]; exact hn
  refine ⟨(s1.heap.push { cls := .type "dict_items", data := .fields #[.ref a] }).objs.size, [(s1.heap.push { cls := .type "dict_items", data := .fields #[.ref a] }).objs.size], _, _, _, rfl, I3, turn_items o2 a _ kvs, ⟨es, ep, .none, .none, hdat, by rw [hl]; exact Heap.get?_push_size _ rfl⟩, fun b hb => ?_, q o2⟩
  have e : b = s1.heap.objs.size + 1 := by rw [← hsz]; simpa using hb
  subst e
  exact I1.fpOk (Nat.le_succ _) (hfr _ (Nat.le_succ _))
end
section
variable {X : Cx} {K : PySem.W.Frag} {tg e : Expr} {te : TE}
end
end L2
namespace L2
open PySem PySem.Spec PyProof.Rows PySem.W
def PrsAt (H : Hp) (xs : List V) (pl : List (Str × Str)) : Prop := ∃ as : List Addr, xs = as.map V.ref ∧ as.length = pl.length ∧ ∀ (i : Nat) (a : Addr) (p : Str × Str), as[i]? = some a → pl[i]? = some p → H a = some (.tup [.str p.1, .str p.2])
section
variable {X : Cx} {pos : Pos}
end
end L2
namespace L2
open PySem PySem.Spec PyProof.Rows PySem.W
section
variable {X : Cx}
end
end L2
namespace L2
open PySem PySem.Spec PySem.W PyProof.Rows
theorem kRun_bind {α β : Type} {lt : Nat → Nat → Bool} {f : α → KasT β} : ∀ (t : KasT α), kRun lt (t.bind f) = kRun lt (f (kRun lt t))
  | .ret _ => rfl
  | .ask i j k => kRun_bind (k (lt i j))
theorem kRun_if {α : Type} {lt : Nat → Nat → Bool} {c : Prop} [Decidable c] {x y : KasT α} : kRun lt (if c then x else y) = if c then kRun lt x else kRun lt y := by split <;> rfl
structure LtOk (lt : Nat → Nat → Bool) (n : Nat) : Prop where
  irr : ∀ i, i < n → lt i i = false
  tr : ∀ i j k, i < n → j < n → k < n → lt i j = true → lt j k = true → lt i k = true
  tot : ∀ i j, i < n → j < n → i ≠ j → lt i j = true ∨ lt j i = true
def Asc (lt : Nat → Nat → Bool) (p : Array Nat) (m : Nat) : Prop := ∀ i j, i < j → j < m → lt (p.getD i 0) (p.getD j 0) = true
def Dsc (lt : Nat → Nat → Bool) (p : Array Nat) (m : Nat) : Prop := ∀ i j, i < j → j < m → lt (p.getD j 0) (p.getD i 0) = true
theorem getD_q (p : Array Nat) (i : Nat) : p.getD i 0 = (p[i]?).getD 0 := by
  by_cases h : i < p.size <;> simp [Array.getD, h]
theorem PermN.size {n : Nat} {p : Array Nat} (h : PermN n p) : p.size = n := by
  have := Array.Perm.size_eq h; simpa using this
theorem PermN.inj {n : Nat} {p : Array Nat} (h : PermN n p) {i j : Nat} (hi : i < n) (hj : j < n) (e : i ≠ j) : p.getD i 0 ≠ p.getD j 0 := by
  have nd : p.toList.Nodup := (h.list.nodup_iff).mpr List.nodup_range
  have hs := h.size
  rw [List.nodup_iff_pairwise_ne, List.pairwise_iff_getElem] at nd
  have e1 : p.getD i 0 = p[i]'(by omega) := by simp [Array.getD, show i < p.size by omega]
  have e2 : p.getD j 0 = p[j]'(by omega) := by simp [Array.getD, show j < p.size by omega]
  rw [e1, e2]
  rcases Nat.lt_or_gt_of_ne e with q | q
  · exact nd i j (by simpa using (by omega : i < p.size)) (by simpa using (by omega : j < p.size)) q
  · exact Ne.symm (nd j i (by simpa using (by omega : j < p.size)) (by simpa using (by omega : i < p.size)) q)
section
variable {lt : Nat → Nat → Bool} {n : Nat} (L : LtOk lt n) (hn : 0 < n)
include L hn
theorem LtOk.flip {p : Array Nat} (hp : PermN n p) {i j : Nat} (hi : i < n) (hj : j < n) (e : i ≠ j) (h : lt (p.getD i 0) (p.getD j 0) = false) : lt (p.getD j 0) (p.getD i 0) = true := by
  rcases L.tot _ _ (hp.lt hn i) (hp.lt hn j) (hp.inj hi hj e) with q | q
  · rw [h] at q; cases q
  · exact q
theorem Asc.more {p : Array Nat} (hp : PermN n p) {m : Nat} (hm : 1 ≤ m) (a : Asc lt p m) (h : lt (p.getD (m - 1) 0) (p.getD m 0) = true) : Asc lt p (m + 1) := fun i j hij hj => by
  by_cases q : j < m
  · exact a i j hij q
  · obtain rfl : j = m := by omega
    by_cases r : i = j - 1
    · rw [r]; exact h
    · exact L.tr _ _ _ (hp.lt hn _) (hp.lt hn _) (hp.lt hn _) (a i (j - 1) (by omega) (by omega)) h
theorem Dsc.more {p : Array Nat} (hp : PermN n p) {m : Nat} (hm : 1 ≤ m) (a : Dsc lt p m) (h : lt (p.getD m 0) (p.getD (m - 1) 0) = true) : Dsc lt p (m + 1) := fun i j hij hj => by
  by_cases q : j < m
  · exact a i j hij q
  · obtain rfl : j = m := by omega
    by_cases r : i = j - 1
    · rw [r]; exact h
    · exact L.tr _ _ _ (hp.lt hn _) (hp.lt hn _) (hp.lt hn _) h (a i (j - 1) (by omega) (by omega))
theorem run_asc {p : Array Nat} (hp : PermN n p) : ∀ f m, 1 ≤ m → m + f ≤ n → Asc lt p m →
    m ≤ kRun lt (kas_asc p f m) ∧ kRun lt (kas_asc p f m) ≤ m + f ∧ Asc lt p (kRun lt (kas_asc p f m)) ∧ (kRun lt (kas_asc p f m) < m + f → lt (p.getD (kRun lt (kas_asc p f m)) 0) (p.getD (kRun lt (kas_asc p f m) - 1) 0) = true)
  | 0, m, h1, hf, a => ⟨Nat.le_refl _, Nat.le_refl _, a, fun z => absurd z (Nat.lt_irrefl _)⟩
  | f + 1, m, h1, hf, a => by
    have e : kRun lt (kas_asc p (f + 1) m) = if lt (p.getD m 0) (p.getD (m - 1) 0) = true then m else kRun lt (kas_asc p f (m + 1)) := by
      show kRun lt (if lt (p.getD m 0) (p.getD (m - 1) 0) = true then .ret m else kas_asc p f (m + 1)) = _
      rw [kRun_if]; rfl
    rw [e]
    by_cases c : lt (p.getD m 0) (p.getD (m - 1) 0) = true
    · rw [if_pos c]; exact ⟨Nat.le_refl _, by omega, a, fun _ => c⟩
    · rw [if_neg c]
      have a' : Asc lt p (m + 1) := Asc.more L hn hp h1 a (L.flip hn hp (by omega) (by omega) (by omega) (by simpa using c))
      obtain ⟨x1, x2, x3, x4⟩ := run_asc hp f (m + 1) (by omega) (by omega) a'
      exact ⟨by omega, by omega, x3, fun z => x4 (by omega)⟩
theorem run_desc {p : Array Nat} (hp : PermN n p) : ∀ f m, 1 ≤ m → m + f ≤ n → Dsc lt p m → ∃ r, kRun lt (kas_desc f p m 0) = (p, r, 0) ∧ m ≤ r ∧ r ≤ m + f ∧ Dsc lt p r
  | 0, m, h1, hf, a => ⟨m, rfl, Nat.le_refl _, Nat.le_refl _, a⟩
  | f + 1, m, h1, hf, a => by
    have e : kRun lt (kas_desc (f + 1) p m 0) = if lt (p.getD m 0) (p.getD (m - 1) 0) = true then kRun lt (kas_desc f p (m + 1) 0) else
        kRun lt (if lt (p.getD (m - 1) 0) (p.getD m 0) = true then KasT.ret (p, m, 0) else kas_desc f p (m + 1) (0 + 1)) := by
      show kRun lt (if lt (p.getD m 0) (p.getD (m - 1) 0) = true then (if 0 > 0 then _ else kas_desc f p (m + 1) 0) else _) = _
      rw [kRun_if]; rfl
    rw [e]
    by_cases c : lt (p.getD m 0) (p.getD (m - 1) 0) = true
    · rw [if_pos c]
      obtain ⟨r, x1, x2, x3, x4⟩ := run_desc hp f (m + 1) (by omega) (by omega) (Dsc.more L hn hp h1 a c)
      exact ⟨r, x1, by omega, by omega, x4⟩
    · rw [if_neg c, if_pos (L.flip hn hp (by omega) (by omega) (by omega) (by simpa using c))]
      exact ⟨m, rfl, Nat.le_refl _, by omega, a⟩
omit L hn in
theorem rev_get {p : Array Nat} {m : Nat} (hm : m ≤ p.size) {i : Nat} (hi : i < m) : (kas_rev p 0 m).getD i 0 = p.getD (m - 1 - i) 0 := by
  rw [getD_q, getD_q]
  unfold kas_rev
  rw [getElem?_mirror_all hm, if_pos ⟨Nat.zero_le _, hi⟩]
  simp
theorem run_tail3 {p : Array Nat} (hp : PermN n p) {m : Nat} (h1 : 1 ≤ m) (hm : m ≤ n) (a : Dsc lt p m) :
    PermN n (kRun lt (kas_tail3 m n p)).2 ∧ m ≤ (kRun lt (kas_tail3 m n p)).1 ∧ (kRun lt (kas_tail3 m n p)).1 ≤ n ∧ Asc lt (kRun lt (kas_tail3 m n p)).2 (kRun lt (kas_tail3 m n p)).1 := by
  have hs := hp.size
  have e : kRun lt (kas_tail3 m n p) = (kRun lt (kas_asc (kas_rev p 0 m) (n - m) m), kas_rev p 0 m) := by
    unfold kas_tail3; rw [kRun_bind]; rfl
  rw [e]
  have a' : Asc lt (kas_rev p 0 m) m := fun i j hij hj => by
    rw [rev_get (by omega) (by omega), rev_get (by omega) hj]
    exact a _ _ (by omega) (by omega)
  obtain ⟨x1, x2, x3, _⟩ := run_asc L hn (hp.rev 0 m) (n - m) m h1 (by omega) a'
  exact ⟨hp.rev 0 m, x1, by omega, x3⟩
theorem run_descPart {p : Array Nat} (hp : PermN n p) {m : Nat} (h1 : 1 ≤ m) (hm : m + 1 ≤ n) (a : Dsc lt p (m + 1)) :
    PermN n (kRun lt (kas_descPart m n p)).2 ∧ 1 ≤ (kRun lt (kas_descPart m n p)).1 ∧ (kRun lt (kas_descPart m n p)).1 ≤ n ∧ Asc lt (kRun lt (kas_descPart m n p)).2 (kRun lt (kas_descPart m n p)).1 := by
  obtain ⟨r, x1, x2, x3, x4⟩ := run_desc L hn hp (n - (m + 1)) (m + 1) (by omega) (by omega) a
  have e : kRun lt (kas_descPart m n p) = kRun lt (kas_tail3 r n p) := by
    unfold kas_descPart; rw [kRun_bind, x1]; rfl
  rw [e]
  obtain ⟨y1, y2, y3, y4⟩ := run_tail3 L hn hp (m := r) (by omega) (by omega) x4
  exact ⟨y1, by omega, y3, y4⟩
theorem run_count {p : Array Nat} (hp : PermN n p) :
    PermN n (kRun lt (kas_count n p)).2 ∧ 1 ≤ (kRun lt (kas_count n p)).1 ∧ (kRun lt (kas_count n p)).1 ≤ n ∧ Asc lt (kRun lt (kas_count n p)).2 (kRun lt (kas_count n p)).1 := by
  obtain ⟨x1, x2, x3, x4⟩ := run_asc L hn hp (n - 1) 1 (Nat.le_refl _) (by omega) (fun i j hij hj => by omega)
  unfold kas_count
  rw [kRun_bind]
  generalize kRun lt (kas_asc p (n - 1) 1) = m at x1 x2 x3 x4 ⊢
  by_cases c : (m == n) = true
  · rw [if_pos c]; exact ⟨hp, x1, by have := beq_iff_eq.mp c; show m ≤ n; omega, x3⟩
  · have hmn : m ≠ n := fun z => c (beq_iff_eq.mpr z)
    rw [if_neg c]
    by_cases d : m > 1
    · rw [if_pos d]
      show PermN n (kRun lt (if lt (p.getD 0 0) (p.getD (m - 1) 0) = true then .ret (m, p) else kas_descPart m n (kas_rev p 0 m))).2 ∧ 1 ≤ (kRun lt (if lt (p.getD 0 0) (p.getD (m - 1) 0) = true then .ret (m, p) else kas_descPart m n (kas_rev p 0 m))).1 ∧ (kRun lt (if lt (p.getD 0 0) (p.getD (m - 1) 0) = true then .ret (m, p) else kas_descPart m n (kas_rev p 0 m))).1 ≤ n ∧ Asc lt (kRun lt (if lt (p.getD 0 0) (p.getD (m - 1) 0) = true then .ret (m, p) else kas_descPart m n (kas_rev p 0 m))).2 (kRun lt (if lt (p.getD 0 0) (p.getD (m - 1) 0) = true then .ret (m, p) else kas_descPart m n (kas_rev p 0 m))).1
      rw [if_pos (x3 0 (m - 1) (by omega) (by omega))]
      exact ⟨hp, x1, by show m ≤ n; omega, x3⟩
    · rw [if_neg d]
      obtain rfl : m = 1 := by omega
      exact run_descPart L hn hp (Nat.le_refl _) (by omega) (fun i j hij hj => by
        obtain rfl : j = 1 := by omega
        obtain rfl : i = 0 := by omega
        exact x4 (by omega))
theorem run_place {p : Array Nat} (hp : PermN n p) {k : Nat} (hk : k < n) (a : Asc lt p k) : ∀ f l r, r - l ≤ f → l ≤ r → r ≤ k → (∀ i, i < l → lt (p.getD i 0) (p.getD k 0) = true) → (∀ i, r ≤ i → i < k → lt (p.getD k 0) (p.getD i 0) = true) →
    kRun lt (kas_place p k f l r) ≤ k ∧ (∀ i, i < kRun lt (kas_place p k f l r) → lt (p.getD i 0) (p.getD k 0) = true) ∧ ∀ i, kRun lt (kas_place p k f l r) ≤ i → i < k → lt (p.getD k 0) (p.getD i 0) = true
  | 0, l, r, hf, hl, hr, h1, h2 => ⟨by show l ≤ k; omega, h1, fun i x y => h2 i (by have : l ≤ i := x; omega) y⟩
  | f + 1, l, r, hf, hl, hr, h1, h2 => by
    by_cases c : l ≥ r
    · have e : kRun lt (kas_place p k (f + 1) l r) = l := by unfold kas_place; rw [if_pos c]; rfl
      rw [e]
      exact ⟨by omega, h1, fun i x y => h2 i (by omega) y⟩
    · have e : kRun lt (kas_place p k (f + 1) l r) = if lt (p.getD k 0) (p.getD ((l + r) / 2) 0) = true then kRun lt (kas_place p k f l ((l + r) / 2)) else kRun lt (kas_place p k f ((l + r) / 2 + 1) r) := by
        rw [kas_place, if_neg c]
        show kRun lt (if lt (p.getD k 0) (p.getD ((l + r) / 2) 0) = true then _ else _) = _
        rw [kRun_if]
      rw [e]
      by_cases d : lt (p.getD k 0) (p.getD ((l + r) / 2) 0) = true
      · rw [if_pos d]
        refine run_place hp hk a f l ((l + r) / 2) (by omega) (by omega) (by omega) h1 fun i x y => ?_
        by_cases q : i = (l + r) / 2
        · rw [q]; exact d
        · exact L.tr _ _ _ (hp.lt hn _) (hp.lt hn _) (hp.lt hn _) d (a _ _ (by omega) y)
      · rw [if_neg d]
        have d' := L.flip hn hp (by omega) (by omega) (by omega) (show lt (p.getD k 0) (p.getD ((l + r) / 2) 0) = false by simpa using d)
        refine run_place hp hk a f ((l + r) / 2 + 1) r (by omega) (by omega) hr (fun i x => ?_) h2
        by_cases q : i = (l + r) / 2
        · rw [q]; exact d'
        · exact L.tr _ _ _ (hp.lt hn _) (hp.lt hn _) (hp.lt hn _) (a _ _ (by omega) (by omega)) d'
omit L hn in
theorem bub_get {p : Array Nat} {k l : Nat} (hk : k < p.size) (hl : l ≤ k) (i : Nat) : (bubble p k (k - l)).getD i 0 = if i = l then p.getD k 0 else if l < i ∧ i ≤ k then p.getD (i - 1) 0 else p.getD i 0 := by
  rw [getD_q, getElem?_bubble hk _ (by omega), show k - (k - l) = l by omega, getD_q p k, getD_q p (i - 1), getD_q p i]
  by_cases h1 : i = l
  · rw [if_pos h1, if_pos h1]
  · rw [if_neg h1, if_neg h1]
    by_cases h2 : l < i ∧ i ≤ k
    · rw [if_pos h2, if_pos h2]
    · rw [if_neg h2, if_neg h2]
theorem run_bin : ∀ f (p : Array Nat) k, PermN n p → 1 ≤ k → k + f ≤ n → Asc lt p k → PermN n (kRun lt (kas_bin f p k)) ∧ Asc lt (kRun lt (kas_bin f p k)) (k + f)
  | 0, p, k, hp, _, _, a => ⟨hp, a⟩
  | f + 1, p, k, hp, h1, hf, a => by
    have e : kRun lt (kas_bin (f + 1) p k) = kRun lt (kas_bin f (bubble p k (k - kRun lt (kas_place p k k 0 k))) (k + 1)) := by
      rw [kas_bin, kRun_bind]
    rw [e]
    obtain ⟨x1, x2, x3⟩ := run_place L hn hp (k := k) (by omega) a k 0 k (by omega) (by omega) (Nat.le_refl _) (fun i z => by omega) (fun i z y => by omega)
    generalize kRun lt (kas_place p k k 0 k) = l at x1 x2 x3 ⊢
    have hs := hp.size
    have a' : Asc lt (bubble p k (k - l)) (k + 1) := fun i j hij hj => by
      rw [bub_get (by omega) x1, bub_get (by omega) x1]
      by_cases i1 : i = l
      · rw [if_pos i1, if_neg (by omega), if_pos (by omega)]
        exact x3 _ (by omega) (by omega)
      · rw [if_neg i1]
        by_cases i2 : l < i ∧ i ≤ k
        · rw [if_pos i2, if_neg (by omega), if_pos (by omega)]
          exact a _ _ (by omega) (by omega)
        · rw [if_neg i2]
          by_cases j1 : j = l
          · rw [if_pos j1]; exact x2 _ (by omega)
          · rw [if_neg j1]
            by_cases j2 : l < j ∧ j ≤ k
            · rw [if_pos j2]
              by_cases q : i = j - 1
              · omega
              · exact a _ _ (by omega) (by omega)
            · rw [if_neg j2]; exact a _ _ hij (by omega)
    obtain ⟨y1, y2⟩ := run_bin f _ (k + 1) (hp.bub k (k - l)) (by omega) (by omega) a'
    exact ⟨y1, fun i j hij hj => y2 i j hij (by omega)⟩
theorem run_sort : Asc lt (kRun lt (kas_sort n)) n := by
  unfold kas_sort
  rw [kRun_bind]
  obtain ⟨x1, x2, x3, x4⟩ := run_count L hn (p := List.toArray (List.range n)) (Array.Perm.refl _)
  generalize kRun lt (kas_count n (List.toArray (List.range n))) = r at x1 x2 x3 x4 ⊢
  by_cases c : r.1 < n
  · rw [if_pos c]
    have hm : max r.1 1 = r.1 := by omega
    rw [hm]
    have := (run_bin L hn (n - r.1) r.2 r.1 x1 x2 (by omega) x4).2
    exact fun i j hij hj => this i j hij (by omega)
  · rw [if_neg c]
    exact fun i j hij hj => x4 i j hij (by omega)
end
theorem ll_tot (a b : List Nat) (h : a ≠ b) : a < b ∨ b < a := by
  by_cases q : a < b
  · exact .inl q
  · have := List.not_lt.mp q
    rcases List.le_iff_lt_or_eq.mp this with r | r
    · exact .inr r
    · exact absurd r.symm h
theorem ltP_irr (x : Int × Str) : ltP x x = false := by simp [ltP]
theorem ltP_iff (x y : Int × Str) : ltP x y = true ↔ x.1 < y.1 ∨ (x.1 = y.1 ∧ x.2.cps.toList < y.2.cps.toList) := by
  unfold ltP
  by_cases h1 : x.1 = y.1
  · rw [if_pos h1]
    by_cases h2 : x.2 = y.2
    · rw [if_pos h2, h2]
      constructor
      · intro z; cases z
      · intro z
        rcases z with z | ⟨_, z⟩
        · omega
        · exact absurd z (List.lt_irrefl _)
    · rw [if_neg h2, decide_eq_true_iff]
      constructor
      · exact fun z => .inr ⟨h1, z⟩
      · intro z
        rcases z with z | ⟨_, z⟩
        · omega
        · exact z
  · rw [if_neg h1, decide_eq_true_iff]
    constructor
    · exact .inl
    · intro z
      rcases z with z | ⟨z, _⟩
      · exact z
      · exact absurd z h1
theorem ltP_tr {x y z : Int × Str} (a : ltP x y = true) (b : ltP y z = true) : ltP x z = true := by
  rw [ltP_iff] at a b ⊢
  rcases a with a | ⟨a, a'⟩ <;> rcases b with b | ⟨b, b'⟩
  · exact .inl (by omega)
  · exact .inl (by omega)
  · exact .inl (by omega)
  · exact .inr ⟨by omega, List.lt_trans a' b'⟩
theorem ltP_tot {x y : Int × Str} (h : x ≠ y) : ltP x y = true ∨ ltP y x = true := by
  rw [ltP_iff, ltP_iff]
  rcases Int.lt_trichotomy x.1 y.1 with q | q | q
  · exact .inl (.inl q)
  · have hn : x.2.cps.toList ≠ y.2.cps.toList := fun z => h (by
      obtain ⟨x1, ⟨x2⟩⟩ := x
      obtain ⟨y1, ⟨y2⟩⟩ := y
      have z' : x2 = y2 := Array.toList_inj.mp z
      have q' : x1 = y1 := q
      rw [z', q'])
    rcases ll_tot _ _ hn with r | r
    · exact .inl (.inr ⟨q, r⟩)
    · exact .inr (.inr ⟨q.symm, r⟩)
  · exact .inr (.inl q)
theorem ltP_asym {x y : Int × Str} (a : ltP x y = true) (b : ltP y x = true) : False := by
  have := ltP_tr a b; rw [ltP_irr] at this; cases this
theorem ord_eq {α : Type} {lt : α → α → Bool} (as : ∀ x y, lt x y = true → lt y x = true → False) {l m : List α} (p : l.Perm m) (h1 : l.Pairwise (fun x y => lt x y = true)) (h2 : m.Pairwise (fun x y => lt x y = true)) : l = m :=
  List.Perm.eq_of_pairwise (le := fun x y => lt x y = true) (fun a b _ _ h1 h2 => (as a b h1 h2).elim) h1 h2 p
def codeTb (K : PySem.W.Frag) (cv : Value) : Option Addr :=
  match cv with
  | .ref c => match K.lookup c with
    | some o => match o.cls, o.data with
      | .type n, .fields vs => match (vs[11]? : Option Value), vs.getD 18 .none, vs.getD 7 .none, vs.getD 9 .none, vs.getD 10 .none with
        | some (Value.ref P), Value.str _ _, Value.int _ _, Value.bool _, Value.int _ _ => if (n == "code" && c != P) = true then some P else none
        | _, _, _, _, _ => none
      | _, _ => none
    | none => none
  | _ => none
theorem codeHd_of {K : PySem.W.Frag} {h : Heap} {cv : Value} {T : Addr} (X : K.In h) (e : codeTb K cv = some T) : ∃ c, cv = .ref c ∧ CodeHd h c T := by
  unfold codeTb at e
  split at e
  · rename_i c
    split at e
    · rename_i o ho
      split at e
      · rename_i n vs hcl hd
        split at e
        · rename_i P file tf flags tg inF text tt e11 e18 e7 e9 e10
          split at e
          · rename_i hc
            cases e
            rw [Bool.and_eq_true] at hc
            have h1 : n = "code" := by simpa using hc.1
            have h2 : c ≠ T := by simpa using hc.2
            refine ⟨c, rfl, o, vs, _, _, _, _, _, _, _, X _ _ ho, by rw [hcl, h1], hd, e11, ?_, e18, e7, e9, e10, h2⟩
            have e11' : vs.getD 11 Value.none = (vs[11]?).getD Value.none := by
              by_cases q : 11 < vs.size <;> simp [Array.getD, q]
            rw [e11', e11]; rfl
          · cases e
        · cases e
      · cases e
    · cases e
  · cases e
def bltOk (K : PySem.W.Frag) (bm : Addr) : Bool := bm != builtinsNs && (match K.lookup bm with
  | some o => (match o.cls, o.dict, o.data with
    | .type t, some d, .plain => t == "module" && d == builtinsNs
    | _, _, _ => false)
  | none => false)
structure BltK (K : PySem.W.Frag) (mg : Str → Option Value) : Prop where
  ex : ∃ bm o, mg "__builtins__" = some (.ref bm) ∧ bm ≠ builtinsNs ∧ K.lookup bm = some o ∧ o.cls = .type "module" ∧ o.dict = some builtinsNs ∧ o.data = .plain
theorem bltK_mk {K : PySem.W.Frag} {mg : Str → Option Value} {bm : Addr} (e : mg "__builtins__" = some (.ref bm)) (h : bltOk K bm = true) : BltK K mg := by
  unfold bltOk at h
  rw [Bool.and_eq_true] at h
  obtain ⟨h1, h2⟩ := h
  split at h2
  · rename_i o ho
    split at h2
    · rename_i t d e1 e2 e3
      rw [Bool.and_eq_true] at h2
      exact ⟨bm, o, e, by simpa using h1, ho, by rw [e1]; simpa using h2.1, by rw [e2]; simpa using h2.2, e3⟩
    · cases h2
  · cases h2
def CodeAtH (H : Hp) (q : Str) (cv : Value) : Prop := ∃ c' o vs t, cv = .ref c' ∧ H c' = some (.frz o (.own c')) ∧ o.data = .fields vs ∧ vs[1]? = some (.str q t)
def LamT (T : Addr) (q : Str) (H : Hp) : Prop := ∃ ps, H T = some (.tbl ps) ∧ TriplesOk ps.toList ∧ ∀ pos cv, codeAmong pos ps.toList = some cv → CodeAtH H q cv
abbrev Ex (H H' : Hp) : Prop := ∀ a o, H a = some o → H' a = some o
theorem LamT.start {T : Addr} {q : Str} {H : Hp} (h : H T = some (.tbl #[])) : LamT T q H := ⟨#[], h, trivial, fun pos cv e => by simp [codeAmong] at e⟩
theorem CodeAtH.mono {q : Str} {cv : Value} {H H' : Hp} (h : CodeAtH H q cv) (k : Ex H H') : CodeAtH H' q cv := let ⟨c', o, vs, t, a, b, r⟩ := h; ⟨c', o, vs, t, a, k _ _ b, r⟩
theorem LamT.mono {T : Addr} {q : Str} {H H' : Hp} (h : LamT T q H) (k : Ex H H') : LamT T q H' := let ⟨ps, a, b, c⟩ := h; ⟨ps, k _ _ a, b, fun pos cv e => (c pos cv e).mono k⟩
theorem codeAmong_app {pos : Pos} {a b : Int} {c cv : Value} : ∀ (l : List Value), TriplesOk l → codeAmong pos (l ++ [rawInt a, rawInt b, c]) = some cv → codeAmong pos l = some cv ∨ cv = c := by
  intro l
  fun_induction TriplesOk l with
  | case1 =>
    intro _ e
    right
    simp only [List.nil_append, codeAmong, rawInt] at e
    split at e
    · cases e; rfl
    · cases e
  | case2 x t y u z rest ih =>
    intro h e
    simp only [List.cons_append, codeAmong] at e ⊢
    split at e
    · rename_i hc; rw [if_pos hc]; exact .inl e
    · rename_i hc; rw [if_neg hc]; exact ih h e
  | case3 l h1 h2 => intro h _; exact h.elim
section
variable {X : Cx} {pins : List (Addr × Obj)} {σ : St} {H : Hp} {s : Shared}
structure Mine (X : Cx) (pins : List (Addr × Obj)) (a : Addr) : Prop where
  s0 : X.s₀.heap.objs.size ≤ a
  loc : a ≠ X.env.locals
  cell : ∀ x c, X.env.cells.lookup x = some c → c ≠ a
  pin : ∀ p ∈ X.pn ++ pins, p.1 ≠ a
  fs : a ∉ X.fs
theorem Inv.mine (I : Inv X pins σ H s) {a : Addr} (h : s.heap.objs.size ≤ a) : Mine X pins a :=
  ⟨Nat.le_trans I.sz h, Nat.ne_of_gt (Nat.lt_of_lt_of_le I.lt h), fun x c e z => by
    obtain ⟨v, q⟩ := I.cell x c e
    exact absurd (Nat.lt_of_lt_of_le q.lt h) (by rw [z]; exact Nat.lt_irrefl _), fun p hp z => by
    obtain ⟨e, _⟩ := I.pin p hp
    exact absurd (Nat.lt_of_lt_of_le (Heap.lt_size e) h) (by rw [z]; exact Nat.lt_irrefl _), I.nofs h⟩
theorem Inv.adopt {t' : Nat} {a : Addr} {o : HO} {h' : Heap} (I : Inv X pins σ H s) (hn : H a = none) (hm : Mine X pins a) (k : ∀ b u, b ≠ a → s.heap.get? b = some u → h'.get? b = some u)
    (new : ObjOk X.prog X.w (upd H a o) h' a o) : Inv X pins σ (upd H a o) { s with heap := h', toks := t' } := by
  have na : ∀ b u, H b = some u → b ≠ a := fun b u e z => by rw [z, hn] at e; cases e
  refine I.step (g' := s.gens) (d' := s.drawn) (ch := [a]) (fun b hb => ?_) (fun b o _ _ hc e _ => k b o (fun z => hc (by simp [z])) e) (fun b o _ _ hc e _ => ⟨o.slots, k b o (fun z => hc (by simp [z])) e⟩)
    (fun b _ hc _ n => by rw [upd_ne (fun z => hc (by simp [z]))]; exact n) (fun b o hc e => ⟨o, k b o (fun z => hc (by simp [z])) e⟩) (fun b _ e => by rw [upd_ne (na b _ e)]; exact e) (fun b _ _ e => by rw [upd_ne (na b _ e)]; exact e)
    (fun b ps e => ⟨#[], by rw [upd_ne (na b _ e), e]; simp⟩) (fun m hm' => ?_) (fun b u e => ?_) I.bare
  · have e : b = a := by simpa using hb
    subst e
    exact ⟨.inr hm.s0, hm.loc, hm.cell, hm.pin⟩
  · obtain ⟨ob, es, ep, ho, r⟩ := hm'
    exact ⟨ob, es, ep, k _ ob (Ne.symm hm.loc) ho, r⟩
  · by_cases hb : b = a
    · subst hb; rw [upd_same] at e; cases e; exact new
    · rw [upd_ne hb] at e
      refine (I.hok b u e).stay (fun c v hc q => k c v ?_ q) (fun c q => by rw [upd_ne (na c _ q)]; exact q) fun c xs q => by rw [upd_ne (na c _ q)]; exact q
      rcases hc with z | z
      · rw [z]; exact hb
      · exact na c _ z
theorem lam_make {args : Arguments} {body : Expr} {scope : Scope} {pos : Pos} {Nc : List Str} {js : List (Option Nat)} {T : Addr} {q : Str} {Q : Value → Shared → Prop} (I : Inv X pins σ H s) (hcb : codeTb X.K X.env.code = some T) (hbk : BltK X.K X.mg) (ok : CompOk X Nc js scope)
    (hq : X.env.qual ++ "<lambda>" = q) (hdef : defaultsOf args X.env = ([], [])) (lt : LamT T q H)
    (h : ∀ (f : Addr) (pm cv ctv : Value) (H' : Hp) (s' : Shared), Inv X pins σ H' s' → LamT T q H' → (∀ a o, a ≠ T → H a = some o → H' a = some o) → CodeAtH H' q cv → H' f = none → Mine X pins f →
      s'.heap.get? f = some { cls := .type "function", data := .func (kla_fn "<lambda>" q args body scope (clos X.env scope.names []) pm cv ctv) } → Q (.ref f) s') :
    wpAny (model X.prog X.w) X.A (eval (.Lambda args body scope pos) X.env) Q X.xe s := by
  obtain ⟨ps, hT, htr, hcs⟩ := lt
  obtain ⟨c, hcode, C⟩ := codeHd_of I.kIn hcb
  have hP : s.heap.get? T = some (tabObj ps) := I.hok T _ hT
  have hTs : T < s.heap.objs.size := Heap.lt_size hP
  have hfr : ∀ y ∈ scope.names, y.2 = NameKind.free → ∃ c, X.env.cells.lookup y.1 = some c := fun y hy e => I.ok.has y.1 (ok.free y hy e)
  have hcl := closureFor_clos hfr
  have hg : s.heap.Ns mainGlobals X.mg := I.ok.mod.glob.keeps I.bk
  obtain ⟨bm, ob, b1, b2, b3, b4, b5, b6⟩ := hbk.ex
  have hbo := I.kIn _ _ b3
  have hgP : mainGlobals ≠ T := fun z => by
    obtain ⟨o, es, ep, e, hd, _⟩ := hg
    rw [z, hP] at e; cases e; cases hd
  have hbG : bm ≠ mainGlobals := fun z => by
    obtain ⟨o, es, ep, e, hd, _⟩ := hg
    rw [z, e] at hbo; cases hbo; rw [hd] at b6; cases b6
  have hbT : bm ≠ T := fun z => by rw [z, hP] at hbo; cases hbo; cases b4
  rw [arm_eval_Lambda, hdef]
  refine wpAny_bind (PyProof.Rows.evalAll_nil ?_)
  refine wpAny_bind (wpAny_holding (wpAny_pure ?_))
  rw [hq]
  cases hnf : codeAmong pos ps.toList with
  | none =>
    refine kla_makeFunction (mg := X.mg) hcl I.ok.glob hg hcode C hP htr hnf hgP ⟨bm, ob, b1, b2, hbG, hbT, hbo, b4, b5, b6⟩ fun c' ctv h' tk hx hge hlt hrec htb => ?_
    obtain ⟨c₂, oc, vs, t, e2, hoc, hd, hv⟩ := hrec
    cases e2
    have hcn : H c' = none := I.hok.fresh hge
    have hcT : c' ≠ T := Nat.ne_of_gt (Nat.lt_of_lt_of_le hTs hge)
    have nT : ∀ b u, H b = some u → (∀ ps, u ≠ .tbl ps) → b ≠ T := fun b u e n z => by rw [z, hT] at e; cases e; exact n _ rfl
    have nc : ∀ b u, H b = some u → b ≠ c' := fun b u e z => by rw [z, hcn] at e; cases e
    have hk : ∀ b o, b ≠ T → s.heap.get? b = some o → (h'.push (kla_obj "<lambda>" q args body scope (clos X.env scope.names []) ((X.mg "__name__").getD .none) c' ctv)).get? b = some o := fun b o hb e => Heap.get?_push_of_some _ (hx b o hb e)
    have hTn := Heap.get?_push_of_some (kla_obj "<lambda>" q args body scope (clos X.env scope.names []) ((X.mg "__name__").getD .none) c' ctv) htb
    have hHT : upd (upd H T (.tbl (ps ++ #[rawInt pos.line, rawInt pos.col, .ref c']))) c' (.frz oc (.own c')) T = some (.tbl (ps ++ #[rawInt pos.line, rawInt pos.col, .ref c'])) := by rw [upd_ne hcT.symm, upd_same]
    have hHo : ∀ b, b ≠ T → b ≠ c' → upd (upd H T (.tbl (ps ++ #[rawInt pos.line, rawInt pos.col, .ref c']))) c' (.frz oc (.own c')) b = H b := fun b n1 n2 => by rw [upd_ne n2, upd_ne n1]
    have hu : Un X.fs [] H (upd (upd H T (.tbl (ps ++ #[rawInt pos.line, rawInt pos.col, .ref c']))) c' (.frz oc (.own c'))) s.heap (h'.push (kla_obj "<lambda>" q args body scope (clos X.env scope.names []) ((X.mg "__name__").getD .none) c' ctv)) := by
      have nN : ∀ b, H b = none → b ≠ T := fun b n z => by rw [z, hT] at n; cases n
      refine ⟨fun b o e n _ _ => hk b o (nN b n) e, fun b o e n _ _ => ⟨o.slots, hk b o (nN b n) e⟩, fun b o e n _ => ?_, fun b o e _ => ?_, fun b xs e => ?_, fun b o u e => ?_, fun b ps' e => ?_⟩
      · rw [hHo b (nN b n) (Nat.ne_of_lt (Nat.lt_of_lt_of_le (Heap.lt_size e) hge))]; exact n
      · by_cases z : b = T
        · rw [z]; exact ⟨_, hTn⟩
        · exact ⟨o, hk b o z e⟩
      · rw [hHo b (nT b _ e fun _ z => by cases z) (nc b _ e)]; exact e
      · rw [hHo b (nT b _ e fun _ z => by cases z) (nc b _ e)]; exact e
      · by_cases z : b = T
        · subst z; rw [hT] at e; cases e; exact ⟨_, hHT⟩
        · exact ⟨#[], by rw [hHo b z (nc b _ e), e]; simp⟩
    have hok' : HOk X.prog X.w (upd (upd H T (.tbl (ps ++ #[rawInt pos.line, rawInt pos.col, .ref c']))) c' (.frz oc (.own c'))) (h'.push (kla_obj "<lambda>" q args body scope (clos X.env scope.names []) ((X.mg "__name__").getD .none) c' ctv)) := fun b u e => by
      by_cases z1 : b = c'
      · subst z1
        rw [upd_same] at e; cases e
        exact ⟨Heap.get?_push_of_some _ hoc, _, Heap.get?_push_of_some _ hoc⟩
      · by_cases z2 : b = T
        · subst z2; rw [hHT] at e; cases e; exact hTn
        · rw [hHo b z2 z1] at e
          refine (I.hok b u e).stay (fun d v hd' r => hk d v ?_ r) (fun d r => by rw [hHo d (nT d _ r fun _ z => by cases z) (nc d _ r)]; exact r) fun d xs r => by rw [hHo d (nT d _ r fun _ z => by cases z) (nc d _ r)]; exact r
          rcases hd' with z | z
          · rw [z]; exact z2
          · exact nT d _ z fun _ y => by cases y
    have I' := I.un (t' := tk) hu hok'
    have hex : ∀ a o, a ≠ T → H a = some o → upd (upd H T (.tbl (ps ++ #[rawInt pos.line, rawInt pos.col, .ref c']))) c' (.frz oc (.own c')) a = some o := fun a o n e => by rw [hHo a n (nc a o e)]; exact e
    have hcd : CodeAtH (upd (upd H T (.tbl (ps ++ #[rawInt pos.line, rawInt pos.col, .ref c']))) c' (.frz oc (.own c'))) q (.ref c') := ⟨c', oc, vs, t, rfl, upd_same, hd, hv⟩
    have hfs : s.heap.objs.size ≤ h'.objs.size := Nat.le_trans hge (Nat.le_of_lt hlt)
    have hl : (ps ++ #[rawInt pos.line, rawInt pos.col, Value.ref c']).toList = ps.toList ++ [rawInt pos.line, rawInt pos.col, .ref c'] := by simp
    refine h h'.objs.size _ (.ref c') ctv _ _ I' ⟨_, hHT, by rw [hl]; exact TriplesOk_snoc _ _ _ _ htr, fun p' cv e => ?_⟩ hex hcd ?_ (I.mine hfs) (Heap.get?_push_size _ rfl)
    · rw [hl] at e
      rcases codeAmong_app _ htr e with z | z
      · obtain ⟨d, o, vs', t', z1, z2, z3⟩ := hcs p' cv z
        exact ⟨d, o, vs', t', z1, by rw [hHo d (nT d _ z2 fun _ y => by cases y) (nc d _ z2)]; exact z2, z3⟩
      · rw [z]; exact hcd
    · rw [hHo _ (Nat.ne_of_gt (Nat.lt_of_lt_of_le hTs hfs)) (Nat.ne_of_gt hlt)]; exact I.hok.fresh hfs
  | some cv =>
    refine kla_makeFunctionHit (mg := X.mg) hcl I.ok.glob hg hcode C hP htr hnf ⟨bm, ob, b1, b2, hbG, hbT, hbo, b4, b5, b6⟩ fun ctv h' tk hk hsz => ?_
    exact h h'.objs.size _ cv ctv H _ (I.kept (t' := tk) fun b o e => Heap.get?_push_of_some _ (hk b o e)) ⟨ps, hT, htr, hcs⟩ (fun a o _ e => e) (hcs pos cv hnf) (I.hok.fresh hsz) (I.mine hsz) (Heap.get?_push_size _ rfl)
def cxLam (X : Cx) (Nc : List Str) (scope : Scope) (q : Str) (f : Addr) (cv : Value) (cl : List (Str × Addr)) (A : Around) (s : Shared) (H : Hp) : Cx where
  prog := X.prog
  w := X.w
  K := X.K
  mg := X.mg
  base := X.base
  A := A.deeper (newEnv scope s.heap.objs.size mainGlobals cl (q ++ ".<locals>.") (some f) cv none builtinsNs)
  N := Nc
  s₀ := s
  H₀ := H
  env := newEnv scope s.heap.objs.size mainGlobals cl (q ++ ".<locals>.") (some f) cv none builtinsNs
  outer := X.stack
  stack := newEnv scope s.heap.objs.size mainGlobals cl (q ++ ".<locals>.") (some f) cv none builtinsNs :: X.stack
  ex := []
  fn := fun _ => false
  calm := true
  pn := []
  xe := NoE
theorem lam_call {A : Around} {f : Addr} {pm cv ctv : Value} {q : Str} {args : Arguments} {body : Expr} {scope : Scope} {x : Str} {Nr : List Str} {js : List (Option Nat)} {v : V} {u : Value} {tb : TE} {Q : VK} {E : Value → Shared → Prop} {k : Nat}
    (I : Inv X pins σ H s) (hr : Room k A) (hA : A.frames = some X.stack) (ok : CompOk X (x :: Nr) (none :: js) scope) (hx : scope.names.lookup x = some .local) (hco : scope.isCoroutine = false) (hgen : scope.isGenerator = false)
    (hb : ∀ (q : Str) (cl : List (Str × Addr)) (pm cv ctv u : Value), bindArgs (kla_fn "<lambda>" q args body scope cl pm cv ctv) ⟨[u], []⟩ = pure [(x, u)])
    (ho : s.heap.get? f = some { cls := .type "function", data := .func (kla_fn "<lambda>" q args body scope (clos X.env scope.names []) pm cv ctv) }) (hc : CodeAtH H q cv) (rv : RelV v u)
    (he : PE (cxLam X (x :: Nr) scope q f cv (clos X.env scope.names []) A s H) body tb) (h : tb (some v :: pickS js σ) H Q) :
    wpAny (model X.prog X.w) A (call (.ref f) [u]) (EP X pins σ Q) E s := by
  have hfr : ∀ y ∈ scope.names, y.2 = NameKind.free → ∃ c, X.env.cells.lookup y.1 = some c := fun y hy e => I.ok.has y.1 (ok.free y hy e)
  have hlook : ∀ x c, (clos X.env scope.names []).lookup x = some c → X.env.cells.lookup x = some c := fun x c e => clos_look hfr (fun y d q => by simp at q) e
  obtain ⟨c', oc, vs, t, rfl, hcc, hd, hv⟩ := hc
  have hrec : s.heap.CodeRec (.ref c') q := ⟨c', oc, vs, t, rfl, (I.hok c' _ hcc).1, hd, hv⟩
  refine wpAny_call (kla_callFunE hr.depth ho rfl hco hgen rfl hrec ?_)
  rw [hb]
  refine wpAny_pure ?_
  refine wpAny_newFunctionEnv ok.nocell (fun y hy => by rw [List.mem_singleton.mp hy]; exact hx) (fun h₁ hns hsb => ?_) ok.kind
  have old : ∀ b o, s.heap.get? b = some o → h₁.get? b = some o := fun b o e => hsb.extBut b o (Nat.ne_of_lt (Heap.lt_size e)) (Heap.get?_push_of_some _ e)
  refine ⟨I.nolimit.keeps old, kla_codeExpr ?_⟩
  have okc : (cxLam X (x :: Nr) scope q f (.ref c') (clos X.env scope.names []) A s H).Ok := by
    have noA : ∀ b : Addr, b ∉ (cxLam X (x :: Nr) scope q f (.ref c') (clos X.env scope.names []) A s H).ex := fun b z => absurd (show b ∈ ([] : List Addr) from z) (by simp)
    refine ⟨I.ok.mod, ok.kind, rfl, rfl, Nat.le_refl _, fun y z c e1 e2 => I.ok.inj y z c (hlook y c e1) (hlook z c e2), fun y hy => ?_, fun y c z _ => absurd z Bool.false_ne_true, fun _ => hr.hd, Around.frames_deeper hA, .inr ⟨rfl, rfl⟩, fun b z => absurd z (noA b),
      I.bs, Nat.le_trans I.ok.bsz I.sz, fun b _ _ => noA b, fun b z => absurd z (noA b), I.stack, I.stkFree⟩
    have hy' : scope.names.lookup y = some .cell ∨ scope.names.lookup y = some .free := hy
    rcases hy' with z | z
    · exact absurd rfl (ok.nocell _ (PySem.mem_of_lookup z))
    · exact clos_has (.inl (PySem.mem_of_lookup z))
  have Ic : Inv (cxLam X (x :: Nr) scope q f (.ref c') (clos X.env scope.names []) A s H) [] (some v :: pickS js σ) H { s with heap := h₁, toks := s.toks + [(x, u)].length } := by
    refine ⟨okc, rfl, I.bare, Un.kept old, ⟨_, hns, fun i y z e1 e2 e3 => ?_⟩, fun y c e => ?_, I.hok.fresh (Nat.le_refl _), fun y c e => I.freeC y c (hlook y c e), fun p hp => absurd (show p ∈ ([] : List (Addr × Obj)) from hp) (by simp), I.hok.kept old, ?_⟩
    · cases i with
      | zero =>
        have e1' : x = y := by simpa [cxLam] using e1
        have e2' : v = z := by simpa using e2
        subst e1'; subst e2'
        exact ⟨u, rv, .inl ⟨hx, by simp⟩⟩
      | succ i =>
        have e1' : (x :: Nr)[i + 1]? = some y := e1
        rw [List.getElem?_cons_succ] at e2
        unfold pickS at e2
        rw [List.getElem?_map] at e2
        cases ej : js[i]? with
        | none => rw [ej] at e2; simp at e2
        | some oj =>
          rw [ej] at e2
          cases oj with
          | none => simp at e2
          | some j =>
            have e2' : (σ[j]?).getD none = some z := by simpa using e2
            have e2'' : σ[j]? = some (some z) := by
              cases q : σ[j]? with
              | none => rw [q] at e2'; simp at e2'
              | some z' => rw [q] at e2'; simp at e2'; rw [e2']
            obtain ⟨hN, hF⟩ := ok.map (i + 1) y j e1' (by rw [List.getElem?_cons_succ]; exact ej)
            have hmem : (y, NameKind.free) ∈ scope.names := PySem.mem_of_lookup hF
            have hkX := ok.free _ hmem rfl
            obtain ⟨m, hn, hl⟩ := I.loc
            have hvis : Vis X.env.scope y := by
              rcases hkX with z | z
              · exact .inr (.inl z)
              · exact .inr (.inr z)
            obtain ⟨u', ru, lk⟩ := hl j y z hN e2'' hvis
            refine ⟨u', ru, .inr ?_⟩
            rcases lk with ⟨k1, _⟩ | ⟨_, c, ec, ic⟩
            · have k1' : X.env.kindOf y = some NameKind.local := k1
              rcases hkX with z | z
              · rw [z] at k1'; cases k1'
              · rw [z] at k1'; cases k1'
            · obtain ⟨c2, hc2⟩ := clos_has (env := X.env) (l := scope.names) (cs := []) (x := y) (.inl hmem)
              have e' := hlook y c2 hc2
              rw [ec] at e'
              cases e'
              exact ⟨.inr hF, c, hc2, ic.keeps old⟩
    · obtain ⟨z, r⟩ := I.cell y c (hlook y c e)
      exact ⟨z, r.keeps old⟩
    · show (some v :: pickS js σ).length = (x :: Nr).length
      have := ok.len
      unfold pickS
      rw [List.length_cons, List.length_map]
      simpa using this
  refine wpAny_mono (he [] _ _ H Q Ic h) (fun u' s' hs => ?_) fun e s' hs => hs.elim
  obtain ⟨v', H', J, rv', hq⟩ := hs
  exact ⟨v', H', I.call' (ch := []) J.os J.base J.hok J.bare (fun b z => absurd z (by simp)), rv', hq⟩
end
theorem vals_refsK : ∀ {ps : List Addr} {its : List Value}, Vals (ps.map V.ref) its → its = ps.map Value.ref
  | [], _, .nil => rfl
  | p :: ps, _, .cons h r => by
    have e : _ = Value.ref p := h
    rw [e, vals_refsK r]; rfl
theorem refs_vals : ∀ (ps : List Addr), Vals (ps.map V.ref) (ps.map Value.ref)
  | [] => .nil
  | p :: ps => .cons rfl (refs_vals ps)
theorem getD_str {ss : List Str} {i : Nat} {z : Str} (e : ss[i]? = some z) : ss.getD i "" = z := by rw [List.getD_eq_getElem?_getD, e]; rfl
theorem range_getS (ss : List Str) : (List.range ss.length).map (fun i => ss.getD i "") = ss := by
  refine List.ext_getElem (by simp) fun i h1 h2 => ?_
  simp [h2]
def ltG (g : Str → Int) (x y : Str) : Bool := ltP (g x, x) (g y, y)
theorem ltG_ok {ss : List Str} (g : Str → Int) (nd : ss.Nodup) : LtOk (fun i j => ltG g (ss.getD i "") (ss.getD j "")) ss.length where
  irr := fun i _ => ltP_irr _
  tr := fun i j k _ _ _ a b => ltP_tr a b
  tot := fun i j hi hj e => by
    refine ltP_tot fun z => ?_
    have z2 : ss.getD i "" = ss.getD j "" := congrArg Prod.snd z
    rw [getD_str (List.getElem?_eq_getElem hi), getD_str (List.getElem?_eq_getElem hj)] at z2
    exact e ((List.getElem_inj nd).mp z2)
theorem pair_asc {lt : Nat → Nat → Bool} {p : Array Nat} {n : Nat} (hs : p.size = n) (a : Asc lt p n) : p.toList.Pairwise (fun i j => lt i j = true) := by
  rw [List.pairwise_iff_getElem]
  intro i j hi hj hij
  have hi' : i < p.size := by simpa using hi
  have hj' : j < p.size := by simpa using hj
  have := a i j hij (by omega)
  have e1 : p.getD i 0 = p[i] := by simp [Array.getD, hi']
  have e2 : p.getD j 0 = p[j] := by simp [Array.getD, hj']
  rw [e1, e2] at this
  simpa using this
section
variable {X : Cx} {pins : List (Addr × Obj)} {σ : St} {H : Hp} {s : Shared} {A : Around} {E : Value → Shared → Prop} {a kS : Addr} {e1 : Nat} {P : PySem.Fin → Shared → Prop}
theorem sortK_tail {st : SortSt} {out : List Value} {ss' : List Str} {xs : List V} (I : Inv X ((a, seqObj "list" #[] e1) :: pins) σ H s) (hm : Mine X pins a) (hk : H kS = some (.lst xs)) (hxs : xs.length < 64)
    (hf : failedOf st = none) (ho : (arrOf st).map (·.2) = List.toArray out) (rv : Vals (ss'.map V.str) out) (h64 : ss'.length < 64)
    (h : ∀ H' s', Inv X pins σ H' s' → H' a = some (.lst (ss'.map V.str)) → (∀ b o, b ≠ kS → H b = some o → H' b = some o) → P (.done (.ret .none)) s') :
    wpAny (model X.prog X.w) A (ksk_tail a false e1 (.ref kS) st) P E s := by
  obtain ⟨_, its, n, rk, hko⟩ := I.hok kS _ hk
  have hpa := I.pin (a, seqObj "list" #[] e1) (List.mem_append_right _ List.mem_cons_self)
  have hka : kS ≠ a := fun z => by rw [z, hpa.2.1] at hk; cases hk
  have hil := rk.length
  have hol : out.length = ss'.length := by have := rv.length; simpa using this.symm
  obtain ⟨e2, hk2⟩ : ∃ e2, (s.heap.update kS (Obj.mapSeq fun _ => (#[] : Array Value))).get? kS = some (seqObj "list" #[] e2) := ⟨_, get?_update_seq hko fun _ => #[]⟩
  have I1 := I.write (x := kS) (e := kS) (o := .lst []) (t' := s.toks) (h' := s.heap.update kS (Obj.mapSeq fun _ => (#[] : Array Value))) (by rw [hk]; trivial) (.inl rfl) (fun b u hb e => by rw [Heap.get?_update_ne _ _ _ _ hb]; exact e) ⟨_, hk2⟩ ⟨Nat.zero_le _, [], e2, .nil, hk2⟩
  have hpa1 := I1.pin (a, seqObj "list" #[] e1) (List.mem_append_right _ List.mem_cons_self)
  obtain ⟨e3, ha3⟩ : ∃ e3, ((s.heap.update kS (Obj.mapSeq fun _ => (#[] : Array Value))).update a (Obj.mapSeq fun _ => List.toArray out)).get? a = some (seqObj "list" (List.toArray out) e3) := ⟨_, get?_update_seq hpa1.1 fun _ => List.toArray out⟩
  have I2 := (I1.pins_of (pins' := pins) (fun p hp => I1.pin p (List.mem_append_right _ (List.mem_cons_of_mem _ hp)))).adopt (a := a) (o := .lst (ss'.map V.str)) (t' := s.toks) (h' := (s.heap.update kS (Obj.mapSeq fun _ => (#[] : Array Value))).update a (Obj.mapSeq fun _ => List.toArray out)) hpa1.2.1 hm
    (fun b u hb e => by rw [Heap.get?_update_ne _ _ _ _ hb]; exact e) ⟨by rw [List.length_map, sizeLine_eq]; omega, out, e3, rv, ha3⟩
  unfold ksk_tail
  simp only [Bool.false_eq_true, if_false, ho]
  refine wpAny_bind (listUpdate_at hko rfl ?_ (by rw [List.size_toArray, sizeLine_eq]; omega) (Nat.zero_le _))
  refine wpAny_bind (wpAny_letGo ?_)
  refine wpAny_bind (seqEpoch_at hpa1.1 rfl ?_)
  refine wpAny_bind (listUpdate_at hpa1.1 rfl ?_ (Nat.zero_le _) (by rw [List.size_toArray, sizeLine_eq]; omega))
  rw [hf]
  simp only [bne_self_eq_false, Bool.false_eq_true, if_false]
  refine wpAny_pure (h _ _ I2 upd_same fun b o hb e => ?_)
  rw [upd_ne (fun z => by rw [z, hpa.2.1] at e; cases e), upd_ne hb]
  exact e
theorem sortK_end {ps : List Addr} {its : List Value} {ss : List Str} {g : Str → Int} (I : Inv X ((a, seqObj "list" #[] e1) :: pins) σ H s) (hm : Mine X pins a) (hk : H kS = some (.lst (ps.map V.ref))) (hl : ps.length = ss.length) (h64 : ss.length < 64) (nd : ss.Nodup)
    (rv : Vals (ss.map V.str) its) (hp : ∀ (j : Nat) z p, ss[j]? = some z → ps[j]? = some p → H p = some (.tup [.int (g z), .str z]))
    (h : ∀ (H' : Hp) (s' : Shared) (ss' : List Str), Inv X pins σ H' s' → H' a = some (.lst (ss'.map V.str)) → (∀ b o, b ≠ kS → H b = some o → H' b = some o) → ss'.Perm ss → ss'.Pairwise (fun x y => ltG g x y = true) → P (.done (.ret .none)) s') :
    wpAny (model X.prog X.w) A (ksk_end a false its.toArray e1 (.ref kS) (List.toArray (ps.map Value.ref))) P E s := by
  have hn : its.length = ss.length := by have := rv.length; simpa using this.symm
  have hkl : (ps.map Value.ref).length = its.length := by rw [List.length_map]; omega
  unfold ksk_end
  simp only [Bool.false_eq_true, if_false]
  by_cases h2 : its.toArray.size < 2
  · rw [if_pos h2, if_pos h2]
    refine wpAny_bind (wpAny_pure ?_)
    rw [StateT.run_pure]
    refine wpAny_bind (wpAny_pure ?_)
    dsimp only
    rw [List.size_toArray] at h2
    have hz : (arrOf (SortSt.mk' general' ((List.toArray (ps.map Value.ref)).zip its.toArray) #[] 7 none)).map (·.2) = List.toArray its := by
      show ((List.toArray (ps.map Value.ref)).zip its.toArray).map (·.2) = List.toArray its
      apply Array.toList_inj.mp
      simp only [Array.toList_map, Array.toList_zip]
      exact List.map_snd_zip (by omega)
    refine sortK_tail (out := its) (ss' := ss) I hm hk (by rw [List.length_map]; omega) rfl hz rv h64 fun H' s' i1 i2 i3 => h H' s' ss i1 i2 i3 (List.Perm.refl _) ?_
    match ss, (show ss.length < 2 by omega) with
    | [], _ => exact List.Pairwise.nil
    | [z], _ => simp
    | _ :: _ :: _, q => exact absurd q (by simp)
  · rw [if_neg h2, if_neg h2]
    rw [List.size_toArray] at h2
    have h2' : 2 ≤ its.length := by omega
    have hget : ∀ i, i < its.length → ∃ z p, ss[i]? = some z ∧ ps[i]? = some p ∧ H p = some (.tup [.int (g z), .str z]) := fun i hi => by
      have e1 := List.getElem?_eq_getElem (show i < ss.length by omega)
      have e2 := List.getElem?_eq_getElem (show i < ps.length by omega)
      exact ⟨_, _, e1, e2, hp i _ _ e1 e2⟩
    have hat : ∀ i, i < its.length → ∃ b o n t t', (ps.map Value.ref).getD i Value.none = .ref b ∧ s.heap.get? b = some o ∧ o.data = .seq #[.int (g (ss.getD i "")) t, .str (ss.getD i "") t'] n := fun i hi => by
      obtain ⟨z, p, e1, e2, e3⟩ := hget i hi
      obtain ⟨o, n, t, t', f1, f2, f3⟩ := tup_at (I.hok _ _ e3)
      rw [getD_str e1]
      exact ⟨p, o, n, t, t', by rw [List.getD_eq_getElem?_getD, List.getElem?_map, e2]; rfl, f1, f3⟩
    obtain ⟨fs, g1, g2, g3⟩ := tups_of (h' := s.heap) (fun b o e => I.hok b o e) (fun _ _ e => e) (refs_vals ps) (fun v hv => by
      obtain ⟨p, hp1, rfl⟩ := List.mem_map.mp hv
      obtain ⟨i, hi, rfl⟩ := List.getElem_of_mem hp1
      obtain ⟨z, p, e1, e2, e3⟩ := hget i (by omega)
      rw [List.getElem?_eq_getElem hi] at e2
      cases e2
      exact ⟨_, _, _, rfl, e3⟩)
    refine wpAny_bind (kat_kind (T := .type "int") g1 (by omega) (fun v hv => by obtain ⟨i, t, rfl⟩ := g3 v hv; exact .now) (by decide) ?_)
    have hok := ok_sort (n := its.length) (by omega)
    have L := ltG_ok g nd
    rw [← hn] at L
    refine wpAny_bind (wpAny_mono (kat_run (ks := ps.map Value.ref) (vs := its) (κ := tuples' true) (Q := fun st' s' => ∃ p : Array Nat, p.size = its.length ∧ arrOf st' = p.map (kas_item ((ps.map Value.ref).toArray.zip its.toArray)) ∧ failedOf st' = none ∧ p = kRun (fun i j => ltG g (ss.getD i "") (ss.getD j "")) (kas_sort its.length) ∧ s' = s)
      (G := fun p s' => p = kRun (fun i j => ltG g (ss.getD i "") (ss.getD j "")) (kas_sort its.length) ∧ s' = s)
      hkl h2' (by omega) (fun p' st' s' a1 a2 a3 a4 => ⟨p', a1, a2, a3, a4.1, a4.2⟩) (TOk.wp (lt := fun i j => ltG g (ss.getD i "") (ss.getD j "")) (fun i j C hi hj hC => ?ask) hok ⟨rfl, rfl⟩)) ?_ fun _ _ e => e)
    case ask =>
      obtain ⟨b, oa, na, ta, ta', ea, ha, da⟩ := hat i hi
      obtain ⟨c, ob, nb, tb, tb', eb, hb, db⟩ := hat j hj
      unfold kas_ask
      rw [ea, eb]
      refine kat_lt ha da hb db ?_
      have hC' : C (ltP (g (ss.getD i ""), ss.getD i "") (g (ss.getD j ""), ss.getD j "")) s := hC
      generalize hx : (g (ss.getD i ""), ss.getD i "") = x at hC'
      generalize hy : (g (ss.getD j ""), ss.getD j "") = y at hC'
      have hx1 : g (ss.getD i "") = x.1 := by rw [← hx]
      have hx2 : ss.getD i "" = x.2 := by rw [← hx]
      have hy1 : g (ss.getD j "") = y.1 := by rw [← hy]
      have hy2 : ss.getD j "" = y.2 := by rw [← hy]
      unfold ltP at hC'
      show KatLex _ _ _ _ _ _ [(.int (g (ss.getD i "")) ta, .int (g (ss.getD j "")) tb), (.str (ss.getD i "") ta', .str (ss.getD j "") tb')] 0 _
      rw [hx1, hy1, hx2, hy2]
      refine kat_cons (wpAny_eqBool_int ?_)
      by_cases h1 : x.1 = y.1
      · rw [show (x.1 == y.1) = true from by rw [h1]; exact beq_self_eq_true _]
        rw [if_pos h1] at hC'
        refine kat_yes (kat_cons (wpAny_eqBool_str ?_))
        by_cases h2 : x.2 = y.2
        · rw [decide_eq_true h2]
          rw [if_pos h2] at hC'
          exact kat_yes (kat_nil (by simpa using hC'))
        · rw [decide_eq_false h2]
          rw [if_neg h2] at hC'
          refine kat_no ?_
          show wpAny _ _ (oneLt' (true && (0 + 1) == 0) _ _) _ _ _
          rw [show (true && (0 + 1) == 0) = false from rfl]
          exact kat_one _ _ (PySem.P.lt_str hC')
      · rw [show (x.1 == y.1) = false from beq_eq_false_iff_ne.mpr h1]
        rw [if_neg h1] at hC'
        refine kat_no ?_
        exact oneLt_int hC'
    rintro ⟨⟨⟩, st'⟩ s' ⟨p, hpz, har, hf, hpe, rfl⟩
    dsimp only
    have hP : PermN its.length p := by rw [hpe]; exact hok.run
    have hA := run_sort L (by omega)
    rw [← hpe] at hA
    have hpl : ∀ i ∈ p.toList, i < ss.length := fun i hi => by
      have := hP.list.mem_iff.mp hi
      rw [List.mem_range] at this; omega
    have hv := vals_pick rv p.toList (fun i hi => by rw [List.length_map]; exact hpl i hi)
    have hem : (p.toList.map fun i => (ss.map V.str).getD i .non) = (p.toList.map fun i => ss.getD i "").map V.str := by
      rw [List.map_map]
      refine List.map_congr_left fun i hi => ?_
      have e := List.getElem?_eq_getElem (hpl i hi)
      show (ss.map V.str).getD i .non = V.str (ss.getD i "")
      rw [getD_str e, List.getD_eq_getElem?_getD, List.getElem?_map, e]; rfl
    rw [hem] at hv
    have hplen : p.toList.length = ss.length := by rw [hP.list.length_eq, List.length_range]; exact hn
    refine sortK_tail (out := p.toList.map fun i => its.getD i Value.none) (ss' := p.toList.map fun i => ss.getD i "") I hm hk (by rw [List.length_map]; omega) hf (kat_snds hkl har) hv (by rw [List.length_map]; omega) fun H' s' i1 i2 i3 => h H' s' _ i1 i2 i3 ?_ ?_
    · have h1 := hP.list.map fun i => ss.getD i ""
      rw [hn, range_getS] at h1
      exact h1
    · rw [List.pairwise_map]
      exact pair_asc hpz hA
theorem sortK_tree {f : Addr} {pm cv ctv : Value} {q : Str} {args : Arguments} {body : Expr} {scope : Scope} {x : Str} {Nr : List Str} {js : List (Option Nat)} {tb : TE} {k : Nat} {its : List Value} {n : Nat} {ss : List Str} {g : Str → Int}
    (I : Inv X pins σ H s) (hr : Room k A) (hA : A.frames = some X.stack) (ok : CompOk X (x :: Nr) (none :: js) scope) (hx : scope.names.lookup x = some .local) (hco : scope.isCoroutine = false) (hgen : scope.isGenerator = false)
    (hb : ∀ (q : Str) (cl : List (Str × Addr)) (pm cv ctv u : Value), bindArgs (kla_fn "<lambda>" q args body scope cl pm cv ctv) ⟨[u], []⟩ = pure [(x, u)])
    (hf : (f, ({ cls := .type "function", data := .func (kla_fn "<lambda>" q args body scope (clos X.env scope.names []) pm cv ctv) } : Obj)) ∈ pins) (hc : CodeAtH H q cv)
    (he : ∀ s H, PE (cxLam X (x :: Nr) scope q f cv (clos X.env scope.names []) A s H) body tb)
    (ha : s.heap.get? a = some (seqObj "list" its.toArray n)) (hna : H a = none) (hm : Mine X pins a) (rv : Vals (ss.map V.str) its) (h64 : ss.length < 64) (nd : ss.Nodup)
    (hask : ∀ z ∈ ss, ∀ H2, Ex H H2 → tb (some (.str z) :: pickS js σ) H2 fun v H3 => ∃ p, v = .ref p ∧ H3 p = some (.tup [.int (g z), .str z]) ∧ Ex H2 H3)
    (h : ∀ (H' : Hp) (s' : Shared) (ss' : List Str), Inv X pins σ H' s' → H' a = some (.lst (ss'.map V.str)) → Ex H H' → ss'.Perm ss → ss'.Pairwise (fun x y => ltG g x y = true) → P (.done (.ret .none)) s') :
    wpAny (model X.prog X.w) A (ksk_tree a (.ref f) false) P E s := by
  have hn : its.length = ss.length := by have := rv.length; simpa using this.symm
  obtain ⟨e1, ho1⟩ : ∃ e1, (s.heap.update a (Obj.mapSeq fun _ => (#[] : Array Value))).get? a = some (seqObj "list" #[] e1) := ⟨_, get?_update_seq ha fun _ => #[]⟩
  have I1 : Inv X pins σ H { s with heap := s.heap.update a (Obj.mapSeq fun _ => (#[] : Array Value)), toks := s.toks } :=
    I.turned (fun b o hb e => by rw [Heap.get?_update_ne _ _ _ _ hb]; exact e) hna hm.loc (.inr hm.s0) hm.cell hm.pin
  have I2 := I1.kept (t' := s.toks) (h' := (s.heap.update a (Obj.mapSeq fun _ => (#[] : Array Value))).push { cls := .type "tuple", data := .seq its.toArray.toList.toArray }) fun b o e => Heap.get?_push_of_some _ e
  have hS := I2.hok.fresh (Nat.le_refl _)
  have I3 := I2.laid (t' := s.toks) (a := ((s.heap.update a (Obj.mapSeq fun _ => (#[] : Array Value))).push { cls := .type "tuple", data := .seq its.toArray.toList.toArray }).objs.size) (o := .lst [])
    (h' := ((s.heap.update a (Obj.mapSeq fun _ => (#[] : Array Value))).push { cls := .type "tuple", data := .seq its.toArray.toList.toArray }).push { cls := .type "list", data := .seq ([] : List Value).toArray }) (fun b o e => Heap.get?_push_of_some _ e) (Nat.le_refl _)
    ⟨Nat.zero_le _, [], 0, .nil, Heap.get?_push_size _ rfl⟩
  have ho3 := Heap.get?_push_of_some ({ cls := .type "list", data := .seq ([] : List Value).toArray } : Obj) (Heap.get?_push_of_some ({ cls := .type "tuple", data := .seq its.toArray.toList.toArray } : Obj) ho1)
  generalize hkS : ((s.heap.update a (Obj.mapSeq fun _ => (#[] : Array Value))).push { cls := .type "tuple", data := .seq its.toArray.toList.toArray }).objs.size = kS at I3 hS
  have hka : a ≠ kS := by rw [← hkS]; exact Nat.ne_of_lt (Heap.lt_size (Heap.get?_push_of_some _ ho1))
  have hSn : H kS = none := hS
  have I4 := I3.pins_of (pins' := (a, seqObj "list" #[] e1) :: pins) (fun p hp => by
    rcases List.mem_cons.mp hp with z | z
    · subst z
      exact ⟨ho3, by rw [upd_ne hka]; exact hna, hm.loc, hm.fs, fun v z => by cases z⟩
    · exact I3.pin p (List.mem_append_right _ z))
  have ex4 : Ex H (upd H kS (.lst [])) := fun b o e => by rw [upd_ne (fun z => by rw [z, hSn] at e; cases e)]; exact e
  unfold ksk_tree
  refine wpAny_bind (listItems_at ha rfl ?_)
  refine wpAny_bind (listUpdate_at ha rfl ?_ (by rw [List.size_toArray, sizeLine_eq]; omega) (Nat.zero_le _))
  refine wpAny_bind (seqEpoch_at ho1 rfl ?_)
  refine wpAny_bind (wpAny_newTuple ?_ (by show its.length ≤ _; rw [sizeLine_eq]; omega))
  refine wpAny_bind (wpAny_newList ?_ (Nat.zero_le _))
  refine wpAny_holding ?_
  show wpAny (model X.prog X.w) A (ksk_rest a (.ref f) false its.toArray e1 (.ref ((s.heap.update a (Obj.mapSeq fun _ => (#[] : Array Value))).push { cls := .type "tuple", data := .seq its.toArray.toList.toArray }).objs.size)) P E _
  rw [hkS]
  unfold ksk_rest
  refine wpAny_bind (wpAny_rule ?_)
  rw [List.forIn_toArray]
  refine wpAny_bind (ksk_fold (fun i s' => ∃ H' ps, Inv X ((a, seqObj "list" #[] e1) :: pins) σ H' s' ∧ Ex H H' ∧ H' kS = some (.lst (ps.map V.ref)) ∧ ps.length = i ∧ ∀ (j : Nat) z p, ss[j]? = some z → ps[j]? = some p → H' p = some (.tup [.int (g z), .str z])) its 0 _
    ⟨_, [], I4, ex4, upd_same, rfl, fun j z p _ e => by simp at e⟩ ?step ?done)
  case step =>
    rintro j u s' hu ⟨H', ps, I', ex', hk', hl', hp'⟩
    rw [Nat.zero_add] at hl' ⊢
    have hj : j < its.length := (List.getElem?_eq_some_iff.mp hu).1
    have ez := List.getElem?_eq_getElem (show j < ss.length by omega)
    obtain ⟨u2, hu2, ru⟩ := rv.get (i := j) (x := V.str (ss[j]'(by omega))) (by rw [List.getElem?_map, ez]; rfl)
    rw [hu] at hu2
    cases hu2
    have hfo := (I'.pin _ (List.mem_append_right _ (List.mem_cons_of_mem _ hf))).1
    refine wpAny_bind (wpAny_attempt (wpAny_mono (lam_call (E := fun _ _ => False) I' hr hA ok hx hco hgen hb hfo (hc.mono ex') ru (he s' H') (hask _ (List.getElem_mem _) H' ex')) (fun v s'' hv => ?_) fun _ _ z => z.elim))
    obtain ⟨v', H2, J, rw', p, rfl, hpt, ex2⟩ := hv
    cases rw'
    dsimp only
    have hk2 := ex2 _ _ hk'
    obtain ⟨_, its', n', rk, hko⟩ := J.hok kS _ hk2
    have hil := rk.length
    rw [List.length_map] at hil
    obtain ⟨c2, hc2⟩ : ∃ c2, (s''.heap.update kS (Obj.mapSeq (·.push (Value.ref p)))).get? kS = some (seqObj "list" (its'.toArray.push (Value.ref p)) c2) := ⟨_, get?_update_seq hko (·.push (Value.ref p))⟩
    have epush : its'.toArray.push (Value.ref p) = (its' ++ [Value.ref p]).toArray := by simp
    rw [epush] at hc2
    have emap : (ps ++ [p]).map V.ref = ps.map V.ref ++ [V.ref p] := by simp
    have J2 := J.write (x := kS) (e := kS) (o := .lst ((ps ++ [p]).map V.ref)) (t' := s''.toks) (h' := s''.heap.update kS (Obj.mapSeq (·.push (Value.ref p)))) (by rw [hk2]; trivial) (.inl rfl) (fun b u hb e => by rw [Heap.get?_update_ne _ _ _ _ hb]; exact e) ⟨_, hc2⟩
      ⟨by rw [List.length_map, List.length_append, sizeLine_eq]; simp only [List.length_cons, List.length_nil]; omega, its' ++ [Value.ref p], c2, by rw [emap]; exact rk.append (.cons rfl .nil), hc2⟩
    have hkp : kS ≠ p := fun z => by rw [z, hpt] at hk2; cases hk2
    refine wpAny_bind (listUpdate_at hko rfl ?_ (by rw [List.size_toArray, sizeLine_eq]; omega) (by rw [Array.size_push, List.size_toArray, sizeLine_eq]; omega))
    refine wpAny_pure ⟨rfl, _, ps ++ [p], J2, fun b o e => ?_, upd_same, by rw [List.length_append, hl']; rfl, fun i z p1 ez1 ep1 => ?_⟩
    · by_cases hb1 : b = kS
      · rw [hb1, hSn] at e; cases e
      · rw [upd_ne hb1]; exact ex2 _ _ (ex' _ _ e)
    · by_cases hi : i < ps.length
      · rw [List.getElem?_append_left hi] at ep1
        have e9 := ex2 _ _ (hp' i z p1 ez1 ep1)
        rw [upd_ne (fun y => by rw [y, hk2] at e9; cases e9)]
        exact e9
      · have hi2 : i = ps.length := by
          have h8 : i < (ps ++ [p]).length := (List.getElem?_eq_some_iff.mp ep1).1
          rw [List.length_append] at h8
          simp only [List.length_cons, List.length_nil] at h8
          omega
        subst hi2
        rw [List.getElem?_append_right (Nat.le_refl _)] at ep1
        simp only [Nat.sub_self, List.getElem?_cons_zero, Option.some.injEq] at ep1
        subst ep1
        rw [upd_ne (Ne.symm hkp)]
        rw [hl', ez] at ez1
        cases ez1
        exact hpt
  case done =>
    rintro s' ⟨H', ps, I', ex', hk', hl', hp'⟩
    rw [Nat.zero_add] at hl'
    obtain ⟨_, its', n', rk, hko⟩ := I'.hok kS _ hk'
    have er := vals_refsK rk
    refine wpAny_bind (listItems_at hko rfl ?_)
    rw [er]
    refine sortK_end I' hm hk' (by omega) h64 nd rv hp' fun H2 s2 ss' i1 i2 i3 i4 i5 => h H2 s2 ss' i1 i2 (fun b o e => i3 b o (fun z => by rw [z, hSn] at e; cases e) (ex' b o e)) i4 i5
end
def kSort (T : Addr) (q : Str) (js : List (Option Nat)) (tb : TE) (σ : St) (Q : VK) (y : V) (H1 : Hp) : Prop := ∃ (p : Addr) (kvs : List (Key × V)) (ss : List Str) (g : Str → Int), y = .ref p ∧ H1 p = some (.dK kvs) ∧ kvs.map (·.1) = ss.map Sum.inr ∧ ss.length < 64 ∧ ss.Nodup ∧ LamT T q H1 ∧
  (∀ z ∈ ss, ∀ H2, (∀ a o, a ≠ T → H1 a = some o → H2 a = some o) → tb (some (.str z) :: pickS js σ) H2 fun v H3 => ∃ p, v = .ref p ∧ H3 p = some (.tup [.int (g z), .str z]) ∧ Ex H2 H3) ∧
  ∀ (l : Addr) (H' : Hp) (ss' : List Str), LamT T q H' → (∀ a o, a ≠ T → H1 a = some o → H' a = some o) → H1 l = none → H' l = some (.lst (ss'.map V.str)) → ss'.Perm ss → ss'.Pairwise (fun x y => ltG g x y = true) → Q (.ref l) H'
def tSortK (T : Addr) (q : Str) (js : List (Option Nat)) (te tb : TE) : TE := fun σ H Q => te σ H (kSort T q js tb σ Q)
theorem pe_sortK {X : Cx} {e : Expr} {te tb : TE} {args : Arguments} {body : Expr} {scope : Scope} {x y : Str} {p pos lpos kp : Pos} {Nr : List Str} {js : List (Option Nat)} {T : Addr} {q : Str} {k : Nat} (hy : y = "sorted") (hc : X.calm = true) (hr : Room (k + 3) X.A) (hg : Gl X y) (hm : X.mg y = none)
    (hcb : codeTb X.K X.env.code = some T) (hbk : BltK X.K X.mg) (ha : PE X e te) (ok : CompOk X (x :: Nr) (none :: js) scope) (hx : scope.names.lookup x = some .local) (hco : scope.isCoroutine = false) (hgen : scope.isGenerator = false)
    (hb : ∀ (q : Str) (cl : List (Str × Addr)) (pm cv ctv u : Value), bindArgs (kla_fn "<lambda>" q args body scope cl pm cv ctv) ⟨[u], []⟩ = pure [(x, u)]) (hq : X.env.qual ++ "<lambda>" = q) (hdef : defaultsOf args X.env = ([], []))
    (he : ∀ f cv cl A s H, Room k (cxLam X (x :: Nr) scope q f cv cl A s H).A → PE (cxLam X (x :: Nr) scope q f cv cl A s H) body tb) (hst : starEach [e] X.env = (false, eval e X.env) :: starEach [] X.env := by rfl) :
    PE X (.Call (.Name y p) [e] [⟨some "key", .Lambda args body scope lpos, kp⟩] pos) (tSortK T q js te tb) := by
  subst hy
  intro pins s σ H Q I h
  refine wpAny_Call_Name_kw (ld_blt I hg hm boot_sortedT ?_ (by decide) (by decide))
  refine callWith_kw (thn (pa_cons ha pa_nil hst pos pins s σ H (fun vs H1 => match vs with | [y] => kSort T q js tb σ Q y H1 | _ => False) I h) fun us s1 ⟨vs, H1, I1, r1, q1⟩ => ?_) (by rw [hst]; rfl) (by rw [hst]; rfl)
  match vs, q1, r1 with
  | [], q1, _ => exact q1.elim
  | _ :: _ :: _, q1, _ => exact q1.elim
  | [y], q1, r1 =>
  obtain ⟨p, kvs, ss, g, rfl, hp, hks, h64, nd, lt1, hask, qq⟩ := q1
  obtain ⟨u, rfl, ru⟩ := vals1 r1
  cases ru
  have hpT : p ≠ T := fun z => by
    obtain ⟨ps, e1, _⟩ := lt1
    rw [z, e1] at hp; cases hp
  refine kws_cons (lam_make I1 hcb hbk ok hq hdef lt1 fun f pm cv ctv H2 s2 I2 lt2 ex2 hcd hfn hfm hfo => kws_nil ?_)
  show wpAny (model X.prog X.w) X.A (call (.builtin "sorted") [.ref p] [(Str.ofString "key", .ref f)]) _ _ s2
  have I3 := I2.pins_of (pins' := (f, ({ cls := .type "function", data := .func (kla_fn "<lambda>" q args body scope (clos X.env scope.names []) pm cv ctv) } : Obj)) :: pins) (fun pr hpr => by
    rcases List.mem_cons.mp hpr with z | z
    · subst z
      exact ⟨hfo, hfn, hfm.loc, hfm.fs, fun v z => by cases z⟩
    · exact I2.pin pr (List.mem_append_right _ z))
  obtain ⟨z, hd, vs, rel, dd⟩ := dk_rd I3.hok (.of (ex2 _ _ hpT hp))
  obtain ⟨ep, hat⟩ := dd.dictAt
  have hn : vs.length = ss.length := by rw [← rel.length]; have := congrArg List.length hks; simpa using this
  refine call_function_entry_kw kind_sorted plain_sorted entry_sorted (ksk_s1 _ _) ?_
  unfold Builtin.«sorted»
  refine wpAny_bind (m := checkCount "sorted" 1 1 _) (wpAny_pure ?_)
  refine wpAny_bind (kdu_collect (A := X.A.in1) (kdl_dict (knd := mixKind X.prog X.w) (kvs := vs) (ep := ep) hd) (I.ok.hd hc) hat (by rw [sizeLine_eq]; omega) fun h' tk acc hk hacc => ?_)
  have hal : acc.toList.length = ss.length := by rw [Array.length_toList]; exact hacc.1.trans hn
  have hS : StrsAre acc.toList ss := strsAre_at hal fun j v e => by
    obtain ⟨k, x, hx, hkv⟩ := hacc.2 j v (by rw [← Array.getElem?_toList]; exact e)
    obtain ⟨y, hy, _⟩ := kv_key rel hx
    have h1 : (kvs.map (·.1))[j]? = some k := by rw [List.getElem?_map, hy]; rfl
    rw [hks, List.getElem?_map] at h1
    cases e2 : ss[j]? with
    | none => rw [e2] at h1; cases h1
    | some z' =>
      rw [e2] at h1
      cases h1
      obtain ⟨t, ht⟩ := key_str hkv
      exact ⟨z', t, rfl, ht⟩
  refine wpAny_bind (wpAny_newList ?_ (by rw [hal, sizeLine_eq]; omega))
  have hoL : (h'.push (seqObj "list" acc.toList.toArray 0)).get? h'.objs.size = some (seqObj "list" acc.toList.toArray 0) := Heap.get?_push_size _ rfl
  have I3' := I3.kept (t' := tk) hk
  have I4 := I3'.kept (t' := tk) (h' := h'.push (seqObj "list" acc.toList.toArray 0)) fun b o e => Heap.get?_push_of_some _ e
  have hD : H2 h'.objs.size = none := I3'.hok.fresh (Nat.le_refl _)
  have hD1 : H1 h'.objs.size = none := by
    cases e : H1 h'.objs.size with
    | none => rfl
    | some o =>
      by_cases y : h'.objs.size = T
      · obtain ⟨ps, e1, _⟩ := lt2
        rw [y, e1] at hD; cases hD
      · rw [ex2 _ _ y e] at hD; cases hD
  refine wpAny_bind (wpAny_holding (wpAny_call_entry_kw slot_list_sort ⟨_, hoL, rfl⟩ entry_list_sort ?body (ksk_l1 _ _)))
  case body =>
    show wpAny (model X.prog X.w) X.A.in1.in1 (Builtin.«list.sort» ⟨[.ref h'.objs.size], [(Str.ofString "key", .ref f)]⟩) _ _ _
    rw [ksk_t1]
    refine sortK_tree (k := k + 1) (ss := ss) (g := g) I4 (show Room (k + 1 + 1 + 1) X.A from hr).in1.in1 I.ok.frames ok hx hco hgen hb List.mem_cons_self hcd (fun s H => he _ _ _ _ s H ((show Room (k + 1 + 1 + 1) X.A from hr).in1.in1.deeper _)) hoL hD (I3'.mine (Nat.le_refl _)) (strs_vals hS) h64 nd
      (fun z hz H3 e3 => hask z hz H3 fun a o n e => e3 _ _ (ex2 _ _ n e)) fun H' s' ss' i1 i2 i3 i4 i5 => ⟨_, rfl, wpAny_pure ⟨_, rfl, ?_⟩⟩
    exact ⟨.ref h'.objs.size, H', i1.pins_of (fun pr hpr => i1.pin pr (List.mem_append_right _ (List.mem_cons_of_mem _ hpr))), rfl, qq _ _ _ (lt2.mono i3) (fun a o n e => i3 _ _ (ex2 _ _ n e)) hD1 i2 i4 i5⟩
def rSortT2 (K : PySem.W.Frag) : List V → Hp → VK → Prop := fun xs H Q => ∃ (p : Addr) (ys : List V), xs = [.ref p] ∧ SqL K H p ys ∧ ys.length < 64 ∧ (∀ v ∈ ys, ∃ a i z, v = .ref a ∧ H a = some (.tup [.int i, .str z])) ∧ (ys.map (pairOf H)).Nodup ∧
  ∀ l ys', H l = none → ys'.Perm ys → (ys'.map (pairOf H)).Pairwise (fun x y => ltP x y = true) → Q (.ref l) (upd H l (.lst ys'))
def rSort2 (K : PySem.W.Frag) : List V → Hp → VK → Prop := fun xs H Q => rSortS K xs H Q ∨ (rSortD xs H Q ∨ rSortT2 K xs H Q)
section
variable {X : Cx}
theorem call_sortT2 : CallR X (.builtin "sorted") (rSortT2 X.K) := by
  intro pins s σ H xs us Q I r h
  obtain ⟨p, ys, rfl, hq, h64, hT, hnd, q⟩ := h
  obtain ⟨u, rfl, ru⟩ := vals1 r
  cases ru
  obtain ⟨its, rv, pl, hz⟩ := I.list hq
  have hn := rv.length
  have hat : ∀ i, i < its.length → ∃ a o n t t', its.getD i Value.none = .ref a ∧ s.heap.get? a = some o ∧ o.data = .seq #[.int (pairOf H (ys.getD i .non)).1 t, .str (pairOf H (ys.getD i .non)).2 t'] n := fun i hi => by
    have hi' : i < ys.length := by omega
    obtain ⟨u, hu, ru⟩ := rv.get (List.getElem?_eq_getElem hi')
    obtain ⟨a, m, z, e, ha⟩ := hT _ (List.getElem_mem hi')
    rw [e] at ru
    cases ru
    obtain ⟨o, n, t, t', e1, e2, e3⟩ := tup_at (I.hok _ _ ha)
    have ep : pairOf H (ys.getD i .non) = (m, z) := by
      rw [List.getD_eq_getElem?_getD, List.getElem?_eq_getElem hi', Option.getD_some, e]
      show (match H a with | some (.tup [.int i, .str z]) => (i, z) | _ => (0, "")) = (m, z)
      rw [ha]
    rw [ep]
    exact ⟨a, o, n, t, t', by rw [List.getD_eq_getElem?_getD, hu]; rfl, e1, e3⟩
  refine Calls.call_function_entry kind_sorted plain_sorted entry_sorted (args_sorted1 _) ?_
  unfold Builtin.«sorted»
  refine wpAny_bind (m := checkCount "sorted" 1 1 _) (wpAny_pure ?_)
  refine wpAny_bind (collect_list pl.isList ?_ (by rw [sizeLine_eq]; omega))
  refine wpAny_bind (wpAny_newList ?_ (by rw [sizeLine_eq]; omega))
  have hsz : ((s.heap.push (seqObj "list" #[] 0)).update s.heap.objs.size (Obj.mapSeq (· ++ its.toArray))).objs.size = s.heap.objs.size + 1 := by
    rw [Heap.size_update, size_push']
  have hoL : (((s.heap.push (seqObj "list" #[] 0)).update s.heap.objs.size (Obj.mapSeq (· ++ its.toArray))).push (seqObj "list" its.toArray 0)).get? (s.heap.objs.size + 1) = some (seqObj "list" its.toArray 0) := by
    rw [← hsz]; exact Heap.get?_push_size _ rfl
  have keep : ∀ b o, s.heap.get? b = some o → (((s.heap.push (seqObj "list" #[] 0)).update s.heap.objs.size (Obj.mapSeq (· ++ its.toArray))).push (seqObj "list" its.toArray 0)).get? b = some o := fun b o q => by
    have hlt : b < s.heap.objs.size := Heap.lt_size q
    rw [Heap.get?_push_ne _ _ _ (by rw [hsz]; exact Nat.ne_of_lt (Nat.lt_succ_of_lt hlt)), Heap.get?_update_ne _ _ _ _ (Nat.ne_of_lt hlt), Heap.get?_push_ne _ _ _ (Nat.ne_of_lt hlt)]
    exact q
  show wpAny _ _ _ _ _ { s with heap := ((s.heap.push (seqObj "list" #[] 0)).update s.heap.objs.size (Obj.mapSeq (· ++ its.toArray))).push (seqObj "list" its.toArray 0) }
  rw [hsz]
  have keep2 : ∀ h' : Heap, (∀ b o, b ≠ s.heap.objs.size + 1 → (((s.heap.push (seqObj "list" #[] 0)).update s.heap.objs.size (Obj.mapSeq (· ++ its.toArray))).push (seqObj "list" its.toArray 0)).get? b = some o → h'.get? b = some o) → ∀ b o, s.heap.get? b = some o → h'.get? b = some o := fun h' hk b o e => hk b o (Nat.ne_of_lt (Nat.lt_succ_of_lt (Heap.lt_size e))) (keep b o e)
  refine wpAny_bind (wpAny_holding (wpAny_call_entry slot_list_sort ⟨_, hoL, rfl⟩ entry_list_sort (list_sort_asked (s := { s with heap := ((s.heap.push (seqObj "list" #[] 0)).update s.heap.objs.size (Obj.mapSeq (· ++ its.toArray))).push (seqObj "list" its.toArray 0) }) hoL (by omega)
    (fun i j => ltP (pairOf H (ys.getD i .non)) (pairOf H (ys.getD j .non))) (tuples' true) ?hk ?hask fun pp hp hpe => ⟨_, rfl, ?fin⟩) (args_list_sort _)))
  case hk =>
    intro h2 h' hkp Q' hQ'
    obtain ⟨fs, g1, g2, g3⟩ := tups_of (h' := h') (fun a o e => I.hok a o e) (keep2 h' hkp) rv hT
    refine kat_kind (T := .type "int") g1 (by omega) (fun v hv => ?_) (by decide) hQ'
    obtain ⟨i, t, rfl⟩ := g3 v hv
    exact .now
  case hask =>
    intro h' hkp i j C hi hj hC
    obtain ⟨a, oa, na, ta, ta', ea, ha, da⟩ := hat i hi
    obtain ⟨b, ob, nb, tb, tb', eb, hb, db⟩ := hat j hj
    unfold kas_ask
    rw [ea, eb]
    refine kat_lt (keep2 h' hkp _ _ ha) da (keep2 h' hkp _ _ hb) db ?_
    have hC' : C (ltP (pairOf H (ys.getD i .non)) (pairOf H (ys.getD j .non))) { s with heap := h' } := hC
    generalize pairOf H (ys.getD i .non) = x at hC' ⊢
    generalize pairOf H (ys.getD j .non) = y at hC' ⊢
    unfold ltP at hC'
    show KatLex _ _ _ _ _ _ [(.int x.1 ta, .int y.1 tb), (.str x.2 ta', .str y.2 tb')] 0 _
    refine kat_cons (wpAny_eqBool_int ?_)
    by_cases h1 : x.1 = y.1
    · rw [show (x.1 == y.1) = true from by rw [h1]; exact beq_self_eq_true _]
      rw [if_pos h1] at hC'
      refine kat_yes (kat_cons (wpAny_eqBool_str ?_))
      by_cases h2 : x.2 = y.2
      · rw [decide_eq_true h2]
        rw [if_pos h2] at hC'
        exact kat_yes (kat_nil (by simpa using hC'))
      · rw [decide_eq_false h2]
        rw [if_neg h2] at hC'
        refine kat_no ?_
        show wpAny _ _ (oneLt' (true && (0 + 1) == 0) _ _) _ _ _
        rw [show (true && (0 + 1) == 0) = false from rfl]
        exact kat_one _ _ (PySem.P.lt_str hC')
    · rw [show (x.1 == y.1) = false from beq_eq_false_iff_ne.mpr h1]
      rw [if_neg h1] at hC'
      refine kat_no ?_
      exact oneLt_int hC'
  case fin =>
    refine wpAny_pure ⟨_, rfl, ?_⟩
    obtain ⟨e, he⟩ := sortedHeap_at (out := List.toArray (pp.toList.map fun i => its.getD i Value.none)) hoL
    have hpl : ∀ i ∈ pp.toList, i < ys.length := fun i hi => by
      have := hp.list.mem_iff.mp hi
      rw [List.mem_range] at this; omega
    have hplen : pp.toList.length = its.length := by rw [hp.list.length_eq, List.length_range]
    have I2 := I.laid (a := s.heap.objs.size + 1) (o := .lst (pp.toList.map fun i => ys.getD i .non)) (h' := sortedHeap (((s.heap.push (seqObj "list" #[] 0)).update s.heap.objs.size (Obj.mapSeq (· ++ its.toArray))).push (seqObj "list" its.toArray 0)) (s.heap.objs.size + 1) its (List.toArray (pp.toList.map fun i => its.getD i Value.none))) (t' := s.toks) (fun b o e => by
      have hb : b < s.heap.objs.size := Heap.lt_size e
      rw [sortedHeap_old (Nat.ne_of_lt (Nat.lt_succ_of_lt hb)) (by rw [size_push', hsz]; exact Nat.lt_succ_of_lt (Nat.lt_succ_of_lt hb))]
      exact keep b o e) (Nat.le_succ _) ⟨by rw [List.length_map, sizeLine_eq]; omega, pp.toList.map fun i => its.getD i Value.none, e, vals_pick rv _ hpl, he⟩
    refine ⟨.ref (s.heap.objs.size + 1), _, I2, rfl, q _ _ (I.hok.fresh (Nat.le_succ _)) ?_ ?_⟩
    · have h1 := hp.list.map fun i => ys.getD i .non
      rw [← hn, range_getV] at h1
      exact h1
    · rw [List.map_map, List.pairwise_map]
      by_cases h2 : 2 ≤ its.length
      · have L : LtOk (fun i j => ltP (pairOf H (ys.getD i .non)) (pairOf H (ys.getD j .non))) its.length :=
          ⟨fun i _ => ltP_irr _, fun i j k _ _ _ a b => ltP_tr a b, fun i j hi hj e => ltP_tot fun z => by
            have hi' : i < ys.length := by omega
            have hj' : j < ys.length := by omega
            rw [List.getD_eq_getElem?_getD, List.getElem?_eq_getElem hi', List.getD_eq_getElem?_getD, List.getElem?_eq_getElem hj', Option.getD_some, Option.getD_some] at z
            exact e ((List.getElem_inj (i := i) (j := j) (h₀ := by rw [List.length_map]; exact hi') (h₁ := by rw [List.length_map]; exact hj') hnd).mp (by rw [List.getElem_map, List.getElem_map]; exact z))⟩
        have hA := run_sort L (by omega)
        rw [← hpe h2] at hA
        exact pair_asc hp.size hA
      · have hl1 : pp.toList.length < 2 := by rw [hplen]; omega
        match pp.toList, hl1 with
        | [], _ => exact List.Pairwise.nil
        | [z], _ => simp
        | _ :: _ :: _, y => exact absurd y (by simp)
theorem call_sort2 (hc : X.calm = true) : CallR X (.builtin "sorted") (rSort2 X.K) := CallR.or call_sortS (CallR.or (call_sortD hc) call_sortT2)
end
def OnlyT (T : Addr) (H : Hp) : Prop := H T = some (.tbl #[]) ∧ ∀ b, b ≠ T → H b = none ∨ ∃ o xs, H b = some (.frz o (.lst xs))
def tabIn (K : PySem.W.Frag) (c T : Addr) : Bool := match K.lookup c with
  | some o => (match o.cls, o.data with
    | .type n, .fields vs => (match (vs[11]? : Option Value) with
      | some (Value.ref P) => n == "code" && P == T
      | _ => false)
    | _, _ => false)
  | none => false
theorem tabIn_is {K : PySem.W.Frag} {h : Heap} {c T : Addr} (X : K.In h) (e : tabIn K c T = true) : isCodeTable h T := by
  unfold tabIn at e
  split at e
  · rename_i o ho
    split at e
    · rename_i n vs hcl hd
      split at e
      · rename_i P e11
        rw [Bool.and_eq_true] at e
        have h1 : n = "code" := by simpa using e.1
        have h2 : P = T := by simpa using e.2
        exact ⟨c, o, vs, X _ _ ho, by rw [hcl, h1], hd, by rw [e11, h2]⟩
      · cases e
    · cases e
  · cases e
theorem law_callT {P : Program} {w : World} {K : PySem.W.Frag} {mg mb : Str → Option Value} {CX : CXT} {k : Nat} {fa a T : Addr} {fd : FuncData} {x : Str} {sp : Sp} {s₁ : Shared} {vs : List Value} {ns : List Int}
    (KX : K.In s₁.heap) (hT : s₁.heap.get? T = some { cls := .none, data := .fields #[] }) (hKT : K.lookup T = none) (hCT : isCodeTable s₁.heap T) (hns : s₁.heap.Ns mainGlobals mg) (hb : s₁.heap.Ns builtinsNs mb) (hbb : ∀ x : Str, x ≠ "__name__" → mb x = bootBuiltins x) (hlim : s₁.heap.NoLimit) (hg : s₁.gens = #[])
    (ha : s₁.heap.get? a = some { cls := .type "list", data := .seq vs.toArray }) (hi : IntsAre vs ns) (hl : ns.length ≤ sizeLine) (hr : Room k callerA)
    (F : ∀ base : Heap, K.In base → base.Ns mainGlobals mg → FnOk P w K mg base CX k fa fd [x] sp) (hbind : ∀ (s : Shared) (u : Value), BindsTo s fd ⟨[u], []⟩ [(x, u)])
    (hsp : ∀ H : Hp, OnlyT T H → SqL K H a (ns.map V.int) → sp [.ref a] H (fun v _ => v = .bl true) fun _ _ _ => False)
    (hCX : ∀ H e s', CX [] H s₁ (fun _ _ _ => False) e s' → False) :
    codeAny (model P w) callerA (.call (.ref fa) ⟨[.ref a], []⟩) (fun r s' => r = .ok (.ret (.bool true)) ∧ OldK s₁.heap s'.heap ∧ s'.os = s₁.os ∧ AllBare s'.gens) s₁ := by
  have rv := vals_ints hi
  have lenV := hi.length
  have haT : a ≠ T := fun z => by rw [z, hT] at ha; cases ha
  have core : ∀ H : Hp, OnlyT T H → SqL K H a (ns.map V.int) → HOk P w H s₁.heap → (∀ b, H b ≠ none → b = a ∨ b = T) → (H a ≠ none → K.lookup a = none) →
      codeAny (model P w) callerA (.call (.ref fa) ⟨[.ref a], []⟩) (fun r s' => r = .ok (.ret (.bool true)) ∧ OldK s₁.heap s'.heap ∧ s'.os = s₁.os ∧ AllBare s'.gens) s₁ := by
    intro H hO hS hok hA hK
    have base_of : ∀ {b : Addr} {o : Obj}, s₁.heap.get? b = some o → H b = none → (hidT s₁.heap H).get? b = some o := fun e n => hidT_get e n
    have noA : ∀ {b : Addr} {o : Obj} {es : Array DictEntry} {ep : Nat}, s₁.heap.get? b = some o → o.data = .dict es ep → H b = none := fun {b o es ep} e d => by
      cases q : H b with
      | none => rfl
      | some u =>
        rcases hA b (by rw [q]; simp) with e' | e'
        · subst e'
          rw [ha] at e; cases e
          have d' : Data.seq vs.toArray _ = Data.dict es ep := d
          cases d'
        · subst e'
          rw [hT] at e; cases e
          have d' : Data.fields #[] = Data.dict es ep := d
          cases d'
    have nsK : ∀ {b : Addr} {m : Str → Option Value}, s₁.heap.Ns b m → (hidT s₁.heap H).Ns b m := fun {b m} ⟨o, es, ep, e, d, r⟩ => ⟨o, es, ep, base_of e (noA e d), d, r⟩
    have hKb : K.In (hidT s₁.heap H) := fun b o e => base_of (KX b o e) (by
      cases q : H b with
      | none => rfl
      | some u =>
        rcases hA b (by rw [q]; simp) with e' | e'
        · subst e'
          rw [hK (by rw [q]; simp)] at e; cases e
        · subst e'
          rw [hKT] at e; cases e)
    have hM : Mod K mg (hidT s₁.heap H) := ⟨hKb, nsK hns, ⟨mb, nsK hb, hbb⟩, let ⟨mc, h1, h2⟩ := hlim; ⟨mc, nsK h1, h2⟩⟩
    have e0 : Env0 P w K mg (hidT s₁.heap H) callerA [] s₁ H := ⟨rfl, hM, fun b o e => of_hidT e, Nat.le_of_eq (hidT_size _ _), trivial, fun b hb => absurd (show b ∈ ([] : List Addr) from hb) (by simp), hok, .of_eq hg⟩
    refine codeAny_mono ((F _ hKb (nsK hns)).run callerA [] s₁ H ⟨[.ref a], []⟩ [.ref a] [.ref a] _ _ hr e0 (hbind s₁ (.ref a)) (.cons rfl .nil) (hsp H hO hS)) fun r s' h => ?_
    cases r with
    | error e => exact (hCX H e s' h).elim
    | ok fl =>
      cases fl with
      | next => exact False.elim h
      | brk => exact False.elim h
      | cont => exact False.elim h
      | ret u =>
        obtain ⟨v, H', os, bare, un, hok', r', q⟩ := h
        have q' : v = .bl true := q
        subst q'
        obtain rfl : u = Value.bool true := r'
        obtain ⟨more, hT'⟩ := un.tbls T _ hO.1
        have hTo : s'.heap.get? T = some { cls := .none, data := .fields (#[] ++ more) } := hok' T _ hT'
        have old : ∀ b o, b ≠ T → s₁.heap.get? b = some o → s'.heap.get? b = some o := fun b o hbT e => by
          cases q : H b with
          | none => exact un.keep b o e q (by intro z; exact absurd (show b ∈ ([] : List Addr) from z) (by simp)) (by simp)
          | some u =>
            rcases hO.2 b hbT with z | ⟨ob, xs, z⟩
            · rw [q] at z; cases z
            · have z2 := un.frzs b ob _ z
              obtain ⟨e1, _⟩ := hok b _ z
              obtain ⟨e2, _⟩ := hok' b _ z2
              rw [e] at e1; cases e1
              exact e2
        refine ⟨rfl, ⟨fun b o e => ?_, fun b o e => ?_⟩, os, bare⟩
        · by_cases hbT : b = T
          · subst hbT
            rw [hT] at e; cases e
            exact .inr (.inl ⟨hCT, rfl, #[], more, rfl, hTo⟩)
          · exact .inl (old b o hbT e)
        · by_cases hbT : b = T
          · subst hbT; exact ⟨_, hTo⟩
          · exact ⟨o, old b o hbT e⟩
  cases hk : K.lookup a with
  | some o =>
    have e := KX a o hk
    rw [ha] at e
    cases e
    refine core (fun b => if b = T then some (.tbl #[]) else none) ⟨if_pos rfl, fun b hb => .inl (if_neg hb)⟩ (.inr ⟨_, vs.toArray, _, hk, rfl, rfl, rfl, by rw [List.size_toArray, lenV]; exact hl, by simpa using rv⟩) (fun b u z => ?_) (fun b z => ?_) fun z => absurd (if_neg haT) z
    · by_cases hb : b = T
      · have z' := (if_pos hb).symm.trans z
        cases z'
        subst hb
        exact hT
      · have z' := (if_neg hb).symm.trans z
        cases z'
    · by_cases hb : b = T
      · exact .inr hb
      · exact absurd (if_neg hb) z
  | none =>
    refine core (fun b => if b = T then some (.tbl #[]) else if b = a then some (.frz { cls := .type "list", data := .seq vs.toArray } (.lst (ns.map V.int))) else none) ⟨if_pos rfl, fun b hb => ?_⟩ (.inl (.inr ⟨{ cls := .type "list", data := .seq vs.toArray }, (if_neg haT).trans (if_pos rfl)⟩)) (fun b u z => ?_) (fun b z => ?_) fun _ => hk
    · by_cases hba : b = a
      · exact .inr ⟨_, _, (if_neg hb).trans (if_pos hba)⟩
      · exact .inl ((if_neg hb).trans (if_neg hba))
    · by_cases hb : b = T
      · have z' := (if_pos hb).symm.trans z
        cases z'
        subst hb
        exact hT
      · by_cases hba : b = a
        · have z' := ((if_neg hb).trans (if_pos hba)).symm.trans z
          cases z'
          subst hba
          exact ⟨ha, by rw [List.length_map]; exact hl, vs, _, rv, ha⟩
        · have z' := ((if_neg hb).trans (if_neg hba)).symm.trans z
          cases z'
    · by_cases hb : b = T
      · exact .inr hb
      · by_cases hba : b = a
        · exact .inl hba
        · exact absurd ((if_neg hb).trans (if_neg hba)) z
theorem walk_ofKT {l : PySem.W.OpenLaw} {n k : Nat} {q : Program} {loose : List Str} {XP : (Str → Option Value) → Heap → Prop} {YP : World → Heap → Prop} {d : DefRec} {K : Params → PySem.W.Frag} {CX : CXT} {sp : PySem.W.Frag → Sp} {x : Str} (T c : Addr)
    (hn : l.most = some n) (hn2 : n ≤ sizeLine) (hdf : d.params.defaults = []) (hr : Room k callerA)
    (hY : ∀ (w : World) (h : Heap), YP w h → (K w.params).In h ∧ h.get? T = some { cls := .none, data := .fields #[] }) (hKT : ∀ w : World, (K w.params).lookup T = none) (hCT : ∀ w : World, tabIn (K w.params) c T = true)
    (F : ∀ (w : World) (mg : Str → Option Value) (fa : Addr) (h : Heap), (K w.params).In h → h.Ns mainGlobals mg → mg d.name = some (.ref fa) →
      ∃ fd : FuncData, (∀ (s : Shared) (u : Value), BindsTo s fd ⟨[u], []⟩ [(x, u)]) ∧
        ∀ base : Heap, (K w.params).In base → base.Ns mainGlobals mg → FnOk l.prog w (K w.params) mg base CX k fa fd [x] (sp (K w.params)))
    (hsp : ∀ (K : PySem.W.Frag) (H : Hp) (a : Addr) (ns : List Int), ns.length ≤ n → OnlyT T H → SqL K H a (ns.map V.int) → sp K [.ref a] H (fun v _ => v = .bl true) fun _ _ _ => False)
    (hCX : ∀ (H : Hp) (s : Shared) (e : Value) (s' : Shared), CX [] H s (fun _ _ _ => False) e s' → False) :
    PySem.W.WalkO q loose XP YP l.row.toRowW d [] (fun f vs => PySem.call f vs) := by
  refine Att.attach_call hn hdf fun w s₀ s₁ mg mb fa o pm cd doc a vs ns G Y ho hd hcd hmg hobj hints hlen hg => ?_
  obtain ⟨KX, hT⟩ := hY w _ Y
  obtain ⟨fd, hb, hF⟩ := F w mg fa _ KX G.T.g hmg
  exact law_callT KX hT (hKT w) (tabIn_is KX (hCT w)) G.T.g G.T.b G.T.builtins G.T.nolimit hg hobj hints (Nat.le_trans hlen hn2) hr hF hb (fun H hO hS => hsp (K w.params) H a ns hlen hO hS) fun H e s' => hCX H s₁ e s'
theorem in_cons {K : PySem.W.Frag} {T : Addr} {o : Obj} {h : Heap} (X : PySem.W.Frag.In ((T, o) :: K) h) (n : K.lookup T = none) : K.In h ∧ h.get? T = some o := by
  refine ⟨fun a u e => X a u ?_, X T o (by rw [List.lookup_cons, beq_self_eq_true])⟩
  rw [List.lookup_cons]
  have : (a == T) = false := by
    rw [beq_eq_false_iff_ne]
    intro z; rw [z, n] at e; cases e
  rw [this]; exact e
section
variable {P : Program} {w : World} {K : PySem.W.Frag} {mg : Str → Option Value} {base : Heap}
theorem Fun.okC {x qual : Str} {st : Stmt} {f : Addr} {fd : FuncData} {N ps : List Str} {k : Nat} {sp : Sp} (F : Fun K x qual st f fd) (S : FnScope N ps (defScope st)) (len : ∀ vs H Q E, sp vs H Q E → vs.length = ps.length)
    (hbody : ∀ (A : Around) (outer : List Env) (s : Shared) (H : Hp) (vs : List V) (Q : VK) (E : XK), Room k (A.deeper (envOfC qual (defScope st) s.heap.objs.size f fd.code)) → sp vs H Q E →
      ∃ t, PSs (cxOf CX0 P w K mg base N qual (defScope st) f fd.code A outer s H E).nox (defBody st) t ∧ t { nx := fun _ H' => Q .non H', rt := Q } (start N vs) H) : FnOk P w K mg base CX0 (k + 1) f fd ps sp := by
  obtain ⟨oc, od, kV, doc, pm, an, cdv, ct, osl, rfl, lk, hcd⟩ := F.ex
  refine fn_of lk hcd S len fun A outer s H vs Q E hr hsp => ?_
  obtain ⟨t, h, q⟩ := hbody A outer s H vs Q E hr hsp
  exact ⟨t, h.nox, q⟩
end
end L2
namespace L2
open PySem
theorem vis0 {a b c : Prop} (h : a) : a ∨ b ∨ c := Or.inl h
theorem vis1 {a b c : Prop} (h : b) : a ∨ b ∨ c := Or.inr (Or.inl h)
theorem vis2 {a b c : Prop} (h : c) : a ∨ b ∨ c := Or.inr (Or.inr h)
end L2
namespace K32
open PySem L2 Tx
abbrev lamq_d_sure_steps : Str := "sure_steps.<locals>.<lambda>"
theorem lamq_d_sure_steps_eq : ("sure_steps" : Str) ++ ".<locals>." ++ "<lambda>" = lamq_d_sure_steps := by decide +kernel
def top (i : Nat) : Stmt := PySem.Challenge.pw_mostwise_k32_sure_steps.main.body.getD i (.Pass ⟨0, 0, 0, 0⟩)
abbrev s_d_keyed : Stmt := top 2
abbrev n_d_keyed : List Str := ["some", "told", "statement"]
theorem sc_d_keyed : FnScope n_d_keyed ["some"] (defScope s_d_keyed) := ⟨rfl, rfl, rfl, by decide +kernel, rfl, by decide +kernel, by decide +kernel⟩
abbrev s_d_all_among : Stmt := top 3
abbrev n_d_all_among : List Str := ["statements", "some"]
theorem sc_d_all_among : FnScope n_d_all_among ["statements", "some"] (defScope s_d_all_among) := ⟨rfl, rfl, rfl, by decide +kernel, rfl, by decide +kernel, by decide +kernel⟩
abbrev s_d_sure_rounds : Stmt := top 5
abbrev n_d_sure_rounds : List Str := ["rules", "known", "sure", "waiting", "ranks", "rank", "fresh", "head"]
theorem sc_d_sure_rounds : FnScope n_d_sure_rounds ["rules", "known"] (defScope s_d_sure_rounds) := ⟨rfl, rfl, rfl, by decide +kernel, rfl, by decide +kernel, by decide +kernel⟩
abbrev s_d_sure_steps : Stmt := top 6
abbrev n_d_sure_steps : List Str := ["ground", "ranks"]
theorem sc_d_sure_steps : FnScope n_d_sure_steps ["ground"] (defScope s_d_sure_steps) := ⟨rfl, rfl, rfl, by decide +kernel, rfl, by decide +kernel, by decide +kernel⟩
abbrev s_c_Rule_init : Stmt := inClass (top 10) 0
abbrev n_c_Rule_init : List Str := ["self", "label", "head", "body"]
theorem sc_c_Rule_init : FnScope n_c_Rule_init ["self", "label", "head", "body"] (defScope s_c_Rule_init) := ⟨rfl, rfl, rfl, by decide +kernel, rfl, by decide +kernel, by decide +kernel⟩
abbrev s_c_Rule_is_sure : Stmt := inClass (top 10) 3
abbrev n_c_Rule_is_sure : List Str := ["self"]
theorem sc_c_Rule_is_sure : FnScope n_c_Rule_is_sure ["self"] (defScope s_c_Rule_is_sure) := ⟨rfl, rfl, rfl, by decide +kernel, rfl, by decide +kernel, by decide +kernel⟩
abbrev s_c_Fact_init : Stmt := inClass (top 11) 0
abbrev n_c_Fact_init : List Str := ["self", "head"]
theorem sc_c_Fact_init : FnScope n_c_Fact_init ["self", "head"] (defScope s_c_Fact_init) := ⟨rfl, rfl, rfl, by decide +kernel, rfl, by decide +kernel, by decide +kernel⟩
abbrev s_c_Fact_is_sure : Stmt := inClass (top 11) 2
abbrev n_c_Fact_is_sure : List Str := ["self"]
theorem sc_c_Fact_is_sure : FnScope n_c_Fact_is_sure ["self"] (defScope s_c_Fact_is_sure) := ⟨rfl, rfl, rfl, by decide +kernel, rfl, by decide +kernel, by decide +kernel⟩
abbrev s_c_Sure_is_sure : Stmt := inClass (top 12) 1
abbrev n_c_Sure_is_sure : List Str := ["self"]
theorem sc_c_Sure_is_sure : FnScope n_c_Sure_is_sure ["self"] (defScope s_c_Sure_is_sure) := ⟨rfl, rfl, rfl, by decide +kernel, rfl, by decide +kernel, by decide +kernel⟩
abbrev s_c_Ground_init : Stmt := inClass (top 16) 0
abbrev n_c_Ground_init : List Str := ["self", "rules", "pairs", "rule", "pair"]
theorem sc_c_Ground_init : FnScope n_c_Ground_init ["self", "rules", "pairs"] (defScope s_c_Ground_init) := ⟨rfl, rfl, rfl, by decide +kernel, rfl, by decide +kernel, by decide +kernel⟩
abbrev s_c_Ground_rules : Stmt := inClass (top 16) 1
abbrev n_c_Ground_rules : List Str := ["self"]
theorem sc_c_Ground_rules : FnScope n_c_Ground_rules ["self"] (defScope s_c_Ground_rules) := ⟨rfl, rfl, rfl, by decide +kernel, rfl, by decide +kernel, by decide +kernel⟩
abbrev s_d_l_cell_at : Stmt := top 18
abbrev n_d_l_cell_at : List Str := ["_law_script", "_law_k"]
theorem sc_d_l_cell_at : FnScope n_d_l_cell_at ["_law_script", "_law_k"] (defScope s_d_l_cell_at) := ⟨rfl, rfl, rfl, by decide +kernel, rfl, by decide +kernel, by decide +kernel⟩
abbrev s_d_l_mix : Stmt := top 19
abbrev n_d_l_mix : List Str := ["_law_cell", "_law_k", "_law_number"]
theorem sc_d_l_mix : FnScope n_d_l_mix ["_law_cell", "_law_k"] (defScope s_d_l_mix) := ⟨rfl, rfl, rfl, by decide +kernel, rfl, by decide +kernel, by decide +kernel⟩
abbrev s_d_l_word : Stmt := top 20
abbrev n_d_l_word : List Str := ["_law_cell", "_law_k", "_law_signs", "_law_size", "_law_at", "_law_word_here", "_law_j", "_law_step"]
theorem sc_d_l_word : FnScope n_d_l_word ["_law_cell", "_law_k", "_law_signs"] (defScope s_d_l_word) := ⟨rfl, rfl, rfl, by decide +kernel, rfl, by decide +kernel, by decide +kernel⟩
abbrev s_d_l_pool : Stmt := top 21
abbrev n_d_l_pool : List Str := ["_law_cell", "_law_words", "_law_pool_here", "_law_k", "_law_places"]
theorem sc_d_l_pool : FnScope n_d_l_pool ["_law_cell"] (defScope s_d_l_pool) := ⟨rfl, rfl, rfl, by decide +kernel, rfl, by decide +kernel, by decide +kernel⟩
abbrev s_d_l_row : Stmt := top 22
abbrev n_d_l_row : List Str := ["_law_m", "_law_k", "_law_pool_here", "_law_labels_here", "_law_style", "_law_size", "_law_head", "_law_body", "_law_many", "_law_sort"]
theorem sc_d_l_row : FnScope n_d_l_row ["_law_m", "_law_k", "_law_pool_here", "_law_labels_here", "_law_style"] (defScope s_d_l_row) := ⟨rfl, rfl, rfl, by decide +kernel, rfl, by decide +kernel, by decide +kernel⟩
abbrev s_d_l_made : Stmt := top 23
abbrev n_d_l_made : List Str := ["_law_row_here", "_law_sort", "_law_label", "_law_head", "_law_body"]
theorem sc_d_l_made : FnScope n_d_l_made ["_law_row_here"] (defScope s_d_l_made) := ⟨rfl, rfl, rfl, by decide +kernel, rfl, by decide +kernel, by decide +kernel⟩
abbrev s_d_l_labels : Stmt := top 24
abbrev n_d_l_labels : List Str := ["_law_cell"]
theorem sc_d_l_labels : FnScope n_d_l_labels ["_law_cell"] (defScope s_d_l_labels) := ⟨rfl, rfl, rfl, by decide +kernel, rfl, by decide +kernel, by decide +kernel⟩
abbrev s_d_l_row_by_digits : Stmt := top 25
abbrev n_d_l_row_by_digits : List Str := ["_law_cell", "_law_pool_here", "_law_labels_here", "_law_size", "_law_sort", "_law_label", "_law_head", "_law_many", "_law_rest", "_law_body", "_law_j"]
theorem sc_d_l_row_by_digits : FnScope n_d_l_row_by_digits ["_law_cell", "_law_pool_here", "_law_labels_here"] (defScope s_d_l_row_by_digits) := ⟨rfl, rfl, rfl, by decide +kernel, rfl, by decide +kernel, by decide +kernel⟩
abbrev s_d_l_rows : Stmt := top 26
abbrev n_d_l_rows : List Str := ["_law_script", "_law_start", "_law_pool_here", "_law_labels_here", "_law_style", "_law_cells"]
theorem sc_d_l_rows : FnScope n_d_l_rows ["_law_script", "_law_start"] (defScope s_d_l_rows) := ⟨rfl, rfl, rfl, by decide +kernel, rfl, by decide +kernel, by decide +kernel⟩
abbrev s_d_l_rounds : Stmt := top 27
abbrev n_d_l_rounds : List Str := ["_law_rows_here", "_law_known", "_law_there", "_law_statement", "_law_ranks", "_law_rank", "_law_fresh", "_law_sort", "_law_label", "_law_head", "_law_body"]
theorem sc_d_l_rounds : FnScope n_d_l_rounds ["_law_rows_here", "_law_known"] (defScope s_d_l_rounds) := ⟨rfl, rfl, rfl, by decide +kernel, rfl, by decide +kernel, by decide +kernel⟩
abbrev s_d_l_due : Stmt := top 28
abbrev n_d_l_due : List Str := ["_law_rows_here", "_law_ranks"]
theorem sc_d_l_due : FnScope n_d_l_due ["_law_rows_here"] (defScope s_d_l_due) := ⟨rfl, rfl, rfl, by decide +kernel, rfl, by decide +kernel, by decide +kernel⟩
abbrev s_d_l_pairs : Stmt := top 29
abbrev n_d_l_pairs : List Str := ["_law_cell", "_law_labels_here", "_law_pairs_here", "_law_k", "_law_at"]
theorem sc_d_l_pairs : FnScope n_d_l_pairs ["_law_cell"] (defScope s_d_l_pairs) := ⟨rfl, rfl, rfl, by decide +kernel, rfl, by decide +kernel, by decide +kernel⟩
abbrev s_d_law : Stmt := top 30
abbrev n_d_law : List Str := ["_law_script", "_law_rows_here", "_law_rules", "_law_pairs_here", "_law_ground", "_law_found", "_law_due_here", "_law_pool_here", "_law_labels_here", "_law_more", "_law_again"]
theorem sc_d_law : FnScope n_d_law ["_law_script"] (defScope s_d_law) := ⟨rfl, rfl, rfl, by decide +kernel, rfl, by decide +kernel, by decide +kernel⟩
structure Adr where
  f_d_keyed : Addr
  fd_d_keyed : FuncData
  f_d_all_among : Addr
  fd_d_all_among : FuncData
  f_d_sure_rounds : Addr
  fd_d_sure_rounds : FuncData
  T_d_sure_rounds : Addr
  f_d_sure_steps : Addr
  fd_d_sure_steps : FuncData
  f_c_Rule_init : Addr
  fd_c_Rule_init : FuncData
  f_c_Rule_is_sure : Addr
  fd_c_Rule_is_sure : FuncData
  f_c_Fact_init : Addr
  fd_c_Fact_init : FuncData
  f_c_Fact_is_sure : Addr
  fd_c_Fact_is_sure : FuncData
  f_c_Sure_is_sure : Addr
  fd_c_Sure_is_sure : FuncData
  f_c_Ground_init : Addr
  fd_c_Ground_init : FuncData
  f_c_Ground_rules : Addr
  fd_c_Ground_rules : FuncData
  f_d_l_cell_at : Addr
  fd_d_l_cell_at : FuncData
  f_d_l_mix : Addr
  fd_d_l_mix : FuncData
  f_d_l_word : Addr
  fd_d_l_word : FuncData
  f_d_l_pool : Addr
  fd_d_l_pool : FuncData
  f_d_l_row : Addr
  fd_d_l_row : FuncData
  f_d_l_made : Addr
  fd_d_l_made : FuncData
  f_d_l_labels : Addr
  fd_d_l_labels : FuncData
  f_d_l_row_by_digits : Addr
  fd_d_l_row_by_digits : FuncData
  f_d_l_rows : Addr
  fd_d_l_rows : FuncData
  f_d_l_rounds : Addr
  fd_d_l_rounds : FuncData
  f_d_l_due : Addr
  fd_d_l_due : FuncData
  f_d_l_pairs : Addr
  fd_d_l_pairs : FuncData
  f_d_law : Addr
  fd_d_law : FuncData
  C_Rule : Addr
  C_Fact : Addr
  C_Sure : Addr
  C_Most : Addr
  C_Block : Addr
  C_Ground : Addr
  TB_d_sure_steps : Addr
structure Txt (K : PySem.W.Frag) (mg : Str → Option Value) (t : Adr) : Prop where
  F_d_keyed : Fun K "keyed" "keyed" s_d_keyed t.f_d_keyed t.fd_d_keyed
  b_d_keyed : Binds K t.fd_d_keyed ["some"] []
  g_d_keyed : mg "keyed" = some (.ref t.f_d_keyed)
  F_d_all_among : Fun K "all_among" "all_among" s_d_all_among t.f_d_all_among t.fd_d_all_among
  b_d_all_among : Binds K t.fd_d_all_among ["statements", "some"] []
  g_d_all_among : mg "all_among" = some (.ref t.f_d_all_among)
  F_d_sure_rounds : FunD K "sure_rounds" "sure_rounds" s_d_sure_rounds t.f_d_sure_rounds t.fd_d_sure_rounds t.T_d_sure_rounds [Value.none]
  b_d_sure_rounds : Binds K t.fd_d_sure_rounds ["rules", "known"] []
  bd_d_sure_rounds : Binds K t.fd_d_sure_rounds ["rules", "known"] [Value.none]
  g_d_sure_rounds : mg "sure_rounds" = some (.ref t.f_d_sure_rounds)
  F_d_sure_steps : Fun K "sure_steps" "sure_steps" s_d_sure_steps t.f_d_sure_steps t.fd_d_sure_steps
  b_d_sure_steps : Binds K t.fd_d_sure_steps ["ground"] []
  g_d_sure_steps : mg "sure_steps" = some (.ref t.f_d_sure_steps)
  F_c_Rule_init : Fun K "__init__" "Rule.__init__" s_c_Rule_init t.f_c_Rule_init t.fd_c_Rule_init
  b_c_Rule_init : Binds K t.fd_c_Rule_init ["self", "label", "head", "body"] []
  F_c_Rule_is_sure : Fun K "is_sure" "Rule.is_sure" s_c_Rule_is_sure t.f_c_Rule_is_sure t.fd_c_Rule_is_sure
  b_c_Rule_is_sure : Binds K t.fd_c_Rule_is_sure ["self"] []
  F_c_Fact_init : Fun K "__init__" "Fact.__init__" s_c_Fact_init t.f_c_Fact_init t.fd_c_Fact_init
  b_c_Fact_init : Binds K t.fd_c_Fact_init ["self", "head"] []
  F_c_Fact_is_sure : Fun K "is_sure" "Fact.is_sure" s_c_Fact_is_sure t.f_c_Fact_is_sure t.fd_c_Fact_is_sure
  b_c_Fact_is_sure : Binds K t.fd_c_Fact_is_sure ["self"] []
  F_c_Sure_is_sure : Fun K "is_sure" "Sure.is_sure" s_c_Sure_is_sure t.f_c_Sure_is_sure t.fd_c_Sure_is_sure
  b_c_Sure_is_sure : Binds K t.fd_c_Sure_is_sure ["self"] []
  F_c_Ground_init : Fun K "__init__" "Ground.__init__" s_c_Ground_init t.f_c_Ground_init t.fd_c_Ground_init
  b_c_Ground_init : Binds K t.fd_c_Ground_init ["self", "rules", "pairs"] []
  F_c_Ground_rules : Fun K "rules" "Ground.rules" s_c_Ground_rules t.f_c_Ground_rules t.fd_c_Ground_rules
  b_c_Ground_rules : Binds K t.fd_c_Ground_rules ["self"] []
  F_d_l_cell_at : Fun K "_law_cell_at" "_law_cell_at" s_d_l_cell_at t.f_d_l_cell_at t.fd_d_l_cell_at
  b_d_l_cell_at : Binds K t.fd_d_l_cell_at ["_law_script", "_law_k"] []
  g_d_l_cell_at : mg "_law_cell_at" = some (.ref t.f_d_l_cell_at)
  F_d_l_mix : Fun K "_law_mix" "_law_mix" s_d_l_mix t.f_d_l_mix t.fd_d_l_mix
  b_d_l_mix : Binds K t.fd_d_l_mix ["_law_cell", "_law_k"] []
  g_d_l_mix : mg "_law_mix" = some (.ref t.f_d_l_mix)
  F_d_l_word : Fun K "_law_word" "_law_word" s_d_l_word t.f_d_l_word t.fd_d_l_word
  b_d_l_word : Binds K t.fd_d_l_word ["_law_cell", "_law_k", "_law_signs"] []
  g_d_l_word : mg "_law_word" = some (.ref t.f_d_l_word)
  F_d_l_pool : Fun K "_law_pool" "_law_pool" s_d_l_pool t.f_d_l_pool t.fd_d_l_pool
  b_d_l_pool : Binds K t.fd_d_l_pool ["_law_cell"] []
  g_d_l_pool : mg "_law_pool" = some (.ref t.f_d_l_pool)
  F_d_l_row : Fun K "_law_row" "_law_row" s_d_l_row t.f_d_l_row t.fd_d_l_row
  b_d_l_row : Binds K t.fd_d_l_row ["_law_m", "_law_k", "_law_pool_here", "_law_labels_here", "_law_style"] []
  g_d_l_row : mg "_law_row" = some (.ref t.f_d_l_row)
  F_d_l_made : Fun K "_law_made" "_law_made" s_d_l_made t.f_d_l_made t.fd_d_l_made
  b_d_l_made : Binds K t.fd_d_l_made ["_law_row_here"] []
  g_d_l_made : mg "_law_made" = some (.ref t.f_d_l_made)
  F_d_l_labels : Fun K "_law_labels" "_law_labels" s_d_l_labels t.f_d_l_labels t.fd_d_l_labels
  b_d_l_labels : Binds K t.fd_d_l_labels ["_law_cell"] []
  g_d_l_labels : mg "_law_labels" = some (.ref t.f_d_l_labels)
  F_d_l_row_by_digits : Fun K "_law_row_by_digits" "_law_row_by_digits" s_d_l_row_by_digits t.f_d_l_row_by_digits t.fd_d_l_row_by_digits
  b_d_l_row_by_digits : Binds K t.fd_d_l_row_by_digits ["_law_cell", "_law_pool_here", "_law_labels_here"] []
  g_d_l_row_by_digits : mg "_law_row_by_digits" = some (.ref t.f_d_l_row_by_digits)
  F_d_l_rows : Fun K "_law_rows" "_law_rows" s_d_l_rows t.f_d_l_rows t.fd_d_l_rows
  b_d_l_rows : Binds K t.fd_d_l_rows ["_law_script", "_law_start"] []
  g_d_l_rows : mg "_law_rows" = some (.ref t.f_d_l_rows)
  F_d_l_rounds : Fun K "_law_rounds" "_law_rounds" s_d_l_rounds t.f_d_l_rounds t.fd_d_l_rounds
  b_d_l_rounds : Binds K t.fd_d_l_rounds ["_law_rows_here", "_law_known"] []
  g_d_l_rounds : mg "_law_rounds" = some (.ref t.f_d_l_rounds)
  F_d_l_due : Fun K "_law_due" "_law_due" s_d_l_due t.f_d_l_due t.fd_d_l_due
  b_d_l_due : Binds K t.fd_d_l_due ["_law_rows_here"] []
  g_d_l_due : mg "_law_due" = some (.ref t.f_d_l_due)
  F_d_l_pairs : Fun K "_law_pairs" "_law_pairs" s_d_l_pairs t.f_d_l_pairs t.fd_d_l_pairs
  b_d_l_pairs : Binds K t.fd_d_l_pairs ["_law_cell"] []
  g_d_l_pairs : mg "_law_pairs" = some (.ref t.f_d_l_pairs)
  F_d_law : Fun K "law" "law" s_d_law t.f_d_law t.fd_d_law
  b_d_law : Binds K t.fd_d_law ["_law_script"] []
  g_d_law : mg "law" = some (.ref t.f_d_law)
  g_Rule : mg "Rule" = some (.ref t.C_Rule)
  g_Fact : mg "Fact" = some (.ref t.C_Fact)
  g_Sure : mg "Sure" = some (.ref t.C_Sure)
  g_Most : mg "Most" = some (.ref t.C_Most)
  g_Block : mg "Block" = some (.ref t.C_Block)
  g_Ground : mg "Ground" = some (.ref t.C_Ground)
  z_all : mg "all" = none
  z_enumerate : mg "enumerate" = none
  z_isinstance : mg "isinstance" = none
  z_len : mg "len" = none
  z_list : mg "list" = none
  z_range : mg "range" = none
  z_reversed : mg "reversed" = none
  z_sorted : mg "sorted" = none
  z_tuple : mg "tuple" = none
  cm_Rule : CMeth K t.C_Rule "__init__" t.f_c_Rule_init
  cl_Fact : Cls K t.C_Fact
  ty_Fact : TyI K t.C_Fact
  nf_Fact_label : NoAttr K t.C_Fact "label"
  nf_Fact_head : NoAttr K t.C_Fact "head"
  nf_Fact_body : NoAttr K t.C_Fact "body"
  mk_Fact : Mk K t.C_Fact t.f_c_Fact_init
  me_Fact_is_sure : Meth K t.C_Fact "is_sure" t.f_c_Fact_is_sure
  ki_Fact_Rule : PySem.W.kitOne K (.ref t.C_Fact) (.ref t.C_Rule) = some true
  ki_Fact_Fact : PySem.W.kitOne K (.ref t.C_Fact) (.ref t.C_Fact) = some true
  cl_Sure : Cls K t.C_Sure
  ty_Sure : TyI K t.C_Sure
  nf_Sure_label : NoAttr K t.C_Sure "label"
  nf_Sure_head : NoAttr K t.C_Sure "head"
  nf_Sure_body : NoAttr K t.C_Sure "body"
  mk_Sure : Mk K t.C_Sure t.f_c_Rule_init
  me_Sure_is_sure : Meth K t.C_Sure "is_sure" t.f_c_Sure_is_sure
  ki_Sure_Rule : PySem.W.kitOne K (.ref t.C_Sure) (.ref t.C_Rule) = some true
  ki_Sure_Sure : PySem.W.kitOne K (.ref t.C_Sure) (.ref t.C_Sure) = some true
  cl_Most : Cls K t.C_Most
  ty_Most : TyI K t.C_Most
  nf_Most_label : NoAttr K t.C_Most "label"
  nf_Most_head : NoAttr K t.C_Most "head"
  nf_Most_body : NoAttr K t.C_Most "body"
  mk_Most : Mk K t.C_Most t.f_c_Rule_init
  me_Most_is_sure : Meth K t.C_Most "is_sure" t.f_c_Rule_is_sure
  ki_Most_Rule : PySem.W.kitOne K (.ref t.C_Most) (.ref t.C_Rule) = some true
  ki_Most_Most : PySem.W.kitOne K (.ref t.C_Most) (.ref t.C_Most) = some true
  cl_Block : Cls K t.C_Block
  ty_Block : TyI K t.C_Block
  nf_Block_label : NoAttr K t.C_Block "label"
  nf_Block_head : NoAttr K t.C_Block "head"
  nf_Block_body : NoAttr K t.C_Block "body"
  mk_Block : Mk K t.C_Block t.f_c_Rule_init
  me_Block_is_sure : Meth K t.C_Block "is_sure" t.f_c_Rule_is_sure
  ki_Block_Rule : PySem.W.kitOne K (.ref t.C_Block) (.ref t.C_Rule) = some true
  ki_Block_Block : PySem.W.kitOne K (.ref t.C_Block) (.ref t.C_Block) = some true
  cl_Ground : Cls K t.C_Ground
  ty_Ground : TyI K t.C_Ground
  nf_Ground_in_order : NoAttr K t.C_Ground "in_order"
  nf_Ground_by_head : NoAttr K t.C_Ground "by_head"
  nf_Ground_pairs : NoAttr K t.C_Ground "pairs"
  mk_Ground : Mk K t.C_Ground t.f_c_Ground_init
  me_Ground_rules : Meth K t.C_Ground "rules" t.f_c_Ground_rules
  ki_Ground_Ground : PySem.W.kitOne K (.ref t.C_Ground) (.ref t.C_Ground) = some true
  L_d_sure_steps : codeTb K t.fd_d_sure_steps.code = some t.TB_d_sure_steps
  LB : BltK K mg
theorem txt_mk {K : PySem.W.Frag} {h : Heap} {mg : Str → Option Value} (X : K.In h) (G : h.Ns mainGlobals mg)
 {f_d_keyed : Addr} {od_d_keyed an_d_keyed : Option Addr} {sl_d_keyed : Array (Option Value)} {oc_d_keyed kV_d_keyed dc_d_keyed pm_d_keyed cd_d_keyed ct_d_keyed : Value}
 {f_d_all_among : Addr} {od_d_all_among an_d_all_among : Option Addr} {sl_d_all_among : Array (Option Value)} {oc_d_all_among kV_d_all_among dc_d_all_among pm_d_all_among cd_d_all_among ct_d_all_among : Value}
 {T_d_sure_rounds : Addr} {cT_d_sure_rounds : Value} {dT_d_sure_rounds : Option Addr} {nT_d_sure_rounds : Nat} {sT_d_sure_rounds : Array (Option Value)}
 {f_d_sure_rounds : Addr} {od_d_sure_rounds an_d_sure_rounds : Option Addr} {sl_d_sure_rounds : Array (Option Value)} {oc_d_sure_rounds kV_d_sure_rounds dc_d_sure_rounds pm_d_sure_rounds cd_d_sure_rounds ct_d_sure_rounds : Value}
 {f_d_sure_steps : Addr} {od_d_sure_steps an_d_sure_steps : Option Addr} {sl_d_sure_steps : Array (Option Value)} {oc_d_sure_steps kV_d_sure_steps dc_d_sure_steps pm_d_sure_steps cd_d_sure_steps ct_d_sure_steps : Value}
 {f_c_Rule_init : Addr} {od_c_Rule_init an_c_Rule_init : Option Addr} {sl_c_Rule_init : Array (Option Value)} {oc_c_Rule_init kV_c_Rule_init dc_c_Rule_init pm_c_Rule_init cd_c_Rule_init ct_c_Rule_init : Value}
 {f_c_Rule_is_sure : Addr} {od_c_Rule_is_sure an_c_Rule_is_sure : Option Addr} {sl_c_Rule_is_sure : Array (Option Value)} {oc_c_Rule_is_sure kV_c_Rule_is_sure dc_c_Rule_is_sure pm_c_Rule_is_sure cd_c_Rule_is_sure ct_c_Rule_is_sure : Value}
 {f_c_Fact_init : Addr} {od_c_Fact_init an_c_Fact_init : Option Addr} {sl_c_Fact_init : Array (Option Value)} {oc_c_Fact_init kV_c_Fact_init dc_c_Fact_init pm_c_Fact_init cd_c_Fact_init ct_c_Fact_init : Value}
 {f_c_Fact_is_sure : Addr} {od_c_Fact_is_sure an_c_Fact_is_sure : Option Addr} {sl_c_Fact_is_sure : Array (Option Value)} {oc_c_Fact_is_sure kV_c_Fact_is_sure dc_c_Fact_is_sure pm_c_Fact_is_sure cd_c_Fact_is_sure ct_c_Fact_is_sure : Value}
 {f_c_Sure_is_sure : Addr} {od_c_Sure_is_sure an_c_Sure_is_sure : Option Addr} {sl_c_Sure_is_sure : Array (Option Value)} {oc_c_Sure_is_sure kV_c_Sure_is_sure dc_c_Sure_is_sure pm_c_Sure_is_sure cd_c_Sure_is_sure ct_c_Sure_is_sure : Value}
 {f_c_Ground_init : Addr} {od_c_Ground_init an_c_Ground_init : Option Addr} {sl_c_Ground_init : Array (Option Value)} {oc_c_Ground_init kV_c_Ground_init dc_c_Ground_init pm_c_Ground_init cd_c_Ground_init ct_c_Ground_init : Value}
 {f_c_Ground_rules : Addr} {od_c_Ground_rules an_c_Ground_rules : Option Addr} {sl_c_Ground_rules : Array (Option Value)} {oc_c_Ground_rules kV_c_Ground_rules dc_c_Ground_rules pm_c_Ground_rules cd_c_Ground_rules ct_c_Ground_rules : Value}
 {f_d_l_cell_at : Addr} {od_d_l_cell_at an_d_l_cell_at : Option Addr} {sl_d_l_cell_at : Array (Option Value)} {oc_d_l_cell_at kV_d_l_cell_at dc_d_l_cell_at pm_d_l_cell_at cd_d_l_cell_at ct_d_l_cell_at : Value}
 {f_d_l_mix : Addr} {od_d_l_mix an_d_l_mix : Option Addr} {sl_d_l_mix : Array (Option Value)} {oc_d_l_mix kV_d_l_mix dc_d_l_mix pm_d_l_mix cd_d_l_mix ct_d_l_mix : Value}
 {f_d_l_word : Addr} {od_d_l_word an_d_l_word : Option Addr} {sl_d_l_word : Array (Option Value)} {oc_d_l_word kV_d_l_word dc_d_l_word pm_d_l_word cd_d_l_word ct_d_l_word : Value}
 {f_d_l_pool : Addr} {od_d_l_pool an_d_l_pool : Option Addr} {sl_d_l_pool : Array (Option Value)} {oc_d_l_pool kV_d_l_pool dc_d_l_pool pm_d_l_pool cd_d_l_pool ct_d_l_pool : Value}
 {f_d_l_row : Addr} {od_d_l_row an_d_l_row : Option Addr} {sl_d_l_row : Array (Option Value)} {oc_d_l_row kV_d_l_row dc_d_l_row pm_d_l_row cd_d_l_row ct_d_l_row : Value}
 {f_d_l_made : Addr} {od_d_l_made an_d_l_made : Option Addr} {sl_d_l_made : Array (Option Value)} {oc_d_l_made kV_d_l_made dc_d_l_made pm_d_l_made cd_d_l_made ct_d_l_made : Value}
 {f_d_l_labels : Addr} {od_d_l_labels an_d_l_labels : Option Addr} {sl_d_l_labels : Array (Option Value)} {oc_d_l_labels kV_d_l_labels dc_d_l_labels pm_d_l_labels cd_d_l_labels ct_d_l_labels : Value}
 {f_d_l_row_by_digits : Addr} {od_d_l_row_by_digits an_d_l_row_by_digits : Option Addr} {sl_d_l_row_by_digits : Array (Option Value)} {oc_d_l_row_by_digits kV_d_l_row_by_digits dc_d_l_row_by_digits pm_d_l_row_by_digits cd_d_l_row_by_digits ct_d_l_row_by_digits : Value}
 {f_d_l_rows : Addr} {od_d_l_rows an_d_l_rows : Option Addr} {sl_d_l_rows : Array (Option Value)} {oc_d_l_rows kV_d_l_rows dc_d_l_rows pm_d_l_rows cd_d_l_rows ct_d_l_rows : Value}
 {f_d_l_rounds : Addr} {od_d_l_rounds an_d_l_rounds : Option Addr} {sl_d_l_rounds : Array (Option Value)} {oc_d_l_rounds kV_d_l_rounds dc_d_l_rounds pm_d_l_rounds cd_d_l_rounds ct_d_l_rounds : Value}
 {f_d_l_due : Addr} {od_d_l_due an_d_l_due : Option Addr} {sl_d_l_due : Array (Option Value)} {oc_d_l_due kV_d_l_due dc_d_l_due pm_d_l_due cd_d_l_due ct_d_l_due : Value}
 {f_d_l_pairs : Addr} {od_d_l_pairs an_d_l_pairs : Option Addr} {sl_d_l_pairs : Array (Option Value)} {oc_d_l_pairs kV_d_l_pairs dc_d_l_pairs pm_d_l_pairs cd_d_l_pairs ct_d_l_pairs : Value}
 {f_d_law : Addr} {od_d_law an_d_law : Option Addr} {sl_d_law : Array (Option Value)} {oc_d_law kV_d_law dc_d_law pm_d_law cd_d_law ct_d_law : Value}
 {C_Rule : Addr}
 {C_Fact : Addr}
 {C_Sure : Addr}
 {C_Most : Addr}
 {C_Block : Addr}
 {C_Ground : Addr}
 (a_Rule : PySem.W.nsIn K mainGlobals "Rule" = some (some (.ref C_Rule)))
 (a_Fact : PySem.W.nsIn K mainGlobals "Fact" = some (some (.ref C_Fact)))
 (a_Sure : PySem.W.nsIn K mainGlobals "Sure" = some (some (.ref C_Sure)))
 (a_Most : PySem.W.nsIn K mainGlobals "Most" = some (some (.ref C_Most)))
 (a_Block : PySem.W.nsIn K mainGlobals "Block" = some (some (.ref C_Block)))
 (a_Ground : PySem.W.nsIn K mainGlobals "Ground" = some (some (.ref C_Ground)))
 (a_d_keyed : PySem.W.nsIn K mainGlobals "keyed" = some (some (.ref f_d_keyed)))
 (l_d_keyed : K.lookup f_d_keyed = some ⟨oc_d_keyed, od_d_keyed, .func (PySem.W.fnOf "keyed" "keyed" (defArgs s_d_keyed) (defBody s_d_keyed) (defScope s_d_keyed) .none kV_d_keyed dc_d_keyed pm_d_keyed an_d_keyed cd_d_keyed ct_d_keyed), sl_d_keyed⟩)
 (c_d_keyed : PySem.W.codeIn K cd_d_keyed "keyed" = true) (p_d_keyed : PySem.W.keepIn K (.ref f_d_keyed) = true)
 (a_d_all_among : PySem.W.nsIn K mainGlobals "all_among" = some (some (.ref f_d_all_among)))
 (l_d_all_among : K.lookup f_d_all_among = some ⟨oc_d_all_among, od_d_all_among, .func (PySem.W.fnOf "all_among" "all_among" (defArgs s_d_all_among) (defBody s_d_all_among) (defScope s_d_all_among) .none kV_d_all_among dc_d_all_among pm_d_all_among an_d_all_among cd_d_all_among ct_d_all_among), sl_d_all_among⟩)
 (c_d_all_among : PySem.W.codeIn K cd_d_all_among "all_among" = true) (p_d_all_among : PySem.W.keepIn K (.ref f_d_all_among) = true)
 (a_d_sure_rounds : PySem.W.nsIn K mainGlobals "sure_rounds" = some (some (.ref f_d_sure_rounds)))
 (l_d_sure_rounds : K.lookup f_d_sure_rounds = some ⟨oc_d_sure_rounds, od_d_sure_rounds, .func (PySem.W.fnOf "sure_rounds" "sure_rounds" (defArgs s_d_sure_rounds) (defBody s_d_sure_rounds) (defScope s_d_sure_rounds) (.ref T_d_sure_rounds) kV_d_sure_rounds dc_d_sure_rounds pm_d_sure_rounds an_d_sure_rounds cd_d_sure_rounds ct_d_sure_rounds), sl_d_sure_rounds⟩)
 (lt_d_sure_rounds : K.lookup T_d_sure_rounds = some ⟨cT_d_sure_rounds, dT_d_sure_rounds, .seq #[Value.none] nT_d_sure_rounds, sT_d_sure_rounds⟩)
 (c_d_sure_rounds : PySem.W.codeIn K cd_d_sure_rounds "sure_rounds" = true) (p_d_sure_rounds : PySem.W.keepIn K (.ref f_d_sure_rounds) = true)
 (a_d_sure_steps : PySem.W.nsIn K mainGlobals "sure_steps" = some (some (.ref f_d_sure_steps)))
 (l_d_sure_steps : K.lookup f_d_sure_steps = some ⟨oc_d_sure_steps, od_d_sure_steps, .func (PySem.W.fnOf "sure_steps" "sure_steps" (defArgs s_d_sure_steps) (defBody s_d_sure_steps) (defScope s_d_sure_steps) .none kV_d_sure_steps dc_d_sure_steps pm_d_sure_steps an_d_sure_steps cd_d_sure_steps ct_d_sure_steps), sl_d_sure_steps⟩)
 (c_d_sure_steps : PySem.W.codeIn K cd_d_sure_steps "sure_steps" = true) (p_d_sure_steps : PySem.W.keepIn K (.ref f_d_sure_steps) = true)
 (a_c_Rule_init : PySem.W.findIn K (.ref C_Rule) "__init__" = some (some (.ref f_c_Rule_init)))
 (l_c_Rule_init : K.lookup f_c_Rule_init = some ⟨oc_c_Rule_init, od_c_Rule_init, .func (PySem.W.fnOf "__init__" "Rule.__init__" (defArgs s_c_Rule_init) (defBody s_c_Rule_init) (defScope s_c_Rule_init) .none kV_c_Rule_init dc_c_Rule_init pm_c_Rule_init an_c_Rule_init cd_c_Rule_init ct_c_Rule_init), sl_c_Rule_init⟩)
 (c_c_Rule_init : PySem.W.codeIn K cd_c_Rule_init "Rule.__init__" = true) (p_c_Rule_init : PySem.W.keepIn K (.ref f_c_Rule_init) = true)
 (a_c_Rule_is_sure : PySem.W.findIn K (.ref C_Rule) "is_sure" = some (some (.ref f_c_Rule_is_sure)))
 (l_c_Rule_is_sure : K.lookup f_c_Rule_is_sure = some ⟨oc_c_Rule_is_sure, od_c_Rule_is_sure, .func (PySem.W.fnOf "is_sure" "Rule.is_sure" (defArgs s_c_Rule_is_sure) (defBody s_c_Rule_is_sure) (defScope s_c_Rule_is_sure) .none kV_c_Rule_is_sure dc_c_Rule_is_sure pm_c_Rule_is_sure an_c_Rule_is_sure cd_c_Rule_is_sure ct_c_Rule_is_sure), sl_c_Rule_is_sure⟩)
 (c_c_Rule_is_sure : PySem.W.codeIn K cd_c_Rule_is_sure "Rule.is_sure" = true) (p_c_Rule_is_sure : PySem.W.keepIn K (.ref f_c_Rule_is_sure) = true)
 (a_c_Fact_init : PySem.W.findIn K (.ref C_Fact) "__init__" = some (some (.ref f_c_Fact_init)))
 (l_c_Fact_init : K.lookup f_c_Fact_init = some ⟨oc_c_Fact_init, od_c_Fact_init, .func (PySem.W.fnOf "__init__" "Fact.__init__" (defArgs s_c_Fact_init) (defBody s_c_Fact_init) (defScope s_c_Fact_init) .none kV_c_Fact_init dc_c_Fact_init pm_c_Fact_init an_c_Fact_init cd_c_Fact_init ct_c_Fact_init), sl_c_Fact_init⟩)
 (c_c_Fact_init : PySem.W.codeIn K cd_c_Fact_init "Fact.__init__" = true) (p_c_Fact_init : PySem.W.keepIn K (.ref f_c_Fact_init) = true)
 (a_c_Fact_is_sure : PySem.W.findIn K (.ref C_Fact) "is_sure" = some (some (.ref f_c_Fact_is_sure)))
 (l_c_Fact_is_sure : K.lookup f_c_Fact_is_sure = some ⟨oc_c_Fact_is_sure, od_c_Fact_is_sure, .func (PySem.W.fnOf "is_sure" "Fact.is_sure" (defArgs s_c_Fact_is_sure) (defBody s_c_Fact_is_sure) (defScope s_c_Fact_is_sure) .none kV_c_Fact_is_sure dc_c_Fact_is_sure pm_c_Fact_is_sure an_c_Fact_is_sure cd_c_Fact_is_sure ct_c_Fact_is_sure), sl_c_Fact_is_sure⟩)
 (c_c_Fact_is_sure : PySem.W.codeIn K cd_c_Fact_is_sure "Fact.is_sure" = true) (p_c_Fact_is_sure : PySem.W.keepIn K (.ref f_c_Fact_is_sure) = true)
 (a_c_Sure_is_sure : PySem.W.findIn K (.ref C_Sure) "is_sure" = some (some (.ref f_c_Sure_is_sure)))
 (l_c_Sure_is_sure : K.lookup f_c_Sure_is_sure = some ⟨oc_c_Sure_is_sure, od_c_Sure_is_sure, .func (PySem.W.fnOf "is_sure" "Sure.is_sure" (defArgs s_c_Sure_is_sure) (defBody s_c_Sure_is_sure) (defScope s_c_Sure_is_sure) .none kV_c_Sure_is_sure dc_c_Sure_is_sure pm_c_Sure_is_sure an_c_Sure_is_sure cd_c_Sure_is_sure ct_c_Sure_is_sure), sl_c_Sure_is_sure⟩)
 (c_c_Sure_is_sure : PySem.W.codeIn K cd_c_Sure_is_sure "Sure.is_sure" = true) (p_c_Sure_is_sure : PySem.W.keepIn K (.ref f_c_Sure_is_sure) = true)
 (a_c_Ground_init : PySem.W.findIn K (.ref C_Ground) "__init__" = some (some (.ref f_c_Ground_init)))
 (l_c_Ground_init : K.lookup f_c_Ground_init = some ⟨oc_c_Ground_init, od_c_Ground_init, .func (PySem.W.fnOf "__init__" "Ground.__init__" (defArgs s_c_Ground_init) (defBody s_c_Ground_init) (defScope s_c_Ground_init) .none kV_c_Ground_init dc_c_Ground_init pm_c_Ground_init an_c_Ground_init cd_c_Ground_init ct_c_Ground_init), sl_c_Ground_init⟩)
 (c_c_Ground_init : PySem.W.codeIn K cd_c_Ground_init "Ground.__init__" = true) (p_c_Ground_init : PySem.W.keepIn K (.ref f_c_Ground_init) = true)
 (a_c_Ground_rules : PySem.W.findIn K (.ref C_Ground) "rules" = some (some (.ref f_c_Ground_rules)))
 (l_c_Ground_rules : K.lookup f_c_Ground_rules = some ⟨oc_c_Ground_rules, od_c_Ground_rules, .func (PySem.W.fnOf "rules" "Ground.rules" (defArgs s_c_Ground_rules) (defBody s_c_Ground_rules) (defScope s_c_Ground_rules) .none kV_c_Ground_rules dc_c_Ground_rules pm_c_Ground_rules an_c_Ground_rules cd_c_Ground_rules ct_c_Ground_rules), sl_c_Ground_rules⟩)
 (c_c_Ground_rules : PySem.W.codeIn K cd_c_Ground_rules "Ground.rules" = true) (p_c_Ground_rules : PySem.W.keepIn K (.ref f_c_Ground_rules) = true)
 (a_d_l_cell_at : PySem.W.nsIn K mainGlobals "_law_cell_at" = some (some (.ref f_d_l_cell_at)))
 (l_d_l_cell_at : K.lookup f_d_l_cell_at = some ⟨oc_d_l_cell_at, od_d_l_cell_at, .func (PySem.W.fnOf "_law_cell_at" "_law_cell_at" (defArgs s_d_l_cell_at) (defBody s_d_l_cell_at) (defScope s_d_l_cell_at) .none kV_d_l_cell_at dc_d_l_cell_at pm_d_l_cell_at an_d_l_cell_at cd_d_l_cell_at ct_d_l_cell_at), sl_d_l_cell_at⟩)
 (c_d_l_cell_at : PySem.W.codeIn K cd_d_l_cell_at "_law_cell_at" = true) (p_d_l_cell_at : PySem.W.keepIn K (.ref f_d_l_cell_at) = true)
 (a_d_l_mix : PySem.W.nsIn K mainGlobals "_law_mix" = some (some (.ref f_d_l_mix)))
 (l_d_l_mix : K.lookup f_d_l_mix = some ⟨oc_d_l_mix, od_d_l_mix, .func (PySem.W.fnOf "_law_mix" "_law_mix" (defArgs s_d_l_mix) (defBody s_d_l_mix) (defScope s_d_l_mix) .none kV_d_l_mix dc_d_l_mix pm_d_l_mix an_d_l_mix cd_d_l_mix ct_d_l_mix), sl_d_l_mix⟩)
 (c_d_l_mix : PySem.W.codeIn K cd_d_l_mix "_law_mix" = true) (p_d_l_mix : PySem.W.keepIn K (.ref f_d_l_mix) = true)
 (a_d_l_word : PySem.W.nsIn K mainGlobals "_law_word" = some (some (.ref f_d_l_word)))
 (l_d_l_word : K.lookup f_d_l_word = some ⟨oc_d_l_word, od_d_l_word, .func (PySem.W.fnOf "_law_word" "_law_word" (defArgs s_d_l_word) (defBody s_d_l_word) (defScope s_d_l_word) .none kV_d_l_word dc_d_l_word pm_d_l_word an_d_l_word cd_d_l_word ct_d_l_word), sl_d_l_word⟩)
 (c_d_l_word : PySem.W.codeIn K cd_d_l_word "_law_word" = true) (p_d_l_word : PySem.W.keepIn K (.ref f_d_l_word) = true)
 (a_d_l_pool : PySem.W.nsIn K mainGlobals "_law_pool" = some (some (.ref f_d_l_pool)))
 (l_d_l_pool : K.lookup f_d_l_pool = some ⟨oc_d_l_pool, od_d_l_pool, .func (PySem.W.fnOf "_law_pool" "_law_pool" (defArgs s_d_l_pool) (defBody s_d_l_pool) (defScope s_d_l_pool) .none kV_d_l_pool dc_d_l_pool pm_d_l_pool an_d_l_pool cd_d_l_pool ct_d_l_pool), sl_d_l_pool⟩)
 (c_d_l_pool : PySem.W.codeIn K cd_d_l_pool "_law_pool" = true) (p_d_l_pool : PySem.W.keepIn K (.ref f_d_l_pool) = true)
 (a_d_l_row : PySem.W.nsIn K mainGlobals "_law_row" = some (some (.ref f_d_l_row)))
 (l_d_l_row : K.lookup f_d_l_row = some ⟨oc_d_l_row, od_d_l_row, .func (PySem.W.fnOf "_law_row" "_law_row" (defArgs s_d_l_row) (defBody s_d_l_row) (defScope s_d_l_row) .none kV_d_l_row dc_d_l_row pm_d_l_row an_d_l_row cd_d_l_row ct_d_l_row), sl_d_l_row⟩)
 (c_d_l_row : PySem.W.codeIn K cd_d_l_row "_law_row" = true) (p_d_l_row : PySem.W.keepIn K (.ref f_d_l_row) = true)
 (a_d_l_made : PySem.W.nsIn K mainGlobals "_law_made" = some (some (.ref f_d_l_made)))
 (l_d_l_made : K.lookup f_d_l_made = some ⟨oc_d_l_made, od_d_l_made, .func (PySem.W.fnOf "_law_made" "_law_made" (defArgs s_d_l_made) (defBody s_d_l_made) (defScope s_d_l_made) .none kV_d_l_made dc_d_l_made pm_d_l_made an_d_l_made cd_d_l_made ct_d_l_made), sl_d_l_made⟩)
 (c_d_l_made : PySem.W.codeIn K cd_d_l_made "_law_made" = true) (p_d_l_made : PySem.W.keepIn K (.ref f_d_l_made) = true)
 (a_d_l_labels : PySem.W.nsIn K mainGlobals "_law_labels" = some (some (.ref f_d_l_labels)))
 (l_d_l_labels : K.lookup f_d_l_labels = some ⟨oc_d_l_labels, od_d_l_labels, .func (PySem.W.fnOf "_law_labels" "_law_labels" (defArgs s_d_l_labels) (defBody s_d_l_labels) (defScope s_d_l_labels) .none kV_d_l_labels dc_d_l_labels pm_d_l_labels an_d_l_labels cd_d_l_labels ct_d_l_labels), sl_d_l_labels⟩)
 (c_d_l_labels : PySem.W.codeIn K cd_d_l_labels "_law_labels" = true) (p_d_l_labels : PySem.W.keepIn K (.ref f_d_l_labels) = true)
 (a_d_l_row_by_digits : PySem.W.nsIn K mainGlobals "_law_row_by_digits" = some (some (.ref f_d_l_row_by_digits)))
 (l_d_l_row_by_digits : K.lookup f_d_l_row_by_digits = some ⟨oc_d_l_row_by_digits, od_d_l_row_by_digits, .func (PySem.W.fnOf "_law_row_by_digits" "_law_row_by_digits" (defArgs s_d_l_row_by_digits) (defBody s_d_l_row_by_digits) (defScope s_d_l_row_by_digits) .none kV_d_l_row_by_digits dc_d_l_row_by_digits pm_d_l_row_by_digits an_d_l_row_by_digits cd_d_l_row_by_digits ct_d_l_row_by_digits), sl_d_l_row_by_digits⟩)
 (c_d_l_row_by_digits : PySem.W.codeIn K cd_d_l_row_by_digits "_law_row_by_digits" = true) (p_d_l_row_by_digits : PySem.W.keepIn K (.ref f_d_l_row_by_digits) = true)
 (a_d_l_rows : PySem.W.nsIn K mainGlobals "_law_rows" = some (some (.ref f_d_l_rows)))
 (l_d_l_rows : K.lookup f_d_l_rows = some ⟨oc_d_l_rows, od_d_l_rows, .func (PySem.W.fnOf "_law_rows" "_law_rows" (defArgs s_d_l_rows) (defBody s_d_l_rows) (defScope s_d_l_rows) .none kV_d_l_rows dc_d_l_rows pm_d_l_rows an_d_l_rows cd_d_l_rows ct_d_l_rows), sl_d_l_rows⟩)
 (c_d_l_rows : PySem.W.codeIn K cd_d_l_rows "_law_rows" = true) (p_d_l_rows : PySem.W.keepIn K (.ref f_d_l_rows) = true)
 (a_d_l_rounds : PySem.W.nsIn K mainGlobals "_law_rounds" = some (some (.ref f_d_l_rounds)))
 (l_d_l_rounds : K.lookup f_d_l_rounds = some ⟨oc_d_l_rounds, od_d_l_rounds, .func (PySem.W.fnOf "_law_rounds" "_law_rounds" (defArgs s_d_l_rounds) (defBody s_d_l_rounds) (defScope s_d_l_rounds) .none kV_d_l_rounds dc_d_l_rounds pm_d_l_rounds an_d_l_rounds cd_d_l_rounds ct_d_l_rounds), sl_d_l_rounds⟩)
 (c_d_l_rounds : PySem.W.codeIn K cd_d_l_rounds "_law_rounds" = true) (p_d_l_rounds : PySem.W.keepIn K (.ref f_d_l_rounds) = true)
 (a_d_l_due : PySem.W.nsIn K mainGlobals "_law_due" = some (some (.ref f_d_l_due)))
 (l_d_l_due : K.lookup f_d_l_due = some ⟨oc_d_l_due, od_d_l_due, .func (PySem.W.fnOf "_law_due" "_law_due" (defArgs s_d_l_due) (defBody s_d_l_due) (defScope s_d_l_due) .none kV_d_l_due dc_d_l_due pm_d_l_due an_d_l_due cd_d_l_due ct_d_l_due), sl_d_l_due⟩)
 (c_d_l_due : PySem.W.codeIn K cd_d_l_due "_law_due" = true) (p_d_l_due : PySem.W.keepIn K (.ref f_d_l_due) = true)
 (a_d_l_pairs : PySem.W.nsIn K mainGlobals "_law_pairs" = some (some (.ref f_d_l_pairs)))
 (l_d_l_pairs : K.lookup f_d_l_pairs = some ⟨oc_d_l_pairs, od_d_l_pairs, .func (PySem.W.fnOf "_law_pairs" "_law_pairs" (defArgs s_d_l_pairs) (defBody s_d_l_pairs) (defScope s_d_l_pairs) .none kV_d_l_pairs dc_d_l_pairs pm_d_l_pairs an_d_l_pairs cd_d_l_pairs ct_d_l_pairs), sl_d_l_pairs⟩)
 (c_d_l_pairs : PySem.W.codeIn K cd_d_l_pairs "_law_pairs" = true) (p_d_l_pairs : PySem.W.keepIn K (.ref f_d_l_pairs) = true)
 (a_d_law : PySem.W.nsIn K mainGlobals "law" = some (some (.ref f_d_law)))
 (l_d_law : K.lookup f_d_law = some ⟨oc_d_law, od_d_law, .func (PySem.W.fnOf "law" "law" (defArgs s_d_law) (defBody s_d_law) (defScope s_d_law) .none kV_d_law dc_d_law pm_d_law an_d_law cd_d_law ct_d_law), sl_d_law⟩)
 (c_d_law : PySem.W.codeIn K cd_d_law "law" = true) (p_d_law : PySem.W.keepIn K (.ref f_d_law) = true)
 (z_all : PySem.W.nsIn K mainGlobals "all" = some none)
 (z_enumerate : PySem.W.nsIn K mainGlobals "enumerate" = some none)
 (z_isinstance : PySem.W.nsIn K mainGlobals "isinstance" = some none)
 (z_len : PySem.W.nsIn K mainGlobals "len" = some none)
 (z_list : PySem.W.nsIn K mainGlobals "list" = some none)
 (z_range : PySem.W.nsIn K mainGlobals "range" = some none)
 (z_reversed : PySem.W.nsIn K mainGlobals "reversed" = some none)
 (z_sorted : PySem.W.nsIn K mainGlobals "sorted" = some none)
 (z_tuple : PySem.W.nsIn K mainGlobals "tuple" = some none)
 {cdd_Rule : ClassData} (kc_Rule : PySem.W.clsIn K C_Rule = some cdd_Rule) (kt_Rule : PySem.W.typeIn K (.ref C_Rule) = some (.type "type"))
 (cg_Rule : PySem.W.specialIn K (.ref C_Rule) "__getattribute__" = some (some (.builtin "type.__getattribute__"))) (cr_Rule : PySem.W.readsIn K C_Rule (.type "type") = true) (ca_Rule : PySem.W.findCls K (.ref C_Rule) (.type "type") "__init__" = some (.val (.ref f_c_Rule_init)))
 {cdd_Fact : ClassData} (kc_Fact : PySem.W.clsIn K C_Fact = some cdd_Fact) (kt_Fact : PySem.W.typeIn K (.ref C_Fact) = some (.type "type"))
 (pg_Fact : PySem.W.plainGet K C_Fact Str.empty = true) (hd_Fact : PySem.W.hasDictIn K C_Fact = true) (po_Fact : PySem.W.plainOver K C_Fact = true) (sa_Fact : PySem.W.findIn K (.ref C_Fact) "__setattr__" = some (some (.builtin "object.__setattr__")))
 (th_Fact : PySem.W.findIn K (.ref C_Fact) "__class__" = some (some (.builtin "object.__class__"))) (tn_Fact : PySem.W.specialIn K (.builtin "object.__class__") "__get__" = some (some (.builtin "getset_descriptor.__get__"))) (tt_Fact : PySem.W.takesIn K (.builtin "object.__class__") = some true) (tm_Fact : PySem.W.mroIn K C_Fact (.type "object") = some true)
 (nf_Fact_label : PySem.W.findIn K (.ref C_Fact) "label" = some none)
 (nf_Fact_head : PySem.W.findIn K (.ref C_Fact) "head" = some none)
 (nf_Fact_body : PySem.W.findIn K (.ref C_Fact) "body" = some none)
 (mm_Fact : PySem.W.makesIn K C_Fact = true) (mi_Fact : PySem.W.findIn K (.ref C_Fact) "__init__" = some (some (.ref f_c_Fact_init))) (mf_Fact : PySem.W.isFn K (.ref f_c_Fact_init) = true) (mq_Fact : PySem.W.keepIn K (.ref C_Fact) = true)
 (ma_Fact_is_sure : PySem.W.findIn K (.ref C_Fact) "is_sure" = some (some (.ref f_c_Fact_is_sure))) (mb_Fact_is_sure : PySem.W.isFn K (.ref f_c_Fact_is_sure) = true)
 (ks_Fact_Rule : PySem.W.subIn K (.ref C_Fact) (.ref C_Rule) = some true)
 (ks_Fact_Fact : PySem.W.subIn K (.ref C_Fact) (.ref C_Fact) = some true)
 {cdd_Sure : ClassData} (kc_Sure : PySem.W.clsIn K C_Sure = some cdd_Sure) (kt_Sure : PySem.W.typeIn K (.ref C_Sure) = some (.type "type"))
 (pg_Sure : PySem.W.plainGet K C_Sure Str.empty = true) (hd_Sure : PySem.W.hasDictIn K C_Sure = true) (po_Sure : PySem.W.plainOver K C_Sure = true) (sa_Sure : PySem.W.findIn K (.ref C_Sure) "__setattr__" = some (some (.builtin "object.__setattr__")))
 (th_Sure : PySem.W.findIn K (.ref C_Sure) "__class__" = some (some (.builtin "object.__class__"))) (tn_Sure : PySem.W.specialIn K (.builtin "object.__class__") "__get__" = some (some (.builtin "getset_descriptor.__get__"))) (tt_Sure : PySem.W.takesIn K (.builtin "object.__class__") = some true) (tm_Sure : PySem.W.mroIn K C_Sure (.type "object") = some true)
 (nf_Sure_label : PySem.W.findIn K (.ref C_Sure) "label" = some none)
 (nf_Sure_head : PySem.W.findIn K (.ref C_Sure) "head" = some none)
 (nf_Sure_body : PySem.W.findIn K (.ref C_Sure) "body" = some none)
 (mm_Sure : PySem.W.makesIn K C_Sure = true) (mi_Sure : PySem.W.findIn K (.ref C_Sure) "__init__" = some (some (.ref f_c_Rule_init))) (mf_Sure : PySem.W.isFn K (.ref f_c_Rule_init) = true) (mq_Sure : PySem.W.keepIn K (.ref C_Sure) = true)
 (ma_Sure_is_sure : PySem.W.findIn K (.ref C_Sure) "is_sure" = some (some (.ref f_c_Sure_is_sure))) (mb_Sure_is_sure : PySem.W.isFn K (.ref f_c_Sure_is_sure) = true)
 (ks_Sure_Rule : PySem.W.subIn K (.ref C_Sure) (.ref C_Rule) = some true)
 (ks_Sure_Sure : PySem.W.subIn K (.ref C_Sure) (.ref C_Sure) = some true)
 {cdd_Most : ClassData} (kc_Most : PySem.W.clsIn K C_Most = some cdd_Most) (kt_Most : PySem.W.typeIn K (.ref C_Most) = some (.type "type"))
 (pg_Most : PySem.W.plainGet K C_Most Str.empty = true) (hd_Most : PySem.W.hasDictIn K C_Most = true) (po_Most : PySem.W.plainOver K C_Most = true) (sa_Most : PySem.W.findIn K (.ref C_Most) "__setattr__" = some (some (.builtin "object.__setattr__")))
 (th_Most : PySem.W.findIn K (.ref C_Most) "__class__" = some (some (.builtin "object.__class__"))) (tn_Most : PySem.W.specialIn K (.builtin "object.__class__") "__get__" = some (some (.builtin "getset_descriptor.__get__"))) (tt_Most : PySem.W.takesIn K (.builtin "object.__class__") = some true) (tm_Most : PySem.W.mroIn K C_Most (.type "object") = some true)
 (nf_Most_label : PySem.W.findIn K (.ref C_Most) "label" = some none)
 (nf_Most_head : PySem.W.findIn K (.ref C_Most) "head" = some none)
 (nf_Most_body : PySem.W.findIn K (.ref C_Most) "body" = some none)
 (mm_Most : PySem.W.makesIn K C_Most = true) (mi_Most : PySem.W.findIn K (.ref C_Most) "__init__" = some (some (.ref f_c_Rule_init))) (mf_Most : PySem.W.isFn K (.ref f_c_Rule_init) = true) (mq_Most : PySem.W.keepIn K (.ref C_Most) = true)
 (ma_Most_is_sure : PySem.W.findIn K (.ref C_Most) "is_sure" = some (some (.ref f_c_Rule_is_sure))) (mb_Most_is_sure : PySem.W.isFn K (.ref f_c_Rule_is_sure) = true)
 (ks_Most_Rule : PySem.W.subIn K (.ref C_Most) (.ref C_Rule) = some true)
 (ks_Most_Most : PySem.W.subIn K (.ref C_Most) (.ref C_Most) = some true)
 {cdd_Block : ClassData} (kc_Block : PySem.W.clsIn K C_Block = some cdd_Block) (kt_Block : PySem.W.typeIn K (.ref C_Block) = some (.type "type"))
 (pg_Block : PySem.W.plainGet K C_Block Str.empty = true) (hd_Block : PySem.W.hasDictIn K C_Block = true) (po_Block : PySem.W.plainOver K C_Block = true) (sa_Block : PySem.W.findIn K (.ref C_Block) "__setattr__" = some (some (.builtin "object.__setattr__")))
 (th_Block : PySem.W.findIn K (.ref C_Block) "__class__" = some (some (.builtin "object.__class__"))) (tn_Block : PySem.W.specialIn K (.builtin "object.__class__") "__get__" = some (some (.builtin "getset_descriptor.__get__"))) (tt_Block : PySem.W.takesIn K (.builtin "object.__class__") = some true) (tm_Block : PySem.W.mroIn K C_Block (.type "object") = some true)
 (nf_Block_label : PySem.W.findIn K (.ref C_Block) "label" = some none)
 (nf_Block_head : PySem.W.findIn K (.ref C_Block) "head" = some none)
 (nf_Block_body : PySem.W.findIn K (.ref C_Block) "body" = some none)
 (mm_Block : PySem.W.makesIn K C_Block = true) (mi_Block : PySem.W.findIn K (.ref C_Block) "__init__" = some (some (.ref f_c_Rule_init))) (mf_Block : PySem.W.isFn K (.ref f_c_Rule_init) = true) (mq_Block : PySem.W.keepIn K (.ref C_Block) = true)
 (ma_Block_is_sure : PySem.W.findIn K (.ref C_Block) "is_sure" = some (some (.ref f_c_Rule_is_sure))) (mb_Block_is_sure : PySem.W.isFn K (.ref f_c_Rule_is_sure) = true)
 (ks_Block_Rule : PySem.W.subIn K (.ref C_Block) (.ref C_Rule) = some true)
 (ks_Block_Block : PySem.W.subIn K (.ref C_Block) (.ref C_Block) = some true)
 {cdd_Ground : ClassData} (kc_Ground : PySem.W.clsIn K C_Ground = some cdd_Ground) (kt_Ground : PySem.W.typeIn K (.ref C_Ground) = some (.type "type"))
 (pg_Ground : PySem.W.plainGet K C_Ground Str.empty = true) (hd_Ground : PySem.W.hasDictIn K C_Ground = true) (po_Ground : PySem.W.plainOver K C_Ground = true) (sa_Ground : PySem.W.findIn K (.ref C_Ground) "__setattr__" = some (some (.builtin "object.__setattr__")))
 (th_Ground : PySem.W.findIn K (.ref C_Ground) "__class__" = some (some (.builtin "object.__class__"))) (tn_Ground : PySem.W.specialIn K (.builtin "object.__class__") "__get__" = some (some (.builtin "getset_descriptor.__get__"))) (tt_Ground : PySem.W.takesIn K (.builtin "object.__class__") = some true) (tm_Ground : PySem.W.mroIn K C_Ground (.type "object") = some true)
 (nf_Ground_in_order : PySem.W.findIn K (.ref C_Ground) "in_order" = some none)
 (nf_Ground_by_head : PySem.W.findIn K (.ref C_Ground) "by_head" = some none)
 (nf_Ground_pairs : PySem.W.findIn K (.ref C_Ground) "pairs" = some none)
 (mm_Ground : PySem.W.makesIn K C_Ground = true) (mi_Ground : PySem.W.findIn K (.ref C_Ground) "__init__" = some (some (.ref f_c_Ground_init))) (mf_Ground : PySem.W.isFn K (.ref f_c_Ground_init) = true) (mq_Ground : PySem.W.keepIn K (.ref C_Ground) = true)
 (ma_Ground_rules : PySem.W.findIn K (.ref C_Ground) "rules" = some (some (.ref f_c_Ground_rules))) (mb_Ground_rules : PySem.W.isFn K (.ref f_c_Ground_rules) = true)
 (ks_Ground_Ground : PySem.W.subIn K (.ref C_Ground) (.ref C_Ground) = some true)
 {TB_d_sure_steps : Addr} (tb_d_sure_steps : codeTb K cd_d_sure_steps = some TB_d_sure_steps)
 {bm_ : Addr} (nb_ : PySem.W.nsIn K mainGlobals "__builtins__" = some (some (.ref bm_))) (bo_ : bltOk K bm_ = true)
 : ∃ t : Adr, t.TB_d_sure_steps = TB_d_sure_steps ∧ t.f_d_law = f_d_law ∧ t.fd_d_law = PySem.W.fnOf "law" "law" (defArgs s_d_law) (defBody s_d_law) (defScope s_d_law) .none kV_d_law dc_d_law pm_d_law an_d_law cd_d_law ct_d_law ∧ Txt K mg t := by
  refine ⟨⟨f_d_keyed, PySem.W.fnOf "keyed" "keyed" (defArgs s_d_keyed) (defBody s_d_keyed) (defScope s_d_keyed) .none kV_d_keyed dc_d_keyed pm_d_keyed an_d_keyed cd_d_keyed ct_d_keyed, f_d_all_among, PySem.W.fnOf "all_among" "all_among" (defArgs s_d_all_among) (defBody s_d_all_among) (defScope s_d_all_among) .none kV_d_all_among dc_d_all_among pm_d_all_among an_d_all_among cd_d_all_among ct_d_all_among, f_d_sure_rounds, PySem.W.fnOf "sure_rounds" "sure_rounds" (defArgs s_d_sure_rounds) (defBody s_d_sure_rounds) (defScope s_d_sure_rounds) (.ref T_d_sure_rounds) kV_d_sure_rounds dc_d_sure_rounds pm_d_sure_rounds an_d_sure_rounds cd_d_sure_rounds ct_d_sure_rounds, T_d_sure_rounds, f_d_sure_steps, PySem.W.fnOf "sure_steps" "sure_steps" (defArgs s_d_sure_steps) (defBody s_d_sure_steps) (defScope s_d_sure_steps) .none kV_d_sure_steps dc_d_sure_steps pm_d_sure_steps an_d_sure_steps cd_d_sure_steps ct_d_sure_steps, f_c_Rule_init, PySem.W.fnOf "__init__" "Rule.__init__" (defArgs s_c_Rule_init) (defBody s_c_Rule_init) (defScope s_c_Rule_init) .none kV_c_Rule_init dc_c_Rule_init pm_c_Rule_init an_c_Rule_init cd_c_Rule_init ct_c_Rule_init, f_c_Rule_is_sure, PySem.W.fnOf "is_sure" "Rule.is_sure" (defArgs s_c_Rule_is_sure) (defBody s_c_Rule_is_sure) (defScope s_c_Rule_is_sure) .none kV_c_Rule_is_sure dc_c_Rule_is_sure pm_c_Rule_is_sure an_c_Rule_is_sure cd_c_Rule_is_sure ct_c_Rule_is_sure, f_c_Fact_init, PySem.W.fnOf "__init__" "Fact.__init__" (defArgs s_c_Fact_init) (defBody s_c_Fact_init) (defScope s_c_Fact_init) .none kV_c_Fact_init dc_c_Fact_init pm_c_Fact_init an_c_Fact_init cd_c_Fact_init ct_c_Fact_init, f_c_Fact_is_sure, PySem.W.fnOf "is_sure" "Fact.is_sure" (defArgs s_c_Fact_is_sure) (defBody s_c_Fact_is_sure) (defScope s_c_Fact_is_sure) .none kV_c_Fact_is_sure dc_c_Fact_is_sure pm_c_Fact_is_sure an_c_Fact_is_sure cd_c_Fact_is_sure ct_c_Fact_is_sure, f_c_Sure_is_sure, PySem.W.fnOf "is_sure" "Sure.is_sure" (defArgs s_c_Sure_is_sure) (defBody s_c_Sure_is_sure) (defScope s_c_Sure_is_sure) .none kV_c_Sure_is_sure dc_c_Sure_is_sure pm_c_Sure_is_sure an_c_Sure_is_sure cd_c_Sure_is_sure ct_c_Sure_is_sure, f_c_Ground_init, PySem.W.fnOf "__init__" "Ground.__init__" (defArgs s_c_Ground_init) (defBody s_c_Ground_init) (defScope s_c_Ground_init) .none kV_c_Ground_init dc_c_Ground_init pm_c_Ground_init an_c_Ground_init cd_c_Ground_init ct_c_Ground_init, f_c_Ground_rules, PySem.W.fnOf "rules" "Ground.rules" (defArgs s_c_Ground_rules) (defBody s_c_Ground_rules) (defScope s_c_Ground_rules) .none kV_c_Ground_rules dc_c_Ground_rules pm_c_Ground_rules an_c_Ground_rules cd_c_Ground_rules ct_c_Ground_rules, f_d_l_cell_at, PySem.W.fnOf "_law_cell_at" "_law_cell_at" (defArgs s_d_l_cell_at) (defBody s_d_l_cell_at) (defScope s_d_l_cell_at) .none kV_d_l_cell_at dc_d_l_cell_at pm_d_l_cell_at an_d_l_cell_at cd_d_l_cell_at ct_d_l_cell_at, f_d_l_mix, PySem.W.fnOf "_law_mix" "_law_mix" (defArgs s_d_l_mix) (defBody s_d_l_mix) (defScope s_d_l_mix) .none kV_d_l_mix dc_d_l_mix pm_d_l_mix an_d_l_mix cd_d_l_mix ct_d_l_mix, f_d_l_word, PySem.W.fnOf "_law_word" "_law_word" (defArgs s_d_l_word) (defBody s_d_l_word) (defScope s_d_l_word) .none kV_d_l_word dc_d_l_word pm_d_l_word an_d_l_word cd_d_l_word ct_d_l_word, f_d_l_pool, PySem.W.fnOf "_law_pool" "_law_pool" (defArgs s_d_l_pool) (defBody s_d_l_pool) (defScope s_d_l_pool) .none kV_d_l_pool dc_d_l_pool pm_d_l_pool an_d_l_pool cd_d_l_pool ct_d_l_pool, f_d_l_row, PySem.W.fnOf "_law_row" "_law_row" (defArgs s_d_l_row) (defBody s_d_l_row) (defScope s_d_l_row) .none kV_d_l_row dc_d_l_row pm_d_l_row an_d_l_row cd_d_l_row ct_d_l_row, f_d_l_made, PySem.W.fnOf "_law_made" "_law_made" (defArgs s_d_l_made) (defBody s_d_l_made) (defScope s_d_l_made) .none kV_d_l_made dc_d_l_made pm_d_l_made an_d_l_made cd_d_l_made ct_d_l_made, f_d_l_labels, PySem.W.fnOf "_law_labels" "_law_labels" (defArgs s_d_l_labels) (defBody s_d_l_labels) (defScope s_d_l_labels) .none kV_d_l_labels dc_d_l_labels pm_d_l_labels an_d_l_labels cd_d_l_labels ct_d_l_labels, f_d_l_row_by_digits, PySem.W.fnOf "_law_row_by_digits" "_law_row_by_digits" (defArgs s_d_l_row_by_digits) (defBody s_d_l_row_by_digits) (defScope s_d_l_row_by_digits) .none kV_d_l_row_by_digits dc_d_l_row_by_digits pm_d_l_row_by_digits an_d_l_row_by_digits cd_d_l_row_by_digits ct_d_l_row_by_digits, f_d_l_rows, PySem.W.fnOf "_law_rows" "_law_rows" (defArgs s_d_l_rows) (defBody s_d_l_rows) (defScope s_d_l_rows) .none kV_d_l_rows dc_d_l_rows pm_d_l_rows an_d_l_rows cd_d_l_rows ct_d_l_rows, f_d_l_rounds, PySem.W.fnOf "_law_rounds" "_law_rounds" (defArgs s_d_l_rounds) (defBody s_d_l_rounds) (defScope s_d_l_rounds) .none kV_d_l_rounds dc_d_l_rounds pm_d_l_rounds an_d_l_rounds cd_d_l_rounds ct_d_l_rounds, f_d_l_due, PySem.W.fnOf "_law_due" "_law_due" (defArgs s_d_l_due) (defBody s_d_l_due) (defScope s_d_l_due) .none kV_d_l_due dc_d_l_due pm_d_l_due an_d_l_due cd_d_l_due ct_d_l_due, f_d_l_pairs, PySem.W.fnOf "_law_pairs" "_law_pairs" (defArgs s_d_l_pairs) (defBody s_d_l_pairs) (defScope s_d_l_pairs) .none kV_d_l_pairs dc_d_l_pairs pm_d_l_pairs an_d_l_pairs cd_d_l_pairs ct_d_l_pairs, f_d_law, PySem.W.fnOf "law" "law" (defArgs s_d_law) (defBody s_d_law) (defScope s_d_law) .none kV_d_law dc_d_law pm_d_law an_d_law cd_d_law ct_d_law, C_Rule, C_Fact, C_Sure, C_Most, C_Block, C_Ground, TB_d_sure_steps⟩, rfl, rfl, rfl, ?_⟩
  constructor
  · exact fun_mk (st := s_d_keyed) l_d_keyed c_d_keyed p_d_keyed
  · exact (fun_mk (st := s_d_keyed) l_d_keyed c_d_keyed p_d_keyed).binds (ps := ["some"]) fun _ _ _ _ _ _ us hl => match us, hl with | [_], _ => rfl
  · exact PySem.W.mg_of X G a_d_keyed
  · exact fun_mk (st := s_d_all_among) l_d_all_among c_d_all_among p_d_all_among
  · exact (fun_mk (st := s_d_all_among) l_d_all_among c_d_all_among p_d_all_among).binds (ps := ["statements", "some"]) fun _ _ _ _ _ _ us hl => match us, hl with | [_, _], _ => rfl
  · exact PySem.W.mg_of X G a_d_all_among
  · exact (fund_mk (st := s_d_sure_rounds) (ds := [Value.none]) l_d_sure_rounds c_d_sure_rounds p_d_sure_rounds lt_d_sure_rounds rfl)
  · exact FunD.binds (ps := ["rules", "known"]) [] (fund_mk (st := s_d_sure_rounds) (ds := [Value.none]) l_d_sure_rounds c_d_sure_rounds p_d_sure_rounds lt_d_sure_rounds rfl) fun _ _ _ _ _ _ us hl => match us, hl with | [_, _], _ => ⟨_, rfl, rfl⟩
  · exact FunD.binds (ps := ["rules", "known"]) [Value.none] (fund_mk (st := s_d_sure_rounds) (ds := [Value.none]) l_d_sure_rounds c_d_sure_rounds p_d_sure_rounds lt_d_sure_rounds rfl) fun _ _ _ _ _ _ us hl => match us, (show us.length = 1 from by rw [List.length_append] at hl; exact Nat.succ.inj hl) with | [_], _ => ⟨_, rfl, rfl⟩
  · exact PySem.W.mg_of X G a_d_sure_rounds
  · exact fun_mk (st := s_d_sure_steps) l_d_sure_steps c_d_sure_steps p_d_sure_steps
  · exact (fun_mk (st := s_d_sure_steps) l_d_sure_steps c_d_sure_steps p_d_sure_steps).binds (ps := ["ground"]) fun _ _ _ _ _ _ us hl => match us, hl with | [_], _ => rfl
  · exact PySem.W.mg_of X G a_d_sure_steps
  · exact fun_mk (st := s_c_Rule_init) l_c_Rule_init c_c_Rule_init p_c_Rule_init
  · exact (fun_mk (st := s_c_Rule_init) l_c_Rule_init c_c_Rule_init p_c_Rule_init).binds (ps := ["self", "label", "head", "body"]) fun _ _ _ _ _ _ us hl => match us, hl with | [_, _, _, _], _ => rfl
  · exact fun_mk (st := s_c_Rule_is_sure) l_c_Rule_is_sure c_c_Rule_is_sure p_c_Rule_is_sure
  · exact (fun_mk (st := s_c_Rule_is_sure) l_c_Rule_is_sure c_c_Rule_is_sure p_c_Rule_is_sure).binds (ps := ["self"]) fun _ _ _ _ _ _ us hl => match us, hl with | [_], _ => rfl
  · exact fun_mk (st := s_c_Fact_init) l_c_Fact_init c_c_Fact_init p_c_Fact_init
  · exact (fun_mk (st := s_c_Fact_init) l_c_Fact_init c_c_Fact_init p_c_Fact_init).binds (ps := ["self", "head"]) fun _ _ _ _ _ _ us hl => match us, hl with | [_, _], _ => rfl
  · exact fun_mk (st := s_c_Fact_is_sure) l_c_Fact_is_sure c_c_Fact_is_sure p_c_Fact_is_sure
  · exact (fun_mk (st := s_c_Fact_is_sure) l_c_Fact_is_sure c_c_Fact_is_sure p_c_Fact_is_sure).binds (ps := ["self"]) fun _ _ _ _ _ _ us hl => match us, hl with | [_], _ => rfl
  · exact fun_mk (st := s_c_Sure_is_sure) l_c_Sure_is_sure c_c_Sure_is_sure p_c_Sure_is_sure
  · exact (fun_mk (st := s_c_Sure_is_sure) l_c_Sure_is_sure c_c_Sure_is_sure p_c_Sure_is_sure).binds (ps := ["self"]) fun _ _ _ _ _ _ us hl => match us, hl with | [_], _ => rfl
  · exact fun_mk (st := s_c_Ground_init) l_c_Ground_init c_c_Ground_init p_c_Ground_init
  · exact (fun_mk (st := s_c_Ground_init) l_c_Ground_init c_c_Ground_init p_c_Ground_init).binds (ps := ["self", "rules", "pairs"]) fun _ _ _ _ _ _ us hl => match us, hl with | [_, _, _], _ => rfl
  · exact fun_mk (st := s_c_Ground_rules) l_c_Ground_rules c_c_Ground_rules p_c_Ground_rules
  · exact (fun_mk (st := s_c_Ground_rules) l_c_Ground_rules c_c_Ground_rules p_c_Ground_rules).binds (ps := ["self"]) fun _ _ _ _ _ _ us hl => match us, hl with | [_], _ => rfl
  · exact fun_mk (st := s_d_l_cell_at) l_d_l_cell_at c_d_l_cell_at p_d_l_cell_at
  · exact (fun_mk (st := s_d_l_cell_at) l_d_l_cell_at c_d_l_cell_at p_d_l_cell_at).binds (ps := ["_law_script", "_law_k"]) fun _ _ _ _ _ _ us hl => match us, hl with | [_, _], _ => rfl
  · exact PySem.W.mg_of X G a_d_l_cell_at
  · exact fun_mk (st := s_d_l_mix) l_d_l_mix c_d_l_mix p_d_l_mix
  · exact (fun_mk (st := s_d_l_mix) l_d_l_mix c_d_l_mix p_d_l_mix).binds (ps := ["_law_cell", "_law_k"]) fun _ _ _ _ _ _ us hl => match us, hl with | [_, _], _ => rfl
  · exact PySem.W.mg_of X G a_d_l_mix
  · exact fun_mk (st := s_d_l_word) l_d_l_word c_d_l_word p_d_l_word
  · exact (fun_mk (st := s_d_l_word) l_d_l_word c_d_l_word p_d_l_word).binds (ps := ["_law_cell", "_law_k", "_law_signs"]) fun _ _ _ _ _ _ us hl => match us, hl with | [_, _, _], _ => rfl
  · exact PySem.W.mg_of X G a_d_l_word
  · exact fun_mk (st := s_d_l_pool) l_d_l_pool c_d_l_pool p_d_l_pool
  · exact (fun_mk (st := s_d_l_pool) l_d_l_pool c_d_l_pool p_d_l_pool).binds (ps := ["_law_cell"]) fun _ _ _ _ _ _ us hl => match us, hl with | [_], _ => rfl
  · exact PySem.W.mg_of X G a_d_l_pool
  · exact fun_mk (st := s_d_l_row) l_d_l_row c_d_l_row p_d_l_row
  · exact (fun_mk (st := s_d_l_row) l_d_l_row c_d_l_row p_d_l_row).binds (ps := ["_law_m", "_law_k", "_law_pool_here", "_law_labels_here", "_law_style"]) fun _ _ _ _ _ _ us hl => match us, hl with | [_, _, _, _, _], _ => rfl
  · exact PySem.W.mg_of X G a_d_l_row
  · exact fun_mk (st := s_d_l_made) l_d_l_made c_d_l_made p_d_l_made
  · exact (fun_mk (st := s_d_l_made) l_d_l_made c_d_l_made p_d_l_made).binds (ps := ["_law_row_here"]) fun _ _ _ _ _ _ us hl => match us, hl with | [_], _ => rfl
  · exact PySem.W.mg_of X G a_d_l_made
  · exact fun_mk (st := s_d_l_labels) l_d_l_labels c_d_l_labels p_d_l_labels
  · exact (fun_mk (st := s_d_l_labels) l_d_l_labels c_d_l_labels p_d_l_labels).binds (ps := ["_law_cell"]) fun _ _ _ _ _ _ us hl => match us, hl with | [_], _ => rfl
  · exact PySem.W.mg_of X G a_d_l_labels
  · exact fun_mk (st := s_d_l_row_by_digits) l_d_l_row_by_digits c_d_l_row_by_digits p_d_l_row_by_digits
  · exact (fun_mk (st := s_d_l_row_by_digits) l_d_l_row_by_digits c_d_l_row_by_digits p_d_l_row_by_digits).binds (ps := ["_law_cell", "_law_pool_here", "_law_labels_here"]) fun _ _ _ _ _ _ us hl => match us, hl with | [_, _, _], _ => rfl
  · exact PySem.W.mg_of X G a_d_l_row_by_digits
  · exact fun_mk (st := s_d_l_rows) l_d_l_rows c_d_l_rows p_d_l_rows
  · exact (fun_mk (st := s_d_l_rows) l_d_l_rows c_d_l_rows p_d_l_rows).binds (ps := ["_law_script", "_law_start"]) fun _ _ _ _ _ _ us hl => match us, hl with | [_, _], _ => rfl
  · exact PySem.W.mg_of X G a_d_l_rows
  · exact fun_mk (st := s_d_l_rounds) l_d_l_rounds c_d_l_rounds p_d_l_rounds
  · exact (fun_mk (st := s_d_l_rounds) l_d_l_rounds c_d_l_rounds p_d_l_rounds).binds (ps := ["_law_rows_here", "_law_known"]) fun _ _ _ _ _ _ us hl => match us, hl with | [_, _], _ => rfl
  · exact PySem.W.mg_of X G a_d_l_rounds
  · exact fun_mk (st := s_d_l_due) l_d_l_due c_d_l_due p_d_l_due
  · exact (fun_mk (st := s_d_l_due) l_d_l_due c_d_l_due p_d_l_due).binds (ps := ["_law_rows_here"]) fun _ _ _ _ _ _ us hl => match us, hl with | [_], _ => rfl
  · exact PySem.W.mg_of X G a_d_l_due
  · exact fun_mk (st := s_d_l_pairs) l_d_l_pairs c_d_l_pairs p_d_l_pairs
  · exact (fun_mk (st := s_d_l_pairs) l_d_l_pairs c_d_l_pairs p_d_l_pairs).binds (ps := ["_law_cell"]) fun _ _ _ _ _ _ us hl => match us, hl with | [_], _ => rfl
  · exact PySem.W.mg_of X G a_d_l_pairs
  · exact fun_mk (st := s_d_law) l_d_law c_d_law p_d_law
  · exact (fun_mk (st := s_d_law) l_d_law c_d_law p_d_law).binds (ps := ["_law_script"]) fun _ _ _ _ _ _ us hl => match us, hl with | [_], _ => rfl
  · exact PySem.W.mg_of X G a_d_law
  · exact PySem.W.mg_of X G a_Rule
  · exact PySem.W.mg_of X G a_Fact
  · exact PySem.W.mg_of X G a_Sure
  · exact PySem.W.mg_of X G a_Most
  · exact PySem.W.mg_of X G a_Block
  · exact PySem.W.mg_of X G a_Ground
  · exact PySem.W.mg_none_of X G z_all
  · exact PySem.W.mg_none_of X G z_enumerate
  · exact PySem.W.mg_none_of X G z_isinstance
  · exact PySem.W.mg_none_of X G z_len
  · exact PySem.W.mg_none_of X G z_list
  · exact PySem.W.mg_none_of X G z_range
  · exact PySem.W.mg_none_of X G z_reversed
  · exact PySem.W.mg_none_of X G z_sorted
  · exact PySem.W.mg_none_of X G z_tuple
  · exact ⟨cg_Rule, cr_Rule, ca_Rule, p_c_Rule_init⟩
  · exact ⟨pg_Fact, hd_Fact, po_Fact, sa_Fact⟩
  · exact ⟨th_Fact, tn_Fact, tt_Fact, tm_Fact⟩
  · exact nf_Fact_label
  · exact nf_Fact_head
  · exact nf_Fact_body
  · exact ⟨mm_Fact, mi_Fact, mf_Fact, mq_Fact⟩
  · exact ⟨ma_Fact_is_sure, mb_Fact_is_sure, p_c_Fact_is_sure⟩
  · exact kit_mk kc_Rule kt_Rule ks_Fact_Rule ks_Fact_Fact
  · exact kit_mk kc_Fact kt_Fact ks_Fact_Fact ks_Fact_Fact
  · exact ⟨pg_Sure, hd_Sure, po_Sure, sa_Sure⟩
  · exact ⟨th_Sure, tn_Sure, tt_Sure, tm_Sure⟩
  · exact nf_Sure_label
  · exact nf_Sure_head
  · exact nf_Sure_body
  · exact ⟨mm_Sure, mi_Sure, mf_Sure, mq_Sure⟩
  · exact ⟨ma_Sure_is_sure, mb_Sure_is_sure, p_c_Sure_is_sure⟩
  · exact kit_mk kc_Rule kt_Rule ks_Sure_Rule ks_Sure_Sure
  · exact kit_mk kc_Sure kt_Sure ks_Sure_Sure ks_Sure_Sure
  · exact ⟨pg_Most, hd_Most, po_Most, sa_Most⟩
  · exact ⟨th_Most, tn_Most, tt_Most, tm_Most⟩
  · exact nf_Most_label
  · exact nf_Most_head
  · exact nf_Most_body
  · exact ⟨mm_Most, mi_Most, mf_Most, mq_Most⟩
  · exact ⟨ma_Most_is_sure, mb_Most_is_sure, p_c_Rule_is_sure⟩
  · exact kit_mk kc_Rule kt_Rule ks_Most_Rule ks_Most_Most
  · exact kit_mk kc_Most kt_Most ks_Most_Most ks_Most_Most
  · exact ⟨pg_Block, hd_Block, po_Block, sa_Block⟩
  · exact ⟨th_Block, tn_Block, tt_Block, tm_Block⟩
  · exact nf_Block_label
  · exact nf_Block_head
  · exact nf_Block_body
  · exact ⟨mm_Block, mi_Block, mf_Block, mq_Block⟩
  · exact ⟨ma_Block_is_sure, mb_Block_is_sure, p_c_Rule_is_sure⟩
  · exact kit_mk kc_Rule kt_Rule ks_Block_Rule ks_Block_Block
  · exact kit_mk kc_Block kt_Block ks_Block_Block ks_Block_Block
  · exact ⟨pg_Ground, hd_Ground, po_Ground, sa_Ground⟩
  · exact ⟨th_Ground, tn_Ground, tt_Ground, tm_Ground⟩
  · exact nf_Ground_in_order
  · exact nf_Ground_by_head
  · exact nf_Ground_pairs
  · exact ⟨mm_Ground, mi_Ground, mf_Ground, mq_Ground⟩
  · exact ⟨ma_Ground_rules, mb_Ground_rules, p_c_Ground_rules⟩
  · exact kit_mk kc_Ground kt_Ground ks_Ground_Ground ks_Ground_Ground
  · exact tb_d_sure_steps
  · exact bltK_mk (PySem.W.mg_of X G nb_) bo_
section
variable {α : Type} [DecidableEq α]
def lk (d : List (α × Nat)) (x : α) : Option Nat := (d.find? fun p => decide (p.1 = x)).map (·.2)
theorem lk_mem {d : List (α × Nat)} {x : α} {m : Nat} (h : lk d x = some m) : (x, m) ∈ d := by
  unfold lk at h
  cases e : d.find? fun p => decide (p.1 = x) with
  | none => rw [e] at h; cases h
  | some p =>
    rw [e] at h
    have h1 := List.mem_of_find?_eq_some e
    have h2 := List.find?_some e
    obtain ⟨a, b⟩ := p
    cases h
    have h3 : a = x := of_decide_eq_true h2
    rw [← h3]; exact h1
theorem lk_none {d : List (α × Nat)} {x : α} (h : lk d x = none) {p : α × Nat} (hp : p ∈ d) : p.1 ≠ x := by
  unfold lk at h
  rw [Option.map_eq_none_iff, List.find?_eq_none] at h
  intro e
  exact h p hp (decide_eq_true e)
theorem lk_snoc {d : List (α × Nat)} {y : α} {m : Nat} (h : lk d y = none) (x : α) : lk (d ++ [(y, m)]) x = if x = y then some m else lk d x := by
  unfold lk at *
  rw [List.find?_append]
  by_cases e : x = y
  · subst e
    rw [Option.map_eq_none_iff] at h
    rw [h, if_pos rfl]; simp
  · rw [if_neg e]
    have : List.find? (fun p : α × Nat => decide (p.1 = x)) [(y, m)] = none := by simp; exact fun z => e z.symm
    rw [this, Option.or_none]
theorem lk_of {d : List (α × Nat)} (nd : (d.map (·.1)).Nodup) {p : α × Nat} (hp : p ∈ d) : lk d p.1 = some p.2 := by
  induction d with
  | nil => cases hp
  | cons q r ih =>
    rw [List.map_cons, List.nodup_cons] at nd
    unfold lk
    rw [List.find?_cons]
    by_cases e : q.1 = p.1
    · rw [decide_eq_true e]
      rcases List.mem_cons.mp hp with z | z
      · rw [z]; rfl
      · exact absurd (List.mem_map.mpr ⟨p, z, e.symm⟩) nd.1
    · rw [decide_eq_false e]
      rcases List.mem_cons.mp hp with z | z
      · exact absurd (by rw [z]) e
      · exact ih nd.2 z
def stp (n : Nat) (d : List (α × Nat)) (p : α × α) : List (α × Nat) := if lk d p.2 = some n ∧ lk d p.1 = none then d ++ [(p.1, n + 1)] else d
def rnd (ps : List (α × α)) (n : Nat) (d : List (α × Nat)) : List (α × Nat) := ps.foldl (stp n) d
def dD (ps : List (α × α)) (o : α) : Nat → List (α × Nat)
  | 0 => [(o, 0)]
  | n + 1 => rnd ps n (dD ps o n)
structure Ok (ps : List (α × α)) (ls : List α) (o : α) (d : List (α × Nat)) : Prop where
  nd : (d.map (·.1)).Nodup
  sub : ∀ p ∈ d, p.1 ∈ o :: ls
  low : ∀ p ∈ d, p.2 < d.length
  zer : ∀ p ∈ d, p.2 = 0 → p.1 = o
  prv : ∀ p ∈ d, ∀ m, p.2 = m + 1 → ∃ b, (p.1, b) ∈ ps ∧ lk d b = some m
  one : lk d o = some 0
theorem Ok.go {ps : List (α × α)} {ls : List α} {o : α} {d : List (α × Nat)} (h : Ok ps ls o d) (n : Nat) {p : α × α} (hp : p ∈ ps) (hl : p.1 ∈ ls) : Ok ps ls o (stp n d p) := by
  unfold stp
  by_cases c : lk d p.2 = some n ∧ lk d p.1 = none
  · rw [if_pos c]
    have hne : p.1 ≠ o := fun z => by rw [z, h.one] at c; cases c.2
    refine ⟨?_, ?_, ?_, ?_, ?_, ?_⟩
    · rw [List.map_append, List.nodup_append]
      refine ⟨h.nd, by simp, ?_⟩
      intro a ha b hb e
      obtain ⟨q, hq, rfl⟩ := List.mem_map.mp ha
      rw [List.mem_map] at hb
      obtain ⟨r, hr, rfl⟩ := hb
      rw [List.mem_singleton] at hr
      subst hr
      exact lk_none c.2 hq e
    · intro q hq
      rcases List.mem_append.mp hq with z | z
      · exact h.sub q z
      · rw [List.mem_singleton] at z; subst z; exact List.mem_cons_of_mem _ hl
    · intro q hq
      rw [List.length_append]
      rcases List.mem_append.mp hq with z | z
      · have := h.low q z; simp; omega
      · rw [List.mem_singleton] at z; subst z
        have := h.low _ (lk_mem c.1); simp at *; omega
    · intro q hq e
      rcases List.mem_append.mp hq with z | z
      · exact h.zer q z e
      · rw [List.mem_singleton] at z; subst z; cases e
    · intro q hq m e
      rcases List.mem_append.mp hq with z | z
      · obtain ⟨b, h1, h2⟩ := h.prv q z m e
        refine ⟨b, h1, ?_⟩
        rw [lk_snoc c.2, if_neg (fun z => by rw [z, c.2] at h2; cases h2)]; exact h2
      · rw [List.mem_singleton] at z; subst z
        have e' : n = m := Nat.succ.inj e
        refine ⟨p.2, hp, ?_⟩
        rw [lk_snoc c.2, if_neg (fun z => by rw [z, c.2] at c; cases c.1), ← e']; exact c.1
    · rw [lk_snoc c.2, if_neg hne.symm]; exact h.one
  · rw [if_neg c]; exact h
theorem rnd_app {ps : List (α × α)} (n : Nat) : ∀ d : List (α × Nat), ∃ ex, rnd ps n d = d ++ ex ∧ ∀ p ∈ ex, p.2 = n + 1 := by
  unfold rnd
  induction ps with
  | nil => exact fun d => ⟨[], by simp, by simp⟩
  | cons p r ih =>
    intro d
    rw [List.foldl_cons]
    obtain ⟨ex, h1, h2⟩ := ih (stp n d p)
    rw [h1]
    unfold stp
    by_cases c : lk d p.2 = some n ∧ lk d p.1 = none
    · rw [if_pos c]
      refine ⟨(p.1, n + 1) :: ex, by simp, fun q hq => ?_⟩
      rcases List.mem_cons.mp hq with z | z
      · rw [z]
      · exact h2 q z
    · rw [if_neg c]; exact ⟨ex, rfl, h2⟩
theorem Ok.goR {ps qs : List (α × α)} {ls : List α} {o : α} (n : Nat) (hq : ∀ p ∈ qs, p ∈ ps) (hl : ∀ p ∈ ps, p.1 ∈ ls) : ∀ {d : List (α × Nat)}, Ok ps ls o d → Ok ps ls o (rnd qs n d) := by
  unfold rnd
  induction qs with
  | nil => exact fun h => h
  | cons p r ih =>
    intro d h
    rw [List.foldl_cons]
    exact ih (fun q z => hq q (List.mem_cons_of_mem _ z)) (h.go n (hq p List.mem_cons_self) (hl p (hq p List.mem_cons_self)))
theorem Ok.at' {ps : List (α × α)} {ls : List α} {o : α} (hl : ∀ p ∈ ps, p.1 ∈ ls) : ∀ n, Ok ps ls o (dD ps o n)
  | 0 => by
    refine ⟨by simp [dD], by simp [dD], by simp [dD], by simp [dD], ?_, by simp [dD, lk]⟩
    intro p hp m e
    simp [dD] at hp; subst hp; cases e
  | n + 1 => (Ok.at' hl n).goR n (fun _ h => h) hl
theorem sub_len : ∀ {l m : List α}, l.Nodup → (∀ x ∈ l, x ∈ m) → l.length ≤ m.length
  | [], m, _, _ => Nat.zero_le _
  | x :: l, m, h, s => by
    rw [List.nodup_cons] at h
    have h1 := sub_len (l := l) (m := m.erase x) h.2 (fun y hy => (List.mem_erase_of_ne (fun z => h.1 (by rw [← z]; exact hy))).mpr (s y (List.mem_cons_of_mem _ hy)))
    have h2 : x ∈ m := s x List.mem_cons_self
    have h3 := List.length_erase_of_mem h2
    have h4 := List.length_pos_of_mem h2
    simp only [List.length_cons]; omega
theorem Ok.len {ps : List (α × α)} {ls : List α} {o : α} {d : List (α × Nat)} (h : Ok ps ls o d) : d.length ≤ ls.length + 1 := by
  have := sub_len (m := o :: ls) h.nd (fun x hx => by
    obtain ⟨p, hp, rfl⟩ := List.mem_map.mp hx
    exact h.sub p hp)
  simpa using this
theorem Ok.lev {ps : List (α × α)} {ls : List α} {o : α} {d : List (α × Nat)} (h : Ok ps ls o d) {x : α} {m : Nat} (e : lk d x = some m) : m ≤ ls.length := by
  have := h.low _ (lk_mem e)
  have := h.len
  simp at *; omega
theorem dD_top (ps : List (α × α)) (o : α) : ∀ n, ∀ p ∈ dD ps o n, p.2 ≤ n
  | 0 => by simp [dD]
  | n + 1 => by
    obtain ⟨ex, h1, h2⟩ := rnd_app (ps := ps) n (dD ps o n)
    intro p hp
    rw [dD, h1] at hp
    rcases List.mem_append.mp hp with z | z
    · exact Nat.le_succ_of_le (dD_top ps o n p z)
    · rw [h2 p z]; exact Nat.le_refl _
theorem rnd_same {ps : List (α × α)} {n : Nat} {d : List (α × Nat)} (h : ∀ x, lk d x ≠ some n) : rnd ps n d = d := by
  unfold rnd
  induction ps with
  | nil => rfl
  | cons p r ih =>
    rw [List.foldl_cons]
    have : stp n d p = d := by unfold stp; rw [if_neg fun c => h _ c.1]
    rw [this]; exact ih
theorem dD_const {ps : List (α × α)} {o : α} {n : Nat} (h : ∀ x, lk (dD ps o n) x ≠ some n) : ∀ k, dD ps o (n + k) = dD ps o n
  | 0 => rfl
  | k + 1 => by
    have ih := dD_const h k
    show rnd ps (n + k) (dD ps o (n + k)) = _
    rw [ih]
    refine rnd_same fun x e => ?_
    by_cases hk : k = 0
    · subst hk; exact h x e
    · have := dD_top ps o n _ (lk_mem e)
      simp at this; omega
theorem dD_far {ps : List (α × α)} {ls : List α} {o : α} (hl : ∀ p ∈ ps, p.1 ∈ ls) : dD ps o (ls.length + 1) = dD ps o ls.length := by
  obtain ⟨ex, h1, h2⟩ := rnd_app (ps := ps) ls.length (dD ps o ls.length)
  have hk := Ok.at' (o := o) hl (ls.length + 1)
  show rnd ps ls.length (dD ps o ls.length) = _
  rw [h1]
  cases ex with
  | nil => simp
  | cons p r =>
    have hm : p ∈ dD ps o (ls.length + 1) := by
      show p ∈ rnd ps ls.length (dD ps o ls.length)
      rw [h1]; exact List.mem_append_right _ List.mem_cons_self
    have := hk.low p hm
    have := hk.len
    have := h2 p List.mem_cons_self
    omega
theorem dD_stop {ps : List (α × α)} {ls : List α} {o : α} (hl : ∀ p ∈ ps, p.1 ∈ ls) {n : Nat} (h : ∀ x, lk (dD ps o n) x ≠ some n) : dD ps o n = dD ps o ls.length := by
  by_cases c : n ≤ ls.length
  · obtain ⟨k, e⟩ := Nat.le.dest c
    rw [← e]; exact (dD_const h k).symm
  · obtain ⟨k, e⟩ := Nat.le.dest (Nat.lt_of_not_le c)
    rw [← e, show (ls.length.succ + k) = (ls.length + 1) + k from rfl, dD_const (n := ls.length + 1) (fun x e2 => ?_) k, dD_far hl]
    rw [dD_far hl] at e2
    have := dD_top ps o ls.length _ (lk_mem e2)
    simp at this; omega
def near (ps : List (α × α)) (F : List (α × Nat)) (x : α) (m : Nat) : List α := (ps.filter fun p => decide (p.1 = x) && decide (lk F p.2 = some m)).map (·.2)
theorem near_ne {ps : List (α × α)} {ls : List α} {o : α} {F : List (α × Nat)} (h : Ok ps ls o F) {x : α} {m : Nat} (e : lk F x = some (m + 1)) : near ps F x m ≠ [] := by
  obtain ⟨b, h1, h2⟩ := h.prv _ (lk_mem e) m rfl
  intro z
  have : b ∈ near ps F x m := List.mem_map.mpr ⟨(x, b), List.mem_filter.mpr ⟨h1, by simp [h2]⟩, rfl⟩
  rw [z] at this; cases this
theorem near_lk {ps : List (α × α)} {F : List (α × Nat)} {x y : α} {m : Nat} (h : y ∈ near ps F x m) : lk F y = some m := by
  obtain ⟨p, hp, rfl⟩ := List.mem_map.mp h
  have := (List.mem_filter.mp hp).2
  simp at this; exact this.2
def path (mn : List α → α) (ps : List (α × α)) (F : List (α × Nat)) : Nat → α → List α
  | 0, _ => []
  | m + 1, x => mn (near ps F x m) :: path mn ps F m (mn (near ps F x m))
end
section
variable {α : Type} [DecidableEq α]
abbrev SR (α : Type) := Bool × α × List α
def putU (l : List α) (x : α) : List α := if x ∈ l then l else l ++ [x]
theorem mem_putU {l : List α} {x y : α} : y ∈ putU l x ↔ y ∈ l ∨ y = x := by
  unfold putU
  by_cases h : x ∈ l
  · rw [if_pos h]; exact ⟨.inl, fun z => z.elim id fun e => e ▸ h⟩
  · rw [if_neg h]; simp
theorem mem_putsU {xs : List α} : ∀ {l : List α} {y : α}, y ∈ xs.foldl putU l ↔ y ∈ l ∨ y ∈ xs := by
  induction xs with
  | nil => intro l y; simp
  | cons x xs ih => intro l y; rw [List.foldl_cons, ih, mem_putU]; simp [or_assoc]
def putN (n : Nat) (R : List (α × Nat)) (h : α) : List (α × Nat) := if (lk R h).isSome then R else R ++ [(h, n)]
def frs (rs : List (SR α)) (S : List α) : List α := (rs.filter fun r => r.1 && decide (r.2.1 ∉ S) && r.2.2.all fun q => decide (q ∈ S)).map fun r => r.2.1
theorem mem_frs {rs : List (SR α)} {S : List α} {h : α} : h ∈ frs rs S ↔ h ∉ S ∧ ∃ b, (true, h, b) ∈ rs ∧ ∀ q ∈ b, q ∈ S := by
  unfold frs
  rw [List.mem_map]
  constructor
  · rintro ⟨⟨a, x, b⟩, hr, rfl⟩
    have := List.mem_filter.mp hr
    simp at this
    obtain ⟨h1, ⟨rfl, h2⟩, h3⟩ := this
    exact ⟨h2, b, h1, h3⟩
  · rintro ⟨h1, b, h2, h3⟩
    exact ⟨(true, h, b), List.mem_filter.mpr ⟨h2, by simp [h1]; exact h3⟩, rfl⟩
def sS (rs : List (SR α)) (kn : List α) : Nat → List α
  | 0 => kn
  | n + 1 => (frs rs (sS rs kn n)).foldl putU (sS rs kn n)
def sR (rs : List (SR α)) (kn : List α) : Nat → List (α × Nat)
  | 0 => []
  | n + 1 => (frs rs (sS rs kn n)).foldl (putN (n + 1)) (sR rs kn n)
theorem sS_mem {rs : List (SR α)} {kn : List α} {n : Nat} {x : α} : x ∈ sS rs kn (n + 1) ↔ x ∈ sS rs kn n ∨ x ∈ frs rs (sS rs kn n) := mem_putsU
theorem lk_putN {n : Nat} {R : List (α × Nat)} {h x : α} : lk (putN n R h) x = if x = h then some ((lk R h).getD n) else lk R x := by
  unfold putN
  cases e : lk R h with
  | none =>
    rw [if_neg (by simp), lk_snoc e]; rfl
  | some m =>
    rw [if_pos (by simp)]
    by_cases z : x = h
    · rw [if_pos z, z, e]; rfl
    · rw [if_neg z]
theorem lk_putsN {n : Nat} {xs : List α} : ∀ {R : List (α × Nat)} {x : α}, (∀ h ∈ xs, lk R h = none ∨ lk R h = some n) → lk (xs.foldl (putN n) R) x = if x ∈ xs then some n else lk R x := by
  induction xs with
  | nil => intro R x _; simp
  | cons h xs ih =>
    intro R x hx
    have hh : (lk R h).getD n = n := by rcases hx h List.mem_cons_self with e | e <;> rw [e] <;> rfl
    rw [List.foldl_cons, ih]
    · rw [lk_putN, hh]
      by_cases z : x = h
      · subst z; simp
      · by_cases z2 : x ∈ xs
        · rw [if_pos z2, if_pos (List.mem_cons_of_mem _ z2)]
        · rw [if_neg z2, if_neg z, if_neg (by simp [z, z2])]
    · intro k hk
      rw [lk_putN, hh]
      by_cases z : k = h
      · rw [if_pos z]; exact .inr rfl
      · rw [if_neg z]; exact hx k (List.mem_cons_of_mem _ hk)
theorem sR_sub {rs : List (SR α)} {kn : List α} : ∀ (n : Nat) {x : α} {m : Nat}, lk (sR rs kn n) x = some m → x ∈ sS rs kn n
  | 0, x, m, h => by cases h
  | n + 1, x, m, h => by
    have hn : ∀ h ∈ frs rs (sS rs kn n), lk (sR rs kn n) h = none ∨ lk (sR rs kn n) h = some (n + 1) := fun h hh => by
      cases e : lk (sR rs kn n) h with
      | none => exact .inl rfl
      | some m => exact absurd (sR_sub n e) (mem_frs.mp hh).1
    rw [sR, lk_putsN hn] at h
    rw [sS_mem]
    by_cases z : x ∈ frs rs (sS rs kn n)
    · exact .inr z
    · rw [if_neg z] at h; exact .inl (sR_sub n h)
theorem frs_new {rs : List (SR α)} {kn : List α} {n : Nat} {h : α} (hh : h ∈ frs rs (sS rs kn n)) : lk (sR rs kn n) h = none := by
  cases e : lk (sR rs kn n) h with
  | none => rfl
  | some m => exact absurd (sR_sub n e) (mem_frs.mp hh).1
theorem sR_lk {rs : List (SR α)} {kn : List α} {n : Nat} {x : α} : lk (sR rs kn (n + 1)) x = if x ∈ frs rs (sS rs kn n) then some (n + 1) else lk (sR rs kn n) x :=
  lk_putsN fun h hh => .inl (frs_new hh)
theorem same_order {rs rs' : List (SR α)} {kn kn' : List α} (hr : ∀ r, r ∈ rs ↔ r ∈ rs') (hk : ∀ x, x ∈ kn ↔ x ∈ kn') : ∀ n, (∀ x, x ∈ sS rs kn n ↔ x ∈ sS rs' kn' n) ∧ ∀ x, lk (sR rs kn n) x = lk (sR rs' kn' n) x
  | 0 => ⟨hk, fun _ => rfl⟩
  | n + 1 => by
    obtain ⟨h1, h2⟩ := same_order hr hk n
    have hf : ∀ x, x ∈ frs rs (sS rs kn n) ↔ x ∈ frs rs' (sS rs' kn' n) := fun x => by
      rw [mem_frs, mem_frs, h1]
      constructor
      · rintro ⟨a, b, c, d⟩; exact ⟨a, b, (hr _).mp c, fun q hq => (h1 q).mp (d q hq)⟩
      · rintro ⟨a, b, c, d⟩; exact ⟨a, b, (hr _).mpr c, fun q hq => (h1 q).mpr (d q hq)⟩
    refine ⟨fun x => by rw [sS_mem, sS_mem, h1, hf], fun x => ?_⟩
    rw [sR_lk, sR_lk, h2]
    by_cases z : x ∈ frs rs (sS rs kn n)
    · rw [if_pos z, if_pos ((hf x).mp z)]
    · rw [if_neg z, if_neg fun w => z ((hf x).mpr w)]
theorem stop_on {rs : List (SR α)} {kn : List α} {n : Nat} (h : frs rs (sS rs kn n) = []) : ∀ k, sS rs kn (n + k) = sS rs kn n ∧ sR rs kn (n + k) = sR rs kn n
  | 0 => ⟨rfl, rfl⟩
  | k + 1 => by
    obtain ⟨h1, h2⟩ := stop_on h k
    show (frs rs (sS rs kn (n + k))).foldl putU (sS rs kn (n + k)) = _ ∧ (frs rs (sS rs kn (n + k))).foldl (putN (n + k + 1)) (sR rs kn (n + k)) = _
    rw [h1, h2, h]; exact ⟨rfl, rfl⟩
def lack (rs : List (SR α)) (S : List α) : Nat := (rs.filter fun r => decide (r.2.1 ∉ S)).length
theorem filter_le {β : Type} {p q : β → Bool} : ∀ {l : List β}, (∀ r ∈ l, p r = true → q r = true) → (l.filter p).length ≤ (l.filter q).length
  | [], _ => Nat.le_refl _
  | r :: l, h => by
    have ih := filter_le (l := l) fun x hx => h x (List.mem_cons_of_mem _ hx)
    rw [List.filter_cons, List.filter_cons]
    cases hp : p r with
    | true => rw [h r List.mem_cons_self hp]; simp; exact ih
    | false => cases hq : q r <;> simp <;> omega
theorem filter_lt {β : Type} {p q : β → Bool} : ∀ {l : List β}, (∀ r ∈ l, p r = true → q r = true) → (∃ r ∈ l, q r = true ∧ p r = false) → (l.filter p).length < (l.filter q).length
  | [], _, h => by obtain ⟨r, hr, _⟩ := h; cases hr
  | r :: l, h, ⟨x, hx, hq, hp⟩ => by
    have hl : ∀ y ∈ l, p y = true → q y = true := fun y hy => h y (List.mem_cons_of_mem _ hy)
    rw [List.filter_cons, List.filter_cons]
    rcases List.mem_cons.mp hx with e | e
    · subst e
      rw [hp, hq]
      have := filter_le hl
      simp; omega
    · have ih := filter_lt hl ⟨x, e, hq, hp⟩
      cases hp' : p r with
      | true => rw [h r List.mem_cons_self hp']; simp; exact ih
      | false => cases hq' : q r <;> simp <;> omega
theorem lack_less {rs : List (SR α)} {kn : List α} {n : Nat} (h : frs rs (sS rs kn n) ≠ []) : lack rs (sS rs kn (n + 1)) < lack rs (sS rs kn n) := by
  obtain ⟨x, hx⟩ := List.exists_mem_of_ne_nil _ h
  obtain ⟨h1, b, h2, _⟩ := mem_frs.mp hx
  have hs : x ∈ sS rs kn (n + 1) := sS_mem.mpr (.inr hx)
  refine filter_lt (fun r _ hr => ?_) ⟨_, h2, by simpa using h1, by simpa using hs⟩
  simp at hr ⊢
  exact fun z => hr (sS_mem.mpr (.inl z))
end
section
variable {α : Type} [DecidableEq α]
theorem lack_le (rs : List (SR α)) (S : List α) : lack rs S ≤ rs.length := List.length_filter_le _ _
theorem lack_pos {rs : List (SR α)} {S : List α} (h : frs rs S ≠ []) : 0 < lack rs S := by
  obtain ⟨x, hx⟩ := List.exists_mem_of_ne_nil _ h
  obtain ⟨h1, b, h2, _⟩ := mem_frs.mp hx
  exact List.length_pos_of_mem (List.mem_filter.mpr ⟨h2, by simpa using h1⟩)
theorem lack_add {rs : List (SR α)} {kn : List α} : ∀ n, frs rs (sS rs kn n) ≠ [] → lack rs (sS rs kn n) + n ≤ rs.length
  | 0, _ => lack_le _ _
  | n + 1, h => by
    have h0 : frs rs (sS rs kn n) ≠ [] := fun z => h (by
      have := (stop_on z 1).1
      rw [this]; exact z)
    have := lack_add n h0
    have := lack_less h0
    omega
theorem done_len (rs : List (SR α)) (kn : List α) : frs rs (sS rs kn rs.length) = [] := by
  by_cases h : frs rs (sS rs kn rs.length) = []
  · exact h
  · have := lack_add _ h
    have := lack_pos h
    omega
def FIN (rs : List (SR α)) (kn : List α) : List (α × Nat) := sR rs kn rs.length
theorem fin_at {rs : List (SR α)} {kn : List α} {n : Nat} (h : frs rs (sS rs kn n) = []) : sR rs kn n = FIN rs kn := by
  unfold FIN
  by_cases c : n ≤ rs.length
  · obtain ⟨k, e⟩ := Nat.le.dest c
    rw [← e]; exact ((stop_on h k).2).symm
  · obtain ⟨k, e⟩ := Nat.le.dest (Nat.le_of_not_le c)
    rw [← e]; exact (stop_on (done_len rs kn) k).2
theorem sS_nodup {rs : List (SR α)} {kn : List α} (h : kn.Nodup) : ∀ n, (sS rs kn n).Nodup := by
  have put : ∀ (l : List α) (x : α), l.Nodup → (putU l x).Nodup := fun l x hl => by
    unfold putU
    by_cases z : x ∈ l
    · rw [if_pos z]; exact hl
    · rw [if_neg z]
      exact List.nodup_append.mpr ⟨hl, by simp, fun a ha b hb e => z (by rw [List.mem_singleton] at hb; rw [← hb, ← e]; exact ha)⟩
  have puts : ∀ (xs l : List α), l.Nodup → (xs.foldl putU l).Nodup := by
    intro xs
    induction xs with
    | nil => intro l hl; exact hl
    | cons x xs ih => intro l hl; exact ih _ (put l x hl)
  intro n
  induction n with
  | zero => exact h
  | succ n ih => exact puts _ _ ih
theorem len_puts (xs : List α) : ∀ l : List α, (xs.foldl putU l).length ≤ l.length + xs.length := by
  induction xs with
  | nil => intro l; simp
  | cons x xs ih =>
    intro l
    have := ih (putU l x)
    have h2 : (putU l x).length ≤ l.length + 1 := by unfold putU; split <;> simp
    rw [List.foldl_cons, List.length_cons]; omega
theorem keysR_nodup {rs : List (SR α)} {kn : List α} : ∀ n, ((sR rs kn n).map (·.1)).Nodup := by
  have put : ∀ (n : Nat) (R : List (α × Nat)) (x : α), (R.map (·.1)).Nodup → ((putN n R x).map (·.1)).Nodup := fun n R x hl => by
    unfold putN
    cases e : lk R x with
    | some m => simpa using hl
    | none =>
      rw [if_neg (by simp), List.map_append]
      refine List.nodup_append.mpr ⟨hl, by simp, fun a ha b hb z => ?_⟩
      obtain ⟨p, hp, rfl⟩ := List.mem_map.mp ha
      simp at hb
      exact lk_none e hp (by rw [← hb, ← z])
  have puts : ∀ (n : Nat) (xs : List α) (R : List (α × Nat)), (R.map (·.1)).Nodup → ((xs.foldl (putN n) R).map (·.1)).Nodup := by
    intro n xs
    induction xs with
    | nil => intro R hl; exact hl
    | cons x xs ih => intro R hl; exact ih _ (put n R x hl)
  intro n
  induction n with
  | zero => simp [sR]
  | succ n ih => exact puts _ _ _ ih
theorem fin_same {rs rs' : List (SR α)} {kn kn' : List α} (hr : ∀ r, r ∈ rs ↔ r ∈ rs') (hk : ∀ x, x ∈ kn ↔ x ∈ kn') (hl : rs.length = rs'.length) (x : α) : lk (FIN rs kn) x = lk (FIN rs' kn') x := by
  unfold FIN; rw [← hl]; exact (same_order hr hk _).2 x
theorem len_of_lk {R R' : List (α × Nat)} (h1 : (R.map (·.1)).Nodup) (h2 : (R'.map (·.1)).Nodup) (h : ∀ x, lk R x = lk R' x) : R.length = R'.length := by
  have sub : ∀ {A B : List (α × Nat)}, (A.map (·.1)).Nodup → (∀ x, lk A x = lk B x) → A.length ≤ B.length := fun {A B} ha hx => by
    have := sub_len (l := A.map (·.1)) (m := B.map (·.1)) ha (fun x hm => by
      obtain ⟨p, hp, rfl⟩ := List.mem_map.mp hm
      have e := lk_of ha hp
      rw [hx] at e
      exact List.mem_map.mpr ⟨_, lk_mem e, rfl⟩)
    simpa using this
  exact Nat.le_antisymm (sub h1 h) (sub h2 fun x => (h x).symm)
end
section
variable {α : Type} [DecidableEq α]
theorem nodup_puts : ∀ (xs : List α) {l : List α}, l.Nodup → (xs.foldl putU l).Nodup
  | [], _, hl => hl
  | x :: xs, l, hl => by
    refine nodup_puts xs ?_
    unfold putU
    by_cases z : x ∈ l
    · rw [if_pos z]; exact hl
    · rw [if_neg z]
      exact List.nodup_append.mpr ⟨hl, by simp, fun a ha b hb e => z (by rw [List.mem_singleton] at hb; rw [← hb, ← e]; exact ha)⟩
theorem nodup_putsN (n : Nat) : ∀ (xs : List α) {R : List (α × Nat)}, (R.map (·.1)).Nodup → ((xs.foldl (putN n) R).map (·.1)).Nodup
  | [], _, hl => hl
  | x :: xs, R, hl => by
    refine nodup_putsN n xs ?_
    unfold putN
    cases e : lk R x with
    | some m => simpa using hl
    | none =>
      rw [if_neg (by simp), List.map_append]
      refine List.nodup_append.mpr ⟨hl, by simp, fun a ha b hb z => ?_⟩
      obtain ⟨p, hp, rfl⟩ := List.mem_map.mp ha
      simp at hb
      exact lk_none e hp (by rw [← hb, ← z])
theorem len_putsN (n : Nat) : ∀ (xs : List α) (R : List (α × Nat)), (xs.foldl (putN n) R).length ≤ R.length + xs.length
  | [], R => by simp
  | x :: xs, R => by
    have := len_putsN n xs (putN n R x)
    have h2 : (putN n R x).length ≤ R.length + 1 := by unfold putN; split <;> simp
    rw [List.foldl_cons, List.length_cons]; omega
theorem sS_len {rs : List (SR α)} {kn : List α} (h : kn.Nodup) (n : Nat) : (sS rs kn n).length ≤ kn.length + rs.length := by
  have sub : ∀ n x, x ∈ sS rs kn n → x ∈ kn ++ rs.map fun r => r.2.1 := by
    intro n
    induction n with
    | zero => intro x hx; exact List.mem_append_left _ hx
    | succ n ih =>
      intro x hx
      rcases sS_mem.mp hx with z | z
      · exact ih x z
      · obtain ⟨_, b, h2, _⟩ := mem_frs.mp z
        exact List.mem_append_right _ (List.mem_map.mpr ⟨_, h2, rfl⟩)
  have := sub_len (sS_nodup h n) (sub n)
  simpa using this
theorem sR_len {rs : List (SR α)} {kn : List α} (h : kn.Nodup) (n : Nat) : (sR rs kn n).length ≤ kn.length + rs.length := by
  have := sub_len (l := (sR rs kn n).map (·.1)) (m := sS rs kn n) (keysR_nodup n) (fun x hx => by
    obtain ⟨p, hp, rfl⟩ := List.mem_map.mp hx
    exact sR_sub n (lk_of (keysR_nodup n) hp))
  have h2 := sS_len (rs := rs) h n
  simp at this; omega
theorem frs_snoc (l : List (SR α)) (r : SR α) (S : List α) : frs (l ++ [r]) S = frs l S ++ (if (r.1 && decide (r.2.1 ∉ S) && r.2.2.all fun q => decide (q ∈ S)) = true then [r.2.1] else []) := by
  unfold frs
  rw [List.filter_append, List.map_append, List.filter_cons]
  split <;> rfl
theorem frs_len (rs : List (SR α)) (S : List α) : (frs rs S).length ≤ rs.length := by
  unfold frs; rw [List.length_map]; exact List.length_filter_le _ _
theorem all_filter (bd S : List α) : decide (bd.filter (fun q => decide (q ∉ S)) = []) = bd.all fun q => decide (q ∈ S) := by
  rw [Bool.eq_iff_iff, decide_eq_true_eq, List.filter_eq_nil_iff, List.all_eq_true]
  constructor
  · intro h x hx; have := h x hx; simpa using this
  · intro h x hx; have := h x hx; simpa using this
end
/-! ### sure sets: ordered, derived, closed -/
section
variable {α : Type} [DecidableEq α]
def subB (b S : List α) : Bool := b.all fun q => decide (q ∈ S)
theorem subB_iff {b S : List α} : subB b S = true ↔ ∀ q ∈ b, q ∈ S := by
  unfold subB; rw [List.all_eq_true]
  exact ⟨fun h q hq => by simpa using h q hq, fun h q hq => by simpa using h q hq⟩
def anyW (rs : List (SR α)) (S : List α) (x : α) : Bool := rs.any fun r => (r.1 && decide (r.2.1 = x)) && subB r.2.2 S
theorem anyW_iff {rs : List (SR α)} {S : List α} {x : α} : anyW rs S x = true ↔ ∃ b, (true, x, b) ∈ rs ∧ ∀ q ∈ b, q ∈ S := by
  unfold anyW
  rw [List.any_eq_true]
  constructor
  · rintro ⟨⟨a, h, b⟩, hr, e⟩
    rw [Bool.and_eq_true, Bool.and_eq_true, decide_eq_true_eq, subB_iff] at e
    obtain ⟨⟨e1, e2⟩, e3⟩ := e
    dsimp only at e1 e2 e3
    subst e1 e2
    exact ⟨b, hr, e3⟩
  · rintro ⟨b, hr, hb⟩
    exact ⟨_, hr, by rw [Bool.and_eq_true, Bool.and_eq_true, decide_eq_true_eq, subB_iff]; exact ⟨⟨rfl, rfl⟩, hb⟩⟩
def ordA (rs : List (SR α)) : List α → List α → Bool
  | _, [] => true
  | S, x :: xs => (!decide (x ∈ S) && anyW rs S x) && ordA rs (S ++ [x]) xs
def ordB (rs : List (SR α)) : List α → List α → Bool
  | _, [] => true
  | S, x :: xs => anyW rs S x && ordB rs (putU S x) xs
def closB (rs : List (SR α)) (S : List α) : Bool := rs.all fun r => !(r.1 && subB r.2.2 S) || decide (r.2.1 ∈ S)
theorem closB_iff {rs : List (SR α)} {S : List α} : closB rs S = true ↔ ∀ x b, (true, x, b) ∈ rs → (∀ q ∈ b, q ∈ S) → x ∈ S := by
  unfold closB
  rw [List.all_eq_true]
  constructor
  · intro h x b hr hb
    have e := h _ hr
    rw [Bool.or_eq_true] at e
    rcases e with e | e
    · rw [Bool.not_eq_true', Bool.true_and, subB_iff.mpr hb] at e; cases e
    · simpa using e
  · rintro h ⟨a, x, b⟩ hr
    cases a with
    | false => rfl
    | true =>
      rw [Bool.or_eq_true]
      by_cases hb : ∀ q ∈ b, q ∈ S
      · exact .inr (by simpa using h x b hr hb)
      · refine .inl ?_
        rw [Bool.not_eq_true', Bool.true_and]
        cases e : subB b S with
        | false => rfl
        | true => exact absurd (subB_iff.mp e) hb
theorem ordA_cons {rs : List (SR α)} {S xs : List α} {x : α} : ordA rs S (x :: xs) = true ↔ x ∉ S ∧ anyW rs S x = true ∧ ordA rs (S ++ [x]) xs = true := by
  show ((!decide (x ∈ S) && anyW rs S x) && ordA rs (S ++ [x]) xs) = true ↔ _
  rw [Bool.and_eq_true, Bool.and_eq_true, Bool.not_eq_true', decide_eq_false_iff_not, and_assoc]
theorem ordA_nodup {rs : List (SR α)} : ∀ {l S : List α}, ordA rs S l = true → S.Nodup → (S ++ l).Nodup
  | [], S, _, h => by rw [List.append_nil]; exact h
  | x :: l, S, h, hS => by
    obtain ⟨h1, _, h3⟩ := ordA_cons.mp h
    have := ordA_nodup h3 (List.nodup_append.mpr ⟨hS, by simp, fun a ha b hb e => h1 (by rw [List.mem_singleton] at hb; rw [← hb, ← e]; exact ha)⟩)
    rw [List.append_assoc] at this; exact this
theorem ordA_sub {rs : List (SR α)} {C : List α} (hC : ∀ x b, (true, x, b) ∈ rs → (∀ q ∈ b, q ∈ C) → x ∈ C) : ∀ {l S : List α}, ordA rs S l = true → (∀ x ∈ S, x ∈ C) → ∀ x ∈ l, x ∈ C
  | [], _, _, _ => by simp
  | x :: l, S, h, hS => by
    obtain ⟨_, h2, h3⟩ := ordA_cons.mp h
    obtain ⟨b, hr, hb⟩ := anyW_iff.mp h2
    have hx := hC x b hr fun q hq => hS q (hb q hq)
    intro y hy
    rcases List.mem_cons.mp hy with e | e
    · rw [e]; exact hx
    · exact ordA_sub hC h3 (fun z hz => by
        rcases List.mem_append.mp hz with w | w
        · exact hS z w
        · rw [List.mem_singleton.mp w]; exact hx) y e
theorem putU_new {S : List α} {x : α} (h : x ∉ S) : putU S x = S ++ [x] := by unfold putU; rw [if_neg h]
theorem ordA_B {rs : List (SR α)} : ∀ {l S : List α}, ordA rs S l = true → ordB rs S l = true
  | [], _, _ => rfl
  | x :: l, S, h => by
    obtain ⟨h1, h2, h3⟩ := ordA_cons.mp h
    show (anyW rs S x && ordB rs (putU S x) l) = true
    rw [h2, putU_new h1, ordA_B h3]; rfl
theorem ordB_A {rs : List (SR α)} : ∀ {l S : List α}, ordB rs S l = true → (S ++ l).Nodup → ordA rs S l = true
  | [], _, _, _ => rfl
  | x :: l, S, h, hn => by
    have h' : (anyW rs S x && ordB rs (putU S x) l) = true := h
    rw [Bool.and_eq_true] at h'
    have h1 : x ∉ S := fun z => by
      have := (List.nodup_append.mp hn).2.2 x z x List.mem_cons_self
      exact this rfl
    rw [putU_new h1] at h'
    exact ordA_cons.mpr ⟨h1, h'.1, ordB_A h'.2 (by rw [List.append_assoc]; exact hn)⟩
theorem fin_mem {rs : List (SR α)} (x : α) : x ∈ (FIN rs []).map (·.1) ↔ x ∈ sS rs [] rs.length := by
  have key : ∀ n, x ∈ (sR rs ([] : List α) n).map (·.1) ↔ x ∈ sS rs [] n := by
    intro n
    constructor
    · intro h
      obtain ⟨p, hp, rfl⟩ := List.mem_map.mp h
      exact sR_sub n (lk_of (keysR_nodup n) hp)
    · induction n with
      | zero => intro h; cases h
      | succ n ih =>
        intro h
        have hs : (lk (sR rs ([] : List α) (n + 1)) x).isSome = true := by
          rw [sR_lk]
          by_cases z : x ∈ frs rs (sS rs [] n)
          · rw [if_pos z]; rfl
          · rw [if_neg z]
            rcases sS_mem.mp h with w | w
            · obtain ⟨p, hp, e⟩ := List.mem_map.mp (ih w)
              have := lk_of (keysR_nodup n) hp
              rw [e] at this; rw [this]; rfl
            · exact absurd w z
        cases e : lk (sR rs ([] : List α) (n + 1)) x with
        | none => rw [e] at hs; cases hs
        | some m => exact List.mem_map.mpr ⟨_, lk_mem e, rfl⟩
  exact key _
theorem fin_closed {rs : List (SR α)} (x : α) (b : List α) (hr : (true, x, b) ∈ rs) (hb : ∀ q ∈ b, q ∈ (FIN rs []).map (·.1)) : x ∈ (FIN rs []).map (·.1) := by
  rw [fin_mem]
  cases Decidable.em (x ∈ sS rs [] rs.length) with
  | inl h => exact h
  | inr h =>
    have : x ∈ frs rs (sS rs [] rs.length) := mem_frs.mpr ⟨h, b, hr, fun q hq => (fin_mem q).mp (hb q hq)⟩
    rw [done_len] at this; cases this
theorem sS_least {rs : List (SR α)} {l : List α} (h : closB rs l = true) : ∀ n, ∀ x ∈ sS rs [] n, x ∈ l
  | 0, x, hx => by cases hx
  | n + 1, x, hx => by
    rcases sS_mem.mp hx with z | z
    · exact sS_least h n x z
    · obtain ⟨_, b, hr, hb⟩ := mem_frs.mp z
      exact closB_iff.mp h x b hr fun q hq => sS_least h n q (hb q hq)
theorem sure_good (rs : List (SR α)) (l : List α) : (ordA rs [] l && closB rs l) = true ↔ l.Perm ((FIN rs []).map (·.1)) ∧ ordB rs [] l = true := by
  rw [Bool.and_eq_true]
  constructor
  · rintro ⟨h1, h2⟩
    refine ⟨?_, ordA_B h1⟩
    have hn := ordA_nodup h1 (by simp)
    rw [List.nil_append] at hn
    refine (List.perm_ext_iff_of_nodup hn (keysR_nodup _)).mpr fun x => ⟨fun hx => ordA_sub (fun x b hr hb => fin_closed x b hr hb) h1 (by simp) x hx, fun hx => sS_least h2 _ x ((fin_mem x).mp hx)⟩
  · rintro ⟨h1, h2⟩
    have hn : l.Nodup := (h1.nodup_iff).mpr (keysR_nodup _)
    refine ⟨ordB_A h2 (by rw [List.nil_append]; exact hn), closB_iff.mpr fun x b hr hb => h1.mem_iff.mpr (fin_closed x b hr fun q hq => h1.mem_iff.mp (hb q hq))⟩
end
def lows : List Nat := [97, 98, 99, 100, 101, 102, 103, 104, 105, 106, 107, 108, 109, 110, 111, 112, 113, 114, 115, 116, 117, 118, 119, 120, 121, 122]
def figl : List Nat := [48, 49, 50, 51, 52, 53, 54, 55, 56, 57] ++ lows
abbrev sv (l : List Nat) : V := .str (mk l)
theorem low_eq : ("abcdefghijklmnopqrstuvwxyz" : Str) = mk lows := by decide +kernel
theorem figl_eq : ("0123456789abcdefghijklmnopqrstuvwxyz" : Str) = mk figl := by decide +kernel
theorem low_lt {c : Nat} (h : c ∈ lows) : c < 128 := by revert c; decide
theorem figl_lt {c : Nat} (h : c ∈ figl) : c < 128 := by revert c; decide
theorem short_le {n : Nat} (h : n ≤ 100000) : n ≤ sizeLine := Nat.le_trans h (by decide)
theorem strOk_mk {l : List Nat} (h : ∀ c ∈ l, c < 1114112) : PyData.strOk (mk l) = true := by
  unfold PyData.strOk; simpa using h
def OkS (z : Str) : Prop := PyData.strOk z = true ∧ z.length ≤ 40
theorem OkS.of {l : List Nat} (h : ∀ c ∈ l, c < 128) (hl : l.length ≤ 40) : OkS (mk l) := ⟨strOk_mk fun c hc => by have := h c hc; omega, by rw [mk_len]; exact hl⟩
def sortS : Nat → Str
  | 0 => "fact"
  | 1 => "sure"
  | 2 => "most"
  | _ => "block"
abbrev Rw := Nat × Str × Str × List Str
def RwOk (r : Rw) : Prop := r.1 < 4 ∧ (r.1 = 0 → r.2.2.2 = [] ∧ r.2.1 = "") ∧ OkS r.2.1 ∧ OkS r.2.2.1 ∧ (∀ q ∈ r.2.2.2, OkS q) ∧ r.2.2.2.length ≤ 4
def RwAt (H : Hp) (v : V) (r : Rw) : Prop := ∃ p t, v = .ref p ∧ H p = some (.tup [.str (sortS r.1), .str r.2.1, .str r.2.2.1, .ref t]) ∧ H t = some (.tup (r.2.2.2.map V.str))
theorem RwAt.same {H H' : Hp} {v : V} {r : Rw} (s : Same H H') (h : RwAt H v r) : RwAt H' v r := let ⟨p, t, a, b, c⟩ := h; ⟨p, t, a, s _ _ b, s _ _ c⟩
def RwD (D : Addr) (v : V) (H : Hp) : Prop := ∃ (p t : Addr) (r : Rw), v = .ref p ∧ p ≠ D ∧ t ≠ D ∧ RwOk r ∧ H p = some (.tup [.str (sortS r.1), .str r.2.1, .str r.2.2.1, .ref t]) ∧ H t = some (.tup (r.2.2.2.map V.str))
structure RwAll (H : Hp) (xs : List V) (rs : List Rw) : Prop where
  len : xs.length = rs.length
  get : ∀ (i : Nat) (r : Rw), rs[i]? = some r → ∃ x, xs[i]? = some x ∧ RwAt H x r
theorem RwAll.same {H H' : Hp} {xs : List V} {rs : List Rw} (s : Same H H') (h : RwAll H xs rs) : RwAll H' xs rs := ⟨h.len, fun i r e => let ⟨x, a, b⟩ := h.get i r e; ⟨x, a, b.same s⟩⟩
theorem rows_all {D : Addr} {H : Hp} : ∀ {ys : List V}, (∀ (i : Nat) v, ys[i]? = some v → RwD D v H) → ∃ rs : List Rw, RwAll H ys rs ∧ ∀ r ∈ rs, RwOk r
  | [], _ => ⟨[], ⟨rfl, fun i r e => by simp at e⟩, by simp⟩
  | y :: ys, h => by
    obtain ⟨rs, hA, hO⟩ := rows_all (D := D) (ys := ys) fun i v e => h (i + 1) v e
    obtain ⟨p, t, r, e, _, _, ho, h1, h2⟩ := h 0 y rfl
    refine ⟨r :: rs, ⟨by simp [hA.len], fun i q eq => ?_⟩, fun q hq => ?_⟩
    · cases i with
      | zero => cases eq; exact ⟨y, rfl, p, t, e, h1, h2⟩
      | succ i => exact hA.get i q eq
    · rcases List.mem_cons.mp hq with z | z
      · rw [z]; exact ho
      · exact hO q z
def spCell (K : PySem.W.Frag) : Sp := fun vs H Q _ => ∃ (a : Addr) (ns : List Int) (k : Int), vs = [.ref a, .int k] ∧ SqL K H a (ns.map V.int) ∧ ns.length ≤ 63 ∧ 0 ≤ k ∧ k ≤ 1000 ∧ ∀ i, Q (.int i) H
def spMix : Sp := fun vs H Q _ => ∃ (c k : Int), vs = [.int c, .int k] ∧ ∀ r : Int, 0 ≤ r → Q (.int r) H
theorem spMix_at {c k : Int} {H : Hp} {Q : VK} {E : XK} : spMix [.int c, .int k] H Q E ↔ ∀ r : Int, 0 ≤ r → Q (.int r) H := ⟨by rintro ⟨_, _, e, q⟩; cases e; exact q, fun q => ⟨_, _, rfl, q⟩⟩
def spWord : Sp := fun vs H Q _ => ∃ (c k : Int) (sg : List Nat), vs = [.int c, .int k, sv sg] ∧ (0 < sg.length ∧ sg.length ≤ 100) ∧ ∀ l : List Nat, (1 ≤ l.length ∧ l.length ≤ 8) → (∀ x ∈ l, x ∈ sg) → Q (sv l) H
def spPool : Sp := fun vs H Q _ => ∃ (c : Int), vs = [.int c] ∧ ∀ (D : Addr) (pl : List Str) (H' : Hp), Same H H' → H D = none → H' D = some (.lst (pl.map V.str)) → 2 ≤ pl.length → pl.length ≤ 18 → (∀ z ∈ pl, OkS z) → Q (.ref D) H'
def spLabels : Sp := fun vs H Q _ => ∃ (c : Int), vs = [.int c] ∧ ∀ (D : Addr) (ls : List Str) (H' : Hp), Same H H' → H D = none → H' D = some (.lst (ls.map V.str)) → ls.length = 12 → (∀ z ∈ ls, OkS z) → Q (.ref D) H'
def RowQ (H : Hp) (Q : VK) : Prop := ∀ (p t : Addr) (r : Rw) (H' : Hp), Same H H' → H p = none → H t = none → RwOk r → H' p = some (.tup [.str (sortS r.1), .str r.2.1, .str r.2.2.1, .ref t]) → H' t = some (.tup (r.2.2.2.map V.str)) → Q (.ref p) H'
def spRow : Sp := fun vs H Q _ => ∃ (m k st : Int) (P L : Addr) (pl ls : List Str), vs = [.int m, .int k, .ref P, .ref L, .int st] ∧ H P = some (.lst (pl.map V.str)) ∧ 2 ≤ pl.length ∧ pl.length ≤ 18 ∧ (∀ z ∈ pl, OkS z) ∧ H L = some (.lst (ls.map V.str)) ∧ ls.length = 12 ∧ (∀ z ∈ ls, OkS z) ∧ RowQ H Q
def spDig : Sp := fun vs H Q _ => ∃ (m : Int) (P L : Addr) (pl ls : List Str), vs = [.int m, .ref P, .ref L] ∧ H P = some (.lst (pl.map V.str)) ∧ 2 ≤ pl.length ∧ pl.length ≤ 18 ∧ (∀ z ∈ pl, OkS z) ∧ H L = some (.lst (ls.map V.str)) ∧ ls.length = 12 ∧ (∀ z ∈ ls, OkS z) ∧ RowQ H Q
def spRows (K : PySem.W.Frag) : Sp := fun vs H Q _ => ∃ (a : Addr) (ns : List Int) (st : Int), vs = [.ref a, .int st] ∧ SqL K H a (ns.map V.int) ∧ ns.length ≤ 63 ∧ (0 ≤ st ∧ st ≤ 10) ∧ ∀ (D : Addr) (xs : List V) (rs : List Rw) (H' : Hp), Same H H' → H D = none → H' D = some (.lst xs) → RwAll H' xs rs → rs.length + st.toNat ≤ 63 → (∀ r ∈ rs, RwOk r) → Q (.ref D) H'
theorem pick_in {pl : List Str} (hl : 2 ≤ pl.length) (hok : ∀ z ∈ pl, OkS z) (n : Int) : ∃ z, atI (pl.map V.str) (n % (pl.length : Int)) = some (.str z) ∧ OkS z := by
  have m1 := Int.emod_nonneg n (b := (pl.length : Int)) (by omega)
  have m2 := Int.emod_lt_of_pos n (b := (pl.length : Int)) (by omega)
  obtain ⟨v, e, hv, _⟩ := atI_in (xs := pl.map V.str) (i := n % (pl.length : Int)) m1 (by simpa using m2)
  obtain ⟨z, hz, rfl⟩ := List.mem_map.mp hv
  exact ⟨z, e, hok z hz⟩
theorem pick_12 {ls : List Str} (hl : ls.length = 12) (hok : ∀ z ∈ ls, OkS z) (n : Int) : ∃ z, atI (ls.map V.str) (n % 12) = some (.str z) ∧ OkS z := by
  obtain ⟨z, e, h⟩ := pick_in (pl := ls) (by omega) hok n
  rw [hl] at e
  exact ⟨z, e, h⟩
theorem strs_of {ys : List V} (h : ∀ (i : Nat) (v : V), ys[i]? = some v → ∃ z, v = V.str z ∧ OkS z) : ∃ zs : List Str, ys = zs.map V.str ∧ ∀ z ∈ zs, OkS z := by
  induction ys with
  | nil => exact ⟨[], rfl, by simp⟩
  | cons y ys ih =>
    obtain ⟨zs, e, ho⟩ := ih fun i v e => h (i + 1) v e
    obtain ⟨z, ez, hz⟩ := h 0 y rfl
    refine ⟨z :: zs, by rw [e, ez]; rfl, fun x hx => ?_⟩
    rcases List.mem_cons.mp hx with w | w
    · rw [w]; exact hz
    · exact ho x w
def dv (d : List (Str × Nat)) : List (Key × V) := d.map fun p => (Sum.inr p.1, V.int p.2)
theorem dv_len (d : List (Str × Nat)) : (dv d).length = d.length := List.length_map _
theorem dv_snoc (d : List (Str × Nat)) (x : Str) (m : Nat) : dv (d ++ [(x, m)]) = dv d ++ [(Sum.inr x, V.int m)] := by unfold dv; rw [List.map_append]; rfl
theorem valV_dv (x : Str) : ∀ d : List (Str × Nat), valV (dv d) (Sum.inr x : Key) = (lk d x).map fun m : Nat => V.int m
  | [] => rfl
  | p :: r => by
    by_cases e : p.1 = x
    · rw [show dv (p :: r) = (Sum.inr p.1, V.int p.2) :: dv r from rfl, valV_pos (by rw [e])]
      unfold lk; rw [List.find?_cons, decide_eq_true e]; rfl
    · rw [show dv (p :: r) = (Sum.inr p.1, V.int p.2) :: dv r from rfl, valV_neg (fun z => e (Sum.inr.inj z)), valV_dv x r]
      unfold lk; rw [List.find?_cons, decide_eq_false e]
theorem dask {H : Hp} {S : Addr} {d : List (Str × Nat)} (h : H S = some (.dK (dv d))) (x : Str) : DGet H S (.str x) ((lk d x).map fun m : Nat => V.int m) := by
  have := DGet.k (k := (Sum.inr x : Key)) h
  rw [valV_dv] at this; exact this
theorem dget {H : Hp} {S : Addr} {d : List (Str × Nat)} (h : H S = some (.dK (dv d))) {x : Str} {m : Nat} (e : lk d x = some m) : DGet H S (.str x) (some (V.int m)) := by
  have := dask h x
  rw [e] at this; exact this
theorem dput {H : Hp} {S : Addr} {d : List (Str × Nat)} (h : H S = some (.dK (dv d))) {x : Str} (hn : lk d x = none) (hl : d.length ≤ 100000) (m : Nat) : DPut H S (.str x) (V.int m) (upd H S (.dK (dv (d ++ [(x, m)])))) := by
  have := DPut.k (k := (Sum.inr x : Key)) (v := V.int m) h (by rw [dv_len]; exact Nat.lt_of_le_of_lt hl (by decide))
  rw [putK_new _ (by rw [valV_dv, hn]; rfl), ← dv_snoc] at this; exact this
theorem isD_of {H : Hp} {S : Addr} {d : List (Key × V)} (h : H S = some (.dK d)) : IsD H S := .inl ⟨_, .inl h⟩
def bv (S : List Str) : List (Key × V) := S.map fun x => (Sum.inr x, V.bl true)
theorem valV_bv (x : Str) : ∀ S : List Str, valV (bv S) (Sum.inr x : Key) = if x ∈ S then some (V.bl true) else none
  | [] => rfl
  | y :: r => by
    have ih := valV_bv x r
    by_cases e : y = x
    · rw [show bv (y :: r) = (Sum.inr y, V.bl true) :: bv r from rfl, valV_pos (by rw [e]), if_pos (by rw [e]; exact List.mem_cons_self)]
    · rw [show bv (y :: r) = (Sum.inr y, V.bl true) :: bv r from rfl, valV_neg (fun z => e (Sum.inr.inj z)), ih]
      by_cases h : x ∈ r
      · rw [if_pos h, if_pos (List.mem_cons_of_mem _ h)]
      · rw [if_neg h, if_neg (by simp [h]; exact fun z => e z.symm)]
theorem put_bv (S : List Str) (x : Str) : putK (bv S) (Sum.inr x : Key) (V.bl true) = bv (putU S x) := by
  unfold putK putU
  rw [valV_any, valV_bv]
  by_cases h : x ∈ S
  · rw [if_pos h, if_pos (by rfl), if_pos h]
    unfold bv
    rw [List.map_map]
    refine List.map_congr_left fun y _ => ?_
    simp only [Function.comp]
    split <;> rfl
  · rw [if_neg h, if_neg (by simp), if_neg h]
    unfold bv; rw [List.map_append]; rfl
theorem bask {H : Hp} {D : Addr} {S : List Str} (h : H D = some (.dK (bv S))) (x : Str) : DGet H D (.str x) (if x ∈ S then some (V.bl true) else none) := by
  have := DGet.k (k := (Sum.inr x : Key)) h
  rw [valV_bv] at this; exact this
theorem bput {H : Hp} {D : Addr} {S : List Str} (h : H D = some (.dK (bv S))) (hl : S.length ≤ 100000) (x : Str) : DPut H D (.str x) (V.bl true) (upd H D (.dK (bv (putU S x)))) := by
  have := DPut.k (k := (Sum.inr x : Key)) (v := V.bl true) h (by unfold bv; rw [List.length_map]; exact Nat.lt_of_le_of_lt hl (by decide))
  rw [put_bv] at this; exact this
theorem put_dv {R : List (Str × Nat)} (hn : (R.map (·.1)).Nodup) {x : Str} {n : Nat} (h : lk R x = none ∨ lk R x = some n) : putK (dv R) (Sum.inr x : Key) (V.int n) = dv (putN n R x) := by
  unfold putN
  rcases h with h | h
  · rw [h, if_neg (by simp), putK_new _ (by rw [valV_dv, h]; rfl), dv_snoc]
  · rw [h, if_pos (by simp)]
    unfold putK
    rw [valV_any, valV_dv, h, if_pos (by rfl)]
    unfold dv
    rw [List.map_map]
    refine List.map_congr_left fun p hp => ?_
    simp only [Function.comp]
    by_cases e : p.1 = x
    · have := lk_of hn hp
      rw [e, h] at this
      rw [if_pos (by rw [e]), Option.some.inj this]
    · rw [if_neg (fun z => e (Sum.inr.inj z))]
theorem rput {H : Hp} {D : Addr} {R : List (Str × Nat)} (h : H D = some (.dK (dv R))) (hl : R.length ≤ 100000) (hn : (R.map (·.1)).Nodup) {x : Str} {n : Nat} (hx : lk R x = none ∨ lk R x = some n) : DPut H D (.str x) (V.int n) (upd H D (.dK (dv (putN n R x)))) := by
  have := DPut.k (k := (Sum.inr x : Key)) (v := V.int n) h (by rw [dv_len]; exact Nat.lt_of_le_of_lt hl (by decide))
  rw [put_dv hn hx] at this; exact this
def srW (r : Rw) : SR Str := (decide (r.1 < 2), r.2.2.1, r.2.2.2)
theorem canS : ∀ zs : List Str, (∀ z ∈ zs, PyData.strOk z = true) → PyData.canLayAll0 (zs.map PyData.str) = true ∧ PyData.depthAll (zs.map PyData.str) = 0
  | [], _ => ⟨rfl, rfl⟩
  | z :: zs, h => by
    obtain ⟨a, b⟩ := canS zs fun p hp => h p (List.mem_cons_of_mem _ hp)
    refine ⟨?_, ?_⟩
    · show (PyData.canLay0 (.str z) && _) = true
      rw [a, Bool.and_true]; exact h z List.mem_cons_self
    · show max (PyData.depth (.str z)) _ = 0
      rw [b]; rfl
theorem shapedZ {zs : List Str} (h : ∀ z ∈ zs, PyData.strOk z = true) : SeqAt.shaped (.list (zs.map PyData.str)) = true := by
  obtain ⟨a, b⟩ := canS zs h
  unfold SeqAt.shaped
  simp only [PyData.canLay0, PyData.depth, a, b]
  decide
theorem eqv_nil (zs : List Str) : PyData.eqv (.list (zs.map PyData.str)) (.list []) = decide (zs = []) := by
  cases zs with
  | nil => rfl
  | cons z zs => rfl
theorem rEq_nil {K : PySem.W.Frag} {H : Hp} {Q : VK} {a b : Addr} {zs : List Str} (ha : SqL K H a (zs.map V.str)) (hb : SqL K H b []) (ho : ∀ z ∈ zs, PyData.strOk z = true) (q : Q (.bl (decide (zs = []))) H) : rEqH K (.ref a) (.ref b) H Q :=
  .inr ⟨_, _, .lst ha (denStrs zs), .lst hb .nil, shapedZ ho, by decide, by rw [eqv_nil]; exact q⟩
theorem rNe_nil {K : PySem.W.Frag} {H : Hp} {Q : VK} {a b : Addr} {zs : List Str} (ha : SqL K H a (zs.map V.str)) (hb : SqL K H b []) (ho : ∀ z ∈ zs, PyData.strOk z = true) (q : Q (.bl (!decide (zs = []))) H) : rNeH K (.ref a) (.ref b) H Q :=
  .inr ⟨_, _, .lst ha (denStrs zs), .lst hb .nil, shapedZ ho, by decide, by rw [eqv_nil]; exact q⟩
def spKeyed (K : PySem.W.Frag) : Sp := fun vs H Q _ => ∃ (a : Addr) (kn : List Str), vs = [.ref a] ∧ SqL K H a (kn.map V.str) ∧ kn.length ≤ 1000 ∧ ∀ D H', Same H H' → H D = none → H' D = some (.dK (bv (kn.foldl putU []))) → Q (.ref D) H'
def spAmong : Sp := fun vs H Q _ => ∃ (t D : Addr) (bd S : List Str), vs = [.ref t, .ref D] ∧ H t = some (.tup (bd.map V.str)) ∧ bd.length ≤ 1000 ∧ H D = some (.dK (bv S)) ∧ ∀ H', Same H H' → Q (.bl (bd.all fun q => decide (q ∈ S))) H'
def spLRounds (K : PySem.W.Frag) : Sp := fun vs H Q _ => ∃ (a b : Addr) (xs : List V) (rs : List Rw) (kn : List Str), vs = [.ref a, .ref b] ∧ H a = some (.lst xs) ∧ RwAll H xs rs ∧ (∀ r ∈ rs, RwOk r) ∧ rs.length ≤ 100 ∧ SqL K H b (kn.map V.str) ∧ kn.length ≤ 100 ∧
  ∀ D H', Same H H' → H D = none → H' D = some (.dK (dv (FIN (rs.map srW) (kn.foldl putU [])))) → Q (.ref D) H'
def spWhole : Sp := fun vs H Q _ => ∃ i : Int, vs = [.int i] ∧ Q (.bl true) H
theorem spWhole_at {i : Int} {H : Hp} {Q : VK} {E : XK} : spWhole [.int i] H Q E ↔ Q (.bl true) H := ⟨by rintro ⟨_, e, q⟩; cases e; exact q, fun q => ⟨_, rfl, q⟩⟩
theorem kit_int_int {K : PySem.W.Frag} : PySem.W.kitOne K (.type "int") (.type "int") = some true := rfl
theorem kit_int_bool {K : PySem.W.Frag} : PySem.W.kitOne K (.type "int") (.type "bool") = some false := rfl
theorem rIn_tup {K : PySem.W.Frag} {H : Hp} {Q : VK} {z : Str} {a : Addr} {r : List Str} (h : SqT K H a (r.map V.str)) (q : Q (.bl (decide (z ∈ r))) H) : rInA K (.str z) (.ref a) H Q :=
  .inr ⟨a, _, rfl, .inr h, rfl, flat_strs _, by rw [if_neg Bool.false_ne_true, inV_str]; exact q⟩
theorem sort_sure {n : Nat} (h : n < 4) : decide (sortS n ∈ (["fact", "sure"] : List Str)) = decide (n < 2) := by
  match n, h with
  | 0, _ => decide +kernel
  | 1, _ => decide +kernel
  | 2, _ => decide +kernel
  | 3, _ => decide +kernel
def flds (lb hd : V) (t : Addr) : List (Str × V) := putF "body" (.ref t) (putF "head" hd (putF "label" lb []))
theorem flds_label (lb hd : V) (t : Addr) : (flds lb hd t).lookup ("label" : Str) = some lb := by
  unfold flds; rw [lookup_putF, if_neg (by decide +kernel), lookup_putF, if_neg (by decide +kernel), lookup_putF, if_pos rfl]
theorem flds_head (lb hd : V) (t : Addr) : (flds lb hd t).lookup ("head" : Str) = some hd := by
  unfold flds; rw [lookup_putF, if_neg (by decide +kernel), lookup_putF, if_pos rfl]
theorem flds_body (lb hd : V) (t : Addr) : (flds lb hd t).lookup ("body" : Str) = some (.ref t) := by
  unfold flds; rw [lookup_putF, if_pos rfl]
theorem flds_no (lb hd : V) (t : Addr) {m : Str} (h1 : ¬ m = "body") (h2 : ¬ m = "head") (h3 : ¬ m = "label") : (flds lb hd t).lookup m = none := by
  unfold flds; rw [lookup_putF, if_neg h1, lookup_putF, if_neg h2, lookup_putF, if_neg h3]; rfl
def RuleAt (H : Hp) (r C : Addr) (lb hd : V) (bs : List V) : Prop := ∃ dx t, H r = some (.ins C dx (flds lb hd t)) ∧ H t = some (.tup bs)
theorem RuleAt.same {H H' : Hp} {r C : Addr} {lb hd : V} {bs : List V} (s : Same H H') (h : RuleAt H r C lb hd bs) : RuleAt H' r C lb hd bs := let ⟨d, t, a, b⟩ := h; ⟨d, t, s _ _ a, s _ _ b⟩
def spInit (K : PySem.W.Frag) : Sp := fun vs H Q _ => ∃ x C dx lb hd b bs, vs = [.ref x, lb, hd, .ref b] ∧ H x = some (.ins C dx []) ∧ (Cls K C ∧ NoAttr K C "label" ∧ NoAttr K C "head" ∧ NoAttr K C "body") ∧ (SqL K H b bs ∨ SqT K H b bs ∧ H b = some (.tup bs)) ∧
  ∀ H', (∀ c o, H c = some o → c ≠ x → H' c = some o) → RuleAt H' x C lb hd bs → Q .non H'
def spFactI (K : PySem.W.Frag) (C : Addr) : Sp := fun vs H Q _ => ∃ x dx hd, vs = [.ref x, hd] ∧ H x = some (.ins C dx []) ∧
  ∀ H', (∀ c o, H c = some o → c ≠ x → H' c = some o) → RuleAt H' x C (.str "") hd [] → Q .non H'
def clsOf (t : Adr) : Nat → Addr
  | 0 => t.C_Fact
  | 1 => t.C_Sure
  | 2 => t.C_Most
  | _ => t.C_Block
def spBoolR (b : Bool) : Sp := fun vs H Q _ => ∃ x, vs = [x] ∧ Q (.bl b) H
theorem spBoolR_at {b : Bool} {x : V} {H : Hp} {Q : VK} {E : XK} : spBoolR b [x] H Q E ↔ Q (.bl b) H := ⟨by rintro ⟨_, e, q⟩; cases e; exact q, fun q => ⟨_, rfl, q⟩⟩
structure ClsF (K : PySem.W.Frag) (t : Adr) (C : Addr) : Prop where
  cl : Cls K C
  ty : TyI K C
  nl : NoAttr K C "label"
  nh : NoAttr K C "head"
  nb : NoAttr K C "body"
  kr : PySem.W.kitOne K (.ref C) (.ref t.C_Rule) = some true
theorem clsF {K : PySem.W.Frag} {mg : Str → Option Value} {t : Adr} (T : Txt K mg t) {kind : Nat} (h : kind < 4) : ClsF K t (clsOf t kind) := by
  match kind, h with
  | 0, _ => exact ⟨T.cl_Fact, T.ty_Fact, T.nf_Fact_label, T.nf_Fact_head, T.nf_Fact_body, T.ki_Fact_Rule⟩
  | 1, _ => exact ⟨T.cl_Sure, T.ty_Sure, T.nf_Sure_label, T.nf_Sure_head, T.nf_Sure_body, T.ki_Sure_Rule⟩
  | 2, _ => exact ⟨T.cl_Most, T.ty_Most, T.nf_Most_label, T.nf_Most_head, T.nf_Most_body, T.ki_Most_Rule⟩
  | 3, _ => exact ⟨T.cl_Block, T.ty_Block, T.nf_Block_label, T.nf_Block_head, T.nf_Block_body, T.ki_Block_Rule⟩
def pick4 (kind : Nat) (a b c d : Sp) : Sp := match kind with
  | 0 => a
  | 1 => b
  | 2 => c
  | _ => d
theorem pick_sure {kind : Nat} (h : kind < 4) : pick4 kind (spBoolR true) (spBoolR true) (spBoolR false) (spBoolR false) = spBoolR (decide ((kind : Int) < 2)) := by
  match kind, h with
  | 0, _ => rfl
  | 1, _ => rfl
  | 2, _ => rfl
  | 3, _ => rfl
theorem pick_same {kind : Nat} (h : kind < 4) (s : Sp) : pick4 kind s s s s = s := by
  match kind, h with
  | 0, _ => rfl
  | 1, _ => rfl
  | 2, _ => rfl
  | 3, _ => rfl
theorem alt4 {t : Adr} {m : Str} {s0 s1 s2 s3 : Sp} {ta : TE} {σ : St} {H : Hp} {Q : VK} {r : Addr} {kind : Nat} {lb hd : V} {bs : List V} (hk : kind < 4) (hta : ∀ R : VK, R (.ref r) H → ta σ H R) (hR : RuleAt H r (clsOf t kind) lb hd bs)
    (hm : ¬ m = "body" ∧ ¬ m = "head" ∧ ¬ m = "label") (q : pick4 kind s0 s1 s2 s3 [.ref r] H Q E0) :
    tAlt (tMeth t.C_Fact m s0 [] E0 ta tNil) (tAlt (tMeth t.C_Sure m s1 [] E0 ta tNil) (tAlt (tMeth t.C_Most m s2 [] E0 ta tNil) (tMeth t.C_Block m s3 [] E0 ta tNil))) σ H Q := by
  obtain ⟨dx, t0, h1, _⟩ := hR
  have hn := flds_no lb hd t0 hm.1 hm.2.1 hm.2.2
  match kind, hk with
  | 0, _ => exact .inl (hta _ ⟨r, dx, _, rfl, h1, hn, q⟩)
  | 1, _ => exact .inr (.inl (hta _ ⟨r, dx, _, rfl, h1, hn, q⟩))
  | 2, _ => exact .inr (.inr (.inl (hta _ ⟨r, dx, _, rfl, h1, hn, q⟩)))
  | 3, _ => exact .inr (.inr (.inr (hta _ ⟨r, dx, _, rfl, h1, hn, q⟩)))
theorem tVar_go {i : Nat} {σ : St} {H : Hp} {v : V} (h : σ[i]? = some (some v)) : ∀ R : VK, R v H → tVar i σ H R := fun R q => ⟨v, h, q⟩
def RuAt (t : Adr) (H : Hp) (v : V) (r : Rw) : Prop := ∃ p, v = .ref p ∧ RuleAt H p (clsOf t r.1) (.str r.2.1) (.str r.2.2.1) (r.2.2.2.map V.str)
theorem RuAt.same {t : Adr} {H H' : Hp} {v : V} {r : Rw} (s : Same H H') (h : RuAt t H v r) : RuAt t H' v r := let ⟨p, a, b⟩ := h; ⟨p, a, b.same s⟩
structure RuAll (t : Adr) (H : Hp) (xs : List V) (rs : List Rw) : Prop where
  len : xs.length = rs.length
  get : ∀ (i : Nat) (r : Rw), rs[i]? = some r → ∃ x, xs[i]? = some x ∧ RuAt t H x r
theorem RuAll.same {t : Adr} {H H' : Hp} {xs : List V} {rs : List Rw} (s : Same H H') (h : RuAll t H xs rs) : RuAll t H' xs rs := ⟨h.len, fun i r e => let ⟨x, a, b⟩ := h.get i r e; ⟨x, a, b.same s⟩⟩
theorem RuAll.at {t : Adr} {H : Hp} {xs : List V} {rs : List Rw} (h : RuAll t H xs rs) {i : Nat} (hi : i < xs.length) : ∃ (hi' : i < rs.length) (p : Addr), xs[i] = .ref p ∧ RuleAt H p (clsOf t rs[i].1) (.str rs[i].2.1) (.str rs[i].2.2.1) (rs[i].2.2.2.map V.str) := by
  have hi' : i < rs.length := by rw [← h.len]; exact hi
  obtain ⟨x, e, p, rfl, hp⟩ := h.get i rs[i] (List.getElem?_eq_getElem hi')
  rw [List.getElem?_eq_getElem hi] at e
  exact ⟨hi', p, Option.some.inj e, hp⟩
theorem RuAll.rev {t : Adr} {H : Hp} {xs : List V} {rs : List Rw} (h : RuAll t H xs rs) : RuAll t H xs.reverse rs.reverse := by
  refine ⟨by simp [h.len], fun i r e => ?_⟩
  have hi : i < rs.length := by simpa using (List.getElem?_eq_some_iff.mp e).1
  rw [List.getElem?_reverse hi] at e
  rw [List.getElem?_reverse (by rw [h.len]; exact hi), h.len]
  exact h.get _ r e
def spMadeB (K : PySem.W.Frag) (t : Adr) : Sp := fun vs H Q _ => ∃ (p b : Addr) (r : Rw), vs = [.ref p] ∧ RwOk r ∧ H p = some (.tup [.str (sortS r.1), .str r.2.1, .str r.2.2.1, .ref b]) ∧ H b = some (.tup (r.2.2.2.map V.str)) ∧
  ∀ x H', Same H H' → RuleAt H' x (clsOf t r.1) (.str r.2.1) (.str r.2.2.1) (r.2.2.2.map V.str) → Q (.ref x) H'
def SureQ (RS : List (SR Str)) (k0 : List Str) (H : Hp) (Q : VK) : Prop := ∀ D H', Same H H' → H D = none → H' D = some (.dK (dv (FIN RS k0))) → Q (.ref D) H'
def spSure (K : PySem.W.Frag) (t : Adr) : Sp := fun vs H Q _ => ∃ (a : Addr) (kv : V) (xs : List V) (rs : List Rw) (kn : List Str), vs = [.ref a, kv] ∧ H a = some (.lst xs) ∧ RuAll t H xs rs ∧ (∀ r ∈ rs, RwOk r) ∧ rs.length ≤ 100 ∧ ((kv = .non ∧ kn = []) ∨ ∃ b, kv = .ref b ∧ SqL K H b (kn.map V.str)) ∧ kn.length ≤ 100 ∧ SureQ (rs.map srW) (kn.foldl putU []) H Q
abbrev VR := V × Rw
def WsOk (t : Adr) (H : Hp) (ws : List VR) : Prop := ∀ p ∈ ws, RuAt t H p.1 p.2 ∧ RwOk p.2
theorem WsOk.same {t : Adr} {H H' : Hp} {ws : List VR} (s : Same H H') (h : WsOk t H ws) : WsOk t H' ws := fun p hp => ⟨(h p hp).1.same s, (h p hp).2⟩
theorem RuAll.zip {t : Adr} {H : Hp} : ∀ {xs : List V} {rs : List Rw}, RuAll t H xs rs → (∀ r ∈ rs, RwOk r) → ∃ zr : List VR, zr.map (·.1) = xs ∧ zr.map (·.2) = rs ∧ WsOk t H zr
  | [], [], _, _ => ⟨[], rfl, rfl, fun _ h => by cases h⟩
  | [], _ :: _, h, _ => by have := h.len; simp at this
  | _ :: _, [], h, _ => by have := h.len; simp at this
  | x :: xs, r :: rs, h, ho => by
    have h' : RuAll t H xs rs := ⟨by have := h.len; simpa using this, fun i r e => h.get (i + 1) r e⟩
    obtain ⟨zr, e1, e2, hz⟩ := RuAll.zip h' fun r hr => ho r (List.mem_cons_of_mem _ hr)
    obtain ⟨x', ex, hx⟩ := h.get 0 r rfl
    cases ex
    refine ⟨(x, r) :: zr, by rw [List.map_cons, e1], by rw [List.map_cons, e2], fun p hp => ?_⟩
    rcases List.mem_cons.mp hp with z | z
    · rw [z]; exact ⟨hx, ho r List.mem_cons_self⟩
    · exact hz p z
theorem comp_ru {K : PySem.W.Frag} {t : Adr} {a : Addr} {js : List (Option Nat)} {tt : TT} {te : TE} {σ : St} {H : Hp} {Q : VK} (ws : List VR) (hW : H a = some (.lst (ws.map (·.1)))) (hl : ws.length ≤ 1000) (hz : WsOk t H ws) (σr : St) (hσ : pickS js σ = none :: σr) (P : Rw → Bool) (g : VR → V)
    (hs : ∀ (x : Addr) (r : Rw) H' (R : Bool → Hp → Prop), RwOk r → RuleAt H' x (clsOf t r.1) (.str r.2.1) (.str r.2.2.1) (r.2.2.2.map V.str) → Same H H' → (∀ H'', Same H' H'' → R (P r) H'') → tt (some (.ref x) :: σr) H' R)
    (he : ∀ (x : Addr) (r : Rw) H' (R : V → Hp → Prop), RwOk r → RuleAt H' x (clsOf t r.1) (.str r.2.1) (.str r.2.2.1) (r.2.2.2.map V.str) → Same H H' → (∀ H'', Same H' H'' → R (g (.ref x, r)) H'') → te (some (.ref x) :: σr) H' R)
    (hd : ∀ D H', H D = none → Same H H' → H' D = some (.lst ((ws.filter fun p => P p.2).map g)) → Q (.ref D) H') : CompW (Itl K a) js (gName 0) tt te σ H Q := by
  let d0 : VR := (.non, 0, "", "", [])
  refine comp_f (src_list (xs := ws.map (·.1))) (Nat.le_trans (show (ws.map (·.1)).length ≤ 1000 by simpa using hl) (by decide)) σr hσ (fun i => P ((ws[i]?).getD d0).2) (fun i => g ((ws[i]?).getD d0)) (fun H' s => SqL.of (s _ _ hW)) (fun i H' R hi s hR => ?_) (fun i H' R hi s hR => ?_) (fun D H' hD s h => ?_)
  · have hi' : i < ws.length := by simpa using hi
    obtain ⟨⟨x, ex, hx⟩, ho⟩ := hz _ (List.getElem_mem hi')
    have e2 : ((ws.map (·.1))[i]?).getD .non = .ref x := by rw [List.getElem?_map, List.getElem?_eq_getElem hi']; exact ex
    rw [e2]
    rw [List.getElem?_eq_getElem hi', Option.getD_some] at hR
    exact hs x _ H' R ho (hx.same s) s hR
  · have hi' : i < ws.length := by simpa using hi
    obtain ⟨⟨x, ex, hx⟩, ho⟩ := hz _ (List.getElem_mem hi')
    have e2 : ((ws.map (·.1))[i]?).getD .non = .ref x := by rw [List.getElem?_map, List.getElem?_eq_getElem hi']; exact ex
    rw [e2]
    rw [List.getElem?_eq_getElem hi', Option.getD_some] at hR
    refine he x _ H' R ho (hx.same s) s ?_
    rw [show ((V.ref x, ws[i].2) : VR) = ws[i] from by rw [← ex]]
    exact hR
  · rw [show (ws.map (·.1)).length = ws.length by simp, range_filter d0 (fun p : VR => P p.2) g ws] at h
    exact hd D H' hD s h
def wat (zr : List VR) (S : List Str) : List VR := zr.filter fun p => (srW p.2).1 && decide ((srW p.2).2.1 ∉ S)
theorem wat_ok {t : Adr} {H : Hp} {zr : List VR} {S : List Str} (h : WsOk t H zr) : WsOk t H (wat zr S) := fun p hp => h p (List.mem_filter.mp hp).1
theorem wat_len (zr : List VR) (S : List Str) : (wat zr S).length ≤ zr.length := List.length_filter_le _ _
theorem wat_on (zr : List VR) {S S' : List Str} (h : ∀ x, x ∈ S → x ∈ S') : (wat zr S).filter (fun p => decide ((srW p.2).2.1 ∉ S')) = wat zr S' := by
  unfold wat
  rw [List.filter_filter]
  refine List.filter_congr fun p _ => ?_
  by_cases c : (srW p.2).2.1 ∈ S'
  · rw [decide_eq_false (by simpa using c), Bool.and_false, Bool.false_and]
  · rw [decide_eq_true c, decide_eq_true (show ¬ (srW p.2).2.1 ∈ S from fun z => c (h _ z)), Bool.and_true, Bool.true_and]
theorem frs_wait (zr : List VR) (S : List Str) : ((wat zr S).filter fun p => (srW p.2).2.2.all fun q => decide (q ∈ S)).map (fun p => V.str (srW p.2).2.1) = (frs ((zr.map (·.2)).map srW) S).map V.str := by
  unfold wat frs
  rw [List.filter_filter, List.map_map, List.filter_map, List.map_map, List.filter_map, List.map_map]
  refine congrArg (List.map _) (List.filter_congr fun p _ => ?_)
  simp only [Function.comp]
  rw [Bool.and_comm]
theorem kit_dict_dict {K : PySem.W.Frag} : PySem.W.kitOne K (.type "dict") (.type "dict") = some true := rfl
def RuD (t : Adr) (D : Addr) (v : V) (r : Rw) (H : Hp) : Prop := ∃ p dx t0, v = .ref p ∧ p ≠ D ∧ t0 ≠ D ∧ H p = some (.ins (clsOf t r.1) dx (flds (.str r.2.1) (.str r.2.2.1) t0)) ∧ H t0 = some (.tup (r.2.2.2.map V.str))
theorem ru_all {t : Adr} {D : Addr} {H : Hp} {ys : List V} {rs : List Rw} (hl : ys.length = rs.length) (h : ∀ (i : Nat) v, ys[i]? = some v → ∃ hi : i < rs.length, RuD t D v rs[i] H) : RuAll t H ys rs := by
  refine ⟨hl, fun i r e => ?_⟩
  obtain ⟨hi, e'⟩ := List.getElem?_eq_some_iff.mp e
  have hy : i < ys.length := by rw [hl]; exact hi
  obtain ⟨_, p, dx, t0, ev, _, _, h1, h2⟩ := h i ys[i] (List.getElem?_eq_getElem hy)
  rw [e'] at h1 h2
  exact ⟨ys[i], List.getElem?_eq_getElem hy, p, ev, dx, t0, h1, h2⟩
theorem ru_refs {t : Adr} {H : Hp} {ys : List V} {rs : List Rw} (h : RuAll t H ys rs) : ∀ v ∈ ys, ∃ p, v = V.ref p := fun v hv => by
  obtain ⟨i, hi, rfl⟩ := List.getElem_of_mem hv
  obtain ⟨_, p, e, _⟩ := h.at hi
  exact ⟨p, e⟩
theorem intD_dv {A B : List (Str × Nat)} (ha : (A.map (·.1)).Nodup) (hb : (B.map (·.1)).Nodup) (h : ∀ x, lk A x = lk B x) : intD (dv A) (dv B) := by
  refine ⟨by rw [dv_len, dv_len]; exact len_of_lk ha hb h, fun p hp => ?_⟩
  obtain ⟨y, hy, rfl⟩ := List.mem_map.mp hp
  refine ⟨?_, _, rfl⟩
  show valV (dv B) (Sum.inr y.1 : Key) = some (V.int y.2)
  rw [valV_dv, ← h, lk_of ha hy]; rfl
theorem fin_nodup (RS : List (SR Str)) (k0 : List Str) : ((FIN RS k0).map (·.1)).Nodup := keysR_nodup _
theorem eqv_strs : ∀ (zs ys : List Str), PyData.eqv (.list (zs.map PyData.str)) (.list (ys.map PyData.str)) = decide (zs = ys) := by
  have all : ∀ (zs ys : List Str), PyData.eqvAll (zs.map PyData.str) (ys.map PyData.str) = decide (zs = ys) := by
    intro zs
    induction zs with
    | nil => intro ys; cases ys <;> rfl
    | cons z zs ih =>
      intro ys
      cases ys with
      | nil => rfl
      | cons y ys =>
        have e : PyData.eqvAll ((z :: zs).map PyData.str) ((y :: ys).map PyData.str) = (PyData.eqv (.str z) (.str y) && PyData.eqvAll (zs.map PyData.str) (ys.map PyData.str)) := rfl
        have e2 : PyData.eqv (.str z) (.str y) = decide (z = y) := by first | rfl | simp [PyData.eqv]
        rw [e, e2, ih]
        by_cases h1 : z = y
        · by_cases h2 : zs = ys
          · simp [h1, h2]
          · simp [h1, h2]
        · simp [h1]
  intro zs ys
  have e : PyData.eqv (.list (zs.map PyData.str)) (.list (ys.map PyData.str)) = PyData.eqvAll (zs.map PyData.str) (ys.map PyData.str) := by first | rfl | simp [PyData.eqv]
  rw [e]; exact all zs ys
theorem rNe_strs {K : PySem.W.Frag} {H : Hp} {Q : VK} {a b : Addr} {zs ys : List Str} (ha : SqL K H a (zs.map V.str)) (hb : SqL K H b (ys.map V.str)) (ho : ∀ z ∈ zs, PyData.strOk z = true) (ho' : ∀ z ∈ ys, PyData.strOk z = true) (q : Q (.bl (!decide (zs = ys))) H) : rNeH K (.ref a) (.ref b) H Q :=
  .inr ⟨_, _, .lst ha (denStrs zs), .lst hb (denStrs ys), shapedZ ho, shapedZ ho', by rw [eqv_strs]; exact q⟩
/-! ### a ground set -/
def gfl (io bh pr : Addr) : List (Str × V) := putF "pairs" (.ref pr) (putF "by_head" (.ref bh) (putF "in_order" (.ref io) []))
theorem gfl_io (io bh pr : Addr) : (gfl io bh pr).lookup ("in_order" : Str) = some (.ref io) := by
  unfold gfl; rw [lookup_putF, if_neg (by decide +kernel), lookup_putF, if_neg (by decide +kernel), lookup_putF, if_pos rfl]
theorem gfl_bh (io bh pr : Addr) : (gfl io bh pr).lookup ("by_head" : Str) = some (.ref bh) := by
  unfold gfl; rw [lookup_putF, if_neg (by decide +kernel), lookup_putF, if_pos rfl]
theorem gfl_no (io bh pr : Addr) {m : Str} (h1 : ¬ m = "pairs") (h2 : ¬ m = "by_head") (h3 : ¬ m = "in_order") : (gfl io bh pr).lookup m = none := by
  unfold gfl; rw [lookup_putF, if_neg h1, lookup_putF, if_neg h2, lookup_putF, if_neg h3]; rfl
def hdF (rs : List Rw) (h : Str) : List Rw := rs.filter fun r => decide (r.2.2.1 = h)
def HdOk (t : Adr) (H : Hp) (kvs : List (Key × V)) (rs : List Rw) : Prop := ∀ h : Str, (valV kvs (Sum.inr h : Key) = none ∧ hdF rs h = []) ∨ ∃ L ys, valV kvs (Sum.inr h : Key) = some (.ref L) ∧ H L = some (.lst ys) ∧ RuAll t H ys (hdF rs h)
theorem HdOk.same {t : Adr} {H H' : Hp} {kvs : List (Key × V)} {rs : List Rw} (s : Same H H') (h : HdOk t H kvs rs) : HdOk t H' kvs rs := fun x => (h x).imp id fun ⟨L, ys, a, b, c⟩ => ⟨L, ys, a, s _ _ b, c.same s⟩
def PrOk (kvs : List (List Key × V)) (pl : List (Str × Str)) : Prop := ∀ a b : Str, valV kvs [Sum.inr a, Sum.inr b] = if (a, b) ∈ pl then some (V.bl true) else none
def GrAt (t : Adr) (H : Hp) (g : Addr) (rs : List Rw) (pl : List (Str × Str)) : Prop := ∃ dx io bh pr xs kvs kps, H g = some (.ins t.C_Ground dx (gfl io bh pr)) ∧ H io = some (.tup xs) ∧ RuAll t H xs rs ∧ H bh = some (.dK kvs) ∧ HdOk t H kvs rs ∧ H pr = some (.dT kps) ∧ PrOk kps pl
theorem GrAt.same {t : Adr} {H H' : Hp} {g : Addr} {rs : List Rw} {pl : List (Str × Str)} (s : Same H H') (h : GrAt t H g rs pl) : GrAt t H' g rs pl := let ⟨dx, io, bh, pr, xs, kvs, kps, a, b, c, d, e, f, k⟩ := h; ⟨dx, io, bh, pr, xs, kvs, kps, s _ _ a, s _ _ b, c.same s, s _ _ d, e.same s, s _ _ f, k⟩
theorem RuAll.refs {t : Adr} {H H' : Hp} {xs : List V} {rs : List Rw} (h : RuAll t H xs rs) {x dx : Addr} {C : Addr} (hx : H x = some (.ins C dx [])) (k : ∀ c o, H c = some o → c ≠ x → H' c = some o) : RuAll t H' xs rs := ⟨h.len, fun i r e => by
  obtain ⟨v, a, p, rfl, dx', t0, h1, h2⟩ := h.get i r e
  have hp : p ≠ x := fun z => by
    rw [z, hx] at h1
    injection h1 with h1
    injection h1 with _ _ h3
    have := flds_head (.str r.2.1) (.str r.2.2.1) t0
    rw [← h3] at this; cases this
  have ht : t0 ≠ x := ne_of h2 hx (by intro z; cases z)
  exact ⟨_, a, p, rfl, dx', t0, k _ _ h1 hp, k _ _ h2 ht⟩⟩
theorem gfl_pr (io bh pr : Addr) : (gfl io bh pr).lookup ("pairs" : Str) = some (.ref pr) := by
  unfold gfl; rw [lookup_putF, if_pos rfl]
theorem PrsAt.same {H H' : Hp} {xs : List V} {pl : List (Str × Str)} (s : Same H H') (h : PrsAt H xs pl) : PrsAt H' xs pl := let ⟨as, a, b, c⟩ := h; ⟨as, a, b, fun i x p e1 e2 => s _ _ (c i x p e1 e2)⟩
def spGrI (t : Adr) : Sp := fun vs H Q _ => ∃ (x dx b pb : Addr) (xs : List V) (rs : List Rw) (ps : List V) (pl : List (Str × Str)), vs = [.ref x, .ref b, .ref pb] ∧ H x = some (.ins t.C_Ground dx []) ∧ H b = some (.lst xs) ∧ RuAll t H xs rs ∧ (∀ r ∈ rs, RwOk r) ∧ rs.length ≤ 63 ∧ H pb = some (.lst ps) ∧ PrsAt H ps pl ∧ pl.length ≤ 200 ∧
  ∀ H', (∀ c o, H c = some o → c ≠ x → H' c = some o) → GrAt t H' x rs pl → Q .non H'
def spGrRules (t : Adr) : Sp := fun vs H Q _ => ∃ (g : Addr) (rs : List Rw) (pl : List (Str × Str)), vs = [.ref g] ∧ GrAt t H g rs pl ∧ ∀ D xs H', Same H H' → H D = none → H' D = some (.lst xs) → RuAll t H' xs rs → Q (.ref D) H'
def PlOk (pl : List (Str × Str)) : Prop := ∀ p ∈ pl, PyData.strOk p.1 = true ∧ PyData.strOk p.2 = true
def PairsQ (H : Hp) (Q : VK) : Prop := ∀ (D : Addr) (ps : List V) (pl : List (Str × Str)) H', Same H H' → H D = none → H' D = some (.lst ps) → PrsAt H' ps pl → pl.length ≤ 200 → PlOk pl → Q (.ref D) H'
theorem prs_snoc {H : Hp} {xs : List V} {pl : List (Str × Str)} {a : Addr} {p : Str × Str} (h : PrsAt H xs pl) (ha : H a = some (.tup [.str p.1, .str p.2])) : PrsAt H (xs ++ [.ref a]) (pl ++ [p]) := by
  obtain ⟨as, rfl, hl, hat⟩ := h
  refine ⟨as ++ [a], by rw [List.map_append]; rfl, by simp [hl], fun i b q e1 e2 => ?_⟩
  by_cases hi : i < as.length
  · rw [List.getElem?_append_left hi] at e1
    rw [List.getElem?_append_left (by omega)] at e2
    exact hat i b q e1 e2
  · have hi2 := (List.getElem?_eq_some_iff.mp e1).1
    have ei : i = as.length := by simp at hi2; omega
    subst ei
    rw [List.getElem?_append_right (Nat.le_refl _), Nat.sub_self] at e1
    rw [List.getElem?_append_right (by omega), hl, Nat.sub_self] at e2
    cases e1; cases e2; exact ha
theorem prs_mono {H H' : Hp} {xs : List V} {pl : List (Str × Str)} {D : Addr} (h : PrsAt H xs pl) (hD : ∃ ys, H D = some (.lst ys)) (up : ∀ b o, b ≠ D → H b = some o → H' b = some o) : PrsAt H' xs pl := by
  obtain ⟨as, e, hl, hat⟩ := h
  obtain ⟨ys, hD⟩ := hD
  refine ⟨as, e, hl, fun i b q e1 e2 => ?_⟩
  have := hat i b q e1 e2
  exact up _ _ (ne_of this hD (by intro z; cases z)) this
theorem fin_head {rs : List (SR Str)} : ∀ n x, x ∈ sS rs [] n → ∃ b, (true, x, b) ∈ rs
  | 0, x, h => by cases h
  | n + 1, x, h => by
    rcases sS_mem.mp h with z | z
    · exact fin_head n x z
    · obtain ⟨_, b, hr, _⟩ := mem_frs.mp z
      exact ⟨b, hr⟩
theorem fin_ok {rs : List Rw} (hO : ∀ r ∈ rs, RwOk r) : ∀ p ∈ FIN (rs.map srW) [], OkS p.1 := fun p hp => by
  obtain ⟨b, hb⟩ := fin_head _ p.1 ((fin_mem p.1).mp (List.mem_map.mpr ⟨p, hp, rfl⟩))
  obtain ⟨r, hr, e⟩ := List.mem_map.mp hb
  have e2 : r.2.2.1 = p.1 := congrArg (fun z : SR Str => z.2.1) e
  rw [← e2]; exact (hO r hr).2.2.2.1
theorem fin_len (rs : List Rw) : (FIN (rs.map srW) []).length ≤ rs.length := by
  have := sR_len (rs := rs.map srW) (kn := []) (by simp) (rs.map srW).length
  show (sR (rs.map srW) [] (rs.map srW).length).length ≤ rs.length
  simpa using this
def PairD (D : Addr) (v : V) (H : Hp) : Prop := ∃ (p : Addr) (m : Int) (z : Str), v = .ref p ∧ p ≠ D ∧ OkS z ∧ H p = some (.tup [.int m, .str z])
theorem dv_keys (F : List (Str × Nat)) : (dv F).map (·.1) = (F.map (·.1)).map Sum.inr := by unfold dv; rw [List.map_map, List.map_map]; rfl
theorem at_two {a b : V} : atI [a, b] 1 = some b := rfl
/-! ### the steps in order -/
def gF (RS : List (SR Str)) (x : Str) : Int := (((lk (FIN RS []) x).getD 0 : Nat) : Int)
def IsDue (RS : List (SR Str)) (l : List Str) : Prop := l.Perm ((FIN RS []).map (·.1)) ∧ l.Pairwise (fun x y => ltG (gF RS) x y = true)
theorem lk_sub {A B : List (Str × Nat)} (ha : (A.map (·.1)).Nodup) (hx : ∀ x, lk A x = lk B x) (x : Str) (hm : x ∈ A.map (·.1)) : x ∈ B.map (·.1) := by
  obtain ⟨p, hp, rfl⟩ := List.mem_map.mp hm
  have e := lk_of ha hp
  rw [hx] at e
  exact List.mem_map.mpr ⟨_, lk_mem e, rfl⟩
theorem due_same {RS RS' : List (SR Str)} {l m : List Str} (hr : ∀ r, r ∈ RS ↔ r ∈ RS') (hl : RS.length = RS'.length) (h : IsDue RS l) (h' : IsDue RS' m) : l = m := by
  have hk := fin_same (kn := []) (kn' := []) hr (fun _ => Iff.rfl) hl
  have hg : gF RS = gF RS' := funext fun x => by unfold gF; rw [hk]
  have hp := (List.perm_ext_iff_of_nodup (fin_nodup RS []) (fin_nodup RS' [])).mpr fun x => ⟨lk_sub (fin_nodup _ _) hk x, lk_sub (fin_nodup _ _) (fun y => (hk y).symm) x⟩
  refine ord_eq (lt := ltG (gF RS)) (fun x y a b => ltP_asym a b) (h.1.trans (hp.trans h'.1.symm)) h.2 ?_
  rw [hg]; exact h'.2
theorem due_more {RS : List (SR Str)} {r : SR Str} {l m : List Str} (h : IsDue RS l) (h' : IsDue (r :: RS) m) : ∀ x ∈ l, x ∈ m := fun x hx => by
  refine h'.1.mem_iff.mpr ?_
  have hc : closB RS ((FIN (r :: RS) []).map (·.1)) = true := closB_iff.mpr fun y b hr hb => fin_closed y b (List.mem_cons_of_mem _ hr) hb
  exact sS_least hc _ x ((fin_mem x).mp (h.1.mem_iff.mp hx))
theorem due_len {rs : List Rw} {l : List Str} (h : IsDue (rs.map srW) l) : l.length ≤ rs.length := by
  have := h.1.length_eq
  rw [List.length_map] at this
  rw [this]; exact fin_len rs
theorem due_ok {rs : List Rw} {l : List Str} (hO : ∀ r ∈ rs, RwOk r) (h : IsDue (rs.map srW) l) : ∀ z ∈ l, OkS z := fun z hz => by
  obtain ⟨p, hp, rfl⟩ := List.mem_map.mp (h.1.mem_iff.mp hz)
  exact fin_ok hO p hp
theorem due_pairs {RS : List (SR Str)} {ps : List (Int × Str)} (hp : ps.Perm ((FIN RS []).map fun p => ((p.2 : Int), p.1))) (hs : ps.Pairwise (fun x y => ltP x y = true)) : IsDue RS (ps.map (·.2)) := by
  refine ⟨?_, ?_⟩
  · have := hp.map (·.2)
    rw [List.map_map] at this
    exact this
  · rw [List.pairwise_map]
    have hg : ∀ x ∈ ps, x = (gF RS x.2, x.2) := fun x hx => by
      obtain ⟨p, hp', rfl⟩ := List.mem_map.mp (hp.mem_iff.mp hx)
      unfold gF
      show ((p.2 : Int), p.1) = ((((lk (FIN RS []) p.1).getD 0 : Nat) : Int), p.1)
      rw [lk_of (fin_nodup RS []) hp']; rfl
    refine hs.imp_of_mem fun {x y} hx hy h => ?_
    rw [hg x hx, hg y hy] at h
    exact h
/-! ### the table out of sight -/
def hidH (T : Addr) (H : Hp) : Hp := fun a => if a = T then none else H a
theorem hid_get {T x : Addr} {H : Hp} {o : HO} {ps : Array Value} (hT : H T = some (.tbl ps)) (h : H x = some o) (n : ∀ ps, o ≠ .tbl ps) : hidH T H x = some o := by
  unfold hidH
  rw [if_neg (fun z => by rw [z, hT] at h; cases h; exact n _ rfl)]
  exact h
theorem hid_same {T : Addr} {H H' : Hp} (k : ∀ a o, a ≠ T → H a = some o → H' a = some o) : Same (hidH T H) H' := fun a o e => by
  unfold hidH at e
  by_cases z : a = T
  · rw [if_pos z] at e; cases e
  · rw [if_neg z] at e; exact k a o z e
section
variable {T : Addr} {H : Hp} {pt : Array Value} (hT : H T = some (.tbl pt))
include hT
theorem hid_seq {K : PySem.W.Frag} {a : Addr} {xs : List V} (h : SqL K H a xs) : SqL K (hidH T H) a xs := by
  rcases h with (h | ⟨o, h⟩) | h
  · exact .inl (.inl (hid_get hT h (fun _ z => nomatch z)))
  · exact .inl (.inr ⟨o, hid_get hT h (fun _ z => nomatch z)⟩)
  · exact .inr h
theorem hid_rw {xs : List V} {rs : List Rw} (h : RwAll H xs rs) : RwAll (hidH T H) xs rs := ⟨h.len, fun i r e => let ⟨x, a, p, t, b, c, d⟩ := h.get i r e; ⟨x, a, p, t, b, hid_get hT c (fun _ z => nomatch z), hid_get hT d (fun _ z => nomatch z)⟩⟩
theorem hid_ru {t : Adr} {xs : List V} {rs : List Rw} (h : RuAll t H xs rs) : RuAll t (hidH T H) xs rs := ⟨h.len, fun i r e => let ⟨x, a, p, b, d, t0, c, f⟩ := h.get i r e; ⟨x, a, p, b, d, t0, hid_get hT c (fun _ z => nomatch z), hid_get hT f (fun _ z => nomatch z)⟩⟩
theorem hid_prs {xs : List V} {pl : List (Str × Str)} (h : PrsAt H xs pl) : PrsAt (hidH T H) xs pl := let ⟨as, a, b, c⟩ := h; ⟨as, a, b, fun i x p e1 e2 => hid_get hT (c i x p e1 e2) (fun _ z => nomatch z)⟩
theorem hid_gr {t : Adr} {g : Addr} {rs : List Rw} {pl : List (Str × Str)} (h : GrAt t H g rs pl) : GrAt t (hidH T H) g rs pl := by
  obtain ⟨dx, io, bh, pr, xs, kvs, kps, a, b, c, d, e, f, k⟩ := h
  refine ⟨dx, io, bh, pr, xs, kvs, kps, hid_get hT a (fun _ z => nomatch z), hid_get hT b (fun _ z => nomatch z), hid_ru hT c, hid_get hT d (fun _ z => nomatch z), fun h => ?_, hid_get hT f (fun _ z => nomatch z), k⟩
  rcases e h with z | ⟨L, ys, z1, z2, z3⟩
  · exact .inl z
  · exact .inr ⟨L, ys, z1, hid_get hT z2 (fun _ z => nomatch z), hid_ru hT z3⟩
end
structure Sc (K : PySem.W.Frag) (t : Adr) (H : Hp) (a : Addr) (ns : List Int) (R : Addr) (xs : List V) (rs : List Rw) (Ru : Addr) (ys : List V) (Pr : Addr) (ps : List V) (pl : List (Str × Str)) : Prop where
  S : SqL K H a (ns.map V.int)
  B : H R = some (.lst xs)
  A : RwAll H xs rs
  R : H Ru = some (.lst ys)
  U : RuAll t H ys rs
  P : H Pr = some (.lst ps)
  Q : PrsAt H ps pl
theorem Sc.same {K : PySem.W.Frag} {t : Adr} {H H' : Hp} {a : Addr} {ns : List Int} {R : Addr} {xs : List V} {rs : List Rw} {Ru : Addr} {ys : List V} {Pr : Addr} {ps : List V} {pl : List (Str × Str)} (s : Same H H') (h : Sc K t H a ns R xs rs Ru ys Pr ps pl) : Sc K t H' a ns R xs rs Ru ys Pr ps pl :=
  ⟨s.seq h.S, s _ _ h.B, h.A.same s, s _ _ h.R, h.U.same s, s _ _ h.P, PrsAt.same s h.Q⟩
theorem Sc.on {K : PySem.W.Frag} {t : Adr} {T : Addr} {q : Str} {H H' : Hp} {a : Addr} {ns : List Int} {R : Addr} {xs : List V} {rs : List Rw} {Ru : Addr} {ys : List V} {Pr : Addr} {ps : List V} {pl : List (Str × Str)} (lt : LamT T q H) (k : ∀ a o, a ≠ T → H a = some o → H' a = some o) (h : Sc K t H a ns R xs rs Ru ys Pr ps pl) : Sc K t H' a ns R xs rs Ru ys Pr ps pl := by
  obtain ⟨pt, hT, _⟩ := lt
  exact Sc.same (hid_same k) ⟨hid_seq hT h.S, hid_get hT h.B (fun _ z => nomatch z), hid_rw hT h.A, hid_get hT h.R (fun _ z => nomatch z), hid_ru hT h.U, hid_get hT h.P (fun _ z => nomatch z), hid_prs hT h.Q⟩
theorem gr_on {t : Adr} {T : Addr} {q : Str} {H H' : Hp} {g : Addr} {rs : List Rw} {pl : List (Str × Str)} (lt : LamT T q H) (k : ∀ a o, a ≠ T → H a = some o → H' a = some o) (h : GrAt t H g rs pl) : GrAt t H' g rs pl := by
  obtain ⟨pt, hT, _⟩ := lt
  exact (hid_gr hT h).same (hid_same k)
theorem get_on {T : Addr} {q : Str} {H H' : Hp} {x : Addr} {o : HO} (lt : LamT T q H) (k : ∀ a o, a ≠ T → H a = some o → H' a = some o) (h : H x = some o) (n : ∀ ps, o ≠ .tbl ps) : H' x = some o := by
  obtain ⟨pt, hT, _⟩ := lt
  exact hid_same k _ _ (hid_get hT h n)
def spSteps (t : Adr) : Sp := fun vs H Q _ => ∃ (g : Addr) (rs : List Rw) (pl : List (Str × Str)), vs = [.ref g] ∧ GrAt t H g rs pl ∧ (∀ r ∈ rs, RwOk r) ∧ rs.length ≤ 63 ∧ LamT t.TB_d_sure_steps lamq_d_sure_steps H ∧
  ∀ l ss H', LamT t.TB_d_sure_steps lamq_d_sure_steps H' → (∀ a o, a ≠ t.TB_d_sure_steps → H a = some o → H' a = some o) → H l = none → H' l = some (.lst (ss.map V.str)) → IsDue (rs.map srW) ss → Q (.ref l) H'
def spDue : Sp := fun vs H Q _ => ∃ (a : Addr) (xs : List V) (rs : List Rw), vs = [.ref a] ∧ H a = some (.lst xs) ∧ RwAll H xs rs ∧ (∀ r ∈ rs, RwOk r) ∧ rs.length ≤ 63 ∧ ∀ D ss H', Same H H' → H D = none → H' D = some (.lst (ss.map V.str)) → IsDue (rs.map srW) ss → Q (.ref D) H'
def spPairs : Sp := fun vs H Q _ => ∃ (c : Int), vs = [.int c] ∧ PairsQ H Q
theorem kit_list_list {K : PySem.W.Frag} : PySem.W.kitOne K (.type "list") (.type "list") = some true := rfl
theorem gr_make {t : Adr} {H : Hp} {R : Addr → Hp → Prop} {E : XK} {L Pr : Addr} {zs ps : List V} {rs : List Rw} {pl : List (Str × Str)} (hL : H L = some (.lst zs)) (hU : RuAll t H zs rs) (hO : ∀ r ∈ rs, RwOk r) (hl : rs.length ≤ 63) (hP : H Pr = some (.lst ps)) (hQ : PrsAt H ps pl) (hp : pl.length ≤ 200)
    (q : ∀ g H', Same H H' → H g = none → GrAt t H' g rs pl → R g H') : ∀ x dx, H x = none → H dx = none → dx ≠ x → spGrI t [.ref x, .ref L, .ref Pr] (upd (upd H dx (.own x)) x (.ins t.C_Ground dx [])) (fun v H2 => v = .non ∧ R x H2) E := by
  intro g dx ng ndx ne
  obtain ⟨H4, e4, s4, h4⟩ : ∃ H4, upd (upd H dx (.own g)) g (.ins t.C_Ground dx []) = H4 ∧ Same H H4 ∧ H4 g = some (.ins t.C_Ground dx []) := ⟨_, rfl, fun c o e => by rw [upd_ne (ne_of_none e ng), upd_ne (ne_of_none e ndx)]; exact e, upd_same⟩
  rw [e4]
  exact ⟨g, dx, L, Pr, zs, rs, ps, pl, rfl, h4, s4 _ _ hL, hU.same s4, hO, hl, s4 _ _ hP, PrsAt.same s4 hQ, hp, fun H5 k5 hG5 => ⟨rfl, q g H5 (fun c o e => k5 c o (s4 _ _ e) (ne_of_none e ng)) ng hG5⟩⟩
theorem rEq_strs {K : PySem.W.Frag} {H : Hp} {Q : VK} {a b : Addr} {zs ys : List Str} (ha : SqL K H a (zs.map V.str)) (hb : SqL K H b (ys.map V.str)) (ho : ∀ z ∈ zs, PyData.strOk z = true) (ho' : ∀ z ∈ ys, PyData.strOk z = true) (q : Q (.bl (decide (zs = ys))) H) : rEqH K (.ref a) (.ref b) H Q :=
  .inr ⟨_, _, .lst ha (denStrs zs), .lst hb (denStrs ys), shapedZ ho, shapedZ ho', by rw [eqv_strs]; exact q⟩
theorem ru_cons {t : Adr} {H : Hp} {x : Addr} {r0 : Rw} {ys : List V} {rs : List Rw} (hx : RuleAt H x (clsOf t r0.1) (.str r0.2.1) (.str r0.2.2.1) (r0.2.2.2.map V.str)) (h : RuAll t H ys rs) : RuAll t H ([V.ref x] ++ ys) (r0 :: rs) := by
  refine ⟨by simp [h.len], fun i r e => ?_⟩
  cases i with
  | zero => cases e; exact ⟨_, rfl, x, rfl, hx⟩
  | succ i => exact h.get i r e
theorem rw_cons {H : Hp} {p t : Addr} {r0 : Rw} {xs : List V} {rs : List Rw} (hp : H p = some (.tup [.str (sortS r0.1), .str r0.2.1, .str r0.2.2.1, .ref t])) (ht : H t = some (.tup (r0.2.2.2.map V.str))) (h : RwAll H xs rs) : RwAll H ([V.ref p] ++ xs) (r0 :: rs) := by
  refine ⟨by simp [h.len], fun i r e => ?_⟩
  cases i with
  | zero => cases e; exact ⟨_, rfl, p, t, rfl, hp, ht⟩
  | succ i => exact h.get i r e
theorem lamT_upd {T x : Addr} {q : Str} {H : Hp} {xs : List V} {o : HO} (h : LamT T q H) (hx : H x = some (.lst xs)) : LamT T q (upd H x o) := by
  obtain ⟨ps, a, b, c⟩ := h
  refine ⟨ps, by rw [upd_ne (ne_of a hx (by intro z; cases z))]; exact a, b, fun pos cv e => ?_⟩
  obtain ⟨c', o', vs, t, z1, z2, z3⟩ := c pos cv e
  exact ⟨c', o', vs, t, z1, by rw [upd_ne (ne_of z2 hx (by intro z; cases z))]; exact z2, z3⟩
def spLaw (TB : Addr) (K : PySem.W.Frag) : Sp := fun vs H Q _ => ∃ (a : Addr) (ns : List Int), vs = [.ref a] ∧ SqL K H a (ns.map V.int) ∧ ns.length ≤ 63 ∧ LamT TB lamq_d_sure_steps H ∧ ∀ H', Q (.bl true) H'
theorem spLaw_of {TB : Addr} {K : PySem.W.Frag} {H : Hp} {a : Addr} {ns : List Int} (hl : ns.length ≤ 63) (hO : OnlyT TB H) (hS : SqL K H a (ns.map V.int)) : spLaw TB K [.ref a] H (fun v _ => v = .bl true) fun _ _ _ => False := ⟨a, ns, rfl, hS, hl, LamT.start hO.1, fun _ => rfl⟩
end K32
namespace K32
open PySem L2 Tx
section
variable {P : Program} {w : World} {K : PySem.W.Frag} {mg : Str → Option Value} {base : Heap} {t : Adr}
theorem ok_c_Ground_init (T : Txt K mg t) : FnOk P w K mg base CX0 1 t.f_c_Ground_init t.fd_c_Ground_init ["self", "rules", "pairs"] (spGrI t) := by
  refine T.F_c_Ground_init.ok sc_c_Ground_init (fun vs H Q E h => ?_) (fun cdv A outer s H vs Q E hr h => ?_)
  · obtain ⟨x, dx, b, pb, xs, rs, ps, pl, rfl, hx, hb, hA, hO, hrl, hpb, hPr, hpll, q⟩ := h; rfl
  · obtain ⟨x, dx, b, pb, xs, rs, ps, pl, rfl, hx, hb, hA, hO, hrl, hpb, hPr, hpll, q⟩ := h
    refine ⟨_, (@pss_cons _ _ _ _ _ (@ps_fld _ _ _ _ _ _ _ _ (@pv _ 0 _ _ (by rfl) (by first | exact vis0 rfl | exact vis1 rfl | exact vis2 rfl) (by decide) (by decide)) (@pe_callTy _ _ _ _ _ _ _ _ _ call_tupOf rfl T.z_tuple boot_tupleT (@pa_cons _ _ _ _ _ (@pv _ 1 _ _ (by rfl) (by first | exact vis0 rfl | exact vis1 rfl | exact vis2 rfl) (by decide) (by decide)) (@pa_nil _) (by rfl)) (by decide) (by decide) (by rfl) (by rfl)) rfl) (@pss_cons _ _ _ _ _ (@ps_fld _ _ _ _ _ _ _ _ (@pv _ 0 _ _ (by rfl) (by first | exact vis0 rfl | exact vis1 rfl | exact vis2 rfl) (by decide) (by decide)) (@pe_dnewK _ _) rfl) (@pss_cons _ _ _ _ _ (@ps_for _ _ _ _ _ _ _ _ PassesOwn.never rfl (@pi_tup _ _ _ _ (@pe_fld _ _ _ _ _ (@pv _ 0 _ _ (by rfl) (by first | exact vis0 rfl | exact vis1 rfl | exact vis2 rfl) (by decide) (by decide)) rfl)) (@pg_name _ _ (3) _ sc_c_Ground_init.nd rfl (by first | exact Or.inl rfl | exact Or.inr rfl) (by first | exact Or.inl rfl | exact Or.inr rfl | assumption)) (@pss_one _ _ _ (@ps_expr _ _ _ _ (@pe_bm _ _ _ _ _ _ _ _ _ _ _ _ PySem.F.plainAttrs_list PySem.F.slot_list_append PySem.F.type_list_append mt_append (@pe_dsetd _ _ _ _ _ _ _ _ _ (@pe_fld _ _ _ _ _ (@pv _ 0 _ _ (by rfl) (by first | exact vis0 rfl | exact vis1 rfl | exact vis2 rfl) (by decide) (by decide)) rfl) (@pe_fld _ _ _ _ _ (@pv _ 3 _ _ (by rfl) (by first | exact vis0 rfl | exact vis1 rfl | exact vis2 rfl) (by decide) (by decide)) rfl) (@pe_lst _ _ _ _ (@pa_nil _)) ⟨rfl, rfl, rfl, rfl⟩) (@pa_cons _ _ _ _ _ (@pv _ 3 _ _ (by rfl) (by first | exact vis0 rfl | exact vis1 rfl | exact vis2 rfl) (by decide) (by decide)) (@pa_nil _) (by rfl)) (by rfl) (by rfl) (by rfl) (by rfl) (by rfl)) (by rfl))) (by intro _ ; rfl)) (@pss_cons _ _ _ _ _ (@ps_fld _ _ _ _ _ _ _ _ (@pv _ 0 _ _ (by rfl) (by first | exact vis0 rfl | exact vis1 rfl | exact vis2 rfl) (by decide) (by decide)) (@pe_dnewT _ _) rfl) (@pss_one _ _ _ (@ps_for _ _ _ _ _ _ _ _ PassesOwn.never rfl (@pi_list _ _ _ _ (@pv _ 2 _ _ (by rfl) (by first | exact vis0 rfl | exact vis1 rfl | exact vis2 rfl) (by decide) (by decide))) (@pg_name _ _ (4) _ sc_c_Ground_init.nd rfl (by first | exact Or.inl rfl | exact Or.inr rfl) (by first | exact Or.inl rfl | exact Or.inr rfl | assumption)) (@pss_one _ _ _ (@ps_dput _ _ _ _ _ _ _ _ _ (hu_of hr) (@pe_fld _ _ _ _ _ (@pv _ 0 _ _ (by rfl) (by first | exact vis0 rfl | exact vis1 rfl | exact vis2 rfl) (by decide) (by decide)) rfl) (@pe_tup _ _ _ _ _ (@pa_cons _ _ _ _ _ (@pe_ix _ _ _ _ _ _ _ ix_seq (@pv _ 4 _ _ (by rfl) (by first | exact vis0 rfl | exact vis1 rfl | exact vis2 rfl) (by decide) (by decide)) (@pe_int _ _ _ _) (fun _ _ => rfl)) (@pa_cons _ _ _ _ _ (@pe_ix _ _ _ _ _ _ _ ix_seq (@pv _ 4 _ _ (by rfl) (by first | exact vis0 rfl | exact vis1 rfl | exact vis2 rfl) (by decide) (by decide)) (@pe_int _ _ _ _) (fun _ _ => rfl)) (@pa_nil _) (by rfl)) (by rfl))) (@pe_bl _ _ _ _) rfl)) (by intro _ ; rfl))))))), ?_⟩
    rw [show start n_c_Ground_init [V.ref x, V.ref b, V.ref pb] = [some (V.ref x), some (V.ref b), some (V.ref pb), none, none] from rfl]
    have hxl := hA.len
    try simp only [tSeq, sFld, tCB, tCons, tVar, List.getElem?_cons_succ, List.getElem?_cons_zero, tNil, tDNewK, tFor_eq, iTup, tFld, exSlot]
    refine ⟨b, xs, rfl, .inl ⟨SqL.of hb, fun io hio => ?_⟩⟩
    obtain ⟨H1, e1, s1, h1⟩ := newO hio (.tup xs); rw [e1]
    have hiox : io ≠ x := fun z => by rw [z, hx] at hio; cases hio
    refine ⟨x, t.C_Ground, dx, _, rfl, s1 _ _ hx, T.cl_Ground, T.nf_Ground_in_order, by show 0 < 1000; decide, ?_⟩
    obtain ⟨H2, e2, k2, h2x, h2io⟩ : ∃ H', upd H1 x (.ins t.C_Ground dx (putF "in_order" (.ref io) [])) = H' ∧ (∀ c o, H c = some o → c ≠ x → H' c = some o) ∧ H' x = some (.ins t.C_Ground dx (putF "in_order" (.ref io) [])) ∧ H' io = some (.tup xs) := ⟨_, rfl, fun c o e hc => by rw [upd_ne hc]; exact s1 _ _ e, upd_same, by rw [upd_ne hiox]; exact h1⟩
    rw [e2]
    intro bh hbh
    obtain ⟨H3, e3, s3, h3⟩ := newO hbh (.dK []); rw [e3]
    have hbhx : bh ≠ x := fun z => by rw [z, h2x] at hbh; cases hbh
    have hbhn : H bh = none := by
      cases e : H bh with
      | none => rfl
      | some o => rw [k2 _ _ e hbhx] at hbh; cases hbh
    refine ⟨x, t.C_Ground, dx, _, rfl, s3 _ _ h2x, T.cl_Ground, T.nf_Ground_by_head, by show 1 < 1000; decide, ?_⟩
    have e2f : putF "by_head" (V.ref bh) (putF "in_order" (V.ref io) []) = ([("in_order", V.ref io), ("by_head", V.ref bh)] : List (Str × V)) := by
      show (if ("in_order" : Str) = "by_head" then _ else _) = _
      rw [if_neg (by decide +kernel)]; rfl
    obtain ⟨H4, e4, k4, h4x, h4io, h4bh⟩ : ∃ H', upd H3 x (.ins t.C_Ground dx (putF "by_head" (.ref bh) (putF "in_order" (.ref io) []))) = H' ∧ (∀ c o, H c = some o → c ≠ x → H' c = some o) ∧ H' x = some (.ins t.C_Ground dx (putF "by_head" (.ref bh) (putF "in_order" (.ref io) []))) ∧ H' io = some (.tup xs) ∧ H' bh = some (.dK []) :=
      ⟨_, rfl, fun c o e hc => by rw [upd_ne hc]; exact s3 _ _ (k2 c o e hc), upd_same, by rw [upd_ne hiox]; exact s3 _ _ h2io, by rw [upd_ne hbhx]; exact h3⟩
    rw [e4]
    have lio : (putF "by_head" (V.ref bh) (putF "in_order" (V.ref io) [])).lookup ("in_order" : Str) = some (V.ref io) := by rw [lookup_putF, if_neg (by decide +kernel), lookup_putF, if_pos rfl]
    have lbh : (putF "by_head" (V.ref bh) (putF "in_order" (V.ref io) [])).lookup ("by_head" : Str) = some (V.ref bh) := by rw [lookup_putF, if_pos rfl]
    refine ⟨x, _, dx, _, _, rfl, h4x, T.cl_Ground, T.nf_Ground_in_order, lio, ?_⟩
    try simp only [exRef]
    refine ⟨⟨_, SqT.of h4io⟩, ?_⟩
    refine for_tup (K := K) (a := io) (xs := xs) (fun i σ H' => ∃ (kvs : List (Key × V)) (y3 : Option V), σ = [some (V.ref x), some (V.ref b), some (V.ref pb), y3, none] ∧ (∀ c o, H c = some o → c ≠ x → H' c = some o) ∧ H' x = some (.ins t.C_Ground dx (putF "by_head" (.ref bh) (putF "in_order" (.ref io) []))) ∧ H' io = some (.tup xs) ∧ H' bh = some (.dK kvs) ∧ kvs.length ≤ i ∧
        (∀ h : Str, (valV kvs (Sum.inr h : Key) = none ∧ hdF (rs.take i) h = []) ∨ ∃ L ys, valV kvs (Sum.inr h : Key) = some (.ref L) ∧ H L = none ∧ H' L = some (.lst ys) ∧ ys.length ≤ i ∧ RuAll t H ys (hdF (rs.take i) h)) ∧
        (∀ (h h' : Str) (L : Addr), valV kvs (Sum.inr h : Key) = some (.ref L) → valV kvs (Sum.inr h' : Key) = some (.ref L) → h = h'))
      ⟨[], _, rfl, k4, h4x, h4io, h4bh, Nat.le_refl _, fun h => .inl ⟨rfl, rfl⟩, fun h h' L e => by cases e⟩ (fun i σ H' _ h => by obtain ⟨_, _, _, _, _, h, _⟩ := h; exact SqT.of h) ?_ ?_
    · rintro i v σ H5 hi ⟨kvs, y3, rfl, k5, h5x, h5io, h5bh, hkl, hF, hinj⟩
      have hil : i < rs.length := by rw [← hA.len]; exact (List.getElem?_eq_some_iff.mp hi).1
      obtain ⟨v', ev, p, rfl, hp⟩ := hA.get i rs[i] (List.getElem?_eq_getElem hil)
      rw [hi] at ev; cases ev
      have hro := hO _ (List.getElem_mem hil)
      have CF := clsF T hro.1
      have hru : RuAt t H (.ref p) rs[i] := ⟨p, rfl, hp⟩
      have esn : ∀ h, hdF (rs.take (i + 1)) h = hdF (rs.take i) h ++ (if rs[i].2.2.1 = h then [rs[i]] else []) := fun h => by
        unfold hdF
        rw [List.take_succ_eq_append_getElem hil, List.filter_append, List.filter_cons]
        by_cases z : rs[i].2.2.1 = h
        · rw [if_pos z, if_pos (decide_eq_true z)]; rfl
        · rw [if_neg z, if_neg (by simpa using z)]; rfl
      generalize rs[i] = r at hp hro CF hru esn
      obtain ⟨dx', t0, hp1, hp2⟩ := hp
      have hpx : p ≠ x := fun z => by
        rw [z, hx] at hp1
        injection hp1 with hp1
        injection hp1 with _ _ h3
        have := flds_head (.str r.2.1) (.str r.2.2.1) t0
        rw [← h3] at this; cases this
      have hp5 := k5 _ _ hp1 hpx
      try simp only [gName, tDrop, tBM, tDSetd, tFld, tVar, List.set_cons_succ, List.set_cons_zero, List.getElem?_cons_zero, List.getElem?_cons_succ, tLst, tNil, tCons, exSlot]
      refine ⟨x, _, dx, _, _, rfl, h5x, T.cl_Ground, T.nf_Ground_by_head, lbh, ?_⟩
      try simp only [exRef]
      refine ⟨isD_of h5bh, p, _, dx', _, _, rfl, hp5, CF.cl, CF.nh, flds_head _ _ _, by decide, fun N hN => ?_⟩
      obtain ⟨H6, e6, s6, h6⟩ := newO hN (.lst []); rw [e6]
      have hNx : N ≠ x := fun z => by rw [z, h5x] at hN; cases hN
      have hNio : N ≠ io := fun z => by rw [z, h5io] at hN; cases hN
      have hNbh : N ≠ bh := fun z => by rw [z, h5bh] at hN; cases hN
      have hNn : H N = none := by
        cases e : H N with
        | none => rfl
        | some o => rw [k5 _ _ e hNx] at hN; cases hN
      refine ⟨kvs, Sum.inr r.2.2.1, s6 _ _ h5bh, rfl, Nat.lt_of_le_of_lt (show kvs.length ≤ 1000 by omega) (by decide), fun u hu => ?_, fun hu => ?_⟩
      · rcases hF r.2.2.1 with ⟨e, _⟩ | ⟨L, ys, e, hLn, hL5, hyl, hR⟩
        · rw [e] at hu; cases hu
        rw [e] at hu; cases hu
        have hL6 := s6 _ _ hL5
        have hLx : L ≠ x := ne_of hL5 h5x (by intro z; cases z)
        have hLio : L ≠ io := ne_of hL5 h5io (by intro z; cases z)
        have hLbh : L ≠ bh := ne_of hL5 h5bh (by intro z; cases z)
        try skip
        refine ⟨.inl ⟨rfl, _, SqL.of hL6⟩, L, _, _, rfl, rfl, hL6, Nat.lt_of_le_of_lt (show ys.length ≤ 1000 by omega) (by decide), ?_⟩
        refine ⟨kvs, _, rfl, fun c o e hc => ?_, ?_, ?_, ?_, by omega, fun h => ?_, hinj⟩
        · rw [upd_ne (ne_of_none e hLn)]; exact s6 _ _ (k5 c o e hc)
        · rw [upd_ne hLx.symm]; exact s6 _ _ h5x
        · rw [upd_ne hLio.symm]; exact s6 _ _ h5io
        · rw [upd_ne hLbh.symm]; exact s6 _ _ h5bh
        · rw [esn]
          by_cases z : r.2.2.1 = h
          · subst z
            rw [if_pos rfl]
            refine .inr ⟨L, ys ++ [V.ref p], e, hLn, upd_same, by simp; omega, ?_⟩
            refine ⟨by simp [hR.len], fun j r' ej => ?_⟩
            by_cases hj : j < (hdF (rs.take i) r.2.2.1).length
            · rw [List.getElem?_append_left hj] at ej
              rw [List.getElem?_append_left (by rw [hR.len]; exact hj)]
              exact hR.get j r' ej
            · rw [List.getElem?_append_right (by omega)] at ej
              rw [List.getElem?_append_right (by rw [hR.len]; omega), hR.len]
              have hj0 := (List.getElem?_eq_some_iff.mp ej).1
              have ej0 : j - (hdF (rs.take i) r.2.2.1).length = 0 := by simp at hj0; omega
              rw [ej0] at ej ⊢
              cases ej
              exact ⟨_, rfl, hru⟩
          · rw [if_neg z, List.append_nil]
            rcases hF h with ⟨e', g⟩ | ⟨L', ys', e', g1, g2, g3, g4⟩
            · exact .inl ⟨e', g⟩
            · refine .inr ⟨L', ys', e', g1, ?_, by omega, g4⟩
              have : L' ≠ L := fun w => z (hinj _ _ L e (by rw [← w]; exact e'))
              rw [upd_ne this]; exact s6 _ _ g2
      · try skip
        have hbN : bh ≠ N := hNbh.symm
        refine ⟨.inl ⟨rfl, _, SqL.of (show upd H6 bh (.dK (putK kvs (Sum.inr r.2.2.1) (V.ref N))) N = some (.lst []) by rw [upd_ne hNbh]; exact h6)⟩, N, _, _, rfl, rfl, (by rw [upd_ne hNbh]; exact h6), by decide, ?_⟩
        have kvl := length_putK kvs (Sum.inr r.2.2.1 : Key) (V.ref N)
        refine ⟨putK kvs (Sum.inr r.2.2.1) (V.ref N), _, rfl, fun c o e hc => ?_, ?_, ?_, ?_, by omega, fun h => ?_, fun h h' L e1 e2 => ?_⟩
        · rw [upd_ne (ne_of_none e hNn), upd_ne (ne_of_none e hbhn)]; exact s6 _ _ (k5 c o e hc)
        · rw [upd_ne hNx.symm, upd_ne hbhx.symm]; exact s6 _ _ h5x
        · rw [upd_ne hNio.symm, upd_ne (ne_of h5io h5bh (by intro z; cases z))]; exact s6 _ _ h5io
        · rw [upd_ne hbN, upd_same]
        · rw [esn, valV_put]
          by_cases z : r.2.2.1 = h
          · subst z
            rw [if_pos rfl, if_pos rfl]
            rcases hF r.2.2.1 with ⟨e', g⟩ | ⟨L', ys', e', _⟩
            · rw [g]
              refine .inr ⟨N, [V.ref p], rfl, hNn, upd_same, by simp, ⟨rfl, fun j r' ej => ?_⟩⟩
              cases j with
              | zero => cases ej; exact ⟨_, rfl, hru⟩
              | succ j => simp at ej
            · rw [e'] at hu; cases hu
          · rw [if_neg z, List.append_nil, if_neg (fun w => z (Sum.inr.inj w).symm)]
            rcases hF h with ⟨e', g⟩ | ⟨L', ys', e', g1, g2, g3, g4⟩
            · exact .inl ⟨e', g⟩
            · refine .inr ⟨L', ys', e', g1, ?_, by omega, g4⟩
              have hLN : L' ≠ N := fun w => by rw [w, hN] at g2; cases g2
              rw [upd_ne hLN, upd_ne (ne_of g2 h5bh (by intro z; cases z))]; exact s6 _ _ g2
        · rw [valV_put] at e1 e2
          by_cases z1 : (Sum.inr h : Key) = Sum.inr r.2.2.1
          · by_cases z2 : (Sum.inr h' : Key) = Sum.inr r.2.2.1
            · rw [Sum.inr.inj z1, Sum.inr.inj z2]
            · rw [if_pos z1] at e1; cases e1
              rw [if_neg z2] at e2
              rcases hF h' with ⟨e', _⟩ | ⟨L', ys', e', _, g2, _⟩
              · rw [e'] at e2; cases e2
              · rw [e'] at e2; cases e2; rw [hN] at g2; cases g2
          · rw [if_neg z1] at e1
            by_cases z2 : (Sum.inr h' : Key) = Sum.inr r.2.2.1
            · rw [if_pos z2] at e2; cases e2
              rcases hF h with ⟨e', _⟩ | ⟨L', ys', e', _, g2, _⟩
              · rw [e'] at e1; cases e1
              · rw [e'] at e1; cases e1; rw [hN] at g2; cases g2
            · rw [if_neg z2] at e2
              exact hinj _ _ L e1 e2
    rintro σ H5 ⟨kvs, y3, rfl, k5, h5x, h5io, h5bh, hkl, hF, hinj⟩
    rw [show rs.take xs.length = rs by rw [hxl]; exact List.take_length] at hF
    try simp only [tSeq, sFld, tVar, List.getElem?_cons_zero, tFor_eq, iList, List.getElem?_cons_succ, exSlot, exRef]
    intro pr hpr
    obtain ⟨H6, e6, s6, h6⟩ := newO hpr (.dT []); rw [e6]
    have hprx : pr ≠ x := fun z => by rw [z, h5x] at hpr; cases hpr
    have hprn : H pr = none := by
      cases e : H pr with
      | none => rfl
      | some o => rw [k5 _ _ e hprx] at hpr; cases hpr
    refine ⟨x, t.C_Ground, dx, _, rfl, s6 _ _ h5x, T.cl_Ground, T.nf_Ground_pairs, by rw [e2f]; show 2 < 1000; decide, ?_⟩
    rw [show putF "pairs" (V.ref pr) (putF "by_head" (V.ref bh) (putF "in_order" (V.ref io) [])) = gfl io bh pr from rfl]
    obtain ⟨as, eas, hal, hat⟩ := hPr
    have hiopr : io ≠ pr := fun z => by rw [z, hpr] at h5io; cases h5io
    have hbhpr : bh ≠ pr := fun z => by rw [z, hpr] at h5bh; cases h5bh
    have base : ∀ H', (∀ c o, upd H6 x (.ins t.C_Ground dx (gfl io bh pr)) c = some o → c ≠ pr → H' c = some o) → (∀ c o, H c = some o → c ≠ x → H' c = some o) ∧ (∀ kps, H' pr = some (.dT kps) → PrOk kps pl → GrAt t H' x rs pl) := fun H' kk => by
      have k7 : ∀ c o, H c = some o → c ≠ x → H' c = some o := fun c o e hc => kk c o (by rw [upd_ne hc]; exact s6 _ _ (k5 c o e hc)) (ne_of_none e hprn)
      refine ⟨k7, fun kps hk hp => ⟨dx, io, bh, pr, xs, kvs, kps, kk _ _ upd_same hprx.symm, kk _ _ (by rw [upd_ne hiox]; exact s6 _ _ h5io) hiopr, hA.refs hx k7, kk _ _ (by rw [upd_ne hbhx]; exact s6 _ _ h5bh) hbhpr, fun h => ?_, hk, hp⟩⟩
      rcases hF h with z | ⟨L, ys, e, _, g2, _, g4⟩
      · exact .inl z
      · exact .inr ⟨L, ys, e, kk _ _ (by rw [upd_ne (ne_of g2 h5x (by intro z; cases z))]; exact s6 _ _ g2) (fun z => by rw [z, hpr] at g2; cases g2), g4.refs hx k7⟩
    have hpb7 : upd H6 x (.ins t.C_Ground dx (gfl io bh pr)) pb = some (.lst ps) := by
      have hpx := ne_of hpb hx (by intro z; cases z)
      rw [upd_ne hpx]; exact s6 _ _ (k5 _ _ hpb hpx)
    have hpr7 : upd H6 x (.ins t.C_Ground dx (gfl io bh pr)) pr = some (.dT []) := by rw [upd_ne hprx]; exact h6
    have hx7 : upd H6 x (.ins t.C_Ground dx (gfl io bh pr)) x = some (.ins t.C_Ground dx (gfl io bh pr)) := upd_same
    have hpbpr : pb ≠ pr := ne_of_none hpb hprn
    obtain ⟨H7, e7⟩ : ∃ H7, upd H6 x (.ins t.C_Ground dx (gfl io bh pr)) = H7 := ⟨_, rfl⟩
    rw [e7] at base hpb7 hpr7 hx7 ⊢
    refine ⟨⟨_, SqL.of hpb7⟩, ?_⟩
    refine for_list (K := K) (a := pb) (xs := ps) (fun i σ H' => ∃ (kps : List (List Key × V)) (y4 : Option V), σ = [some (V.ref x), some (V.ref b), some (V.ref pb), y3, y4] ∧ (∀ c o, H7 c = some o → c ≠ pr → H' c = some o) ∧ H' pr = some (.dT kps) ∧ kps.length ≤ i ∧ PrOk kps (pl.take i))
      ⟨[], _, rfl, fun c o e _ => e, hpr7, Nat.le_refl _, fun a b => by rw [List.take_zero, if_neg (by simp)]; rfl⟩ (fun i σ H' _ h => by obtain ⟨_, _, _, kk, _⟩ := h; exact SqL.of (kk _ _ hpb7 hpbpr)) ?_ ?_
    · rintro i v σ H8 hi ⟨kps, y4, rfl, kk, h8, hkl8, hpo⟩
      have hil : i < as.length := by
        have := (List.getElem?_eq_some_iff.mp hi).1
        rw [eas, List.length_map] at this; exact this
      have hil' : i < pl.length := by omega
      have ev : v = V.ref as[i] := by
        rw [eas, List.getElem?_map, List.getElem?_eq_getElem hil] at hi
        exact (Option.some.inj hi).symm
      subst ev
      have hp := hat i _ _ (List.getElem?_eq_getElem hil) (List.getElem?_eq_getElem hil')
      have hp8 := (base H8 kk).1 _ _ hp (ne_of hp hx (by intro z; cases z))
      have hx8 := kk _ _ hx7 hprx.symm
      rw [List.take_succ_eq_append_getElem hil']
      generalize pl[i] = pp at hp hp8
      generalize pl.take i = pt at hpo
      try simp only [gName, sDPut, tC, tFld, tVar, List.set_cons_succ, List.set_cons_zero, List.getElem?_cons_zero, tTup, tCons, tOp, List.getElem?_cons_succ, tNil, exSlot]
      refine ⟨x, _, dx, _, _, rfl, hx8, T.cl_Ground, T.nf_Ground_pairs, gfl_pr _ _ _, ?_⟩
      refine rIx_tup (SqT.of hp8) rfl (rIx_tup (SqT.of hp8) rfl ⟨by simp only [List.length_cons, List.length_nil]; decide, fun c hc => ?_⟩)
      obtain ⟨H9, e9, s9, h9⟩ := newO hc (.tup [V.str pp.1, V.str pp.2]); rw [e9]
      refine ⟨pr, _, rfl, DPut.t (k := [Sum.inr pp.1, Sum.inr pp.2]) (s9 _ _ h8) h9 (Nat.lt_of_le_of_lt (show kps.length ≤ 1000 by omega) (by decide)), putK kps [Sum.inr pp.1, Sum.inr pp.2] (V.bl true), _, rfl, ?_, upd_same, by have := length_putK kps ([Sum.inr pp.1, Sum.inr pp.2] : List Key) (V.bl true); omega, fun a b => ?_⟩
      · intro d o e hd; rw [upd_ne hd]; exact s9 _ _ (kk d o e hd)
      · rw [valV_put, hpo]
        by_cases z : (a, b) = pp
        · rw [if_pos (by rw [← z]), if_pos (by rw [← z]; simp)]
        · rw [if_neg (fun w => z (by
            have w1 := congrArg (fun l : List Key => l.head?) w
            have w2 := congrArg (fun l : List Key => l.getLast?) w
            simp at w1 w2
            exact Prod.ext w1 w2))]
          by_cases y : (a, b) ∈ pt
          · rw [if_pos y, if_pos (List.mem_append_left _ y)]
          · rw [if_neg y, if_neg (by simp [y, z])]
    · rintro σ H8 ⟨kps, y4, rfl, kk, h8, hkl8, hpo⟩
      rw [show pl.take ps.length = pl by rw [eas, List.length_map, hal, List.take_length]] at hpo
      try simp only []
      obtain ⟨b1, b2⟩ := base H8 kk
      exact q _ b1 (b2 kps h8 hpo)
theorem ok_d_l_cell_at (T : Txt K mg t) : FnOk P w K mg base CX0 1 t.f_d_l_cell_at t.fd_d_l_cell_at ["_law_script", "_law_k"] (spCell K) := by
  refine T.F_d_l_cell_at.ok sc_d_l_cell_at (fun vs H Q E h => ?_) (fun cdv A outer s H vs Q E hr h => ?_)
  · obtain ⟨a, ns, k, rfl, hS, hl, k0, k1, q⟩ := h; rfl
  · obtain ⟨a, ns, k, rfl, hS, hl, k0, k1, q⟩ := h
    refine ⟨_, (@pss_cons _ _ _ _ _ (@ps_if _ _ _ _ _ _ _ _ (@pt_cmpR _ _ _ _ _ _ _ _ op_ltA (@pv _ 1 _ _ (by rfl) (by first | exact vis0 rfl | exact vis1 rfl | exact vis2 rfl) (by decide) (by decide)) (@pe_callB _ _ _ _ _ _ _ _ _ call_lenA rfl T.z_len boot_lenT (@pa_cons _ _ _ _ _ (@pv _ 0 _ _ (by rfl) (by first | exact vis0 rfl | exact vis1 rfl | exact vis2 rfl) (by decide) (by decide)) (@pa_nil _) (by rfl)) (by decide) (by decide) (by rfl) (by rfl)) (nomark _)) (@pss_one _ _ _ (@ps_ret _ _ _ _ (@pe_ix _ _ _ _ _ _ _ ix_seq (@pv _ 0 _ _ (by rfl) (by first | exact vis0 rfl | exact vis1 rfl | exact vis2 rfl) (by decide) (by decide)) (@pv _ 1 _ _ (by rfl) (by first | exact vis0 rfl | exact vis1 rfl | exact vis2 rfl) (by decide) (by decide)) (fun _ _ => rfl)))) (@pss_nil _)) (@pss_one _ _ _ (@ps_ret _ _ _ _ (@pe_int _ _ _ _)))), ?_⟩
    rw [show start n_d_l_cell_at [V.ref a, V.int k] = [some (V.ref a), some (V.int k)] from rfl]
    try simp only [tSeq, tIfS, tTest, tOp, tVar, List.getElem?_cons_succ, List.getElem?_cons_zero, tCB, tCons, tNil, tRet, exSlot, tNext, tC]
    refine rLenA_lst hS ?_
    try simp only [rLtA_int, exBl, decide_eq_true_eq]
    refine ite2 (fun c => ?_) (fun c => q 0)
    obtain ⟨v, e, hv, _⟩ := atI_in (xs := ns.map V.int) (i := k) k0 (by simpa using c)
    obtain ⟨i, _, rfl⟩ := List.mem_map.mp hv
    exact rIx_lst hS e (q i)
theorem ok_d_l_rounds (T : Txt K mg t) : FnOk P w K mg base CX0 1 t.f_d_l_rounds t.fd_d_l_rounds ["_law_rows_here", "_law_known"] (spLRounds K) := by
  refine T.F_d_l_rounds.ok sc_d_l_rounds (fun vs H Q E h => ?_) (fun cdv A outer s H vs Q E hr h => ?_)
  · obtain ⟨a, b, xs, rs, kn, rfl, ha, hA, hO, hrl, hb, hkl, q⟩ := h; rfl
  · obtain ⟨a, b, xs, rs, kn, rfl, ha, hA, hO, hrl, hb, hkl, q⟩ := h
    refine ⟨_, (@pss_cons _ _ _ _ _ (@ps_set _ _ (2) _ _ _ _ sc_d_l_rounds.nd rfl (by first | exact Or.inl rfl | exact Or.inr rfl) (@pe_dnewK _ _) (by rfl) (by first | exact Or.inl rfl | exact Or.inr rfl | assumption)) (@pss_cons _ _ _ _ _ (@ps_for _ _ _ _ _ _ _ _ PassesOwn.never rfl (@pi_list _ _ _ _ (@pv _ 1 _ _ (by rfl) (by first | exact vis0 rfl | exact vis1 rfl | exact vis2 rfl) (by decide) (by decide))) (@pg_name _ _ (3) _ sc_d_l_rounds.nd rfl (by first | exact Or.inl rfl | exact Or.inr rfl) (by first | exact Or.inl rfl | exact Or.inr rfl | assumption)) (@pss_one _ _ _ (@ps_dput _ _ _ _ _ _ _ _ _ (hu_of hr) (@pv _ 2 _ _ (by rfl) (by first | exact vis0 rfl | exact vis1 rfl | exact vis2 rfl) (by decide) (by decide)) (@pv _ 3 _ _ (by rfl) (by first | exact vis0 rfl | exact vis1 rfl | exact vis2 rfl) (by decide) (by decide)) (@pe_bl _ _ _ _) rfl)) (by intro _ ; rfl)) (@pss_cons _ _ _ _ _ (@ps_set _ _ (4) _ _ _ _ sc_d_l_rounds.nd rfl (by first | exact Or.inl rfl | exact Or.inr rfl) (@pe_dnewK _ _) (by rfl) (by first | exact Or.inl rfl | exact Or.inr rfl | assumption)) (@pss_cons _ _ _ _ _ (@ps_set _ _ (5) _ _ _ _ sc_d_l_rounds.nd rfl (by first | exact Or.inl rfl | exact Or.inr rfl) (@pe_int _ _ _ _) (by rfl) (by first | exact Or.inl rfl | exact Or.inr rfl | assumption)) (@pss_cons _ _ _ _ _ (@ps_set _ _ (6) _ _ _ _ sc_d_l_rounds.nd rfl (by first | exact Or.inl rfl | exact Or.inr rfl) (@pe_lst _ _ _ _ (@pa_cons _ _ _ _ _ (@pe_str _ _ _ _) (@pa_nil _) (by rfl))) (by rfl) (by first | exact Or.inl rfl | exact Or.inr rfl | assumption)) (@pss_cons _ _ _ _ _ (@ps_while _ _ _ _ _ _ PassesOwn.never (@pt_cmpR _ _ _ _ _ _ _ _ (op_neH hr.units) (@pv _ 6 _ _ (by rfl) (by first | exact vis0 rfl | exact vis1 rfl | exact vis2 rfl) (by decide) (by decide)) (@pe_lst _ _ _ _ (@pa_nil _)) (nomark _)) (@pss_cons _ _ _ _ _ (@ps_aug _ _ (5) _ _ _ _ _ _ sc_d_l_rounds.nd rfl (by first | exact Or.inl rfl | exact Or.inr rfl) (@pe_int _ _ _ _) ip_add (by first | exact Or.inl rfl | exact Or.inr rfl | assumption)) (@pss_cons _ _ _ _ _ (@ps_set _ _ (6) _ _ _ _ sc_d_l_rounds.nd rfl (by first | exact Or.inl rfl | exact Or.inr rfl) (@pe_lst _ _ _ _ (@pa_nil _)) (by rfl) (by first | exact Or.inl rfl | exact Or.inr rfl | assumption)) (@pss_cons _ _ _ _ _ (@ps_for _ _ _ _ _ _ _ _ PassesOwn.never rfl (@pi_list _ _ _ _ (@pv _ 0 _ _ (by rfl) (by first | exact vis0 rfl | exact vis1 rfl | exact vis2 rfl) (by decide) (by decide))) (@pg_tup _ _ _ _ _ _ rfl (@pgs_cons _ _ _ _ _ (@pg_name _ _ (7) _ sc_d_l_rounds.nd rfl (by first | exact Or.inl rfl | exact Or.inr rfl) (by first | exact Or.inl rfl | exact Or.inr rfl | assumption)) (@pgs_cons _ _ _ _ _ (@pg_name _ _ (8) _ sc_d_l_rounds.nd rfl (by first | exact Or.inl rfl | exact Or.inr rfl) (by first | exact Or.inl rfl | exact Or.inr rfl | assumption)) (@pgs_cons _ _ _ _ _ (@pg_name _ _ (9) _ sc_d_l_rounds.nd rfl (by first | exact Or.inl rfl | exact Or.inr rfl) (by first | exact Or.inl rfl | exact Or.inr rfl | assumption)) (@pgs_cons _ _ _ _ _ (@pg_name _ _ (10) _ sc_d_l_rounds.nd rfl (by first | exact Or.inl rfl | exact Or.inr rfl) (by first | exact Or.inl rfl | exact Or.inr rfl | assumption)) (@pgs_nil _) (by rfl)) (by rfl)) (by rfl)) (by rfl)) (by rfl) (by rfl)) (@pss_one _ _ _ (@ps_if _ _ _ _ _ _ _ _ (@PW.pt _ _ _ (@pw_and _ _ _ _ _ _ _ (@pt_cmpR _ _ _ _ _ _ _ _ op_inA (@pv _ 7 _ _ (by rfl) (by first | exact vis0 rfl | exact vis1 rfl | exact vis2 rfl) (by decide) (by decide)) (@pe_tup _ _ _ _ _ (@pa_cons _ _ _ _ _ (@pe_str _ _ _ _) (@pa_cons _ _ _ _ _ (@pe_str _ _ _ _) (@pa_nil _) (by rfl)) (by rfl))) (by with_unfolding_all rfl)) (@pw_and _ _ _ _ _ _ _ (@pt_cmp _ _ _ _ _ _ (@pc_dnotin _ _ _ _ _ (hu_of hr) (@pv _ 9 _ _ (by rfl) (by first | exact vis0 rfl | exact vis1 rfl | exact vis2 rfl) (by decide) (by decide)) (@pv _ 2 _ _ (by rfl) (by first | exact vis0 rfl | exact vis1 rfl | exact vis2 rfl) (by decide) (by decide))) (by with_unfolding_all rfl)) (@pw_and1 _ _ _ _ (@pt_cmpR _ _ _ _ _ _ _ _ (op_eqH hr.units) (@pe_comp _ _ _ _ _ _ _ _ _ _ _ _ _ (@compOk_of _ (defScope s_d_l_rounds) (n_d_l_rounds) (["_law_q", "_law_there"]) ([none, some 2]) _ rfl rfl (by decide +kernel)) rfl (@pi_tup _ _ _ _ (@pv _ 10 _ _ (by rfl) (by first | exact vis0 rfl | exact vis1 rfl | exact vis2 rfl) (by decide) (by decide))) (fun _ _ _ _ _ => (@pg_name _ _ (0) _ (show List.Nodup (["_law_q", "_law_there"] : List Str) by decide +kernel) rfl (by first | exact Or.inl rfl | exact Or.inr rfl) (by first | exact Or.inl rfl | exact Or.inr rfl | assumption))) (fun _ _ _ _ _ => @pts_one _ _ _ (@pt_cmp _ _ _ _ _ _ (@pc_dnotin _ _ _ _ _ (hu_of hr) (@pv _ 0 _ _ (by rfl) (by first | exact vis0 rfl | exact vis1 rfl | exact vis2 rfl) (by decide) (by decide)) (@pv _ 1 _ _ (by rfl) (by first | exact vis0 rfl | exact vis1 rfl | exact vis2 rfl) (by decide) (by decide))) (by with_unfolding_all rfl))) (fun _ _ _ _ _ => (@pv _ 0 _ _ (by rfl) (by first | exact vis0 rfl | exact vis1 rfl | exact vis2 rfl) (by decide) (by decide))) (by intro _ ; rfl)) (@pe_lst _ _ _ _ (@pa_nil _)) (nomark _)))))) (@pss_one _ _ _ (@ps_expr _ _ _ _ (@pe_bm _ _ _ _ _ _ _ _ _ _ _ _ PySem.F.plainAttrs_list PySem.F.slot_list_append PySem.F.type_list_append mt_append (@pv _ 6 _ _ (by rfl) (by first | exact vis0 rfl | exact vis1 rfl | exact vis2 rfl) (by decide) (by decide)) (@pa_cons _ _ _ _ _ (@pv _ 9 _ _ (by rfl) (by first | exact vis0 rfl | exact vis1 rfl | exact vis2 rfl) (by decide) (by decide)) (@pa_nil _) (by rfl)) (by rfl) (by rfl) (by rfl) (by rfl) (by rfl)) (by rfl))) (@pss_nil _))) (by intro _ ; rfl)) (@pss_one _ _ _ (@ps_for _ _ _ _ _ _ _ _ PassesOwn.never rfl (@pi_list _ _ _ _ (@pv _ 6 _ _ (by rfl) (by first | exact vis0 rfl | exact vis1 rfl | exact vis2 rfl) (by decide) (by decide))) (@pg_name _ _ (9) _ sc_d_l_rounds.nd rfl (by first | exact Or.inl rfl | exact Or.inr rfl) (by first | exact Or.inl rfl | exact Or.inr rfl | assumption)) (@pss_cons _ _ _ _ _ (@ps_dput _ _ _ _ _ _ _ _ _ (hu_of hr) (@pv _ 2 _ _ (by rfl) (by first | exact vis0 rfl | exact vis1 rfl | exact vis2 rfl) (by decide) (by decide)) (@pv _ 9 _ _ (by rfl) (by first | exact vis0 rfl | exact vis1 rfl | exact vis2 rfl) (by decide) (by decide)) (@pe_bl _ _ _ _) rfl) (@pss_one _ _ _ (@ps_dput _ _ _ _ _ _ _ _ _ (hu_of hr) (@pv _ 4 _ _ (by rfl) (by first | exact vis0 rfl | exact vis1 rfl | exact vis2 rfl) (by decide) (by decide)) (@pv _ 9 _ _ (by rfl) (by first | exact vis0 rfl | exact vis1 rfl | exact vis2 rfl) (by decide) (by decide)) (@pv _ 5 _ _ (by rfl) (by first | exact vis0 rfl | exact vis1 rfl | exact vis2 rfl) (by decide) (by decide)) rfl))) (by intro _ ; rfl))))))) (@pss_one _ _ _ (@ps_ret _ _ _ _ (@pv _ 4 _ _ (by rfl) (by first | exact vis0 rfl | exact vis1 rfl | exact vis2 rfl) (by decide) (by decide)))))))))), ?_⟩
    rw [show start n_d_l_rounds [V.ref a, V.ref b] = [some (V.ref a), some (V.ref b), none, none, none, none, none, none, none, none, none] from rfl]
    try simp only [tSeq, tAsg, tDNewK, gName, List.set_cons_succ, List.set_cons_zero, tFor_eq, iList, tVar, List.getElem?_cons_succ, List.getElem?_cons_zero, exSlot, exRef]
    intro D hD
    have hb0 : SqL K (upd H D (.dK [])) b (kn.map V.str) := (Same.upd hD).seq hb
    refine ⟨⟨_, hb0⟩, ?_⟩
    refine for_list (K := K) (a := b) (xs := kn.map V.str) (fun i σ H' => ∃ x, σ = [some (V.ref a), some (V.ref b), some (V.ref D), x, none, none, none, none, none, none, none] ∧ Same H H' ∧ H' D = some (.dK (bv ((kn.take i).foldl putU [])))) ⟨_, rfl, Same.upd hD, upd_same⟩ (fun i σ H' _ h => by obtain ⟨_, _, s, _⟩ := h; exact s.seq hb) ?_ ?_
    · rintro i x σ H' hi ⟨y, rfl, s, hD'⟩
      have hil : i < kn.length := by simpa using (List.getElem?_eq_some_iff.mp hi).1
      have ex : x = V.str kn[i] := by
        rw [List.getElem?_map, List.getElem?_eq_getElem hil] at hi
        exact (Option.some.inj hi).symm
      subst ex
      have hlen := len_puts (kn.take i) []
      try simp only [gName, sDPut, tC, tVar, List.set_cons_succ, List.set_cons_zero, List.getElem?_cons_succ, List.getElem?_cons_zero, exSlot]
      refine ⟨D, _, rfl, bput hD' (by simp at hlen; omega) kn[i], _, rfl, ?_, ?_⟩
      · intro b o e; rw [upd_ne (ne_of_none e hD)]; exact s _ _ e
      · rw [upd_same, List.take_succ_eq_append_getElem hil, List.foldl_append]; rfl
    rintro σ H1 ⟨y, rfl, s1, hD1⟩
    rw [List.length_map, List.take_length] at hD1
    have hkl' : (kn.foldl putU []).length ≤ 100 := Nat.le_trans (len_puts kn []) (by simpa using hkl)
    have hkn : (kn.foldl putU []).Nodup := nodup_puts kn (by simp)
    generalize kn.foldl putU [] = k0 at hD1 hkl' hkn q
    have hRl : (rs.map srW).length ≤ 100 := by simpa using hrl
    try simp only [tSeq, tAsg, tDNewK, gName, tC, tLst, tCons, tNil, List.set_cons_succ, List.set_cons_zero]
    intro R hR1
    have hRn : H R = none := none_of s1 hR1
    have hDR : D ≠ R := fun z => by rw [z, hR1] at hD1; cases hD1
    refine ⟨by simp only [List.length_cons, List.length_nil]; decide, fun F0 hF0 => ?_⟩
    have hF0R : F0 ≠ R := fun z => by rw [z, upd_same] at hF0; cases hF0
    have hF0' : H1 F0 = none := by rw [upd_ne hF0R] at hF0; exact hF0
    have hDF0 : D ≠ F0 := fun z => by rw [z, hF0'] at hD1; cases hD1
    refine while_w (fun m σ H' => ∃ (n : Nat) (zs : List Str) (F : Addr) (x3 x7 x8 x9 x10 : Option V), σ = [some (V.ref a), some (V.ref b), some (V.ref D), x3, some (V.ref R), some (V.int n), some (V.ref F), x7, x8, x9, x10] ∧ Same H H' ∧ H' D = some (.dK (bv (sS (rs.map srW) k0 n))) ∧ H' R = some (.dK (dv (sR (rs.map srW) k0 n))) ∧ H' F = some (.lst (zs.map V.str)) ∧ (∀ z ∈ zs, PyData.strOk z = true) ∧
        ((n = 0 ∧ zs ≠ [] ∧ m = rs.length + 2) ∨ ∃ n', n = n' + 1 ∧ zs = frs (rs.map srW) (sS (rs.map srW) k0 n') ∧ m = if zs = [] then 0 else lack (rs.map srW) (sS (rs.map srW) k0 n) + 1))
      (rs.length + 2) ⟨0, [""], F0, _, _, _, _, _, rfl, ?_, ?_, ?_, upd_same, ?_, .inl ⟨rfl, by simp, rfl⟩⟩ ?_
    · intro b o e; rw [upd_ne (ne_of_none (s1 _ _ e) hF0'), upd_ne (ne_of_none (s1 _ _ e) hR1)]; exact s1 _ _ e
    · rw [upd_ne hDF0, upd_ne hDR]; exact hD1
    · rw [upd_ne hF0R.symm, upd_same]; rfl
    · intro z hz; rw [List.mem_singleton.mp hz]; decide +kernel
    rintro m σ H2 ⟨n, zs, F, x3, x7, x8, x9, x10, rfl, s2, hD2, hR2, hF2, hzo, hm⟩
    try simp only [tTest, tOp, tVar, List.getElem?_cons_succ, List.getElem?_cons_zero, tLst, tNil, tSeq, tAug, tC, ipI, tAsg, gName, List.set_cons_succ, List.set_cons_zero, tFor_eq, iList, exSlot, exRef, tRet]
    refine ⟨by decide, fun N hN => ?_⟩
    obtain ⟨H3, e3, s3, h3⟩ := newO hN (.lst []); rw [e3]
    refine rNe_nil (SqL.of (s3 _ _ hF2)) (SqL.of h3) hzo ?_
    try simp only [exBl, Bool.not_eq_true', decide_eq_false_iff_not]
    have hD3 := s3 _ _ hD2
    have hR3 := s3 _ _ hR2
    have s03 := s2.trans s3
    refine ite2 (fun c1 => ?_) (fun c1 => ?_)
    · have hne : zs ≠ [] := by simpa using c1
      refine ⟨fun σ' H' => ∃ m', m' < m ∧ ∃ (n : Nat) (zs : List Str) (F : Addr) (x3 x7 x8 x9 x10 : Option V), σ' = [some (V.ref a), some (V.ref b), some (V.ref D), x3, some (V.ref R), some (V.int n), some (V.ref F), x7, x8, x9, x10] ∧ Same H H' ∧ H' D = some (.dK (bv (sS (rs.map srW) k0 n))) ∧ H' R = some (.dK (dv (sR (rs.map srW) k0 n))) ∧ H' F = some (.lst (zs.map V.str)) ∧ (∀ z ∈ zs, PyData.strOk z = true) ∧
        ((n = 0 ∧ zs ≠ [] ∧ m' = rs.length + 2) ∨ ∃ n', n = n' + 1 ∧ zs = frs (rs.map srW) (sS (rs.map srW) k0 n') ∧ m' = if zs = [] then 0 else lack (rs.map srW) (sS (rs.map srW) k0 n) + 1), fun _ _ h => h, ?_⟩
      try skip
      refine ⟨_, _, rfl, rfl, Nat.zero_le _, fun G hG => ?_⟩
      have hGD : G ≠ D := fun z => by rw [z, hD3] at hG; cases hG
      have hGR : G ≠ R := fun z => by rw [z, hR3] at hG; cases hG
      have sG : Same H (upd H3 G (.lst [])) := s03.trans (Same.upd hG)
      refine ⟨⟨_, SqL.of (sG _ _ ha)⟩, ?_⟩
      refine for_list (K := K) (a := a) (xs := xs) (fun j σ H' => ∃ (x3 x7 x8 x9 x10 : Option V), σ = [some (V.ref a), some (V.ref b), some (V.ref D), x3, some (V.ref R), some (V.int ((n : Int) + 1)), some (V.ref G), x7, x8, x9, x10] ∧ Same H H' ∧ H' D = some (.dK (bv (sS (rs.map srW) k0 n))) ∧ H' R = some (.dK (dv (sR (rs.map srW) k0 n))) ∧ H' G = some (.lst ((frs ((rs.take j).map srW) (sS (rs.map srW) k0 n)).map V.str)))
        ⟨_, _, _, _, _, rfl, sG, by rw [upd_ne hGD.symm]; exact hD3, by rw [upd_ne hGR.symm]; exact hR3, upd_same⟩ (fun j σ H' _ h => by obtain ⟨_, _, _, _, _, _, s, _⟩ := h; exact SqL.of (s _ _ ha)) ?_ ?_
      · rintro j x σ H4 hj ⟨x3, x7, x8, x9, x10, rfl, s4, hD4, hR4, hG4⟩
        have hjl : j < rs.length := by rw [← hA.len]; exact (List.getElem?_eq_some_iff.mp hj).1
        obtain ⟨x', ex, hx⟩ := (hA.same s4).get j rs[j] (List.getElem?_eq_getElem hjl)
        rw [hj] at ex; cases ex
        obtain ⟨p, t1, rfl, hp, ht⟩ := hx
        have hro := hO rs[j] (List.getElem_mem hjl)
        rw [List.take_succ_eq_append_getElem hjl, List.map_append, List.map_cons, List.map_nil, frs_snoc]
        have hfl : (frs ((rs.take j).map srW) (sS (rs.map srW) k0 n)).length ≤ 100 := Nat.le_trans (frs_len _ _) (by rw [List.length_map, List.length_take]; omega)
        generalize frs ((rs.take j).map srW) (sS (rs.map srW) k0 n) = fz at hG4 hfl
        generalize sS (rs.map srW) k0 n = S at hD4
        generalize rs[j] = r at hp ht hro
        obtain ⟨so, lb, hd, bd⟩ := r
        dsimp only at hp ht
        have hno : ∀ H', Same H4 H' → ((srW (so, lb, hd, bd)).1 && decide ((srW (so, lb, hd, bd)).2.1 ∉ S) && (srW (so, lb, hd, bd)).2.2.all fun q => decide (q ∈ S)) = false →
            ∃ (y3 y7 y8 y9 y10 : Option V), [some (V.ref a), some (V.ref b), some (V.ref D), x3, some (V.ref R), some (V.int ((n : Int) + 1)), some (V.ref G), some (V.str (sortS so)), some (V.str lb), some (V.str hd), some (V.ref t1)] = [some (V.ref a), some (V.ref b), some (V.ref D), y3, some (V.ref R), some (V.int ((n : Int) + 1)), some (V.ref G), y7, y8, y9, y10] ∧ Same H H' ∧ H' D = some (.dK (bv S)) ∧ H' R = some (.dK (dv (sR (rs.map srW) k0 n))) ∧ H' G = some (.lst ((fz ++ if ((srW (so, lb, hd, bd)).1 && decide ((srW (so, lb, hd, bd)).2.1 ∉ S) && (srW (so, lb, hd, bd)).2.2.all fun q => decide (q ∈ S)) = true then [(srW (so, lb, hd, bd)).2.1] else []).map V.str)) := fun H' s' hc =>
          ⟨_, _, _, _, _, rfl, s4.trans s', s' _ _ hD4, s' _ _ hR4, by rw [hc, if_neg Bool.false_ne_true, List.append_nil]; exact s' _ _ hG4⟩
        try simp only [gTup, gCons, gName, gNil, tIfS, tAnd, tTest, tOp, tVar, List.set_cons_succ, List.set_cons_zero, List.getElem?_cons_succ, List.getElem?_cons_zero, tTup, tCons, tC, tNil, tB, tDNotIn, tLst, tDrop, tBM, exSlot, tNext, tComp_eq, iTup, ite_ft, exBl, Bool.not_eq_true']
        refine ⟨p, _, rfl, SqT.of hp, rfl, _, _, rfl, _, _, rfl, _, _, rfl, _, _, rfl, rfl, ?_⟩
        try simp only [exRef]
        refine ⟨by simp only [List.length_cons, List.length_nil]; decide, fun p5 hp5 => ?_⟩
        obtain ⟨H5, e5, s5, h5⟩ := newO hp5 (.tup [V.str "fact", V.str "sure"]); rw [e5]
        refine rIn_tup (r := ["fact", "sure"]) (SqT.of h5) ?_
        rw [sort_sure hro.1]
        try simp only [exBl, decide_eq_true_eq]
        refine ite2 (fun c1 => ?_) (fun c1 => hno _ s5 (by show (decide (so < 2) && _ && _) = false; rw [decide_eq_false c1]; rfl))
        refine ⟨D, _, rfl, bask (s5 _ _ hD4) hd, ?_⟩
        by_cases c2 : hd ∈ S
        · rw [if_pos c2]
          try skip
          exact hno _ s5 (by show (_ && decide (hd ∉ S) && _) = false; rw [decide_eq_false (by simpa using c2), Bool.and_false, Bool.false_and])
        rw [if_neg c2]
        try skip
        refine ⟨⟨_, SqT.of (s5 _ _ ht)⟩, ?_⟩
        have hbl : bd.length ≤ 4 := hro.2.2.2.2.2
        refine comp_f (src_tup (xs := bd.map V.str)) (Nat.le_trans (show (bd.map V.str).length ≤ 1000 by rw [List.length_map]; omega) (by decide)) [some (V.ref D)] rfl (fun i => decide (((bd[i]?).getD "") ∉ S)) (fun i => V.str ((bd[i]?).getD "")) (fun H' s => SqT.of (s _ _ (s5 _ _ ht))) (fun i H' R' hi s hR' => ?_) (fun i H' R' hi s hR' => ?_) (fun C H6 hCn s6 hC => ?_)
        · have hi' : i < bd.length := by simpa using hi
          have e2 : ((bd.map V.str)[i]?).getD .non = V.str bd[i] := by rw [List.getElem?_map, List.getElem?_eq_getElem hi']; rfl
          rw [e2]
          rw [List.getElem?_eq_getElem hi', Option.getD_some] at hR'
          try simp only [tB, tDNotIn, tVar, List.getElem?_cons_zero, List.getElem?_cons_succ, exBl, exSlot]
          refine ⟨D, _, rfl, bask (s _ _ (s5 _ _ hD4)) bd[i], ?_⟩
          try skip
          have := hR' _ (Same.refl _)
          by_cases h : bd[i] ∈ S
          · rw [if_pos h]; rw [decide_eq_false (by simpa using h)] at this; exact this
          · rw [if_neg h]; rw [decide_eq_true h] at this; exact this
        · have hi' : i < bd.length := by simpa using hi
          have e2 : ((bd.map V.str)[i]?).getD .non = V.str bd[i] := by rw [List.getElem?_map, List.getElem?_eq_getElem hi']; rfl
          rw [e2]
          rw [List.getElem?_eq_getElem hi', Option.getD_some] at hR'
          try simp only [tVar, List.getElem?_cons_zero, exSlot]
          exact hR' _ (Same.refl _)
        rw [show (bd.map V.str).length = bd.length by simp, range_filter ("" : Str) (fun z => decide (z ∉ S)) V.str bd] at hC
        try skip
        refine ⟨Nat.zero_le _, fun p7 hp7 => ?_⟩
        obtain ⟨H7, e7, s7, h7⟩ := newO hp7 (.lst []); rw [e7]
        refine rEq_nil (SqL.of (s7 _ _ hC)) (SqL.of h7) (fun z hz => (hro.2.2.2.2.1 z (List.mem_filter.mp hz).1).1) ?_
        rw [all_filter]
        have s47 := (s5.trans s6).trans s7
        try simp only [exBl]
        refine ite2 (fun c3 => ?_) (fun c3 => hno _ s47 (by show (_ && _ && bd.all fun q => decide (q ∈ S)) = false; rw [Bool.eq_false_iff.mpr c3, Bool.and_false]))
        refine ⟨.inl ⟨rfl, _, SqL.of (s47 _ _ hG4)⟩, G, _, _, rfl, rfl, s47 _ _ hG4, Nat.lt_of_le_of_lt (show _ ≤ 1000 by rw [List.length_map]; omega) (by decide), _, _, _, _, _, rfl, ?_, ?_, ?_, ?_⟩
        · intro b o e
          rw [upd_ne (ne_of_none (s03 _ _ e) hG)]; exact s47 _ _ (s4 _ _ e)
        · rw [upd_ne hGD.symm]; exact s47 _ _ hD4
        · rw [upd_ne hGR.symm]; exact s47 _ _ hR4
        · rw [upd_same, if_pos (by show (decide (so < 2) && decide (hd ∉ S) && bd.all fun q => decide (q ∈ S)) = true; rw [decide_eq_true c1, decide_eq_true c2, c3]; rfl)]
          simp [srW]
      · rintro σ H4 ⟨y3, y7, y8, y9, y10, rfl, s4, hD4, hR4, hG4⟩
        rw [hA.len, List.take_length] at hG4
        have hfo : ∀ z ∈ frs (rs.map srW) (sS (rs.map srW) k0 n), PyData.strOk z = true := fun z hz => by
          obtain ⟨_, b', h2, _⟩ := mem_frs.mp hz
          obtain ⟨r, hr, e⟩ := List.mem_map.mp h2
          have : r.2.2.1 = z := congrArg (fun q : SR Str => q.2.1) e
          rw [← this]; exact (hO r hr).2.2.2.1.1
        have hfl := frs_len (rs.map srW) (sS (rs.map srW) k0 n)
        have hSl := sS_len (rs := rs.map srW) hkn n
        have hRl' := sR_len (rs := rs.map srW) hkn n
        try simp only [tFor_eq, iList, tVar, List.getElem?_cons_succ, List.getElem?_cons_zero, exSlot, exRef]
        refine ⟨⟨_, SqL.of hG4⟩, ?_⟩
        refine for_list (K := K) (a := G) (xs := (frs (rs.map srW) (sS (rs.map srW) k0 n)).map V.str) (fun j σ H' => ∃ (x9 : Option V), σ = [some (V.ref a), some (V.ref b), some (V.ref D), y3, some (V.ref R), some (V.int ((n : Int) + 1)), some (V.ref G), y7, y8, x9, y10] ∧ Same H H' ∧ H' D = some (.dK (bv (((frs (rs.map srW) (sS (rs.map srW) k0 n)).take j).foldl putU (sS (rs.map srW) k0 n)))) ∧ H' R = some (.dK (dv (((frs (rs.map srW) (sS (rs.map srW) k0 n)).take j).foldl (putN (n + 1)) (sR (rs.map srW) k0 n)))) ∧ H' G = some (.lst ((frs (rs.map srW) (sS (rs.map srW) k0 n)).map V.str)))
          ⟨_, rfl, s4, hD4, hR4, hG4⟩ (fun j σ H' _ h => by obtain ⟨_, _, _, _, _, h⟩ := h; exact SqL.of h) ?_ ?_
        · rintro j x σ H5 hj ⟨x9, rfl, s5, hD5, hR5, hG5⟩
          have hjl : j < (frs (rs.map srW) (sS (rs.map srW) k0 n)).length := by simpa using (List.getElem?_eq_some_iff.mp hj).1
          have ex : x = V.str (frs (rs.map srW) (sS (rs.map srW) k0 n))[j] := by
            rw [List.getElem?_map, List.getElem?_eq_getElem hjl] at hj
            exact (Option.some.inj hj).symm
          subst ex
          have hnew := frs_new (List.getElem_mem hjl)
          rw [List.take_succ_eq_append_getElem hjl, List.foldl_append, List.foldl_append]
          have hlkt : lk (((frs (rs.map srW) (sS (rs.map srW) k0 n)).take j).foldl (putN (n + 1)) (sR (rs.map srW) k0 n)) (frs (rs.map srW) (sS (rs.map srW) k0 n))[j] = none ∨ lk (((frs (rs.map srW) (sS (rs.map srW) k0 n)).take j).foldl (putN (n + 1)) (sR (rs.map srW) k0 n)) (frs (rs.map srW) (sS (rs.map srW) k0 n))[j] = some (n + 1) := by
            rw [lk_putsN fun h hh => .inl (frs_new (List.mem_of_mem_take hh)), hnew]
            split
            · exact .inr rfl
            · exact .inl rfl
          have l1 := len_puts ((frs (rs.map srW) (sS (rs.map srW) k0 n)).take j) (sS (rs.map srW) k0 n)
          have l2 := len_putsN (n + 1) ((frs (rs.map srW) (sS (rs.map srW) k0 n)).take j) (sR (rs.map srW) k0 n)
          have l3 : ((frs (rs.map srW) (sS (rs.map srW) k0 n)).take j).length ≤ 100 := by rw [List.length_take]; omega
          have nd := nodup_putsN (n + 1) ((frs (rs.map srW) (sS (rs.map srW) k0 n)).take j) (keysR_nodup (rs := rs.map srW) (kn := k0) n)
          generalize ((frs (rs.map srW) (sS (rs.map srW) k0 n)).take j).foldl (putN (n + 1)) (sR (rs.map srW) k0 n) = R5 at hR5 l2 nd hlkt
          generalize ((frs (rs.map srW) (sS (rs.map srW) k0 n)).take j).foldl putU (sS (rs.map srW) k0 n) = S5 at hD5 l1
          try simp only [gName, tSeq, sDPut, tC, tVar, List.set_cons_succ, List.set_cons_zero, List.getElem?_cons_succ, List.getElem?_cons_zero, exSlot]
          refine ⟨D, _, rfl, bput hD5 (by omega) _, ?_⟩
          have hR5' : upd H5 D (.dK (bv (putU S5 (frs (rs.map srW) (sS (rs.map srW) k0 n))[j]))) R = some (.dK (dv R5)) := by rw [upd_ne hDR.symm]; exact hR5
          refine ⟨R, _, rfl, rput (n := n + 1) hR5' (by omega) nd hlkt, _, rfl, ?_, ?_, upd_same, ?_⟩
          · intro b o e; rw [upd_ne (ne_of_none e hRn), upd_ne (ne_of_none e hD)]; exact s5 _ _ e
          · rw [upd_ne hDR, upd_same]; rfl
          · rw [upd_ne hGR, upd_ne hGD]; exact hG5
        · rintro σ H5 ⟨x9, rfl, s5, hD5, hR5, hG5⟩
          rw [List.length_map, List.take_length] at hD5 hR5
          refine ⟨if frs (rs.map srW) (sS (rs.map srW) k0 n) = [] then 0 else lack (rs.map srW) (sS (rs.map srW) k0 (n + 1)) + 1, ?_, n + 1, _, G, _, _, _, _, _, rfl, s5, hD5, hR5, hG5, hfo, .inr ⟨n, rfl, rfl, rfl⟩⟩
          by_cases hfz : frs (rs.map srW) (sS (rs.map srW) k0 n) = []
          · rw [if_pos hfz]
            rcases hm with ⟨_, _, rfl⟩ | ⟨n', _, _, hm'⟩
            · omega
            · rw [hm', if_neg hne]; omega
          · rw [if_neg hfz]
            have h1 := lack_less hfz
            rcases hm with ⟨_, _, rfl⟩ | ⟨n', _, _, hm'⟩
            · have := lack_le (rs.map srW) (sS (rs.map srW) k0 n)
              rw [List.length_map] at this
              omega
            · rw [hm', if_neg hne]; omega
    · have he : zs = [] := by simpa using c1
      rcases hm with ⟨_, h, _⟩ | ⟨n', rfl, hz, _⟩
      · exact absurd he h
      · rw [he] at hz
        have e1 := (stop_on hz.symm 1).2
        rw [e1, fin_at hz.symm] at hR3
        try skip
        exact q R H3 s03 hRn hR3
theorem ok_d_l_due (T : Txt K mg t) : FnOk P w K mg base CX0 2 t.f_d_l_due t.fd_d_l_due ["_law_rows_here"] spDue := by
  refine T.F_d_l_due.ok sc_d_l_due (fun vs H Q E h => ?_) (fun cdv A outer s H vs Q E hr h => ?_)
  · obtain ⟨a, xs, rs, rfl, ha, hA, hO, hrl, q⟩ := h; rfl
  · obtain ⟨a, xs, rs, rfl, ha, hA, hO, hrl, q⟩ := h
    refine ⟨_, (@pss_cons _ _ _ _ _ (@ps_set _ _ (1) _ _ _ _ sc_d_l_due.nd rfl (by first | exact Or.inl rfl | exact Or.inr rfl) (@pe_call _ _ _ _ _ _ _ _ _ _ _ _ _ _ _ _ (ok_d_l_rounds T) (hr.mono (by decide)) rfl T.g_d_l_rounds T.F_d_l_rounds.kp T.b_d_l_rounds .nil pass0 (@pa_cons _ _ _ _ _ (@pv _ 0 _ _ (by rfl) (by first | exact vis0 rfl | exact vis1 rfl | exact vis2 rfl) (by decide) (by decide)) (@pa_cons _ _ _ _ _ (@pe_lst _ _ _ _ (@pa_nil _)) (@pa_nil _) (by rfl)) (by rfl)) (by decide) (by rfl) (by rfl)) (by rfl) (by first | exact Or.inl rfl | exact Or.inr rfl | assumption)) (@pss_one _ _ _ (@ps_ret _ _ _ _ (@pe_comp _ _ _ _ _ _ _ _ _ _ _ _ _ (@compOk_of _ (defScope s_d_l_due) (n_d_l_due) (["_law_pair"]) ([none]) _ rfl rfl (by decide +kernel)) rfl (@pi_list _ _ _ _ (@pe_callB _ _ _ _ _ _ _ _ _ (call_sort2 rfl) rfl T.z_sorted boot_sortedT (@pa_cons _ _ _ _ _ (@pe_thaw _ _ _ (@pe_comp _ _ _ _ _ _ _ _ _ _ _ _ _ (@compOk_of _ (defScope s_d_l_due) (n_d_l_due) (["_law_head", "_law_rank"]) ([none, none]) _ rfl rfl (by decide +kernel)) rfl (@pi_items _ _ _ _ _ _ _ _ (@pv _ 1 _ _ (by rfl) (by first | exact vis0 rfl | exact vis1 rfl | exact vis2 rfl) (by decide) (by decide)) (by rfl) (by rfl)) (fun _ _ _ _ _ => (@pg_tupK _ (K) _ _ _ _ (2) rfl rfl (@pgs_cons _ _ _ _ _ (@pg_name _ _ (0) _ (show List.Nodup (["_law_head", "_law_rank"] : List Str) by decide +kernel) rfl (by first | exact Or.inl rfl | exact Or.inr rfl) (by first | exact Or.inl rfl | exact Or.inr rfl | assumption)) (@pgs_cons _ _ _ _ _ (@pg_name _ _ (1) _ (show List.Nodup (["_law_head", "_law_rank"] : List Str) by decide +kernel) rfl (by first | exact Or.inl rfl | exact Or.inr rfl) (by first | exact Or.inl rfl | exact Or.inr rfl | assumption)) (@pgs_nil _) (by rfl)) (by rfl)) (by rfl) (by rfl))) (fun _ _ _ _ _ => @pts_nil _) (fun _ _ _ _ _ => (@pe_tup _ _ _ _ _ (@pa_cons _ _ _ _ _ (@pv _ 1 _ _ (by rfl) (by first | exact vis0 rfl | exact vis1 rfl | exact vis2 rfl) (by decide) (by decide)) (@pa_cons _ _ _ _ _ (@pv _ 0 _ _ (by rfl) (by first | exact vis0 rfl | exact vis1 rfl | exact vis2 rfl) (by decide) (by decide)) (@pa_nil _) (by rfl)) (by rfl)))) (by intro _ ; rfl))) (@pa_nil _) (by rfl)) (by decide) (by decide) (by rfl) (by rfl))) (fun _ _ _ _ _ => (@pg_name _ _ (0) _ (show List.Nodup (["_law_pair"] : List Str) by decide +kernel) rfl (by first | exact Or.inl rfl | exact Or.inr rfl) (by first | exact Or.inl rfl | exact Or.inr rfl | assumption))) (fun _ _ _ _ _ => @pts_nil _) (fun _ _ _ _ _ => (@pe_ix _ _ _ _ _ _ _ (ix_seqK (K := K) rfl) (@pv _ 0 _ _ (by rfl) (by first | exact vis0 rfl | exact vis1 rfl | exact vis2 rfl) (by decide) (by decide)) (@pe_int _ _ _ _) (fun _ _ => rfl))) (by intro _ ; rfl))))), ?_⟩
    rw [show start n_d_l_due [V.ref a] = [some (V.ref a), none] from rfl]
    try simp only [tSeq, tAsg, tCall, tCons, tVar, List.getElem?_cons_zero, tLst, tNil, List.append_nil, gName, tRet, List.set_cons_succ, List.set_cons_zero, tComp_eq, iList, tCB, tThaw, iItems, List.getElem?_cons_succ, exSlot]
    refine ⟨by decide, fun N hN => ?_⟩
    obtain ⟨H0, e0, s0, h0⟩ := newO hN (.lst []); rw [e0]
    refine ⟨a, N, xs, rs, [], rfl, s0 _ _ ha, hA.same s0, hO, by omega, SqL.of h0, by decide, fun R H1 s1 hRn hR => ?_⟩
    obtain ⟨F, eF⟩ : ∃ F, FIN (rs.map srW) [] = F := ⟨_, rfl⟩
    have hR : H1 R = some (.dK (dv F)) := by rw [← eF]; exact hR
    have hFn : (F.map (·.1)).Nodup := by rw [← eF]; exact fin_nodup _ _
    have hFl : F.length ≤ 63 := by rw [← eF]; exact Nat.le_trans (fin_len rs) hrl
    try skip
    refine ⟨R, _, hR, ?_⟩
    try skip
    refine ⟨R, _, rfl, hR, fun o => ?_⟩
    obtain ⟨H2, e2, h2, k2⟩ : ∃ H2, upd H1 R (.frz o (.dK (dv F))) = H2 ∧ H2 R = some (.frz o (.dK (dv F))) ∧ ∀ b u, b ≠ R → H1 b = some u → H2 b = some u := ⟨_, rfl, upd_same, fun b u hb e => by rw [upd_ne hb]; exact e⟩
    rw [e2]
    refine comp_i (kvs := dv F) (Nat.le_trans (show (dv F).length ≤ 1000 by rw [dv_len]; omega) (by decide)) [] rfl (fun D i v H' => ∃ (hi : i < F.length) (p : Addr), v = .ref p ∧ p ≠ D ∧ H' p = some (.tup [.int F[i].2, .str F[i].1])) (fun D i v Ha Hb up h => ?_) h2 (fun D i H' R' hi hDn s hD hR' => ?_) (fun D H3 ys hDn s3 hD3 hyl hv => ?_)
    · obtain ⟨hi, p, e, n1, g1⟩ := h
      exact ⟨hi, p, e, n1, up _ _ n1 g1⟩
    · have hi' : i < F.length := by rw [dv_len] at hi; exact hi
      obtain ⟨zs, hD⟩ := hD
      have e3 : (dv F)[i] = (Sum.inr F[i].1, V.int F[i].2) := by simp [dv]
      rw [e3]
      try simp only [tTup, tCons, tVar, List.getElem?_cons_succ, List.getElem?_cons_zero, tNil, exSlot]
      refine ⟨by simp only [List.length_cons, List.length_nil]; decide, fun p hp' => ?_⟩
      obtain ⟨H4, e4, s4, h4⟩ := newO hp' (.tup [V.int F[i].2, V.str F[i].1]); rw [show kV (Sum.inr F[i].1) = V.str F[i].1 from rfl, e4]
      exact hR' _ _ s4 ⟨hi', p, rfl, fun z => ne_of_none hD hp' z.symm, h4⟩
    have hR3 := s3 _ _ h2
    refine ⟨o, hR3, ?_⟩
    have hDR : D ≠ R := ne_of hD3 hR3 (by intro z; cases z)
    have k3 : Same H1 (upd H3 R (.dK (dv F))) := fun b u e => by
      by_cases z : b = R
      · subst z; rw [upd_same]; rw [hR] at e; exact e
      · rw [upd_ne z]; exact s3 _ _ (k2 b u z e)
    obtain ⟨H4, e4, hD4, hp4⟩ : ∃ H4, upd H3 R (.dK (dv F)) = H4 ∧ H4 D = some (.lst ys) ∧ ∀ (i : Nat) v, ys[i]? = some v → ∃ (hi : i < F.length) (p : Addr), v = .ref p ∧ H4 p = some (.tup [.int F[i].2, .str F[i].1]) := ⟨_, rfl, by rw [upd_ne hDR]; exact hD3, fun i v e => by
      obtain ⟨hi, p, e1, n1, g1⟩ := hv i v e
      exact ⟨hi, p, e1, by rw [upd_ne (ne_of g1 hR3 (by intro z; cases z))]; exact g1⟩⟩
    rw [e4] at k3 ⊢
    have hyl' : ys.length = F.length := by rw [hyl, dv_len]
    have hpo : ∀ (i : Nat) v, ys[i]? = some v → ∃ hi : i < F.length, pairOf H4 v = ((F[i].2 : Int), F[i].1) := fun i v e => by
      obtain ⟨hi, p, rfl, g1⟩ := hp4 i v e
      refine ⟨hi, ?_⟩
      show (match H4 p with | some (.tup [.int i, .str z]) => (i, z) | _ => (0, "")) = _
      rw [g1]
    have hpm : ys.map (pairOf H4) = F.map fun p => ((p.2 : Int), p.1) := by
      refine List.ext_getElem (by rw [List.length_map, List.length_map]; exact hyl') fun i h1 h2 => ?_
      rw [List.getElem_map, List.getElem_map]
      rw [List.length_map] at h1
      exact (hpo i _ (List.getElem?_eq_getElem h1)).2
    refine .inr (.inr ⟨D, ys, rfl, SqL.of hD4, by omega, fun v hv' => ?_, ?_, fun L ys' hLn hpr hpw => ?_⟩)
    · obtain ⟨i, hi, rfl⟩ := List.getElem_of_mem hv'
      obtain ⟨_, p, e, g1⟩ := hp4 i _ (List.getElem?_eq_getElem hi)
      exact ⟨p, _, _, e, g1⟩
    · rw [hpm]
      have : (F.map fun p => ((p.2 : Int), p.1)).map (·.2) = F.map (·.1) := by rw [List.map_map]; rfl
      rw [← this] at hFn
      exact (List.pairwise_map.mp hFn).imp fun h z => h (by rw [z])
    obtain ⟨H5, e5, s5, h5⟩ := newO hLn (.lst ys'); rw [e5]
    try simp only [exRef]
    refine ⟨⟨_, SqL.of h5⟩, ?_⟩
    have hyl2 : ys'.length ≤ 63 := by rw [hpr.length_eq]; omega
    refine comp_1 (src_list (xs := ys')) (Nat.le_trans (show ys'.length ≤ 1000 by omega) (by decide)) [] rfl (fun i v => ∃ hi : i < ys'.length, v = V.str (pairOf H4 ys'[i]).2) (fun H' s => SqL.of (s _ _ h5)) (fun i H' R' hi s hR' => ?_) (fun D2 H6 zs hDn2 s6 hD6 hzl hzv => ?_)
    · obtain ⟨j, hj, ej⟩ := List.getElem_of_mem (hpr.mem_iff.mp (List.getElem_mem hi))
      obtain ⟨hj', p, e, g1⟩ := hp4 j _ (List.getElem?_eq_getElem hj)
      obtain ⟨_, e7⟩ := hpo j _ (List.getElem?_eq_getElem hj)
      rw [ej] at e e7
      have e8 : (pairOf H4 ys'[i]).2 = F[j].1 := by rw [e7]
      rw [List.getElem?_eq_getElem hi, Option.getD_some, e]
      try simp only [tOp, tVar, List.getElem?_cons_zero, tC, exSlot]
      exact rIx_tup (SqT.of (s _ _ (s5 _ _ g1))) at_two (hR' _ _ (Same.refl _) ⟨hi, by rw [e8]⟩)
    have ez : zs = ((ys'.map (pairOf H4)).map (·.2)).map V.str := by
      refine List.ext_getElem (by rw [hzl, List.length_map, List.length_map, List.length_map]) fun i h1 h2 => ?_
      obtain ⟨hi, e⟩ := hzv i _ (List.getElem?_eq_getElem h1)
      rw [e, List.getElem_map, List.getElem_map, List.getElem_map]
    rw [ez] at hD6
    refine q D2 _ H6 ((s0.trans s1).trans (k3.trans (s5.trans s6))) (none_of (s0.trans s1) (none_of (k3.trans s5) hDn2)) hD6 (due_pairs ?_ hpw)
    rw [eF, ← hpm]
    exact hpr.map _
theorem ok_d_l_word (T : Txt K mg t) : FnOk P w K mg base CX0 1 t.f_d_l_word t.fd_d_l_word ["_law_cell", "_law_k", "_law_signs"] spWord := by
  refine T.F_d_l_word.ok sc_d_l_word (fun vs H Q E h => ?_) (fun cdv A outer s H vs Q E hr h => ?_)
  · obtain ⟨c, k, sg, rfl, hsg, q⟩ := h; rfl
  · obtain ⟨c, k, sg, rfl, hsg, q⟩ := h
    refine ⟨_, (@pss_cons _ _ _ _ _ (@ps_set _ _ (3) _ _ _ _ sc_d_l_word.nd rfl (by first | exact Or.inl rfl | exact Or.inr rfl) (@pe_op _ _ _ _ _ _ _ _ op_addA (@pe_int _ _ _ _) (@pe_op _ _ _ _ _ _ _ _ op_mod (@pv _ 0 _ _ (by rfl) (by first | exact vis0 rfl | exact vis1 rfl | exact vis2 rfl) (by decide) (by decide)) (@pe_int _ _ _ _))) (by rfl) (by first | exact Or.inl rfl | exact Or.inr rfl | assumption)) (@pss_cons _ _ _ _ _ (@ps_set _ _ (4) _ _ _ _ sc_d_l_word.nd rfl (by first | exact Or.inl rfl | exact Or.inr rfl) (@pe_op _ _ _ _ _ _ _ _ op_mod (@pe_op _ _ _ _ _ _ _ _ op_fdiv (@pv _ 0 _ _ (by rfl) (by first | exact vis0 rfl | exact vis1 rfl | exact vis2 rfl) (by decide) (by decide)) (@pe_int _ _ _ _)) (@pv _ 3 _ _ (by rfl) (by first | exact vis0 rfl | exact vis1 rfl | exact vis2 rfl) (by decide) (by decide))) (by rfl) (by first | exact Or.inl rfl | exact Or.inr rfl | assumption)) (@pss_cons _ _ _ _ _ (@ps_set _ _ (5) _ _ _ _ sc_d_l_word.nd rfl (by first | exact Or.inl rfl | exact Or.inr rfl) (@pe_str _ _ _ _) (by rfl) (by first | exact Or.inl rfl | exact Or.inr rfl | assumption)) (@pss_cons _ _ _ _ _ (@ps_for _ _ _ _ _ _ _ _ PassesOwn.never rfl (@pi_range1 _ _ _ _ _ _ rfl T.z_range (@pa_cons _ _ _ _ _ (@pv _ 3 _ _ (by rfl) (by first | exact vis0 rfl | exact vis1 rfl | exact vis2 rfl) (by decide) (by decide)) (@pa_nil _) (by rfl)) (by rfl)) (@pg_name _ _ (6) _ sc_d_l_word.nd rfl (by first | exact Or.inl rfl | exact Or.inr rfl) (by first | exact Or.inl rfl | exact Or.inr rfl | assumption)) (@pss_cons _ _ _ _ _ (@ps_set _ _ (7) _ _ _ _ sc_d_l_word.nd rfl (by first | exact Or.inl rfl | exact Or.inr rfl) (@pe_op _ _ _ _ _ _ _ _ op_addA (@pe_op _ _ _ _ _ _ _ _ op_fdiv (@pv _ 0 _ _ (by rfl) (by first | exact vis0 rfl | exact vis1 rfl | exact vis2 rfl) (by decide) (by decide)) (@pe_int _ _ _ _)) (@pe_op _ _ _ _ _ _ _ _ op_mul (@pe_int _ _ _ _) (@pv _ 6 _ _ (by rfl) (by first | exact vis0 rfl | exact vis1 rfl | exact vis2 rfl) (by decide) (by decide)))) (by rfl) (by first | exact Or.inl rfl | exact Or.inr rfl | assumption)) (@pss_mid _ _ _ _ _ (@ps_if _ _ _ _ _ _ _ _ (@pt_cmpR _ _ _ _ _ _ _ _ (op_eqH hr.units) (@pv _ 6 _ _ (by rfl) (by first | exact vis0 rfl | exact vis1 rfl | exact vis2 rfl) (by decide) (by decide)) (@pv _ 4 _ _ (by rfl) (by first | exact vis0 rfl | exact vis1 rfl | exact vis2 rfl) (by decide) (by decide)) (nomark _)) (@pss_one _ _ _ (@ps_set _ _ (7) _ _ _ _ sc_d_l_word.nd rfl (by first | exact Or.inl rfl | exact Or.inr rfl) (@pe_op _ _ _ _ _ _ _ _ op_addA (@pv _ 7 _ _ (by rfl) (by first | exact vis0 rfl | exact vis1 rfl | exact vis2 rfl) (by decide) (by decide)) (@pv _ 1 _ _ (by rfl) (by first | exact vis0 rfl | exact vis1 rfl | exact vis2 rfl) (by decide) (by decide))) (by rfl) (by first | exact Or.inl rfl | exact Or.inr rfl | assumption))) (@pss_nil _)) (@pss_one _ _ _ (@ps_set _ _ (5) _ _ _ _ sc_d_l_word.nd rfl (by first | exact Or.inl rfl | exact Or.inr rfl) (@pe_op _ _ _ _ _ _ _ _ op_addA (@pv _ 5 _ _ (by rfl) (by first | exact vis0 rfl | exact vis1 rfl | exact vis2 rfl) (by decide) (by decide)) (@pe_ix _ _ _ _ _ _ _ ix_seq (@pv _ 2 _ _ (by rfl) (by first | exact vis0 rfl | exact vis1 rfl | exact vis2 rfl) (by decide) (by decide)) (@pe_op _ _ _ _ _ _ _ _ op_mod (@pv _ 7 _ _ (by rfl) (by first | exact vis0 rfl | exact vis1 rfl | exact vis2 rfl) (by decide) (by decide)) (@pe_callB _ _ _ _ _ _ _ _ _ call_lenA rfl T.z_len boot_lenT (@pa_cons _ _ _ _ _ (@pv _ 2 _ _ (by rfl) (by first | exact vis0 rfl | exact vis1 rfl | exact vis2 rfl) (by decide) (by decide)) (@pa_nil _) (by rfl)) (by decide) (by decide) (by rfl) (by rfl))) (fun _ _ => rfl))) (by rfl) (by first | exact Or.inl rfl | exact Or.inr rfl | assumption))))) (by intro _ ; rfl)) (@pss_one _ _ _ (@ps_ret _ _ _ _ (@pv _ 5 _ _ (by rfl) (by first | exact vis0 rfl | exact vis1 rfl | exact vis2 rfl) (by decide) (by decide)))))))), ?_⟩
    rw [show start n_d_l_word [V.int c, V.int k, sv sg] = [some (V.int c), some (V.int k), some (sv sg), none, none, none, none, none] from rfl]
    have m8 := mod_lt' (i := c) (j := 8) (by decide)
    try simp only [tSeq, tAsg, tOp, tC, tVar, List.getElem?_cons_zero, gName, List.set_cons_succ, List.set_cons_zero, List.getElem?_cons_succ, tFor_eq, iRng1, tCons, tNil, exSlot, rI_int, CDiv, rAddA_int]
    refine ⟨by decide, ⟨by decide, by decide⟩, by omega, _, rfl, by omega, by omega, ?_⟩
    refine for_range (n := (1 + c % 8).toNat) (lo := 0) (fun i σ H' => H = H' ∧ ∃ (l : List Nat) (j st : Option V), l.length = i ∧ (∀ c ∈ l, c ∈ sg) ∧ σ = [some (V.int c), some (V.int k), some (sv sg), some (V.int (1 + c % 8)), some (V.int (c / 8 % (1 + c % 8))), some (sv l), j, st]) ⟨rfl, [], _, _, rfl, by simp, rfl⟩ ?_ ?_
    · rintro i σ H' hi ⟨rfl, l, j, st, hl, hc, rfl⟩
      try simp only [gName, tSeq, tAsg, tOp, tVar, List.set_cons_succ, List.set_cons_zero, List.getElem?_cons_zero, tC, List.getElem?_cons_succ, exSlot, rI_int, CMul, CDiv, rAddA_int]
      refine ⟨⟨by decide, by decide⟩, .inl (by decide), fun σ' H' => H = H' ∧ ∃ n : Int, σ' = [some (V.int c), some (V.int k), some (sv sg), some (V.int (1 + c % 8)), some (V.int (c / 8 % (1 + c % 8))), some (sv l), some (V.int (0 + (i : Int))), some (V.int n)], ?_, ?_⟩
      · try simp only [tIfS, tTest, tOp, tVar, List.getElem?_cons_succ, List.getElem?_cons_zero, tAsg, gName, List.set_cons_succ, List.set_cons_zero, exSlot, rAddA_int, tNext, rEqH_int, exBl, decide_eq_true_eq]
        exact ite2 (fun _ => ⟨(by trivial), _, rfl⟩) (fun _ => ⟨(by trivial), _, rfl⟩)
      rintro σ' H' ⟨rfl, n, rfl⟩
      try simp only [tAsg, tOp, tVar, List.getElem?_cons_succ, List.getElem?_cons_zero, tCB, tCons, tNil, gName, List.set_cons_succ, List.set_cons_zero, exSlot, rLenA_str, rI_int, rIx_str, rAddA_str]
      have hm := mod_lt' (i := n) (j := ((mk sg).length : Int)) (by rw [mk_len]; omega)
      obtain ⟨d, e, hv, _⟩ := atI_in (xs := (mk sg).cps.toList) hm.1 (by rw [show ((mk sg).cps.toList.length : Int) = ((mk sg).length : Int) by rw [mk_len]]; exact hm.2)
      have hd : d ∈ sg := hv
      refine ⟨short_le (by rw [mk_len]; omega), by rw [mk_len]; omega, short_le (by rw [mk_len]; omega), d, e, ?_, (by trivial), l ++ [d], _, _, by simp [hl], fun x hx => ?_, by rw [show (mk l ++ (⟨#[d]⟩ : Str)) = mk (l ++ [d]) from mk_app l [d]]⟩
      · show (mk l).length + 1 ≤ sizeLine
        rw [mk_len]
        exact Nat.le_trans (show l.length + 1 ≤ 1000 by omega) (by decide)
      · rcases List.mem_append.mp hx with z | z
        · exact hc x z
        · have e2 : x = d := by simpa using z
          rw [e2]; exact hd
    · rintro σ H' ⟨rfl, l, j, st, hl, hc, rfl⟩
      try simp only [tRet, tVar, List.getElem?_cons_succ, List.getElem?_cons_zero, exSlot]
      exact q l (by omega) hc
theorem ok_d_l_labels (T : Txt K mg t) : FnOk P w K mg base CX0 2 t.f_d_l_labels t.fd_d_l_labels ["_law_cell"] spLabels := by
  refine T.F_d_l_labels.ok sc_d_l_labels (fun vs H Q E h => ?_) (fun cdv A outer s H vs Q E hr h => ?_)
  · obtain ⟨c, rfl, q⟩ := h; rfl
  · obtain ⟨c, rfl, q⟩ := h
    refine ⟨_, (@pss_one _ _ _ (@ps_ret _ _ _ _ (@pe_comp _ _ _ _ _ _ _ _ _ _ _ _ _ (@compOk_of _ (defScope s_d_l_labels) (n_d_l_labels) (["_law_k", "_law_cell"]) ([none, some 0]) _ rfl rfl (by decide +kernel)) rfl (@pi_range1 _ _ _ _ _ _ rfl T.z_range (@pa_cons _ _ _ _ _ (@pe_int _ _ _ _) (@pa_nil _) (by rfl)) (by rfl)) (fun _ _ _ _ _ => (@pg_name _ _ (0) _ (show List.Nodup (["_law_k", "_law_cell"] : List Str) by decide +kernel) rfl (by first | exact Or.inl rfl | exact Or.inr rfl) (by first | exact Or.inl rfl | exact Or.inr rfl | assumption))) (fun _ _ _ _ _ => @pts_nil _) (fun _ _ _ _ _ => (@pe_call _ _ _ _ _ _ _ _ _ _ _ _ _ _ _ _ (ok_d_l_word T) (hr.mono (by decide)) rfl T.g_d_l_word T.F_d_l_word.kp T.b_d_l_word .nil pass0 (@pa_cons _ _ _ _ _ (@pe_op _ _ _ _ _ _ _ _ op_fdiv (@pv _ 1 _ _ (by rfl) (by first | exact vis0 rfl | exact vis1 rfl | exact vis2 rfl) (by decide) (by decide)) (@pe_int _ _ _ _)) (@pa_cons _ _ _ _ _ (@pv _ 0 _ _ (by rfl) (by first | exact vis0 rfl | exact vis1 rfl | exact vis2 rfl) (by decide) (by decide)) (@pa_cons _ _ _ _ _ (@pe_str _ _ _ _) (@pa_nil _) (by rfl)) (by rfl)) (by rfl)) (by decide) (by rfl) (by rfl))) (by intro _ ; rfl)))), ?_⟩
    rw [show start n_d_l_labels [V.int c] = [some (V.int c)] from rfl]
    try simp only [tRet, tComp_eq, iRng1, tCons, tC, tNil]
    refine ⟨12, rfl, by decide, by decide, ?_⟩
    refine comp_1 src_range (Nat.le_trans (show (12 : Int).toNat ≤ 1000 by decide) (by decide)) [some (V.int c)] rfl (fun i v => ∃ z, v = .str z ∧ OkS z) (fun _ _ => trivial) (fun i H' R hi s hR => ?_) (fun D H' ys hDn s hD hl hv => ?_)
    · try simp only [tCall, tCons, tOp, tVar, List.getElem?_cons_succ, List.getElem?_cons_zero, tC, tNil, List.append_nil, exSlot, rI_int, CDiv]
      rw [figl_eq]
      refine ⟨⟨by decide, by decide⟩, _, _, figl, rfl, by decide, fun l h1 h2 => hR _ _ (Same.refl _) ⟨_, rfl, OkS.of (fun c hc => figl_lt (h2 c hc)) (by omega)⟩⟩
    · obtain ⟨zs, rfl, ho⟩ := strs_of hv
      exact q D zs H' s hDn hD (by simpa using hl) ho
theorem ok_c_Rule_init (T : Txt K mg t) : FnOk P w K mg base CX0 1 t.f_c_Rule_init t.fd_c_Rule_init ["self", "label", "head", "body"] (spInit K) := by
  refine T.F_c_Rule_init.ok sc_c_Rule_init (fun vs H Q E h => ?_) (fun cdv A outer s H vs Q E hr h => ?_)
  · obtain ⟨x, C, dx, lb, hd, b, bs, rfl, hx, hC, hb, q⟩ := h; rfl
  · obtain ⟨x, C, dx, lb, hd, b, bs, rfl, hx, hC, hb, q⟩ := h
    refine ⟨_, (@pss_cons _ _ _ _ _ (@ps_fld _ _ _ _ _ _ _ _ (@pv _ 0 _ _ (by rfl) (by first | exact vis0 rfl | exact vis1 rfl | exact vis2 rfl) (by decide) (by decide)) (@pv _ 1 _ _ (by rfl) (by first | exact vis0 rfl | exact vis1 rfl | exact vis2 rfl) (by decide) (by decide)) rfl) (@pss_cons _ _ _ _ _ (@ps_fld _ _ _ _ _ _ _ _ (@pv _ 0 _ _ (by rfl) (by first | exact vis0 rfl | exact vis1 rfl | exact vis2 rfl) (by decide) (by decide)) (@pv _ 2 _ _ (by rfl) (by first | exact vis0 rfl | exact vis1 rfl | exact vis2 rfl) (by decide) (by decide)) rfl) (@pss_one _ _ _ (@ps_fld _ _ _ _ _ _ _ _ (@pv _ 0 _ _ (by rfl) (by first | exact vis0 rfl | exact vis1 rfl | exact vis2 rfl) (by decide) (by decide)) (@pe_callTy _ _ _ _ _ _ _ _ _ call_tupOf rfl T.z_tuple boot_tupleT (@pa_cons _ _ _ _ _ (@pv _ 3 _ _ (by rfl) (by first | exact vis0 rfl | exact vis1 rfl | exact vis2 rfl) (by decide) (by decide)) (@pa_nil _) (by rfl)) (by decide) (by decide) (by rfl) (by rfl)) rfl)))), ?_⟩
    rw [show start n_c_Rule_init [V.ref x, lb, hd, V.ref b] = [some (V.ref x), some (lb), some (hd), some (V.ref b)] from rfl]
    obtain ⟨cl, n1, n2, n3⟩ := hC
    try simp only [tSeq, sFld, tVar, List.getElem?_cons_succ, List.getElem?_cons_zero, tCB, tCons, tNil, exSlot]
    have cut : ∀ (H0 : Hp), (∀ c o, H c = some o → c ≠ x → H0 c = some o) → H0 x = some (.ins C dx (putF "head" hd (putF "label" lb []))) → ∀ t, H0 t = some (.tup bs) → t ≠ x → (∀ c o, H c = some o → c ≠ x → upd H0 x (.ins C dx (flds lb hd t)) c = some o) ∧ RuleAt (upd H0 x (.ins C dx (flds lb hd t))) x C lb hd bs := fun H0 k0 h0 t ht htx =>
      ⟨fun c o e hc => by rw [upd_ne hc]; exact k0 c o e hc, dx, t, upd_same, by rw [upd_ne htx]; exact ht⟩
    refine ⟨x, C, dx, _, rfl, hx, cl, n1, by show 0 < 1000; decide, x, C, dx, _, rfl, upd_same, cl, n2, by show 1 < 1000; decide, ?_⟩
    rw [upd_upd]
    obtain ⟨H1, e1, k1, h1⟩ : ∃ H', upd H x (.ins C dx (putF "head" hd (putF "label" lb []))) = H' ∧ (∀ c o, H c = some o → c ≠ x → H' c = some o) ∧ H' x = some (.ins C dx (putF "head" hd (putF "label" lb []))) := ⟨_, rfl, fun c o e hc => by rw [upd_ne hc]; exact e, upd_same⟩
    rw [e1]
    have hlen : (putF "head" hd (putF "label" lb [])).length < 1000 := by
      rw [show putF "head" hd (putF "label" lb []) = ([("label", lb), ("head", hd)] : List (Str × V)) from by
        show (if ("label" : Str) = "head" then _ else _) = _
        rw [if_neg (by decide +kernel)]; rfl]
      show 2 < 1000; decide
    rcases hb with hb | ⟨hb, hb'⟩
    · have hb1 : SqL K H1 b bs := by
        rcases hb with (hb | ⟨o, hb⟩) | hb
        · exact .inl (.inl (k1 _ _ hb (ne_of hb hx (by intro z; cases z))))
        · exact .inl (.inr ⟨o, k1 _ _ hb (ne_of hb hx (by intro z; cases z))⟩)
        · exact .inr hb
      refine ⟨b, bs, rfl, .inl ⟨hb1, fun t ht => ?_⟩⟩
      have htx : t ≠ x := fun z => by rw [z, h1] at ht; cases ht
      obtain ⟨H2, e2, s2, h2⟩ := newO ht (.tup bs); rw [e2]
      obtain ⟨a1, a2⟩ := cut H2 (fun c o e hc => s2 _ _ (k1 c o e hc)) (s2 _ _ h1) t h2 htx
      exact ⟨x, C, dx, _, rfl, s2 _ _ h1, cl, n3, hlen, q _ a1 a2⟩
    · have hbx : b ≠ x := ne_of hb' hx (by intro z; cases z)
      have hb1 := k1 _ _ hb' hbx
      refine ⟨b, bs, rfl, .inr ⟨SqT.of hb1, ?_⟩⟩
      obtain ⟨a1, a2⟩ := cut H1 k1 h1 b hb1 hbx
      exact ⟨x, C, dx, _, rfl, h1, cl, n3, hlen, q _ a1 a2⟩
theorem ok_c_Fact_init (T : Txt K mg t) : FnOk P w K mg base CX0 2 t.f_c_Fact_init t.fd_c_Fact_init ["self", "head"] (spFactI K t.C_Fact) := by
  refine T.F_c_Fact_init.ok sc_c_Fact_init (fun vs H Q E h => ?_) (fun cdv A outer s H vs Q E hr h => ?_)
  · obtain ⟨x, dx, hd, rfl, hx, q⟩ := h; rfl
  · obtain ⟨x, dx, hd, rfl, hx, q⟩ := h
    refine ⟨_, (@pss_one _ _ _ (@ps_expr _ _ _ _ (@pe_cmeth _ _ _ _ _ _ _ _ _ _ _ _ _ _ _ _ _ _ _ _ (@pe_glob _ _ (.ref t.C_Rule) _ _ rfl T.g_Rule rfl (by decide)) T.cm_Rule (ok_c_Rule_init T) (hr.mono (by decide)) T.b_c_Rule_init .nil pass0 (@pa_cons _ _ _ _ _ (@pv _ 0 _ _ (by rfl) (by first | exact vis0 rfl | exact vis1 rfl | exact vis2 rfl) (by decide) (by decide)) (@pa_cons _ _ _ _ _ (@pe_str _ _ _ _) (@pa_cons _ _ _ _ _ (@pv _ 1 _ _ (by rfl) (by first | exact vis0 rfl | exact vis1 rfl | exact vis2 rfl) (by decide) (by decide)) (@pa_cons _ _ _ _ _ (@pe_tup _ _ _ _ _ (@pa_nil _)) (@pa_nil _) (by rfl)) (by rfl)) (by rfl)) (by rfl)) (by rfl) (by rfl) (by rfl)) (by rfl))), ?_⟩
    rw [show start n_c_Fact_init [V.ref x, hd] = [some (V.ref x), some (hd)] from rfl]
    try simp only [tDrop, tCMeth, tC, tCons, tVar, List.getElem?_cons_zero, List.getElem?_cons_succ, tTup, tNil, List.append_nil, exSlot]
    refine ⟨(by trivial), by decide, fun b hb => ?_⟩
    obtain ⟨H1, e1, s1, h1⟩ := newO hb (.tup []); rw [e1]
    refine ⟨x, t.C_Fact, dx, _, hd, b, [], rfl, s1 _ _ hx, ⟨T.cl_Fact, T.nf_Fact_label, T.nf_Fact_head, T.nf_Fact_body⟩, .inr ⟨SqT.of h1, h1⟩, fun H' k r => ?_⟩
    exact q _ (fun c o e hc => k c o (s1 _ _ e) hc) r
theorem ok_d_l_made (T : Txt K mg t) : FnOk P w K mg base CX0 4 t.f_d_l_made t.fd_d_l_made ["_law_row_here"] (spMadeB K t) := by
  refine T.F_d_l_made.ok sc_d_l_made (fun vs H Q E h => ?_) (fun cdv A outer s H vs Q E hr h => ?_)
  · obtain ⟨p, b, r, rfl, hro, hp, hb, q⟩ := h; rfl
  · obtain ⟨p, b, r, rfl, hro, hp, hb, q⟩ := h
    refine ⟨_, (@pss_cons _ _ _ _ _ (@ps_asg _ _ _ _ _ _ (@pv _ 0 _ _ (by rfl) (by first | exact vis0 rfl | exact vis1 rfl | exact vis2 rfl) (by decide) (by decide)) (@pg_tup _ _ _ _ _ _ rfl (@pgs_cons _ _ _ _ _ (@pg_name _ _ (1) _ sc_d_l_made.nd rfl (by first | exact Or.inl rfl | exact Or.inr rfl) (by first | exact Or.inl rfl | exact Or.inr rfl | assumption)) (@pgs_cons _ _ _ _ _ (@pg_name _ _ (2) _ sc_d_l_made.nd rfl (by first | exact Or.inl rfl | exact Or.inr rfl) (by first | exact Or.inl rfl | exact Or.inr rfl | assumption)) (@pgs_cons _ _ _ _ _ (@pg_name _ _ (3) _ sc_d_l_made.nd rfl (by first | exact Or.inl rfl | exact Or.inr rfl) (by first | exact Or.inl rfl | exact Or.inr rfl | assumption)) (@pgs_cons _ _ _ _ _ (@pg_name _ _ (4) _ sc_d_l_made.nd rfl (by first | exact Or.inl rfl | exact Or.inr rfl) (by first | exact Or.inl rfl | exact Or.inr rfl | assumption)) (@pgs_nil _) (by rfl)) (by rfl)) (by rfl)) (by rfl)) (by rfl) (by rfl)) (by rfl) (by rfl) (by rfl)) (@pss_cons _ _ _ _ _ (@ps_if _ _ _ _ _ _ _ _ (@pt_cmpR _ _ _ _ _ _ _ _ (op_eqH hr.units) (@pv _ 1 _ _ (by rfl) (by first | exact vis0 rfl | exact vis1 rfl | exact vis2 rfl) (by decide) (by decide)) (@pe_str _ _ _ _) (nomark _)) (@pss_one _ _ _ (@ps_ret _ _ _ _ (@pe_make _ _ _ _ _ _ _ _ _ _ _ _ _ _ _ _ _ T.mk_Fact (ok_c_Fact_init T) (hr.mono (by decide)) rfl T.g_Fact T.b_c_Fact_init .nil pass0 (@pa_cons _ _ _ _ _ (@pv _ 3 _ _ (by rfl) (by first | exact vis0 rfl | exact vis1 rfl | exact vis2 rfl) (by decide) (by decide)) (@pa_nil _) (by rfl)) (by decide) (by rfl) (by rfl)))) (@pss_nil _)) (@pss_cons _ _ _ _ _ (@ps_if _ _ _ _ _ _ _ _ (@pt_cmpR _ _ _ _ _ _ _ _ (op_eqH hr.units) (@pv _ 1 _ _ (by rfl) (by first | exact vis0 rfl | exact vis1 rfl | exact vis2 rfl) (by decide) (by decide)) (@pe_str _ _ _ _) (nomark _)) (@pss_one _ _ _ (@ps_ret _ _ _ _ (@pe_make _ _ _ _ _ _ _ _ _ _ _ _ _ _ _ _ _ T.mk_Sure (ok_c_Rule_init T) (hr.mono (by decide)) rfl T.g_Sure T.b_c_Rule_init .nil pass0 (@pa_cons _ _ _ _ _ (@pv _ 2 _ _ (by rfl) (by first | exact vis0 rfl | exact vis1 rfl | exact vis2 rfl) (by decide) (by decide)) (@pa_cons _ _ _ _ _ (@pv _ 3 _ _ (by rfl) (by first | exact vis0 rfl | exact vis1 rfl | exact vis2 rfl) (by decide) (by decide)) (@pa_cons _ _ _ _ _ (@pe_callTy _ _ _ _ _ _ _ _ _ call_listOf rfl T.z_list boot_listT (@pa_cons _ _ _ _ _ (@pv _ 4 _ _ (by rfl) (by first | exact vis0 rfl | exact vis1 rfl | exact vis2 rfl) (by decide) (by decide)) (@pa_nil _) (by rfl)) (by decide) (by decide) (by rfl) (by rfl)) (@pa_nil _) (by rfl)) (by rfl)) (by rfl)) (by decide) (by rfl) (by rfl)))) (@pss_nil _)) (@pss_cons _ _ _ _ _ (@ps_if _ _ _ _ _ _ _ _ (@pt_cmpR _ _ _ _ _ _ _ _ (op_eqH hr.units) (@pv _ 1 _ _ (by rfl) (by first | exact vis0 rfl | exact vis1 rfl | exact vis2 rfl) (by decide) (by decide)) (@pe_str _ _ _ _) (nomark _)) (@pss_one _ _ _ (@ps_ret _ _ _ _ (@pe_make _ _ _ _ _ _ _ _ _ _ _ _ _ _ _ _ _ T.mk_Most (ok_c_Rule_init T) (hr.mono (by decide)) rfl T.g_Most T.b_c_Rule_init .nil pass0 (@pa_cons _ _ _ _ _ (@pv _ 2 _ _ (by rfl) (by first | exact vis0 rfl | exact vis1 rfl | exact vis2 rfl) (by decide) (by decide)) (@pa_cons _ _ _ _ _ (@pv _ 3 _ _ (by rfl) (by first | exact vis0 rfl | exact vis1 rfl | exact vis2 rfl) (by decide) (by decide)) (@pa_cons _ _ _ _ _ (@pv _ 4 _ _ (by rfl) (by first | exact vis0 rfl | exact vis1 rfl | exact vis2 rfl) (by decide) (by decide)) (@pa_nil _) (by rfl)) (by rfl)) (by rfl)) (by decide) (by rfl) (by rfl)))) (@pss_nil _)) (@pss_one _ _ _ (@ps_ret _ _ _ _ (@pe_make _ _ _ _ _ _ _ _ _ _ _ _ _ _ _ _ _ T.mk_Block (ok_c_Rule_init T) (hr.mono (by decide)) rfl T.g_Block T.b_c_Rule_init .nil pass0 (@pa_cons _ _ _ _ _ (@pv _ 2 _ _ (by rfl) (by first | exact vis0 rfl | exact vis1 rfl | exact vis2 rfl) (by decide) (by decide)) (@pa_cons _ _ _ _ _ (@pv _ 3 _ _ (by rfl) (by first | exact vis0 rfl | exact vis1 rfl | exact vis2 rfl) (by decide) (by decide)) (@pa_cons _ _ _ _ _ (@pv _ 4 _ _ (by rfl) (by first | exact vis0 rfl | exact vis1 rfl | exact vis2 rfl) (by decide) (by decide)) (@pa_nil _) (by rfl)) (by rfl)) (by rfl)) (by decide) (by rfl) (by rfl)))))))), ?_⟩
    rw [show start n_d_l_made [V.ref p] = [some (V.ref p), none, none, none, none] from rfl]
    obtain ⟨so, lb, hd, bd⟩ := r
    dsimp only at hp hb
    try simp only [tSeq, tAsg, tVar, List.getElem?_cons_zero, gTup, gCons, gName, gNil, tIfS, tTest, tOp, List.set_cons_succ, List.set_cons_zero, List.getElem?_cons_succ, tC, tRet, tMake, tCons, tNil, List.append_nil, exSlot, tNext, tCB]
    refine ⟨p, _, rfl, SqT.of hp, rfl, _, _, rfl, _, _, rfl, _, _, rfl, _, _, rfl, rfl, ?_⟩
    have hh : ∀ {H0 : Hp} {x dx : Addr} {C : Addr}, H0 x = none → H0 dx = none → dx ≠ x → (Same H0 (upd (upd H0 dx (.own x)) x (.ins C dx []))) ∧ (upd (upd H0 dx (.own x)) x (.ins C dx [])) x = some (.ins C dx []) := fun {H0 x dx C} h1 h2 h3 =>
      ⟨fun c o e => by rw [upd_ne (ne_of_none e h1), upd_ne (ne_of_none e h2)]; exact e, upd_same⟩
    have ez : so = 0 → bd = [] ∧ lb = "" := hro.2.1
    try simp only [rEqH_str, exBl, decide_eq_true_eq]
    match so, hro.1, ez with
    | 0, _, ez =>
      refine ite2 (fun _ => ?_) (fun c => absurd rfl c)
      intro x dx nx ndx ne
      obtain ⟨s, hx⟩ := hh (C := t.C_Fact) nx ndx ne
      refine ⟨x, dx, _, rfl, hx, fun H' k r => ⟨rfl, q x H' (fun c o e => k c o (s _ _ e) (ne_of_none e nx)) ?_⟩⟩
      obtain ⟨e1, e2⟩ := ez rfl
      subst e1 e2
      exact r
    | 1, _, _ =>
      refine ite2 (fun c => absurd c (by decide +kernel)) (fun _ => ite2 (fun _ => ?_) (fun c => absurd rfl c))
      refine ⟨b, _, rfl, .inr (SqT.of hb), fun l hl => ?_⟩
      obtain ⟨H1, e1, s1, h1⟩ := newO hl (.lst (bd.map V.str)); rw [e1]
      intro x dx nx ndx ne
      obtain ⟨s, hx⟩ := hh (C := t.C_Sure) nx ndx ne
      exact ⟨x, t.C_Sure, dx, _, _, l, _, rfl, hx, ⟨T.cl_Sure, T.nf_Sure_label, T.nf_Sure_head, T.nf_Sure_body⟩, .inl (SqL.of (s _ _ h1)), fun H' k r => ⟨rfl, q x H' (fun c o e => k c o (s _ _ (s1 _ _ e)) (ne_of_none (s1 _ _ e) nx)) r⟩⟩
    | 2, _, _ =>
      refine ite2 (fun c => absurd c (by decide +kernel)) (fun _ => ite2 (fun c => absurd c (by decide +kernel)) (fun _ => ite2 (fun _ => ?_) (fun c => absurd rfl c)))
      intro x dx nx ndx ne
      obtain ⟨s, hx⟩ := hh (C := t.C_Most) nx ndx ne
      exact ⟨x, t.C_Most, dx, _, _, b, _, rfl, hx, ⟨T.cl_Most, T.nf_Most_label, T.nf_Most_head, T.nf_Most_body⟩, .inr ⟨SqT.of (s _ _ hb), s _ _ hb⟩, fun H' k r => ⟨rfl, q x H' (fun c o e => k c o (s _ _ e) (ne_of_none e nx)) r⟩⟩
    | 3, _, _ =>
      refine ite2 (fun c => absurd c (by decide +kernel)) (fun _ => ite2 (fun c => absurd c (by decide +kernel)) (fun _ => ite2 (fun c => absurd c (by decide +kernel)) (fun _ => ?_)))
      intro x dx nx ndx ne
      obtain ⟨s, hx⟩ := hh (C := t.C_Block) nx ndx ne
      exact ⟨x, t.C_Block, dx, _, _, b, _, rfl, hx, ⟨T.cl_Block, T.nf_Block_label, T.nf_Block_head, T.nf_Block_body⟩, .inr ⟨SqT.of (s _ _ hb), s _ _ hb⟩, fun H' k r => ⟨rfl, q x H' (fun c o e => k c o (s _ _ e) (ne_of_none e nx)) r⟩⟩
theorem ok_d_l_mix (T : Txt K mg t) : FnOk P w K mg base CX0 1 t.f_d_l_mix t.fd_d_l_mix ["_law_cell", "_law_k"] spMix := by
  refine T.F_d_l_mix.ok sc_d_l_mix (fun vs H Q E h => ?_) (fun cdv A outer s H vs Q E hr h => ?_)
  · obtain ⟨c, k, rfl, q⟩ := h; rfl
  · obtain ⟨c, k, rfl, q⟩ := h
    refine ⟨_, (@pss_cons _ _ _ _ _ (@ps_set _ _ (2) _ _ _ _ sc_d_l_mix.nd rfl (by first | exact Or.inl rfl | exact Or.inr rfl) (@pe_op _ _ _ _ _ _ _ _ op_mod (@pe_op _ _ _ _ _ _ _ _ op_addA (@pe_op _ _ _ _ _ _ _ _ op_addA (@pv _ 0 _ _ (by rfl) (by first | exact vis0 rfl | exact vis1 rfl | exact vis2 rfl) (by decide) (by decide)) (@pe_op _ _ _ _ _ _ _ _ op_mul (@pe_int _ _ _ _) (@pv _ 1 _ _ (by rfl) (by first | exact vis0 rfl | exact vis1 rfl | exact vis2 rfl) (by decide) (by decide)))) (@pe_int _ _ _ _)) (@pe_int _ _ _ _)) (by rfl) (by first | exact Or.inl rfl | exact Or.inr rfl | assumption)) (@pss_cons _ _ _ _ _ (@ps_set _ _ (2) _ _ _ _ sc_d_l_mix.nd rfl (by first | exact Or.inl rfl | exact Or.inr rfl) (@pe_op _ _ _ _ _ _ _ _ op_mod (@pe_op _ _ _ _ _ _ _ _ op_mul (@pe_op _ _ _ _ _ _ _ _ op_mod (@pe_op _ _ _ _ _ _ _ _ op_mul (@pv _ 2 _ _ (by rfl) (by first | exact vis0 rfl | exact vis1 rfl | exact vis2 rfl) (by decide) (by decide)) (@pv _ 2 _ _ (by rfl) (by first | exact vis0 rfl | exact vis1 rfl | exact vis2 rfl) (by decide) (by decide))) (@pe_int _ _ _ _)) (@pe_int _ _ _ _)) (@pe_int _ _ _ _)) (by rfl) (by first | exact Or.inl rfl | exact Or.inr rfl | assumption)) (@pss_one _ _ _ (@ps_ret _ _ _ _ (@pe_op _ _ _ _ _ _ _ _ op_mod (@pe_op _ _ _ _ _ _ _ _ op_mul (@pe_op _ _ _ _ _ _ _ _ op_addA (@pv _ 2 _ _ (by rfl) (by first | exact vis0 rfl | exact vis1 rfl | exact vis2 rfl) (by decide) (by decide)) (@pe_int _ _ _ _)) (@pe_op _ _ _ _ _ _ _ _ op_addA (@pv _ 2 _ _ (by rfl) (by first | exact vis0 rfl | exact vis1 rfl | exact vis2 rfl) (by decide) (by decide)) (@pe_int _ _ _ _))) (@pe_int _ _ _ _)))))), ?_⟩
    rw [show start n_d_l_mix [V.int c, V.int k] = [some (V.int c), some (V.int k), none] from rfl]
    try simp only [tSeq, tAsg, tOp, tVar, List.getElem?_cons_zero, tC, List.getElem?_cons_succ, gName, List.set_cons_succ, List.set_cons_zero, tRet, exSlot, rI_int, CMul, rAddA_int]
    have h0 := mod_lt' (i := c + 7919 * k + 12345) (j := 2147483629) (by decide)
    generalize (c + 7919 * k + 12345) % 2147483629 = n at h0 ⊢
    have h1 := mod_lt' (i := n * n) (j := 2147483629) (by decide)
    generalize n * n % 2147483629 = m at h1 ⊢
    have h2 := mod_lt' (i := m * 48271) (j := 2147483647) (by decide)
    generalize m * 48271 % 2147483647 = l at h2 ⊢
    exact ⟨.inl (by decide), by decide, .inl (by omega), by decide, .inr (by decide), by decide, .inl (by omega), by decide, q _ (Int.emod_nonneg _ (by decide))⟩
theorem ok_d_l_pairs (T : Txt K mg t) : FnOk P w K mg base CX0 3 t.f_d_l_pairs t.fd_d_l_pairs ["_law_cell"] spPairs := by
  refine T.F_d_l_pairs.ok sc_d_l_pairs (fun vs H Q E h => ?_) (fun cdv A outer s H vs Q E hr h => ?_)
  · obtain ⟨c, rfl, q⟩ := h; rfl
  · obtain ⟨c, rfl, q⟩ := h
    refine ⟨_, (@pss_cons _ _ _ _ _ (@ps_set _ _ (1) _ _ _ _ sc_d_l_pairs.nd rfl (by first | exact Or.inl rfl | exact Or.inr rfl) (@pe_call _ _ _ _ _ _ _ _ _ _ _ _ _ _ _ _ (ok_d_l_labels T) (hr.mono (by decide)) rfl T.g_d_l_labels T.F_d_l_labels.kp T.b_d_l_labels .nil pass0 (@pa_cons _ _ _ _ _ (@pv _ 0 _ _ (by rfl) (by first | exact vis0 rfl | exact vis1 rfl | exact vis2 rfl) (by decide) (by decide)) (@pa_nil _) (by rfl)) (by decide) (by rfl) (by rfl)) (by rfl) (by first | exact Or.inl rfl | exact Or.inr rfl | assumption)) (@pss_cons _ _ _ _ _ (@ps_set _ _ (2) _ _ _ _ sc_d_l_pairs.nd rfl (by first | exact Or.inl rfl | exact Or.inr rfl) (@pe_lst _ _ _ _ (@pa_nil _)) (by rfl) (by first | exact Or.inl rfl | exact Or.inr rfl | assumption)) (@pss_cons _ _ _ _ _ (@ps_for _ _ _ _ _ _ _ _ PassesOwn.never rfl (@pi_range1 _ _ _ _ _ _ rfl T.z_range (@pa_cons _ _ _ _ _ (@pe_op _ _ _ _ _ _ _ _ op_mod (@pv _ 0 _ _ (by rfl) (by first | exact vis0 rfl | exact vis1 rfl | exact vis2 rfl) (by decide) (by decide)) (@pe_int _ _ _ _)) (@pa_nil _) (by rfl)) (by rfl)) (@pg_name _ _ (3) _ sc_d_l_pairs.nd rfl (by first | exact Or.inl rfl | exact Or.inr rfl) (by first | exact Or.inl rfl | exact Or.inr rfl | assumption)) (@pss_cons _ _ _ _ _ (@ps_set _ _ (4) _ _ _ _ sc_d_l_pairs.nd rfl (by first | exact Or.inl rfl | exact Or.inr rfl) (@pe_op _ _ _ _ _ _ _ _ op_mod (@pe_call _ _ _ _ _ _ _ _ _ _ _ _ _ _ _ _ (ok_d_l_mix T) (hr.mono (by decide)) rfl T.g_d_l_mix T.F_d_l_mix.kp T.b_d_l_mix .nil pass0 (@pa_cons _ _ _ _ _ (@pv _ 0 _ _ (by rfl) (by first | exact vis0 rfl | exact vis1 rfl | exact vis2 rfl) (by decide) (by decide)) (@pa_cons _ _ _ _ _ (@pv _ 3 _ _ (by rfl) (by first | exact vis0 rfl | exact vis1 rfl | exact vis2 rfl) (by decide) (by decide)) (@pa_nil _) (by rfl)) (by rfl)) (by decide) (by rfl) (by rfl)) (@pe_int _ _ _ _)) (by rfl) (by first | exact Or.inl rfl | exact Or.inr rfl | assumption)) (@pss_one _ _ _ (@ps_expr _ _ _ _ (@pe_bm _ _ _ _ _ _ _ _ _ _ _ _ PySem.F.plainAttrs_list PySem.F.slot_list_append PySem.F.type_list_append mt_append (@pv _ 2 _ _ (by rfl) (by first | exact vis0 rfl | exact vis1 rfl | exact vis2 rfl) (by decide) (by decide)) (@pa_cons _ _ _ _ _ (@pe_tup _ _ _ _ _ (@pa_cons _ _ _ _ _ (@pe_ix _ _ _ _ _ _ _ ix_seq (@pv _ 1 _ _ (by rfl) (by first | exact vis0 rfl | exact vis1 rfl | exact vis2 rfl) (by decide) (by decide)) (@pv _ 4 _ _ (by rfl) (by first | exact vis0 rfl | exact vis1 rfl | exact vis2 rfl) (by decide) (by decide)) (fun _ _ => rfl)) (@pa_cons _ _ _ _ _ (@pe_ix _ _ _ _ _ _ _ ix_seq (@pv _ 1 _ _ (by rfl) (by first | exact vis0 rfl | exact vis1 rfl | exact vis2 rfl) (by decide) (by decide)) (@pe_op _ _ _ _ _ _ _ _ op_addA (@pv _ 4 _ _ (by rfl) (by first | exact vis0 rfl | exact vis1 rfl | exact vis2 rfl) (by decide) (by decide)) (@pe_int _ _ _ _)) (fun _ _ => rfl)) (@pa_nil _) (by rfl)) (by rfl))) (@pa_nil _) (by rfl)) (by rfl) (by rfl) (by rfl) (by rfl) (by rfl)) (by rfl)))) (by intro _ ; rfl)) (@pss_one _ _ _ (@ps_ret _ _ _ _ (@pv _ 2 _ _ (by rfl) (by first | exact vis0 rfl | exact vis1 rfl | exact vis2 rfl) (by decide) (by decide))))))), ?_⟩
    rw [show start n_d_l_pairs [V.int c] = [some (V.int c), none, none, none, none] from rfl]
    try simp only [tSeq, tAsg, tCall, tCons, tVar, List.getElem?_cons_zero, tNil, List.append_nil, gName, tLst, List.set_cons_succ, List.set_cons_zero, tFor_eq, iRng1, tOp, tC, exSlot, rI_int]
    refine ⟨c, rfl, fun La ls H1 s1 hLn hL hl12 hlo => ?_⟩
    try simp only []
    have m5 := mod_lt' (i := c) (j := 5) (by decide)
    refine ⟨by decide, fun D hD => ⟨by decide, _, rfl, by omega, by omega, ?_⟩⟩
    obtain ⟨H2, e2, s2, h2⟩ := newO hD (.lst []); rw [e2]
    have hDn : H D = none := none_of s1 hD
    have hLD : La ≠ D := ne_of_none hL hD
    refine for_range (n := (c % 5).toNat) (lo := 0) (fun i σ H' => ∃ (ps : List V) (pl : List (Str × Str)) (x4 x5 : Option V), σ = [some (V.int c), some (V.ref La), some (V.ref D), x4, x5] ∧ Same H H' ∧ H' La = some (.lst (ls.map V.str)) ∧ H' D = some (.lst ps) ∧ PrsAt H' ps pl ∧ pl.length ≤ i ∧ PlOk pl)
      ⟨[], [], _, _, rfl, s1.trans s2, s2 _ _ hL, h2, ⟨[], rfl, rfl, fun i a p e => by simp at e⟩, Nat.le_refl _, fun _ h => by cases h⟩ ?_ ?_
    · rintro i σ H3 hi ⟨ps, pl, x4, x5, rfl, s3, hL3, hD3, hP3, hpl, hpo⟩
      try simp only [gName, tSeq, tAsg, tOp, tCall, tCons, tVar, List.set_cons_succ, List.set_cons_zero, List.getElem?_cons_zero, List.getElem?_cons_succ, tNil, List.append_nil, tC, tDrop, tBM, tTup, exSlot, spMix_at, rI_int, rAddA_int]
      intro r hr
      have m1 := mod_lt' (i := r) (j := 11) (by decide)
      generalize r % 11 = x at m1
      have hpsl : ps.length ≤ 60 := by
        obtain ⟨as, rfl, hal, _⟩ := hP3
        rw [List.length_map]; omega
      have pk : ∀ n : Int, 0 ≤ n ∧ n < 12 → ∃ z, atI (ls.map V.str) n = some (.str z) ∧ OkS z := fun n hn => by
        obtain ⟨v, e, hv, _⟩ := atI_in (xs := ls.map V.str) (i := n) hn.1 (by rw [List.length_map, hl12]; exact hn.2)
        obtain ⟨z, hz, rfl⟩ := List.mem_map.mp hv
        exact ⟨z, e, hlo z hz⟩
      obtain ⟨z1, ez1, o1⟩ := pk x (by omega)
      obtain ⟨z2, ez2, o2⟩ := pk (x + 1) (by omega)
      refine ⟨by decide, .inl ⟨rfl, _, SqL.of hD3⟩, rIx_lst (SqL.of hL3) ez1 (rIx_lst (SqL.of hL3) ez2 ⟨by simp only [List.length_cons, List.length_nil]; decide, fun p hp => ?_⟩)⟩
      obtain ⟨H4, e4, s4, h4⟩ := newO hp (.tup [V.str z1, V.str z2]); rw [e4]
      have hD4 := s4 _ _ hD3
      have hpD : p ≠ D := fun z => by rw [z, hD3] at hp; cases hp
      refine ⟨D, _, _, rfl, rfl, hD4, Nat.lt_of_le_of_lt (show _ ≤ 1000 by omega) (by decide), ?_⟩
      have up : ∀ b o, b ≠ D → H4 b = some o → upd H4 D (.lst (ps ++ [V.ref p])) b = some o := fun b o hb e => by rw [upd_ne hb]; exact e
      refine ⟨ps ++ [V.ref p], pl ++ [(z1, z2)], _, _, rfl, fun b o e => up _ _ (ne_of_none e hDn) (s4 _ _ (s3 _ _ e)), up _ _ hLD (s4 _ _ hL3), upd_same, prs_snoc (prs_mono (PrsAt.same s4 hP3) ⟨_, hD4⟩ up) (up _ _ hpD h4), by simp; omega, fun w hw => ?_⟩
      rcases List.mem_append.mp hw with z | z
      · exact hpo w z
      · rw [List.mem_singleton.mp z]; exact ⟨o1.1, o2.1⟩
    · rintro σ H3 ⟨ps, pl, x4, x5, rfl, s3, hL3, hD3, hP3, hpl, hpo⟩
      try simp only [tRet, tVar, List.getElem?_cons_succ, List.getElem?_cons_zero, exSlot]
      exact q D ps pl H3 s3 hDn hD3 hP3 (by omega) hpo
theorem ok_d_l_pool (T : Txt K mg t) : FnOk P w K mg base CX0 2 t.f_d_l_pool t.fd_d_l_pool ["_law_cell"] spPool := by
  refine T.F_d_l_pool.ok sc_d_l_pool (fun vs H Q E h => ?_) (fun cdv A outer s H vs Q E hr h => ?_)
  · obtain ⟨c, rfl, q⟩ := h; rfl
  · obtain ⟨c, rfl, q⟩ := h
    refine ⟨_, (@pss_cons _ _ _ _ _ (@ps_setComp _ _ _ _ _ _ _ _ _ _ _ _ _ (1) _ _ _ (@compOk_of _ (defScope s_d_l_pool) (n_d_l_pool) (["_law_k", "_law_cell"]) ([none, some 0]) _ rfl rfl (by decide +kernel)) rfl (@pi_range1 _ _ _ _ _ _ rfl T.z_range (@pa_cons _ _ _ _ _ (@pe_int _ _ _ _) (@pa_nil _) (by rfl)) (by rfl)) (fun _ _ _ _ _ => (@pg_name _ _ (0) _ (show List.Nodup (["_law_k", "_law_cell"] : List Str) by decide +kernel) rfl (by first | exact Or.inl rfl | exact Or.inr rfl) (by first | exact Or.inl rfl | exact Or.inr rfl | assumption))) (fun _ _ _ _ _ => @pts_nil _) (fun _ _ _ _ _ => (@pe_call _ _ _ _ _ _ _ _ _ _ _ _ _ _ _ _ (ok_d_l_word T) (hr.mono (by decide)) rfl T.g_d_l_word T.F_d_l_word.kp T.b_d_l_word .nil pass0 (@pa_cons _ _ _ _ _ (@pe_op _ _ _ _ _ _ _ _ op_fdiv (@pv _ 1 _ _ (by rfl) (by first | exact vis0 rfl | exact vis1 rfl | exact vis2 rfl) (by decide) (by decide)) (@pe_int _ _ _ _)) (@pa_cons _ _ _ _ _ (@pv _ 0 _ _ (by rfl) (by first | exact vis0 rfl | exact vis1 rfl | exact vis2 rfl) (by decide) (by decide)) (@pa_cons _ _ _ _ _ (@pe_str _ _ _ _) (@pa_nil _) (by rfl)) (by rfl)) (by rfl)) (by decide) (by rfl) (by rfl))) sc_d_l_pool.nd rfl (by first | exact Or.inl rfl | exact Or.inr rfl) rfl (by intro _ ; rfl) (by first | exact Or.inl rfl | exact Or.inr rfl | assumption)) (@pss_cons _ _ _ _ _ (@ps_set _ _ (2) _ _ _ _ sc_d_l_pool.nd rfl (by first | exact Or.inl rfl | exact Or.inr rfl) (@pe_lst _ _ _ _ (@pa_nil _)) (by rfl) (by first | exact Or.inl rfl | exact Or.inr rfl | assumption)) (@pss_cons _ _ _ _ _ (@ps_for _ _ _ _ _ _ _ _ PassesOwn.never rfl (@pi_range1 _ _ _ _ _ _ rfl T.z_range (@pa_cons _ _ _ _ _ (@pe_op _ _ _ _ _ _ _ _ op_addA (@pe_int _ _ _ _) (@pe_op _ _ _ _ _ _ _ _ op_mod (@pv _ 0 _ _ (by rfl) (by first | exact vis0 rfl | exact vis1 rfl | exact vis2 rfl) (by decide) (by decide)) (@pe_int _ _ _ _))) (@pa_nil _) (by rfl)) (by rfl)) (@pg_name _ _ (3) _ sc_d_l_pool.nd rfl (by first | exact Or.inl rfl | exact Or.inr rfl) (by first | exact Or.inl rfl | exact Or.inr rfl | assumption)) (@pss_cons _ _ _ _ _ (@ps_set _ _ (4) _ _ _ _ sc_d_l_pool.nd rfl (by first | exact Or.inl rfl | exact Or.inr rfl) (@pe_ix _ _ _ _ _ _ _ ix_seq (@pe_lst _ _ _ _ (@pa_cons _ _ _ _ _ (@pe_str _ _ _ _) (@pa_cons _ _ _ _ _ (@pe_op _ _ _ _ _ _ _ _ op_addA (@pe_op _ _ _ _ _ _ _ _ op_addA (@pe_str _ _ _ _) (@pe_ix _ _ _ _ _ _ _ ix_seq (@pv _ 1 _ _ (by rfl) (by first | exact vis0 rfl | exact vis1 rfl | exact vis2 rfl) (by decide) (by decide)) (@pe_int _ _ _ _) (fun _ _ => rfl))) (@pe_str _ _ _ _)) (@pa_cons _ _ _ _ _ (@pe_op _ _ _ _ _ _ _ _ op_addA (@pe_op _ _ _ _ _ _ _ _ op_addA (@pe_op _ _ _ _ _ _ _ _ op_addA (@pe_op _ _ _ _ _ _ _ _ op_addA (@pe_str _ _ _ _) (@pe_ix _ _ _ _ _ _ _ ix_seq (@pv _ 1 _ _ (by rfl) (by first | exact vis0 rfl | exact vis1 rfl | exact vis2 rfl) (by decide) (by decide)) (@pe_int _ _ _ _) (fun _ _ => rfl))) (@pe_str _ _ _ _)) (@pe_ix _ _ _ _ _ _ _ ix_seq (@pv _ 1 _ _ (by rfl) (by first | exact vis0 rfl | exact vis1 rfl | exact vis2 rfl) (by decide) (by decide)) (@pe_int _ _ _ _) (fun _ _ => rfl))) (@pe_str _ _ _ _)) (@pa_nil _) (by rfl)) (by rfl)) (by rfl))) (@pe_op _ _ _ _ _ _ _ _ op_fdiv (@pv _ 3 _ _ (by rfl) (by first | exact vis0 rfl | exact vis1 rfl | exact vis2 rfl) (by decide) (by decide)) (@pe_int _ _ _ _)) (fun _ _ => rfl)) (by rfl) (by first | exact Or.inl rfl | exact Or.inr rfl | assumption)) (@pss_cons _ _ _ _ _ (@ps_expr _ _ _ _ (@pe_bm _ _ _ _ _ _ _ _ _ _ _ _ PySem.F.plainAttrs_list PySem.F.slot_list_append PySem.F.type_list_append mt_append (@pv _ 2 _ _ (by rfl) (by first | exact vis0 rfl | exact vis1 rfl | exact vis2 rfl) (by decide) (by decide)) (@pa_cons _ _ _ _ _ (@pe_op _ _ _ _ _ _ _ _ op_addA (@pe_ix _ _ _ _ _ _ _ ix_seq (@pv _ 1 _ _ (by rfl) (by first | exact vis0 rfl | exact vis1 rfl | exact vis2 rfl) (by decide) (by decide)) (@pe_op _ _ _ _ _ _ _ _ op_mod (@pv _ 3 _ _ (by rfl) (by first | exact vis0 rfl | exact vis1 rfl | exact vis2 rfl) (by decide) (by decide)) (@pe_int _ _ _ _)) (fun _ _ => rfl)) (@pv _ 4 _ _ (by rfl) (by first | exact vis0 rfl | exact vis1 rfl | exact vis2 rfl) (by decide) (by decide))) (@pa_nil _) (by rfl)) (by rfl) (by rfl) (by rfl) (by rfl) (by rfl)) (by rfl)) (@pss_one _ _ _ (@ps_expr _ _ _ _ (@pe_bm _ _ _ _ _ _ _ _ _ _ _ _ PySem.F.plainAttrs_list PySem.F.slot_list_append PySem.F.type_list_append mt_append (@pv _ 2 _ _ (by rfl) (by first | exact vis0 rfl | exact vis1 rfl | exact vis2 rfl) (by decide) (by decide)) (@pa_cons _ _ _ _ _ (@pe_op _ _ _ _ _ _ _ _ op_addA (@pe_op _ _ _ _ _ _ _ _ op_addA (@pe_str _ _ _ _) (@pe_ix _ _ _ _ _ _ _ ix_seq (@pv _ 1 _ _ (by rfl) (by first | exact vis0 rfl | exact vis1 rfl | exact vis2 rfl) (by decide) (by decide)) (@pe_op _ _ _ _ _ _ _ _ op_mod (@pv _ 3 _ _ (by rfl) (by first | exact vis0 rfl | exact vis1 rfl | exact vis2 rfl) (by decide) (by decide)) (@pe_int _ _ _ _)) (fun _ _ => rfl))) (@pv _ 4 _ _ (by rfl) (by first | exact vis0 rfl | exact vis1 rfl | exact vis2 rfl) (by decide) (by decide))) (@pa_nil _) (by rfl)) (by rfl) (by rfl) (by rfl) (by rfl) (by rfl)) (by rfl))))) (by intro _ ; rfl)) (@pss_one _ _ _ (@ps_ret _ _ _ _ (@pv _ 2 _ _ (by rfl) (by first | exact vis0 rfl | exact vis1 rfl | exact vis2 rfl) (by decide) (by decide))))))), ?_⟩
    rw [show start n_d_l_pool [V.int c] = [some (V.int c), none, none, none, none] from rfl]
    try simp only [tSeq, tAsg, tLst, tNil, gName, List.set_cons_succ, List.set_cons_zero, tFor_eq, iRng1, tCons, tOp, tC, tVar, List.getElem?_cons_zero, exSlot, rI_int, rAddA_int, tComp_eq]
    refine ⟨5, rfl, by decide, by decide, ?_⟩
    refine comp_1 src_range (Nat.le_trans (show (5 : Int).toNat ≤ 1000 by decide) (by decide)) [some (V.int c)] rfl (fun i v => ∃ l : List Nat, v = sv l ∧ l.length ≤ 8 ∧ ∀ x ∈ l, x ∈ lows) (fun _ _ => trivial) (fun i H' R hi s hR => ?_) (fun W H1 ys hWn s1 hW hl hv => ?_)
    · try simp only [tCall, tCons, tOp, tVar, List.getElem?_cons_succ, List.getElem?_cons_zero, tC, tNil, List.append_nil, exSlot, rI_int, CDiv]
      rw [low_eq]
      refine ⟨⟨by decide, by decide⟩, _, _, lows, rfl, by decide, fun l h1 h2 => hR _ _ (Same.refl _) ⟨_, rfl, h1.2, h2⟩⟩
    have hy : ∀ i, i < 5 → ∃ l : List Nat, ys[i]? = some (sv l) ∧ l.length ≤ 8 ∧ ∀ x ∈ l, x ∈ lows := fun i hi => by
      have hi' : i < ys.length := by rw [hl]; exact hi
      obtain ⟨l, e, h⟩ := hv i ys[i] (List.getElem?_eq_getElem hi')
      exact ⟨l, by rw [List.getElem?_eq_getElem hi', e], h⟩
    have hyi : ∀ n : Int, 0 ≤ n → n < 5 → ∃ l : List Nat, atI ys n = some (sv l) ∧ l.length ≤ 8 ∧ ∀ x ∈ l, x ∈ lows := fun n h0 h5 => by
      obtain ⟨l, e, h⟩ := hy n.toNat (by omega)
      refine ⟨l, ?_, h⟩
      unfold atI ixN
      rw [if_pos h0, if_pos (by rw [hl]; exact h5)]
      exact e
    have m9 := mod_lt' (i := c) (j := 9) (by decide)
    try skip
    refine ⟨by decide, fun D hD => ?_⟩
    have hWD : W ≠ D := fun z => by rw [z, hD] at hW; cases hW
    refine ⟨by decide, _, rfl, by omega, by omega, ?_⟩
    refine for_range (n := (1 + c % 9).toNat) (lo := 0) (fun i σ H' => ∃ (pl : List Str) (k pc : Option V), σ = [some (V.int c), some (V.ref W), some (V.ref D), k, pc] ∧ Same H1 H' ∧ H' D = some (.lst (pl.map V.str)) ∧ pl.length = 2 * i ∧ ∀ z ∈ pl, OkS z) ⟨[], _, _, rfl, Same.upd hD, upd_same, rfl, by simp⟩ ?_ ?_
    · rintro i σ H2 hi ⟨pl, k, pc, rfl, s2, hD2, hpl, hok⟩
      have hW2 := s2 _ _ hW
      obtain ⟨l3, e3, b3, c3⟩ := hyi 3 (by decide) (by decide)
      obtain ⟨l4, e4, b4, c4⟩ := hyi 4 (by decide) (by decide)
      have mk3 := mod_lt' (i := (0 + (i : Int))) (j := 3) (by decide)
      obtain ⟨ln, en, bn, cn⟩ := hyi ((0 + (i : Int)) % 3) mk3.1 (by omega)
      try simp only [gName, tSeq, tAsg, tOp, tLst, tCons, tC, tVar, List.set_cons_succ, List.set_cons_zero, List.getElem?_cons_succ, List.getElem?_cons_zero, tNil, tDrop, tBM, exSlot, rI_int, CDiv]
      rw [show ("(" : Str) = mk [40] by decide +kernel, show (")" : Str) = mk [41] by decide +kernel, show ("," : Str) = mk [44] by decide +kernel, show ("-" : Str) = mk [45] by decide +kernel]
      refine rIx_lst (SqL.of hW2) e3 ?_
      try simp only [rAddA_str]
      rw [mk_app, mk_app]
      refine ⟨by rw [mk_len, mk_len]; exact Nat.le_trans (show _ ≤ 2000 by simp; omega) (by decide), by rw [mk_len, mk_len]; exact Nat.le_trans (show _ ≤ 2000 by simp; omega) (by decide), rIx_lst (SqL.of hW2) e4 ?_⟩
      try simp only [List.cons_append, List.nil_append, rAddA_str]
      rw [mk_app, mk_app]
      refine ⟨by rw [mk_len, mk_len]; exact Nat.le_trans (show _ ≤ 2000 by simp; omega) (by decide), by rw [mk_len, mk_len]; exact Nat.le_trans (show _ ≤ 2000 by simp; omega) (by decide), rIx_lst (SqL.of hW2) e3 ?_⟩
      try simp only [List.cons_append, List.nil_append, rAddA_str]
      rw [mk_app, mk_app]
      refine ⟨by rw [mk_len, mk_len]; exact Nat.le_trans (show _ ≤ 2000 by simp; omega) (by decide), by rw [mk_len, mk_len]; exact Nat.le_trans (show _ ≤ 2000 by simp; omega) (by decide), by simp only [List.length_cons, List.length_nil]; decide, fun p3 hp3 => ?_⟩
      obtain ⟨H3, e3', s3, h3⟩ := newO hp3 (.lst [V.str "", sv (40 :: (l3 ++ [41])), sv (40 :: (l4 ++ [44]) ++ l3 ++ [41])]); rw [e3']
      have d3 : 0 ≤ (0 + (i : Int)) / 3 ∧ (0 + (i : Int)) / 3 < 3 := by omega
      obtain ⟨pv, epv, hpv, _⟩ := atI_in (xs := [V.str "", sv (40 :: (l3 ++ [41])), sv (40 :: (l4 ++ [44]) ++ l3 ++ [41])]) d3.1 d3.2
      obtain ⟨pc', rfl, bpc, cpc⟩ : ∃ l : List Nat, pv = sv l ∧ l.length ≤ 30 ∧ ∀ c ∈ l, c < 128 := by
        simp only [List.mem_cons, List.not_mem_nil, or_false] at hpv
        rcases hpv with rfl | rfl | rfl
        · exact ⟨[], rfl, by simp, by simp⟩
        · refine ⟨_, rfl, by simp; omega, fun c hc => ?_⟩
          simp only [List.mem_append, List.mem_cons, List.not_mem_nil, or_false] at hc
          rcases hc with h | h | h
          · omega
          · exact low_lt (c3 c h)
          · omega
        · refine ⟨_, rfl, by simp; omega, fun c hc => ?_⟩
          simp only [List.mem_append, List.mem_cons, List.not_mem_nil, or_false] at hc
          rcases hc with ((h | h | h) | h) | h
          · omega
          · exact low_lt (c4 c h)
          · omega
          · exact low_lt (c3 c h)
          · omega
      have hW3 := s3 _ _ hW2
      have hD3 := s3 _ _ hD2
      refine ⟨⟨by decide, by decide⟩, rIx_lst (SqL.of h3) epv ?_⟩
      have o1 : OkS (mk (ln ++ pc')) := OkS.of (fun c hc => (List.mem_append.mp hc).elim (fun h => low_lt (cn c h)) (fun h => cpc c h)) (by simp; omega)
      have o2 : OkS (mk ([45] ++ ln ++ pc')) := OkS.of (fun c hc => by
        simp only [List.mem_append, List.mem_singleton] at hc
        rcases hc with (h | h) | h
        · omega
        · exact low_lt (cn c h)
        · exact cpc c h) (by simp; omega)
      have hWD3 : upd H3 D (.lst (pl.map V.str ++ [sv (ln ++ pc')])) W = some (.lst ys) := by rw [upd_ne hWD]; exact hW3
      refine ⟨.inl ⟨rfl, _, SqL.of hD3⟩, by decide, rIx_lst (SqL.of hW3) en ?_⟩
      try simp only [rAddA_str]
      rw [mk_app]
      refine ⟨by rw [mk_len, mk_len]; exact Nat.le_trans (show _ ≤ 2000 by omega) (by decide), D, _, _, rfl, rfl, hD3, Nat.lt_of_le_of_lt (show _ ≤ 1000 by rw [List.length_map]; omega) (by decide), ?_⟩
      refine ⟨.inl ⟨rfl, _, SqL.of upd_same⟩, by decide, rIx_lst (SqL.of hWD3) en ?_⟩
      try simp only [rAddA_str]
      rw [mk_app, mk_app]
      refine ⟨by rw [mk_len, mk_len]; exact Nat.le_trans (show _ ≤ 2000 by simp; omega) (by decide), by rw [mk_len, mk_len]; exact Nat.le_trans (show _ ≤ 2000 by simp; omega) (by decide), D, _, _, rfl, rfl, upd_same, Nat.lt_of_le_of_lt (show _ ≤ 1000 by simp; omega) (by decide), pl ++ [mk (ln ++ pc'), mk ([45] ++ ln ++ pc')], _, _, rfl, ?_, ?_, by simp; omega, fun z hz => ?_⟩
      · intro b o e; rw [upd_ne (ne_of_none e hD), upd_ne (ne_of_none e hD)]; exact s3 _ _ (s2 _ _ e)
      · rw [upd_same]; simp
      · rcases List.mem_append.mp hz with h | h
        · exact hok z h
        · simp only [List.mem_cons, List.not_mem_nil, or_false] at h
          rcases h with rfl | rfl
          · exact o1
          · exact o2
    · rintro σ H2 ⟨pl, k, pc, rfl, s2, hD2, hpl, hok⟩
      try simp only [tRet, tVar, List.getElem?_cons_succ, List.getElem?_cons_zero, exSlot]
      exact q D pl H2 (s1.trans s2) (none_of s1 hD) hD2 (by omega) (by omega) hok
theorem ok_d_l_row (T : Txt K mg t) : FnOk P w K mg base CX0 2 t.f_d_l_row t.fd_d_l_row ["_law_m", "_law_k", "_law_pool_here", "_law_labels_here", "_law_style"] spRow := by
  refine T.F_d_l_row.ok sc_d_l_row (fun vs H Q E h => ?_) (fun cdv A outer s H vs Q E hr h => ?_)
  · obtain ⟨m, k, st, P, L, pl, ls, rfl, hP, hp2, hp18, hpo, hL, hl12, hlo, q⟩ := h; rfl
  · obtain ⟨m, k, st, P, L, pl, ls, rfl, hP, hp2, hp18, hpo, hL, hl12, hlo, q⟩ := h
    refine ⟨_, (@pss_cons _ _ _ _ _ (@ps_set _ _ (5) _ _ _ _ sc_d_l_row.nd rfl (by first | exact Or.inl rfl | exact Or.inr rfl) (@pe_callB _ _ _ _ _ _ _ _ _ call_lenA rfl T.z_len boot_lenT (@pa_cons _ _ _ _ _ (@pv _ 2 _ _ (by rfl) (by first | exact vis0 rfl | exact vis1 rfl | exact vis2 rfl) (by decide) (by decide)) (@pa_nil _) (by rfl)) (by decide) (by decide) (by rfl) (by rfl)) (by rfl) (by first | exact Or.inl rfl | exact Or.inr rfl | assumption)) (@pss_cons _ _ _ _ _ (@ps_set _ _ (6) _ _ _ _ sc_d_l_row.nd rfl (by first | exact Or.inl rfl | exact Or.inr rfl) (@pe_ix _ _ _ _ _ _ _ ix_seq (@pv _ 2 _ _ (by rfl) (by first | exact vis0 rfl | exact vis1 rfl | exact vis2 rfl) (by decide) (by decide)) (@pe_op _ _ _ _ _ _ _ _ op_mod (@pe_op _ _ _ _ _ _ _ _ op_fdiv (@pv _ 0 _ _ (by rfl) (by first | exact vis0 rfl | exact vis1 rfl | exact vis2 rfl) (by decide) (by decide)) (@pe_int _ _ _ _)) (@pv _ 5 _ _ (by rfl) (by first | exact vis0 rfl | exact vis1 rfl | exact vis2 rfl) (by decide) (by decide))) (fun _ _ => rfl)) (by rfl) (by first | exact Or.inl rfl | exact Or.inr rfl | assumption)) (@pss_cons _ _ _ _ _ (@ps_setComp _ _ _ _ _ _ _ _ _ _ _ _ _ (7) _ _ _ (@compOk_of _ (defScope s_d_l_row) (n_d_l_row) (["_law_j", "_law_pool_here", "_law_size", "_law_m"]) ([none, some 2, some 5, some 0]) _ rfl rfl (by decide +kernel)) rfl (@pi_range1 _ _ _ _ _ _ rfl T.z_range (@pa_cons _ _ _ _ _ (@pe_op _ _ _ _ _ _ _ _ op_mod (@pe_op _ _ _ _ _ _ _ _ op_fdiv (@pv _ 0 _ _ (by rfl) (by first | exact vis0 rfl | exact vis1 rfl | exact vis2 rfl) (by decide) (by decide)) (@pe_int _ _ _ _)) (@pe_int _ _ _ _)) (@pa_nil _) (by rfl)) (by rfl)) (fun _ _ _ _ _ => (@pg_name _ _ (0) _ (show List.Nodup (["_law_j", "_law_pool_here", "_law_size", "_law_m"] : List Str) by decide +kernel) rfl (by first | exact Or.inl rfl | exact Or.inr rfl) (by first | exact Or.inl rfl | exact Or.inr rfl | assumption))) (fun _ _ _ _ _ => @pts_nil _) (fun _ _ _ _ _ => (@pe_ix _ _ _ _ _ _ _ (ix_seqK (K := K) rfl) (@pv _ 1 _ _ (by rfl) (by first | exact vis0 rfl | exact vis1 rfl | exact vis2 rfl) (by decide) (by decide)) (@pe_op _ _ _ _ _ _ _ _ op_mod (@pe_call _ _ _ _ _ _ _ _ _ _ _ _ _ _ _ _ (ok_d_l_mix T) (hr.mono (by decide)) rfl T.g_d_l_mix T.F_d_l_mix.kp T.b_d_l_mix .nil pass0 (@pa_cons _ _ _ _ _ (@pv _ 3 _ _ (by rfl) (by first | exact vis0 rfl | exact vis1 rfl | exact vis2 rfl) (by decide) (by decide)) (@pa_cons _ _ _ _ _ (@pe_op _ _ _ _ _ _ _ _ (op_addK (K := K) rfl) (@pe_int _ _ _ _) (@pv _ 0 _ _ (by rfl) (by first | exact vis0 rfl | exact vis1 rfl | exact vis2 rfl) (by decide) (by decide))) (@pa_nil _) (by rfl)) (by rfl)) (by decide) (by rfl) (by rfl)) (@pv _ 2 _ _ (by rfl) (by first | exact vis0 rfl | exact vis1 rfl | exact vis2 rfl) (by decide) (by decide))) (fun _ _ => rfl))) sc_d_l_row.nd rfl (by first | exact Or.inl rfl | exact Or.inr rfl) rfl (by intro _ ; rfl) (by first | exact Or.inl rfl | exact Or.inr rfl | assumption)) (@pss_mid _ _ _ _ _ (@ps_if _ _ _ _ _ _ _ _ (@pt_cmpR _ _ _ _ _ _ _ _ (op_eqH hr.units) (@pv _ 4 _ _ (by rfl) (by first | exact vis0 rfl | exact vis1 rfl | exact vis2 rfl) (by decide) (by decide)) (@pe_int _ _ _ _) (nomark _)) (@pss_cons _ _ _ _ _ (@ps_set _ _ (6) _ _ _ _ sc_d_l_row.nd rfl (by first | exact Or.inl rfl | exact Or.inr rfl) (@pe_ix _ _ _ _ _ _ _ ix_seq (@pv _ 2 _ _ (by rfl) (by first | exact vis0 rfl | exact vis1 rfl | exact vis2 rfl) (by decide) (by decide)) (@pe_op _ _ _ _ _ _ _ _ op_mod (@pe_op _ _ _ _ _ _ _ _ op_mul (@pe_int _ _ _ _) (@pv _ 1 _ _ (by rfl) (by first | exact vis0 rfl | exact vis1 rfl | exact vis2 rfl) (by decide) (by decide))) (@pv _ 5 _ _ (by rfl) (by first | exact vis0 rfl | exact vis1 rfl | exact vis2 rfl) (by decide) (by decide))) (fun _ _ => rfl)) (by rfl) (by first | exact Or.inl rfl | exact Or.inr rfl | assumption)) (@pss_cons _ _ _ _ _ (@ps_set _ _ (8) _ _ _ _ sc_d_l_row.nd rfl (by first | exact Or.inl rfl | exact Or.inr rfl) (@pe_ix _ _ _ _ _ _ _ ix_seq (@pe_lst _ _ _ _ (@pa_cons _ _ _ _ _ (@pe_int _ _ _ _) (@pa_cons _ _ _ _ _ (@pe_int _ _ _ _) (@pa_cons _ _ _ _ _ (@pe_int _ _ _ _) (@pa_cons _ _ _ _ _ (@pe_int _ _ _ _) (@pa_cons _ _ _ _ _ (@pe_int _ _ _ _) (@pa_cons _ _ _ _ _ (@pe_int _ _ _ _) (@pa_nil _) (by rfl)) (by rfl)) (by rfl)) (by rfl)) (by rfl)) (by rfl))) (@pe_op _ _ _ _ _ _ _ _ op_mod (@pe_op _ _ _ _ _ _ _ _ op_fdiv (@pv _ 0 _ _ (by rfl) (by first | exact vis0 rfl | exact vis1 rfl | exact vis2 rfl) (by decide) (by decide)) (@pe_int _ _ _ _)) (@pe_int _ _ _ _)) (fun _ _ => rfl)) (by rfl) (by first | exact Or.inl rfl | exact Or.inr rfl | assumption)) (@pss_one _ _ _ (@ps_setComp _ _ _ _ _ _ _ _ _ _ _ _ _ (7) _ _ _ (@compOk_of _ (defScope s_d_l_row) (n_d_l_row) (["_law_j", "_law_pool_here", "_law_size", "_law_k", "_law_m"]) ([none, some 2, some 5, some 1, some 0]) _ rfl rfl (by decide +kernel)) rfl (@pi_range1 _ _ _ _ _ _ rfl T.z_range (@pa_cons _ _ _ _ _ (@pv _ 8 _ _ (by rfl) (by first | exact vis0 rfl | exact vis1 rfl | exact vis2 rfl) (by decide) (by decide)) (@pa_nil _) (by rfl)) (by rfl)) (fun _ _ _ _ _ => (@pg_name _ _ (0) _ (show List.Nodup (["_law_j", "_law_pool_here", "_law_size", "_law_k", "_law_m"] : List Str) by decide +kernel) rfl (by first | exact Or.inl rfl | exact Or.inr rfl) (by first | exact Or.inl rfl | exact Or.inr rfl | assumption))) (fun _ _ _ _ _ => @pts_nil _) (fun _ _ _ _ _ => (@pe_ix _ _ _ _ _ _ _ (ix_seqK (K := K) rfl) (@pv _ 1 _ _ (by rfl) (by first | exact vis0 rfl | exact vis1 rfl | exact vis2 rfl) (by decide) (by decide)) (@pe_op _ _ _ _ _ _ _ _ op_mod (@pe_op _ _ _ _ _ _ _ _ op_sub (@pe_op _ _ _ _ _ _ _ _ op_sub (@pe_op _ _ _ _ _ _ _ _ op_mul (@pe_int _ _ _ _) (@pv _ 3 _ _ (by rfl) (by first | exact vis0 rfl | exact vis1 rfl | exact vis2 rfl) (by decide) (by decide))) (@pe_int _ _ _ _)) (@pe_op _ _ _ _ _ _ _ _ op_mod (@pe_call _ _ _ _ _ _ _ _ _ _ _ _ _ _ _ _ (ok_d_l_mix T) (hr.mono (by decide)) rfl T.g_d_l_mix T.F_d_l_mix.kp T.b_d_l_mix .nil pass0 (@pa_cons _ _ _ _ _ (@pv _ 4 _ _ (by rfl) (by first | exact vis0 rfl | exact vis1 rfl | exact vis2 rfl) (by decide) (by decide)) (@pa_cons _ _ _ _ _ (@pe_op _ _ _ _ _ _ _ _ (op_addK (K := K) rfl) (@pe_int _ _ _ _) (@pv _ 0 _ _ (by rfl) (by first | exact vis0 rfl | exact vis1 rfl | exact vis2 rfl) (by decide) (by decide))) (@pa_nil _) (by rfl)) (by rfl)) (by decide) (by rfl) (by rfl)) (@pe_int _ _ _ _))) (@pv _ 2 _ _ (by rfl) (by first | exact vis0 rfl | exact vis1 rfl | exact vis2 rfl) (by decide) (by decide))) (fun _ _ => rfl))) sc_d_l_row.nd rfl (by first | exact Or.inl rfl | exact Or.inr rfl) rfl (by intro _ ; rfl) (by first | exact Or.inl rfl | exact Or.inr rfl | assumption))))) (@pss_nil _)) (@pss_cons _ _ _ _ _ (@ps_set _ _ (9) _ _ _ _ sc_d_l_row.nd rfl (by first | exact Or.inl rfl | exact Or.inr rfl) (@pe_ix _ _ _ _ _ _ _ ix_seq (@pe_lst _ _ _ _ (@pa_cons _ _ _ _ _ (@pe_str _ _ _ _) (@pa_cons _ _ _ _ _ (@pe_str _ _ _ _) (@pa_cons _ _ _ _ _ (@pe_str _ _ _ _) (@pa_cons _ _ _ _ _ (@pe_str _ _ _ _) (@pa_cons _ _ _ _ _ (@pe_str _ _ _ _) (@pa_cons _ _ _ _ _ (@pe_str _ _ _ _) (@pa_cons _ _ _ _ _ (@pe_str _ _ _ _) (@pa_cons _ _ _ _ _ (@pe_str _ _ _ _) (@pa_nil _) (by rfl)) (by rfl)) (by rfl)) (by rfl)) (by rfl)) (by rfl)) (by rfl)) (by rfl))) (@pe_op _ _ _ _ _ _ _ _ op_mod (@pv _ 0 _ _ (by rfl) (by first | exact vis0 rfl | exact vis1 rfl | exact vis2 rfl) (by decide) (by decide)) (@pe_int _ _ _ _)) (fun _ _ => rfl)) (by rfl) (by first | exact Or.inl rfl | exact Or.inr rfl | assumption)) (@pss_mid _ _ _ _ _ (@ps_if _ _ _ _ _ _ _ _ (@PW.pt _ _ _ (@pw_and _ _ _ _ _ _ _ (@pt_cmpR _ _ _ _ _ _ _ _ (op_eqH hr.units) (@pv _ 9 _ _ (by rfl) (by first | exact vis0 rfl | exact vis1 rfl | exact vis2 rfl) (by decide) (by decide)) (@pe_str _ _ _ _) (nomark _)) (@pw_and1 _ _ _ _ (@PW.pt _ _ _ (@pw_or _ _ _ _ _ _ _ (@pt_cmpR _ _ _ _ _ _ _ _ (op_eqH hr.units) (@pv _ 4 _ _ (by rfl) (by first | exact vis0 rfl | exact vis1 rfl | exact vis2 rfl) (by decide) (by decide)) (@pe_int _ _ _ _) (nomark _)) (@pw_or1 _ _ _ _ (@pt_cmpR _ _ _ _ _ _ _ _ (op_eqH hr.units) (@pe_op _ _ _ _ _ _ _ _ op_mod (@pe_op _ _ _ _ _ _ _ _ op_fdiv (@pv _ 0 _ _ (by rfl) (by first | exact vis0 rfl | exact vis1 rfl | exact vis2 rfl) (by decide) (by decide)) (@pe_int _ _ _ _)) (@pe_int _ _ _ _)) (@pe_int _ _ _ _) (nomark _)))))))) (@pss_one _ _ _ (@ps_ret _ _ _ _ (@pe_tup _ _ _ _ _ (@pa_cons _ _ _ _ _ (@pv _ 9 _ _ (by rfl) (by first | exact vis0 rfl | exact vis1 rfl | exact vis2 rfl) (by decide) (by decide)) (@pa_cons _ _ _ _ _ (@pe_str _ _ _ _) (@pa_cons _ _ _ _ _ (@pv _ 6 _ _ (by rfl) (by first | exact vis0 rfl | exact vis1 rfl | exact vis2 rfl) (by decide) (by decide)) (@pa_cons _ _ _ _ _ (@pe_tup _ _ _ _ _ (@pa_nil _)) (@pa_nil _) (by rfl)) (by rfl)) (by rfl)) (by rfl))))) (@pss_nil _)) (@pss_mid _ _ _ _ _ (@ps_if _ _ _ _ _ _ _ _ (@pt_cmpR _ _ _ _ _ _ _ _ (op_eqH hr.units) (@pv _ 9 _ _ (by rfl) (by first | exact vis0 rfl | exact vis1 rfl | exact vis2 rfl) (by decide) (by decide)) (@pe_str _ _ _ _) (nomark _)) (@pss_one _ _ _ (@ps_set _ _ (9) _ _ _ _ sc_d_l_row.nd rfl (by first | exact Or.inl rfl | exact Or.inr rfl) (@pe_str _ _ _ _) (by rfl) (by first | exact Or.inl rfl | exact Or.inr rfl | assumption))) (@pss_nil _)) (@pss_one _ _ _ (@ps_ret _ _ _ _ (@pe_tup _ _ _ _ _ (@pa_cons _ _ _ _ _ (@pv _ 9 _ _ (by rfl) (by first | exact vis0 rfl | exact vis1 rfl | exact vis2 rfl) (by decide) (by decide)) (@pa_cons _ _ _ _ _ (@pe_ix _ _ _ _ _ _ _ ix_seq (@pv _ 3 _ _ (by rfl) (by first | exact vis0 rfl | exact vis1 rfl | exact vis2 rfl) (by decide) (by decide)) (@pe_op _ _ _ _ _ _ _ _ op_mod (@pe_op _ _ _ _ _ _ _ _ op_fdiv (@pv _ 0 _ _ (by rfl) (by first | exact vis0 rfl | exact vis1 rfl | exact vis2 rfl) (by decide) (by decide)) (@pe_int _ _ _ _)) (@pe_int _ _ _ _)) (fun _ _ => rfl)) (@pa_cons _ _ _ _ _ (@pv _ 6 _ _ (by rfl) (by first | exact vis0 rfl | exact vis1 rfl | exact vis2 rfl) (by decide) (by decide)) (@pa_cons _ _ _ _ _ (@pe_callTy _ _ _ _ _ _ _ _ _ call_tupOf rfl T.z_tuple boot_tupleT (@pa_cons _ _ _ _ _ (@pv _ 7 _ _ (by rfl) (by first | exact vis0 rfl | exact vis1 rfl | exact vis2 rfl) (by decide) (by decide)) (@pa_nil _) (by rfl)) (by decide) (by decide) (by rfl) (by rfl)) (@pa_nil _) (by rfl)) (by rfl)) (by rfl)) (by rfl)))))))))))), ?_⟩
    rw [show start n_d_l_row [V.int m, V.int k, V.ref P, V.ref L, V.int st] = [some (V.int m), some (V.int k), some (V.ref P), some (V.ref L), some (V.int st), none, none, none, none, none] from rfl]
    obtain ⟨z0, e0, o0⟩ := pick_in hp2 hpo (m / 8)
    have m5 := mod_lt' (i := m / 200) (j := 5) (by decide)
    try simp only [tSeq, tAsg, tCB, tCons, tVar, List.getElem?_cons_succ, List.getElem?_cons_zero, tNil, gName, tOp, List.set_cons_succ, List.set_cons_zero, tC, tComp_eq, iRng1, exSlot, rI_int, CDiv]
    refine rLenA_lst (SqL.of hP) ?_
    try simp only [rI_int]
    rw [List.length_map]
    refine ⟨⟨by decide, by decide⟩, by omega, rIx_lst (SqL.of hP) e0 ?_⟩
    try skip
    refine ⟨⟨by decide, by decide⟩, by decide, _, rfl, by omega, by omega, ?_⟩
    refine comp_1 src_range (Nat.le_trans (show (m / 200 % 5).toNat ≤ 1000 by omega) (by decide)) [some (V.ref P), some (V.int pl.length), some (V.int m)] rfl (fun i v => ∃ z, v = V.str z ∧ OkS z) (fun _ _ => trivial) (fun i H' R hi s hR => ?_) (fun B H1 ys hBn s1 hB hl hv => ?_)
    · try simp only [tOp, tVar, List.getElem?_cons_succ, List.getElem?_cons_zero, tCall, tCons, tC, tNil, List.append_nil, exSlot, rAddA_int, spMix_at, rI_int]
      intro r hr
      obtain ⟨z, e, o⟩ := pick_in hp2 hpo r
      exact ⟨by omega, rIx_lst (SqL.of (s _ _ hP)) e (hR _ _ (Same.refl _) ⟨z, rfl, o⟩)⟩
    obtain ⟨zs, rfl, hzo⟩ := strs_of hv
    have hzl : zs.length ≤ 4 := by
      rw [List.length_map] at hl; omega
    refine ⟨fun σ' H' => ∃ (hd : Str) (B : Addr) (zs : List Str) (mn : Option V), σ' = [some (V.int m), some (V.int k), some (V.ref P), some (V.ref L), some (V.int st), some (V.int pl.length), some (V.str hd), some (V.ref B), mn, none] ∧ Same H H' ∧ OkS hd ∧ H' B = some (.lst (zs.map V.str)) ∧ zs.length ≤ 4 ∧ ∀ z ∈ zs, OkS z, ?_, ?_⟩
    · try simp only [tIfS, tTest, tOp, tVar, List.getElem?_cons_succ, List.getElem?_cons_zero, tC, tSeq, tAsg, gName, tLst, tCons, tNil, List.set_cons_succ, List.set_cons_zero, exSlot, rI_int, CDiv, CMul, tNext, rEqH_int, exBl, decide_eq_true_eq]
      refine ite2 (fun c1 => ?_) (fun c1 => ⟨_, _, _, _, rfl, s1, o0, hB, hzl, hzo⟩)
      obtain ⟨z1, e1, o1⟩ := pick_in hp2 hpo (2 * k)
      have hP1 := s1 _ _ hP
      have m6 := mod_lt' (i := m / 200) (j := 6) (by decide)
      refine ⟨.inl (by decide), by omega, rIx_lst (SqL.of hP1) e1 ?_⟩
      refine ⟨by simp only [List.length_cons, List.length_nil]; decide, fun p2 hp2' => ?_⟩
      obtain ⟨H2, e2, s2, h2⟩ := newO hp2' (.lst [V.int 1, V.int 2, V.int 0, V.int 1, V.int 2, V.int 1]); rw [e2]
      obtain ⟨v6, e6, hv6, _⟩ := atI_in (xs := [V.int 1, V.int 2, V.int 0, V.int 1, V.int 2, V.int 1]) m6.1 m6.2
      obtain ⟨mn, rfl, hmn⟩ : ∃ n : Int, v6 = .int n ∧ (0 ≤ n ∧ n ≤ 2) := by
        simp only [List.mem_cons, List.not_mem_nil, or_false] at hv6
        rcases hv6 with rfl | rfl | rfl | rfl | rfl | rfl <;> exact ⟨_, rfl, by decide⟩
      refine ⟨⟨by decide, by decide⟩, by decide, rIx_lst (SqL.of h2) e6 ?_⟩
      try skip
      refine ⟨_, rfl, by omega, by omega, ?_⟩
      have hP2 := s2 _ _ hP1
      refine comp_1 src_range (Nat.le_trans (show mn.toNat ≤ 1000 by omega) (by decide)) [some (V.ref P), some (V.int pl.length), some (V.int k), some (V.int m)] rfl (fun i v => ∃ z, v = V.str z ∧ OkS z) (fun _ _ => trivial) (fun i H' R hi s hR => ?_) (fun B2 H3 ys3 hBn3 s3 hB3 hl3 hv3 => ?_)
      · try simp only [tOp, tVar, List.getElem?_cons_succ, List.getElem?_cons_zero, tC, tCall, tCons, tNil, List.append_nil, exSlot, rAddA_int, spMix_at, rI_int, CMul, rI0_int]
        refine ⟨.inl (by decide), ?_⟩
        intro r hr
        obtain ⟨z, e, o⟩ := pick_in hp2 hpo (2 * k - 2 - r % 3)
        exact ⟨by decide, by omega, rIx_lst (SqL.of (s _ _ hP2)) e (hR _ _ (Same.refl _) ⟨z, rfl, o⟩)⟩
      obtain ⟨zs3, rfl, hzo3⟩ := strs_of hv3
      exact ⟨_, _, zs3, _, rfl, (s1.trans s2).trans s3, o1, hB3, by rw [List.length_map] at hl3; omega, hzo3⟩
    clear hB hzl hzo hBn
    rintro σ' H2 ⟨hd, B, zs, mn, rfl, s2, oh, hB, hzl, hzo⟩
    have m8 := mod_lt' (i := m) (j := 8) (by decide)
    try simp only [tSeq, tAsg, tOp, tLst, tCons, tC, tNil, tVar, List.getElem?_cons_zero, gName, List.set_cons_succ, List.set_cons_zero, exSlot, rI_int]
    refine ⟨by simp only [List.length_cons, List.length_nil]; decide, fun p3 hp3 => ?_⟩
    obtain ⟨H3, e3, s3, h3⟩ := newO hp3 (.lst [V.str "fact", V.str "sure", V.str "sure", V.str "sure", V.str "sure", V.str "sure", V.str "most", V.str "block"]); rw [e3]
    obtain ⟨v8, e8, hv8, _⟩ := atI_in (xs := [V.str "fact", V.str "sure", V.str "sure", V.str "sure", V.str "sure", V.str "sure", V.str "most", V.str "block"]) m8.1 m8.2
    obtain ⟨so, rfl, hso⟩ : ∃ so : Nat, v8 = .str (sortS so) ∧ so < 4 := by
      simp only [List.mem_cons, List.not_mem_nil, or_false] at hv8
      rcases hv8 with rfl | rfl | rfl | rfl | rfl | rfl | rfl | rfl
      · exact ⟨0, rfl, by decide⟩
      all_goals first | exact ⟨1, rfl, by decide⟩ | exact ⟨2, rfl, by decide⟩ | exact ⟨3, rfl, by decide⟩
    refine ⟨by decide, rIx_lst (SqL.of h3) e8 ?_⟩
    have s03 := s2.trans s3
    have hfact : ∀ n : Nat, n < 4 → (decide (sortS n = ("fact" : Str)) = decide (n = 0)) := fun n hn => by
      match n, hn with
      | 0, _ => decide +kernel
      | 1, _ => decide +kernel
      | 2, _ => decide +kernel
      | 3, _ => decide +kernel
    have hL3 := s03 _ _ hL
    have hB3 := s3 _ _ hB
    refine ⟨fun σ' H' => σ' = [some (V.int m), some (V.int k), some (V.ref P), some (V.ref L), some (V.int st), some (V.int pl.length), some (V.str hd), some (V.ref B), mn, some (V.str (sortS so))] ∧ H3 = H', ?_, ?_⟩
    · have ret : so = 0 → ([] : List V).length ≤ sizeLine ∧ ∀ t, H3 t = none → [V.str (sortS so), V.str "", V.str hd, V.ref t].length ≤ sizeLine ∧ ∀ p, upd H3 t (.tup []) p = none → Q (.ref p) (upd (upd H3 t (.tup [])) p (.tup [V.str (sortS so), V.str "", V.str hd, V.ref t])) := fun hz => by
        refine ⟨Nat.zero_le _, fun t ht => ⟨by simp only [List.length_cons, List.length_nil]; decide, fun p hp => ?_⟩⟩
        have hpt : t ≠ p := fun z => by rw [← z, upd_same] at hp; cases hp
        have hp' : H3 p = none := by rw [upd_ne hpt.symm] at hp; exact hp
        refine q p t (so, "", hd, []) _ (s03.trans (fun b o e => ?_)) (none_of s03 hp') (none_of s03 ht) ⟨hso, fun _ => ⟨rfl, rfl⟩, OkS.of (l := []) (by simp) (by simp), oh, by simp, by simp⟩ upd_same (by rw [upd_ne hpt, upd_same]; rfl)
        rw [upd_ne (ne_of_none e hp'), upd_ne (ne_of_none e ht)]; exact e
      try simp only [tIfS, tAnd, tTest, tOp, tVar, List.getElem?_cons_succ, List.getElem?_cons_zero, tC, tOr, tRet, tTup, tCons, tNil, exSlot, tNext, rI_int, CDiv, rEqH_int, exBl, decide_eq_true_eq, ite_ft, rEqH_str]
      refine ite2 (fun c1 => ?_) (fun c1 => ⟨(by trivial), (by trivial)⟩)
      have hz : so = 0 := by
        have := hfact so hso
        rw [decide_eq_true c1] at this
        exact of_decide_eq_true this.symm
      refine ite2 (fun _ => ret hz) (fun _ => ⟨⟨by decide, by decide⟩, by decide, ite2 (fun _ => ret hz) (fun _ => ⟨(by trivial), (by trivial)⟩)⟩)
    rintro σ' H' ⟨rfl, rfl⟩
    refine ⟨fun σ' H' => ∃ so' : Nat, (so' < 4 ∧ so' ≠ 0) ∧ σ' = [some (V.int m), some (V.int k), some (V.ref P), some (V.ref L), some (V.int st), some (V.int pl.length), some (V.str hd), some (V.ref B), mn, some (V.str (sortS so'))] ∧ H3 = H', ?_, ?_⟩
    · try simp only [tIfS, tTest, tOp, tVar, List.getElem?_cons_succ, List.getElem?_cons_zero, tC, tAsg, gName, List.set_cons_succ, List.set_cons_zero, tNext, exSlot, rEqH_str, exBl, decide_eq_true_eq]
      refine ite2 (fun c1 => ⟨1, by decide, rfl, (by trivial)⟩) (fun c1 => ⟨so, ⟨hso, fun z => c1 (by rw [z]; rfl)⟩, rfl, (by trivial)⟩)
    rintro σ' H' ⟨so', hso', rfl, rfl⟩
    obtain ⟨z12, e12, o12⟩ := pick_12 hl12 hlo (m / 1000)
    try simp only [tRet, tTup, tCons, tVar, List.getElem?_cons_succ, List.getElem?_cons_zero, tOp, tC, tCB, tNil, exSlot, rI_int, CDiv]
    refine ⟨⟨by decide, by decide⟩, by decide, rIx_lst (SqL.of hL3) e12 ?_⟩
    refine ⟨B, _, rfl, .inl ⟨SqL.of hB3, fun t ht => ?_⟩⟩
    refine ⟨by simp only [List.length_cons, List.length_nil]; decide, fun p hp => ?_⟩
    have hpt : t ≠ p := fun z => by rw [← z, upd_same] at hp; cases hp
    have hp' : H3 p = none := by rw [upd_ne hpt.symm] at hp; exact hp
    refine q p t (so', z12, hd, zs) _ (s03.trans (fun b o e => ?_)) (none_of s03 hp') (none_of s03 ht) ⟨hso'.1, fun z => absurd z hso'.2, o12, oh, hzo, hzl⟩ upd_same (by rw [upd_ne hpt, upd_same])
    rw [upd_ne (ne_of_none e hp'), upd_ne (ne_of_none e ht)]; exact e
theorem ok_d_l_row_by_digits (T : Txt K mg t) : FnOk P w K mg base CX0 1 t.f_d_l_row_by_digits t.fd_d_l_row_by_digits ["_law_cell", "_law_pool_here", "_law_labels_here"] spDig := by
  refine T.F_d_l_row_by_digits.ok sc_d_l_row_by_digits (fun vs H Q E h => ?_) (fun cdv A outer s H vs Q E hr h => ?_)
  · obtain ⟨m, P, L, pl, ls, rfl, hP, hp2, hp18, hpo, hL, hl12, hlo, q⟩ := h; rfl
  · obtain ⟨m, P, L, pl, ls, rfl, hP, hp2, hp18, hpo, hL, hl12, hlo, q⟩ := h
    refine ⟨_, (@pss_cons _ _ _ _ _ (@ps_set _ _ (3) _ _ _ _ sc_d_l_row_by_digits.nd rfl (by first | exact Or.inl rfl | exact Or.inr rfl) (@pe_callB _ _ _ _ _ _ _ _ _ call_lenA rfl T.z_len boot_lenT (@pa_cons _ _ _ _ _ (@pv _ 1 _ _ (by rfl) (by first | exact vis0 rfl | exact vis1 rfl | exact vis2 rfl) (by decide) (by decide)) (@pa_nil _) (by rfl)) (by decide) (by decide) (by rfl) (by rfl)) (by rfl) (by first | exact Or.inl rfl | exact Or.inr rfl | assumption)) (@pss_cons _ _ _ _ _ (@ps_set _ _ (4) _ _ _ _ sc_d_l_row_by_digits.nd rfl (by first | exact Or.inl rfl | exact Or.inr rfl) (@pe_ix _ _ _ _ _ _ _ ix_seq (@pe_lst _ _ _ _ (@pa_cons _ _ _ _ _ (@pe_str _ _ _ _) (@pa_cons _ _ _ _ _ (@pe_str _ _ _ _) (@pa_cons _ _ _ _ _ (@pe_str _ _ _ _) (@pa_cons _ _ _ _ _ (@pe_str _ _ _ _) (@pa_cons _ _ _ _ _ (@pe_str _ _ _ _) (@pa_cons _ _ _ _ _ (@pe_str _ _ _ _) (@pa_cons _ _ _ _ _ (@pe_str _ _ _ _) (@pa_cons _ _ _ _ _ (@pe_str _ _ _ _) (@pa_nil _) (by rfl)) (by rfl)) (by rfl)) (by rfl)) (by rfl)) (by rfl)) (by rfl)) (by rfl))) (@pe_op _ _ _ _ _ _ _ _ op_mod (@pv _ 0 _ _ (by rfl) (by first | exact vis0 rfl | exact vis1 rfl | exact vis2 rfl) (by decide) (by decide)) (@pe_int _ _ _ _)) (fun _ _ => rfl)) (by rfl) (by first | exact Or.inl rfl | exact Or.inr rfl | assumption)) (@pss_cons _ _ _ _ _ (@ps_set _ _ (5) _ _ _ _ sc_d_l_row_by_digits.nd rfl (by first | exact Or.inl rfl | exact Or.inr rfl) (@pe_ix _ _ _ _ _ _ _ ix_seq (@pv _ 2 _ _ (by rfl) (by first | exact vis0 rfl | exact vis1 rfl | exact vis2 rfl) (by decide) (by decide)) (@pe_op _ _ _ _ _ _ _ _ op_mod (@pe_op _ _ _ _ _ _ _ _ op_fdiv (@pv _ 0 _ _ (by rfl) (by first | exact vis0 rfl | exact vis1 rfl | exact vis2 rfl) (by decide) (by decide)) (@pe_int _ _ _ _)) (@pe_int _ _ _ _)) (fun _ _ => rfl)) (by rfl) (by first | exact Or.inl rfl | exact Or.inr rfl | assumption)) (@pss_cons _ _ _ _ _ (@ps_set _ _ (6) _ _ _ _ sc_d_l_row_by_digits.nd rfl (by first | exact Or.inl rfl | exact Or.inr rfl) (@pe_ix _ _ _ _ _ _ _ ix_seq (@pv _ 1 _ _ (by rfl) (by first | exact vis0 rfl | exact vis1 rfl | exact vis2 rfl) (by decide) (by decide)) (@pe_op _ _ _ _ _ _ _ _ op_mod (@pe_op _ _ _ _ _ _ _ _ op_fdiv (@pv _ 0 _ _ (by rfl) (by first | exact vis0 rfl | exact vis1 rfl | exact vis2 rfl) (by decide) (by decide)) (@pe_int _ _ _ _)) (@pv _ 3 _ _ (by rfl) (by first | exact vis0 rfl | exact vis1 rfl | exact vis2 rfl) (by decide) (by decide))) (fun _ _ => rfl)) (by rfl) (by first | exact Or.inl rfl | exact Or.inr rfl | assumption)) (@pss_cons _ _ _ _ _ (@ps_set _ _ (7) _ _ _ _ sc_d_l_row_by_digits.nd rfl (by first | exact Or.inl rfl | exact Or.inr rfl) (@pe_op _ _ _ _ _ _ _ _ op_mod (@pe_op _ _ _ _ _ _ _ _ op_fdiv (@pe_op _ _ _ _ _ _ _ _ op_fdiv (@pv _ 0 _ _ (by rfl) (by first | exact vis0 rfl | exact vis1 rfl | exact vis2 rfl) (by decide) (by decide)) (@pe_int _ _ _ _)) (@pv _ 3 _ _ (by rfl) (by first | exact vis0 rfl | exact vis1 rfl | exact vis2 rfl) (by decide) (by decide))) (@pe_int _ _ _ _)) (by rfl) (by first | exact Or.inl rfl | exact Or.inr rfl | assumption)) (@pss_cons _ _ _ _ _ (@ps_set _ _ (8) _ _ _ _ sc_d_l_row_by_digits.nd rfl (by first | exact Or.inl rfl | exact Or.inr rfl) (@pe_op _ _ _ _ _ _ _ _ op_fdiv (@pe_op _ _ _ _ _ _ _ _ op_fdiv (@pv _ 0 _ _ (by rfl) (by first | exact vis0 rfl | exact vis1 rfl | exact vis2 rfl) (by decide) (by decide)) (@pe_int _ _ _ _)) (@pv _ 3 _ _ (by rfl) (by first | exact vis0 rfl | exact vis1 rfl | exact vis2 rfl) (by decide) (by decide))) (by rfl) (by first | exact Or.inl rfl | exact Or.inr rfl | assumption)) (@pss_cons _ _ _ _ _ (@ps_set _ _ (9) _ _ _ _ sc_d_l_row_by_digits.nd rfl (by first | exact Or.inl rfl | exact Or.inr rfl) (@pe_lst _ _ _ _ (@pa_nil _)) (by rfl) (by first | exact Or.inl rfl | exact Or.inr rfl | assumption)) (@pss_cons _ _ _ _ _ (@ps_for _ _ _ _ _ _ _ _ PassesOwn.never rfl (@pi_range1 _ _ _ _ _ _ rfl T.z_range (@pa_cons _ _ _ _ _ (@pv _ 7 _ _ (by rfl) (by first | exact vis0 rfl | exact vis1 rfl | exact vis2 rfl) (by decide) (by decide)) (@pa_nil _) (by rfl)) (by rfl)) (@pg_name _ _ (10) _ sc_d_l_row_by_digits.nd rfl (by first | exact Or.inl rfl | exact Or.inr rfl) (by first | exact Or.inl rfl | exact Or.inr rfl | assumption)) (@pss_cons _ _ _ _ _ (@ps_expr _ _ _ _ (@pe_bm _ _ _ _ _ _ _ _ _ _ _ _ PySem.F.plainAttrs_list PySem.F.slot_list_append PySem.F.type_list_append mt_append (@pv _ 9 _ _ (by rfl) (by first | exact vis0 rfl | exact vis1 rfl | exact vis2 rfl) (by decide) (by decide)) (@pa_cons _ _ _ _ _ (@pe_ix _ _ _ _ _ _ _ ix_seq (@pv _ 1 _ _ (by rfl) (by first | exact vis0 rfl | exact vis1 rfl | exact vis2 rfl) (by decide) (by decide)) (@pe_op _ _ _ _ _ _ _ _ op_mod (@pv _ 8 _ _ (by rfl) (by first | exact vis0 rfl | exact vis1 rfl | exact vis2 rfl) (by decide) (by decide)) (@pv _ 3 _ _ (by rfl) (by first | exact vis0 rfl | exact vis1 rfl | exact vis2 rfl) (by decide) (by decide))) (fun _ _ => rfl)) (@pa_nil _) (by rfl)) (by rfl) (by rfl) (by rfl) (by rfl) (by rfl)) (by rfl)) (@pss_one _ _ _ (@ps_set _ _ (8) _ _ _ _ sc_d_l_row_by_digits.nd rfl (by first | exact Or.inl rfl | exact Or.inr rfl) (@pe_op _ _ _ _ _ _ _ _ op_fdiv (@pv _ 8 _ _ (by rfl) (by first | exact vis0 rfl | exact vis1 rfl | exact vis2 rfl) (by decide) (by decide)) (@pv _ 3 _ _ (by rfl) (by first | exact vis0 rfl | exact vis1 rfl | exact vis2 rfl) (by decide) (by decide))) (by rfl) (by first | exact Or.inl rfl | exact Or.inr rfl | assumption)))) (by intro _ ; rfl)) (@pss_cons _ _ _ _ _ (@ps_if _ _ _ _ _ _ _ _ (@pt_cmpR _ _ _ _ _ _ _ _ (op_eqH hr.units) (@pv _ 4 _ _ (by rfl) (by first | exact vis0 rfl | exact vis1 rfl | exact vis2 rfl) (by decide) (by decide)) (@pe_str _ _ _ _) (nomark _)) (@pss_one _ _ _ (@ps_ret _ _ _ _ (@pe_tup _ _ _ _ _ (@pa_cons _ _ _ _ _ (@pv _ 4 _ _ (by rfl) (by first | exact vis0 rfl | exact vis1 rfl | exact vis2 rfl) (by decide) (by decide)) (@pa_cons _ _ _ _ _ (@pe_str _ _ _ _) (@pa_cons _ _ _ _ _ (@pv _ 6 _ _ (by rfl) (by first | exact vis0 rfl | exact vis1 rfl | exact vis2 rfl) (by decide) (by decide)) (@pa_cons _ _ _ _ _ (@pe_tup _ _ _ _ _ (@pa_nil _)) (@pa_nil _) (by rfl)) (by rfl)) (by rfl)) (by rfl))))) (@pss_nil _)) (@pss_one _ _ _ (@ps_ret _ _ _ _ (@pe_tup _ _ _ _ _ (@pa_cons _ _ _ _ _ (@pv _ 4 _ _ (by rfl) (by first | exact vis0 rfl | exact vis1 rfl | exact vis2 rfl) (by decide) (by decide)) (@pa_cons _ _ _ _ _ (@pv _ 5 _ _ (by rfl) (by first | exact vis0 rfl | exact vis1 rfl | exact vis2 rfl) (by decide) (by decide)) (@pa_cons _ _ _ _ _ (@pv _ 6 _ _ (by rfl) (by first | exact vis0 rfl | exact vis1 rfl | exact vis2 rfl) (by decide) (by decide)) (@pa_cons _ _ _ _ _ (@pe_callTy _ _ _ _ _ _ _ _ _ call_tupOf rfl T.z_tuple boot_tupleT (@pa_cons _ _ _ _ _ (@pv _ 9 _ _ (by rfl) (by first | exact vis0 rfl | exact vis1 rfl | exact vis2 rfl) (by decide) (by decide)) (@pa_nil _) (by rfl)) (by decide) (by decide) (by rfl) (by rfl)) (@pa_nil _) (by rfl)) (by rfl)) (by rfl)) (by rfl)))))))))))))), ?_⟩
    rw [show start n_d_l_row_by_digits [V.int m, V.ref P, V.ref L] = [some (V.int m), some (V.ref P), some (V.ref L), none, none, none, none, none, none, none, none] from rfl]
    have m8 := mod_lt' (i := m) (j := 8) (by decide)
    obtain ⟨z12, e12, o12⟩ := pick_12 hl12 hlo (m / 8)
    obtain ⟨z0, e0, o0⟩ := pick_in hp2 hpo (m / 96)
    have m5 := mod_lt' (i := m / 96 / (pl.length : Int)) (j := 5) (by decide)
    have h5 : (m / 96 / (pl.length : Int) % 5).toNat ≤ 4 := by
      generalize m / 96 / (pl.length : Int) = N at m5 ⊢
      omega
    try simp only [tSeq, tAsg, tCB, tCons, tVar, List.getElem?_cons_succ, List.getElem?_cons_zero, tNil, gName, tOp, tLst, tC, List.set_cons_succ, List.set_cons_zero, tFor_eq, iRng1, exSlot, rI_int, CDiv]
    refine rLenA_lst (SqL.of hP) ?_
    try simp only [rI_int, CDiv]
    rw [List.length_map]
    refine ⟨by simp only [List.length_cons, List.length_nil]; decide, fun p3 hp3 => ?_⟩
    obtain ⟨H3, e3, s3, h3⟩ := newO hp3 (.lst [V.str "fact", V.str "sure", V.str "sure", V.str "sure", V.str "sure", V.str "sure", V.str "most", V.str "block"]); rw [e3]
    obtain ⟨v8, e8, hv8, _⟩ := atI_in (xs := [V.str "fact", V.str "sure", V.str "sure", V.str "sure", V.str "sure", V.str "sure", V.str "most", V.str "block"]) m8.1 m8.2
    obtain ⟨so, rfl, hso⟩ : ∃ so : Nat, v8 = .str (sortS so) ∧ so < 4 := by
      simp only [List.mem_cons, List.not_mem_nil, or_false] at hv8
      rcases hv8 with rfl | rfl | rfl | rfl | rfl | rfl | rfl | rfl
      · exact ⟨0, rfl, by decide⟩
      all_goals first | exact ⟨1, rfl, by decide⟩ | exact ⟨2, rfl, by decide⟩ | exact ⟨3, rfl, by decide⟩
    refine ⟨by decide, rIx_lst (SqL.of h3) e8 ?_⟩
    have hL3 := s3 _ _ hL
    have hP3 := s3 _ _ hP
    try skip
    refine ⟨⟨by decide, by decide⟩, by decide, rIx_lst (SqL.of hL3) e12 ?_⟩
    refine ⟨⟨by decide, by decide⟩, by omega, rIx_lst (SqL.of hP3) e0 ?_⟩
    refine ⟨⟨by decide, by decide⟩, ⟨by omega, by omega⟩, by decide, ⟨by decide, by decide⟩, ⟨by omega, by omega⟩, by decide, fun B hB => ?_⟩
    have hPB : P ≠ B := fun z => by rw [z, hB] at hP3; cases hP3
    have hLB : L ≠ B := fun z => by rw [z, hB] at hL3; cases hL3
    refine ⟨_, rfl, by omega, by omega, ?_⟩
    refine for_range (n := (m / 96 / (pl.length : Int) % 5).toNat) (lo := 0) (fun i σ H' => ∃ (zs : List Str) (rs : Int) (j : Option V), σ = [some (V.int m), some (V.ref P), some (V.ref L), some (V.int pl.length), some (V.str (sortS so)), some (V.str z12), some (V.str z0), some (V.int (m / 96 / (pl.length : Int) % 5)), some (V.int rs), some (V.ref B), j] ∧ Same H3 H' ∧ H' B = some (.lst (zs.map V.str)) ∧ zs.length = i ∧ ∀ z ∈ zs, OkS z) ⟨[], _, _, rfl, Same.upd hB, upd_same, rfl, by simp⟩ ?_ ?_
    · rintro i σ H' hi ⟨zs, rs, j, rfl, s, hB', hzl, hzo⟩
      obtain ⟨z, e, o⟩ := pick_in hp2 hpo rs
      try simp only [gName, tSeq, tDrop, tBM, tVar, List.set_cons_succ, List.set_cons_zero, List.getElem?_cons_succ, List.getElem?_cons_zero, tCons, tOp, tNil, tAsg, exSlot, rI_int, CDiv]
      refine ⟨.inl ⟨rfl, _, SqL.of hB'⟩, by omega, rIx_lst (SqL.of (s _ _ hP3)) e ?_⟩
      refine ⟨B, _, _, rfl, rfl, hB', Nat.lt_of_le_of_lt (show _ ≤ 1000 by rw [List.length_map]; omega) (by decide), ⟨by omega, by omega⟩, zs ++ [z], _, _, rfl, ?_, ?_, by simp [hzl], fun x hx => ?_⟩
      · intro b u e; rw [upd_ne (ne_of_none e hB)]; exact s _ _ e
      · rw [upd_same]; simp
      · rcases List.mem_append.mp hx with h | h
        · exact hzo x h
        · rw [List.mem_singleton.mp h]; exact o
    rintro σ H' ⟨zs, rs, j, rfl, s, hB', hzl, hzo⟩
    have s0' := s3.trans s
    try simp only [tSeq, tIfS, tTest, tOp, tVar, List.getElem?_cons_succ, List.getElem?_cons_zero, tC, tRet, tTup, tCons, tNil, exSlot, tNext, tCB, rEqH_str, exBl, decide_eq_true_eq]
    refine ite2 (fun c1 => ?_) (fun c1 => ?_)
    · have hz : so = 0 := by
        match so, hso with
        | 0, _ => rfl
        | 1, _ => exact absurd c1 (by decide +kernel)
        | 2, _ => exact absurd c1 (by decide +kernel)
        | 3, _ => exact absurd c1 (by decide +kernel)
      refine ⟨Nat.zero_le _, fun t ht => ⟨by simp only [List.length_cons, List.length_nil]; decide, fun p hp => ?_⟩⟩
      have hpt : t ≠ p := fun z => by rw [← z, upd_same] at hp; cases hp
      have hp' : H' p = none := by rw [upd_ne hpt.symm] at hp; exact hp
      refine q p t (so, "", z0, []) _ (s0'.trans (fun b o e => ?_)) (none_of s0' hp') (none_of s0' ht) ⟨hso, fun _ => ⟨rfl, rfl⟩, OkS.of (l := []) (by simp) (by simp), o0, by simp, by simp⟩ upd_same (by rw [upd_ne hpt, upd_same]; rfl)
      rw [upd_ne (ne_of_none e hp'), upd_ne (ne_of_none e ht)]; exact e
    · refine ⟨B, _, rfl, .inl ⟨SqL.of hB', fun t ht => ?_⟩⟩
      refine ⟨by simp only [List.length_cons, List.length_nil]; decide, fun p hp => ?_⟩
      have hpt : t ≠ p := fun z => by rw [← z, upd_same] at hp; cases hp
      have hp' : H' p = none := by rw [upd_ne hpt.symm] at hp; exact hp
      refine q p t (so, z12, z0, zs) _ (s0'.trans (fun b o e => ?_)) (none_of s0' hp') (none_of s0' ht) ⟨hso, fun z => absurd (show sortS so = "fact" by rw [show so = 0 from z]; rfl) c1, o12, o0, hzo, by show zs.length ≤ 4; rw [hzl]; exact h5⟩ upd_same (by rw [upd_ne hpt, upd_same])
      rw [upd_ne (ne_of_none e hp'), upd_ne (ne_of_none e ht)]; exact e
theorem ok_d_l_rows (T : Txt K mg t) : FnOk P w K mg base CX0 3 t.f_d_l_rows t.fd_d_l_rows ["_law_script", "_law_start"] (spRows K) := by
  refine T.F_d_l_rows.ok sc_d_l_rows (fun vs H Q E h => ?_) (fun cdv A outer s H vs Q E hr h => ?_)
  · obtain ⟨a, ns, st, rfl, hS, hl, hst, q⟩ := h; rfl
  · obtain ⟨a, ns, st, rfl, hS, hl, hst, q⟩ := h
    refine ⟨_, (@pss_cons _ _ _ _ _ (@ps_set _ _ (2) _ _ _ _ sc_d_l_rows.nd rfl (by first | exact Or.inl rfl | exact Or.inr rfl) (@pe_call _ _ _ _ _ _ _ _ _ _ _ _ _ _ _ _ (ok_d_l_pool T) (hr.mono (by decide)) rfl T.g_d_l_pool T.F_d_l_pool.kp T.b_d_l_pool .nil pass0 (@pa_cons _ _ _ _ _ (@pe_call _ _ _ _ _ _ _ _ _ _ _ _ _ _ _ _ (ok_d_l_cell_at T) (hr.mono (by decide)) rfl T.g_d_l_cell_at T.F_d_l_cell_at.kp T.b_d_l_cell_at .nil pass0 (@pa_cons _ _ _ _ _ (@pv _ 0 _ _ (by rfl) (by first | exact vis0 rfl | exact vis1 rfl | exact vis2 rfl) (by decide) (by decide)) (@pa_cons _ _ _ _ _ (@pe_int _ _ _ _) (@pa_nil _) (by rfl)) (by rfl)) (by decide) (by rfl) (by rfl)) (@pa_nil _) (by rfl)) (by decide) (by rfl) (by rfl)) (by rfl) (by first | exact Or.inl rfl | exact Or.inr rfl | assumption)) (@pss_cons _ _ _ _ _ (@ps_set _ _ (3) _ _ _ _ sc_d_l_rows.nd rfl (by first | exact Or.inl rfl | exact Or.inr rfl) (@pe_call _ _ _ _ _ _ _ _ _ _ _ _ _ _ _ _ (ok_d_l_labels T) (hr.mono (by decide)) rfl T.g_d_l_labels T.F_d_l_labels.kp T.b_d_l_labels .nil pass0 (@pa_cons _ _ _ _ _ (@pe_call _ _ _ _ _ _ _ _ _ _ _ _ _ _ _ _ (ok_d_l_cell_at T) (hr.mono (by decide)) rfl T.g_d_l_cell_at T.F_d_l_cell_at.kp T.b_d_l_cell_at .nil pass0 (@pa_cons _ _ _ _ _ (@pv _ 0 _ _ (by rfl) (by first | exact vis0 rfl | exact vis1 rfl | exact vis2 rfl) (by decide) (by decide)) (@pa_cons _ _ _ _ _ (@pe_int _ _ _ _) (@pa_nil _) (by rfl)) (by rfl)) (by decide) (by rfl) (by rfl)) (@pa_nil _) (by rfl)) (by decide) (by rfl) (by rfl)) (by rfl) (by first | exact Or.inl rfl | exact Or.inr rfl | assumption)) (@pss_cons _ _ _ _ _ (@ps_set _ _ (4) _ _ _ _ sc_d_l_rows.nd rfl (by first | exact Or.inl rfl | exact Or.inr rfl) (@pe_op _ _ _ _ _ _ _ _ op_mod (@pe_call _ _ _ _ _ _ _ _ _ _ _ _ _ _ _ _ (ok_d_l_cell_at T) (hr.mono (by decide)) rfl T.g_d_l_cell_at T.F_d_l_cell_at.kp T.b_d_l_cell_at .nil pass0 (@pa_cons _ _ _ _ _ (@pv _ 0 _ _ (by rfl) (by first | exact vis0 rfl | exact vis1 rfl | exact vis2 rfl) (by decide) (by decide)) (@pa_cons _ _ _ _ _ (@pe_int _ _ _ _) (@pa_nil _) (by rfl)) (by rfl)) (by decide) (by rfl) (by rfl)) (@pe_int _ _ _ _)) (by rfl) (by first | exact Or.inl rfl | exact Or.inr rfl | assumption)) (@pss_cons _ _ _ _ _ (@ps_set _ _ (5) _ _ _ _ sc_d_l_rows.nd rfl (by first | exact Or.inl rfl | exact Or.inr rfl) (@pe_slice _ _ _ _ _ _ _ _ _ _ sl_any (@pv _ 0 _ _ (by rfl) (by first | exact vis0 rfl | exact vis1 rfl | exact vis2 rfl) (by decide) (by decide)) (@po_some _ _ _ (@pv _ 1 _ _ (by rfl) (by first | exact vis0 rfl | exact vis1 rfl | exact vis2 rfl) (by decide) (by decide))) (@po_some _ _ _ (@pe_int _ _ _ _))) (by rfl) (by first | exact Or.inl rfl | exact Or.inr rfl | assumption)) (@pss_cons _ _ _ _ _ (@ps_if _ _ _ _ _ _ _ _ (@pt_cmpR _ _ _ _ _ _ _ _ op_gt (@pv _ 4 _ _ (by rfl) (by first | exact vis0 rfl | exact vis1 rfl | exact vis2 rfl) (by decide) (by decide)) (@pe_int _ _ _ _) (nomark _)) (@pss_one _ _ _ (@ps_ret _ _ _ _ (@pe_comp _ _ _ _ _ _ _ _ _ _ _ _ _ (@compOk_of _ (defScope s_d_l_rows) (n_d_l_rows) (["_law_cell", "_law_pool_here", "_law_labels_here"]) ([none, some 2, some 3]) _ rfl rfl (by decide +kernel)) rfl (@pi_list _ _ _ _ (@pv _ 5 _ _ (by rfl) (by first | exact vis0 rfl | exact vis1 rfl | exact vis2 rfl) (by decide) (by decide))) (fun _ _ _ _ _ => (@pg_name _ _ (0) _ (show List.Nodup (["_law_cell", "_law_pool_here", "_law_labels_here"] : List Str) by decide +kernel) rfl (by first | exact Or.inl rfl | exact Or.inr rfl) (by first | exact Or.inl rfl | exact Or.inr rfl | assumption))) (fun _ _ _ _ _ => @pts_nil _) (fun _ _ _ _ _ => (@pe_call _ _ _ _ _ _ _ _ _ _ _ _ _ _ _ _ (ok_d_l_row_by_digits T) (hr.mono (by decide)) rfl T.g_d_l_row_by_digits T.F_d_l_row_by_digits.kp T.b_d_l_row_by_digits .nil pass0 (@pa_cons _ _ _ _ _ (@pv _ 0 _ _ (by rfl) (by first | exact vis0 rfl | exact vis1 rfl | exact vis2 rfl) (by decide) (by decide)) (@pa_cons _ _ _ _ _ (@pv _ 1 _ _ (by rfl) (by first | exact vis0 rfl | exact vis1 rfl | exact vis2 rfl) (by decide) (by decide)) (@pa_cons _ _ _ _ _ (@pv _ 2 _ _ (by rfl) (by first | exact vis0 rfl | exact vis1 rfl | exact vis2 rfl) (by decide) (by decide)) (@pa_nil _) (by rfl)) (by rfl)) (by rfl)) (by decide) (by rfl) (by rfl))) (by intro _ ; rfl)))) (@pss_nil _)) (@pss_one _ _ _ (@ps_ret _ _ _ _ (@pe_comp _ _ _ _ _ _ _ _ _ _ _ _ _ (@compOk_of _ (defScope s_d_l_rows) (n_d_l_rows) (["_law_k", "_law_cell", "_law_pool_here", "_law_labels_here", "_law_style"]) ([none, none, some 2, some 3, some 4]) _ rfl rfl (by decide +kernel)) rfl (@pi_enum _ _ _ _ _ _ _ _ rfl T.z_enumerate (@pa_cons _ _ _ _ _ (@pv _ 5 _ _ (by rfl) (by first | exact vis0 rfl | exact vis1 rfl | exact vis2 rfl) (by decide) (by decide)) (@pa_nil _) (by rfl)) (by rfl)) (fun _ _ _ _ _ => (@pg_tupK _ (K) _ _ _ _ (2) rfl rfl (@pgs_cons _ _ _ _ _ (@pg_name _ _ (0) _ (show List.Nodup (["_law_k", "_law_cell", "_law_pool_here", "_law_labels_here", "_law_style"] : List Str) by decide +kernel) rfl (by first | exact Or.inl rfl | exact Or.inr rfl) (by first | exact Or.inl rfl | exact Or.inr rfl | assumption)) (@pgs_cons _ _ _ _ _ (@pg_name _ _ (1) _ (show List.Nodup (["_law_k", "_law_cell", "_law_pool_here", "_law_labels_here", "_law_style"] : List Str) by decide +kernel) rfl (by first | exact Or.inl rfl | exact Or.inr rfl) (by first | exact Or.inl rfl | exact Or.inr rfl | assumption)) (@pgs_nil _) (by rfl)) (by rfl)) (by rfl) (by rfl))) (fun _ _ _ _ _ => @pts_nil _) (fun _ _ _ _ _ => (@pe_call _ _ _ _ _ _ _ _ _ _ _ _ _ _ _ _ (ok_d_l_row T) (hr.mono (by decide)) rfl T.g_d_l_row T.F_d_l_row.kp T.b_d_l_row .nil pass0 (@pa_cons _ _ _ _ _ (@pe_call _ _ _ _ _ _ _ _ _ _ _ _ _ _ _ _ (ok_d_l_mix T) (hr.mono (by decide)) rfl T.g_d_l_mix T.F_d_l_mix.kp T.b_d_l_mix .nil pass0 (@pa_cons _ _ _ _ _ (@pv _ 1 _ _ (by rfl) (by first | exact vis0 rfl | exact vis1 rfl | exact vis2 rfl) (by decide) (by decide)) (@pa_cons _ _ _ _ _ (@pv _ 0 _ _ (by rfl) (by first | exact vis0 rfl | exact vis1 rfl | exact vis2 rfl) (by decide) (by decide)) (@pa_nil _) (by rfl)) (by rfl)) (by decide) (by rfl) (by rfl)) (@pa_cons _ _ _ _ _ (@pv _ 0 _ _ (by rfl) (by first | exact vis0 rfl | exact vis1 rfl | exact vis2 rfl) (by decide) (by decide)) (@pa_cons _ _ _ _ _ (@pv _ 2 _ _ (by rfl) (by first | exact vis0 rfl | exact vis1 rfl | exact vis2 rfl) (by decide) (by decide)) (@pa_cons _ _ _ _ _ (@pv _ 3 _ _ (by rfl) (by first | exact vis0 rfl | exact vis1 rfl | exact vis2 rfl) (by decide) (by decide)) (@pa_cons _ _ _ _ _ (@pv _ 4 _ _ (by rfl) (by first | exact vis0 rfl | exact vis1 rfl | exact vis2 rfl) (by decide) (by decide)) (@pa_nil _) (by rfl)) (by rfl)) (by rfl)) (by rfl)) (by rfl)) (by decide) (by rfl) (by rfl))) (by intro _ ; rfl))))))))), ?_⟩
    rw [show start n_d_l_rows [V.ref a, V.int st] = [some (V.ref a), some (V.int st), none, none, none, none] from rfl]
    try simp only [tSeq, tAsg, tCall, tCons, tVar, List.getElem?_cons_zero, tC, tNil, List.append_nil, gName, List.set_cons_succ, List.set_cons_zero, tOp, tSl, tPart, List.getElem?_cons_succ, tIfS, tTest, tRet, tComp_eq, iList, exSlot, tNext, iEnum, exInt]
    refine ⟨a, ns, 0, rfl, hS, hl, by decide, by decide, fun c0 => ?_⟩
    refine ⟨c0, rfl, fun Pa pl H1 s1 hPn hP hp2 hp18 hpo => ?_⟩
    have hS1 : SqL K H1 a (ns.map V.int) := s1.seq hS
    try simp only []
    refine ⟨a, ns, 0, rfl, hS1, hl, by decide, by decide, fun c1 => ?_⟩
    refine ⟨c1, rfl, fun La ls H2 s2 hLn hL hl12 hlo => ?_⟩
    have hS2 : SqL K H2 a (ns.map V.int) := s2.seq hS1
    try simp only []
    refine ⟨a, ns, 1, rfl, hS2, hl, by decide, by decide, fun c2 => ?_⟩
    try simp only [rI_int, rI0_int, exBl, decide_eq_true_eq]
    refine ⟨by decide, .inr (.inl ⟨a, _, rfl, hS2, fun C hCn => ?_⟩)⟩
    have hc : ∀ v ∈ cutV (ns.map V.int) (some st) (some 63), ∃ i, v = V.int i := fun v hv => by
      have := List.mem_of_mem_drop (List.mem_of_mem_take hv)
      obtain ⟨i, _, e⟩ := List.mem_map.mp this
      exact ⟨i, e.symm⟩
    have hcl : (cutV (ns.map V.int) (some st) (some 63)).length + st.toNat ≤ 63 := by
      have h1 : (cutV (ns.map V.int) (some st) (some 63)).length ≤ ns.length - min st.toNat ns.length := by
        unfold cutV
        refine Nat.le_trans (List.length_take_le' _ _) ?_
        rw [List.length_drop, List.length_map]
        unfold HT.sIx
        dsimp only
        rw [if_neg (by omega)]
        exact Nat.le_refl _
      have := Nat.min_def (n := st.toNat) (m := ns.length)
      split at this <;> omega
    generalize cutV (ns.map V.int) (some st) (some 63) = ws at hc hcl
    obtain ⟨H3, e3, s3, h3⟩ := newO hCn (.lst ws); rw [e3]
    have s03 := (s1.trans s2).trans s3
    have hP3 := s3 _ _ (s2 _ _ hP)
    have hL3 := s3 _ _ hL
    have mono : ∀ (D : Addr) (i : Nat) (v : V) (Ha Hb : Hp), (∀ b o, b ≠ D → Ha b = some o → Hb b = some o) → RwD D v Ha → RwD D v Hb := fun D i v Ha Hb up h => by
      obtain ⟨p, t, r, e, n1, n2, ho, g1, g2⟩ := h
      exact ⟨p, t, r, e, n1, n2, ho, up _ _ n1 g1, up _ _ n2 g2⟩
    have fin : ∀ (D : Addr) (H' : Hp) (ys : List V), H3 D = none → Same H3 H' → H' D = some (.lst ys) → ys.length = ws.length → (∀ (i : Nat) v, ys[i]? = some v → RwD D v H') → Q (.ref D) H' := fun D H' ys hDn s hD hl' hv => by
      obtain ⟨rs, hA, hO⟩ := rows_all hv
      exact q D ys rs H' (s03.trans s) (none_of s03 hDn) hD hA (by rw [← hA.len, hl']; exact hcl) hO
    try simp only [exRef]
    refine ite2 (fun c1 => ?_) (fun c1 => ?_)
    · refine ⟨⟨_, SqL.of h3⟩, ?_⟩
      refine comp_1d (src_list (xs := ws)) (Nat.le_trans (show ws.length ≤ 1000 by omega) (by decide)) [some (V.ref Pa), some (V.ref La)] rfl (fun D i v H' => RwD D v H') mono (fun H' s => SqL.of (s _ _ h3)) (fun D i H' R hi hDn s hD hR => ?_) fin
      obtain ⟨c, ec⟩ := hc ws[i] (List.getElem_mem hi)
      rw [List.getElem?_eq_getElem hi, Option.getD_some, ec]
      obtain ⟨ys, hD⟩ := hD
      try simp only [tCall, tCons, tVar, List.getElem?_cons_zero, List.getElem?_cons_succ, tNil, List.append_nil, exSlot]
      refine ⟨c, Pa, La, pl, ls, rfl, s _ _ hP3, hp2, hp18, hpo, s _ _ hL3, hl12, hlo, fun p t r H'' s' hp ht ho g1 g2 => ?_⟩
      exact hR _ _ s' ⟨p, t, r, rfl, fun z => ne_of_none hD hp z.symm, fun z => ne_of_none hD ht z.symm, ho, g1, g2⟩
    · refine ⟨C, rfl, ⟨_, SqL.of h3⟩, ?_⟩
      refine comp_e (xs := ws) (Nat.le_trans (show ws.length ≤ 1000 by omega) (by decide)) [some (V.ref Pa), some (V.ref La), some (V.int (c2 % 4))] rfl (fun D i v H' => RwD D v H') mono (SqL.of h3) (fun D i H' R hi hDn s hD hR => ?_) fin
      obtain ⟨c, ec⟩ := hc ws[i] (List.getElem_mem hi)
      rw [ec]
      obtain ⟨ys, hD⟩ := hD
      try simp only [tCall, tCons, tVar, List.getElem?_cons_succ, List.getElem?_cons_zero, tNil, List.append_nil, exSlot, spMix_at]
      intro r0 hr0
      refine ⟨r0, (i : Int), c2 % 4, Pa, La, pl, ls, rfl, s _ _ hP3, hp2, hp18, hpo, s _ _ hL3, hl12, hlo, fun p t r H'' s' hp ht ho g1 g2 => ?_⟩
      exact hR _ _ s' ⟨p, t, r, rfl, fun z => ne_of_none hD hp z.symm, fun z => ne_of_none hD ht z.symm, ho, g1, g2⟩
theorem ok_c_Ground_rules (T : Txt K mg t) : FnOk P w K mg base CX0 1 t.f_c_Ground_rules t.fd_c_Ground_rules ["self"] (spGrRules t) := by
  refine T.F_c_Ground_rules.ok sc_c_Ground_rules (fun vs H Q E h => ?_) (fun cdv A outer s H vs Q E hr h => ?_)
  · obtain ⟨g, rs, pl, rfl, hG, q⟩ := h; rfl
  · obtain ⟨g, rs, pl, rfl, hG, q⟩ := h
    refine ⟨_, (@pss_one _ _ _ (@ps_ret _ _ _ _ (@pe_callTy _ _ _ _ _ _ _ _ _ call_listOf rfl T.z_list boot_listT (@pa_cons _ _ _ _ _ (@pe_fld _ _ _ _ _ (@pv _ 0 _ _ (by rfl) (by first | exact vis0 rfl | exact vis1 rfl | exact vis2 rfl) (by decide) (by decide)) rfl) (@pa_nil _) (by rfl)) (by decide) (by decide) (by rfl) (by rfl)))), ?_⟩
    rw [show start n_c_Ground_rules [V.ref g] = [some (V.ref g)] from rfl]
    obtain ⟨dx, io, bh, pr, xs, kvs, kps, h1, h2, h3, h4, h5, h6', h7'⟩ := hG
    try simp only [tRet, tCB, tCons, tFld, tVar, List.getElem?_cons_zero, tNil, exSlot]
    refine ⟨g, _, dx, _, _, rfl, h1, T.cl_Ground, T.nf_Ground_in_order, gfl_io _ _ _, io, _, rfl, .inr (SqT.of h2), fun l hl => ?_⟩
    obtain ⟨H6, e6, s6, h6⟩ := newO hl (.lst xs); rw [e6]
    exact q l xs _ s6 hl h6 (h3.same s6)
theorem ok_c_Fact_is_sure (T : Txt K mg t) : FnOk P w K mg base CX0 1 t.f_c_Fact_is_sure t.fd_c_Fact_is_sure ["self"] (spBoolR true) := by
  refine T.F_c_Fact_is_sure.ok sc_c_Fact_is_sure (fun vs H Q E h => ?_) (fun cdv A outer s H vs Q E hr h => ?_)
  · obtain ⟨x, rfl, q⟩ := h; rfl
  · obtain ⟨x, rfl, q⟩ := h
    refine ⟨_, (@pss_one _ _ _ (@ps_ret _ _ _ _ (@pe_bl _ _ _ _))), ?_⟩
    rw [show start n_c_Fact_is_sure [x] = [some (x)] from rfl]
    try simp only [tRet, tC]
    exact q
theorem ok_c_Rule_is_sure (T : Txt K mg t) : FnOk P w K mg base CX0 1 t.f_c_Rule_is_sure t.fd_c_Rule_is_sure ["self"] (spBoolR false) := by
  refine T.F_c_Rule_is_sure.ok sc_c_Rule_is_sure (fun vs H Q E h => ?_) (fun cdv A outer s H vs Q E hr h => ?_)
  · obtain ⟨x, rfl, q⟩ := h; rfl
  · obtain ⟨x, rfl, q⟩ := h
    refine ⟨_, (@pss_one _ _ _ (@ps_ret _ _ _ _ (@pe_bl _ _ _ _))), ?_⟩
    rw [show start n_c_Rule_is_sure [x] = [some (x)] from rfl]
    try simp only [tRet, tC]
    exact q
theorem ok_c_Sure_is_sure (T : Txt K mg t) : FnOk P w K mg base CX0 1 t.f_c_Sure_is_sure t.fd_c_Sure_is_sure ["self"] (spBoolR true) := by
  refine T.F_c_Sure_is_sure.ok sc_c_Sure_is_sure (fun vs H Q E h => ?_) (fun cdv A outer s H vs Q E hr h => ?_)
  · obtain ⟨x, rfl, q⟩ := h; rfl
  · obtain ⟨x, rfl, q⟩ := h
    refine ⟨_, (@pss_one _ _ _ (@ps_ret _ _ _ _ (@pe_bl _ _ _ _))), ?_⟩
    rw [show start n_c_Sure_is_sure [x] = [some (x)] from rfl]
    try simp only [tRet, tC]
    exact q
theorem ok_d_all_among (T : Txt K mg t) : FnOk P w K mg base CX0 1 t.f_d_all_among t.fd_d_all_among ["statements", "some"] spAmong := by
  refine T.F_d_all_among.ok sc_d_all_among (fun vs H Q E h => ?_) (fun cdv A outer s H vs Q E hr h => ?_)
  · obtain ⟨t0, D, bd, S, rfl, ht, hl, hD, q⟩ := h; rfl
  · obtain ⟨t0, D, bd, S, rfl, ht, hl, hD, q⟩ := h
    refine ⟨_, (@pss_one _ _ _ (@ps_ret _ _ _ _ (@pe_callB _ _ _ _ _ _ _ _ _ (call_all_bools rfl) rfl T.z_all boot_allT (@pa_cons _ _ _ _ _ (@pe_comp _ _ _ _ _ _ _ _ _ _ _ _ _ (@compOk_of _ (defScope s_d_all_among) (n_d_all_among) (["statement", "some"]) ([none, some 1]) _ rfl rfl (by decide +kernel)) rfl (@pi_tup _ _ _ _ (@pv _ 0 _ _ (by rfl) (by first | exact vis0 rfl | exact vis1 rfl | exact vis2 rfl) (by decide) (by decide))) (fun _ _ _ _ _ => (@pg_name _ _ (0) _ (show List.Nodup (["statement", "some"] : List Str) by decide +kernel) rfl (by first | exact Or.inl rfl | exact Or.inr rfl) (by first | exact Or.inl rfl | exact Or.inr rfl | assumption))) (fun _ _ _ _ _ => @pts_nil _) (fun _ _ _ _ _ => (@pe_cmp _ _ _ _ _ _ (pc_din (hu_of hr) (@pv _ 0 _ _ (by rfl) (by first | exact vis0 rfl | exact vis1 rfl | exact vis2 rfl) (by decide) (by decide)) (@pv _ 1 _ _ (by rfl) (by first | exact vis0 rfl | exact vis1 rfl | exact vis2 rfl) (by decide) (by decide))) (by with_unfolding_all rfl))) (by intro _ ; rfl)) (@pa_nil _) (by rfl)) (by decide) (by decide) (by rfl) (by rfl)))), ?_⟩
    rw [show start n_d_all_among [V.ref t0, V.ref D] = [some (V.ref t0), some (V.ref D)] from rfl]
    try simp only [tRet, tCB, tCons, tNil, tComp_eq, iTup, tVar, List.getElem?_cons_zero, exSlot, exRef]
    refine ⟨⟨_, SqT.of ht⟩, ?_⟩
    refine comp_1 (src_tup (xs := bd.map V.str)) (Nat.le_trans (show (bd.map V.str).length ≤ 1000 by simpa using hl) (by decide)) [some (V.ref D)] rfl (fun i v => ∃ hi : i < bd.length, v = .bl (decide (bd[i] ∈ S))) (fun H' s => SqT.of (s _ _ ht)) (fun i H' R hi s hR => ?_) (fun E1 H1 ys hEn s1 hE hl1 hv1 => ?_)
    · have hi' : i < bd.length := by simpa using hi
      have e2 : ((bd.map V.str)[i]?).getD .non = V.str bd[i] := by rw [List.getElem?_map, List.getElem?_eq_getElem hi']; rfl
      rw [e2]
      try simp only [tDIn, tVar, List.getElem?_cons_zero, List.getElem?_cons_succ, exSlot]
      refine ⟨D, _, rfl, bask (s _ _ hD) bd[i], ?_⟩
      refine hR _ _ (Same.refl _) ⟨hi', ?_⟩
      by_cases h : bd[i] ∈ S
      · rw [if_pos h, decide_eq_true h]; rfl
      · rw [if_neg h, decide_eq_false h]; rfl
    have eys : ys = (bd.map fun q => decide (q ∈ S)).map V.bl := by
      refine List.ext_getElem? fun i => ?_
      rw [List.getElem?_map, List.getElem?_map]
      by_cases hi : i < ys.length
      · obtain ⟨hi', e⟩ := hv1 i _ (List.getElem?_eq_getElem hi)
        rw [List.getElem?_eq_getElem hi, e, List.getElem?_eq_getElem hi']; rfl
      · rw [List.getElem?_eq_none (by omega), List.getElem?_eq_none (by rw [List.length_map] at hl1; omega)]; rfl
    subst eys
    refine ⟨E1, _, rfl, SqL.of hE, ?_⟩
    have := q _ s1
    rw [List.all_map]; exact this
theorem ok_d_keyed (T : Txt K mg t) : FnOk P w K mg base CX0 1 t.f_d_keyed t.fd_d_keyed ["some"] (spKeyed K) := by
  refine T.F_d_keyed.ok sc_d_keyed (fun vs H Q E h => ?_) (fun cdv A outer s H vs Q E hr h => ?_)
  · obtain ⟨a, kn, rfl, ha, hl, q⟩ := h; rfl
  · obtain ⟨a, kn, rfl, ha, hl, q⟩ := h
    refine ⟨_, (@pss_cons _ _ _ _ _ (@ps_set _ _ (1) _ _ _ _ sc_d_keyed.nd rfl (by first | exact Or.inl rfl | exact Or.inr rfl) (@pe_dnewK _ _) (by rfl) (by first | exact Or.inl rfl | exact Or.inr rfl | assumption)) (@pss_cons _ _ _ _ _ (@ps_for _ _ _ _ _ _ _ _ PassesOwn.never rfl (@pi_list _ _ _ _ (@pv _ 0 _ _ (by rfl) (by first | exact vis0 rfl | exact vis1 rfl | exact vis2 rfl) (by decide) (by decide))) (@pg_name _ _ (2) _ sc_d_keyed.nd rfl (by first | exact Or.inl rfl | exact Or.inr rfl) (by first | exact Or.inl rfl | exact Or.inr rfl | assumption)) (@pss_one _ _ _ (@ps_dput _ _ _ _ _ _ _ _ _ (hu_of hr) (@pv _ 1 _ _ (by rfl) (by first | exact vis0 rfl | exact vis1 rfl | exact vis2 rfl) (by decide) (by decide)) (@pv _ 2 _ _ (by rfl) (by first | exact vis0 rfl | exact vis1 rfl | exact vis2 rfl) (by decide) (by decide)) (@pe_bl _ _ _ _) rfl)) (by intro _ ; rfl)) (@pss_one _ _ _ (@ps_ret _ _ _ _ (@pv _ 1 _ _ (by rfl) (by first | exact vis0 rfl | exact vis1 rfl | exact vis2 rfl) (by decide) (by decide)))))), ?_⟩
    rw [show start n_d_keyed [V.ref a] = [some (V.ref a), none, none] from rfl]
    try simp only [tSeq, tAsg, tDNewK, gName, List.set_cons_succ, List.set_cons_zero, tFor_eq, iList, tVar, List.getElem?_cons_zero, exSlot, exRef]
    intro D hD
    refine ⟨⟨_, (Same.upd hD).seq ha⟩, ?_⟩
    refine for_list (K := K) (a := a) (xs := kn.map V.str) (fun i σ H' => ∃ x, σ = [some (V.ref a), some (V.ref D), x] ∧ Same H H' ∧ H' D = some (.dK (bv ((kn.take i).foldl putU [])))) ⟨_, rfl, Same.upd hD, upd_same⟩ (fun i σ H' _ h => by obtain ⟨_, _, s, _⟩ := h; exact s.seq ha) ?_ ?_
    · rintro i x σ H' hi ⟨y, rfl, s, hD'⟩
      have hil : i < kn.length := by simpa using (List.getElem?_eq_some_iff.mp hi).1
      have ex : x = V.str kn[i] := by
        rw [List.getElem?_map, List.getElem?_eq_getElem hil] at hi
        exact (Option.some.inj hi).symm
      subst ex
      have hlen := len_puts (kn.take i) []
      try simp only [gName, sDPut, tC, tVar, List.set_cons_succ, List.set_cons_zero, List.getElem?_cons_succ, List.getElem?_cons_zero, exSlot]
      refine ⟨D, _, rfl, bput hD' (by simp at hlen; omega) kn[i], _, rfl, ?_, ?_⟩
      · intro b o e; rw [upd_ne (ne_of_none e hD)]; exact s _ _ e
      · rw [upd_same, List.take_succ_eq_append_getElem hil, List.foldl_append]; rfl
    · rintro σ H' ⟨y, rfl, s, hD'⟩
      try simp only [tRet, tVar, List.getElem?_cons_succ, List.getElem?_cons_zero, exSlot]
      rw [List.length_map, List.take_length] at hD'
      exact q D H' s hD hD'
theorem ok_d_sure_rounds (T : Txt K mg t) : FnOk P w K mg base CX0 3 t.f_d_sure_rounds t.fd_d_sure_rounds ["rules", "known"] (spSure K t) := by
  refine T.F_d_sure_rounds.ok sc_d_sure_rounds (fun vs H Q E h => ?_) (fun cdv A outer s H vs Q E hr h => ?_)
  · obtain ⟨a, kv, xs, rs, kn, rfl, ha, hA, hO, hrl, hk, hkl, q⟩ := h; rfl
  · obtain ⟨a, kv, xs, rs, kn, rfl, ha, hA, hO, hrl, hk, hkl, q⟩ := h
    refine ⟨_, (@pss_mid _ _ _ _ _ (@ps_set _ _ (2) _ _ _ _ sc_d_sure_rounds.nd rfl (by first | exact Or.inl rfl | exact Or.inr rfl) (@pe_call _ _ _ _ _ _ _ _ _ _ _ _ _ _ _ _ (ok_d_keyed T) (hr.mono (by decide)) rfl T.g_d_keyed T.F_d_keyed.kp T.b_d_keyed .nil pass0 (@pa_cons _ _ _ _ _ (@pe_ifExp _ _ _ _ _ _ _ _ (@pt_cmpR _ _ _ _ _ _ _ _ op_isX (@pv _ 1 _ _ (by rfl) (by first | exact vis0 rfl | exact vis1 rfl | exact vis2 rfl) (by decide) (by decide)) (@pe_non _ _ _) (nomark _)) (@pe_lst _ _ _ _ (@pa_nil _)) (@pv _ 1 _ _ (by rfl) (by first | exact vis0 rfl | exact vis1 rfl | exact vis2 rfl) (by decide) (by decide))) (@pa_nil _) (by rfl)) (by decide) (by rfl) (by rfl)) (by rfl) (by first | exact Or.inl rfl | exact Or.inr rfl | assumption)) (@pss_cons _ _ _ _ _ (@ps_setComp _ _ _ _ _ _ _ _ _ _ _ _ _ (3) _ _ _ (@compOk_of _ (defScope s_d_sure_rounds) (n_d_sure_rounds) (["rule", "sure"]) ([none, some 2]) _ rfl rfl (by decide +kernel)) rfl (@pi_list _ _ _ _ (@pv _ 0 _ _ (by rfl) (by first | exact vis0 rfl | exact vis1 rfl | exact vis2 rfl) (by decide) (by decide))) (fun _ _ _ _ _ => (@pg_name _ _ (0) _ (show List.Nodup (["rule", "sure"] : List Str) by decide +kernel) rfl (by first | exact Or.inl rfl | exact Or.inr rfl) (by first | exact Or.inl rfl | exact Or.inr rfl | assumption))) (fun _ _ _ _ _ => @pts_one _ _ _ (@PW.pt _ _ _ (@pw_and _ _ _ _ _ _ _ (@pt_val _ _ _ (@pe_alt _ _ _ _ (@pe_meth0 _ _ _ _ _ _ _ _ _ _ _ _ _ _ _ _ _ (@pv _ 0 _ _ (by rfl) (by first | exact vis0 rfl | exact vis1 rfl | exact vis2 rfl) (by decide) (by decide)) T.cl_Fact T.me_Fact_is_sure (ok_c_Fact_is_sure T) (hr.mono (by decide)) T.b_c_Fact_is_sure .nil pass0 (by rfl)) (@pe_alt _ _ _ _ (@pe_meth0 _ _ _ _ _ _ _ _ _ _ _ _ _ _ _ _ _ (@pv _ 0 _ _ (by rfl) (by first | exact vis0 rfl | exact vis1 rfl | exact vis2 rfl) (by decide) (by decide)) T.cl_Sure T.me_Sure_is_sure (ok_c_Sure_is_sure T) (hr.mono (by decide)) T.b_c_Sure_is_sure .nil pass0 (by rfl)) (@pe_alt _ _ _ _ (@pe_meth0 _ _ _ _ _ _ _ _ _ _ _ _ _ _ _ _ _ (@pv _ 0 _ _ (by rfl) (by first | exact vis0 rfl | exact vis1 rfl | exact vis2 rfl) (by decide) (by decide)) T.cl_Most T.me_Most_is_sure (ok_c_Rule_is_sure T) (hr.mono (by decide)) T.b_c_Rule_is_sure .nil pass0 (by rfl)) (@pe_meth0 _ _ _ _ _ _ _ _ _ _ _ _ _ _ _ _ _ (@pv _ 0 _ _ (by rfl) (by first | exact vis0 rfl | exact vis1 rfl | exact vis2 rfl) (by decide) (by decide)) T.cl_Block T.me_Block_is_sure (ok_c_Rule_is_sure T) (hr.mono (by decide)) T.b_c_Rule_is_sure .nil pass0 (by rfl))))) (by intro _ ; rfl)) (@pw_and1 _ _ _ _ (@pt_cmp _ _ _ _ _ _ (@pc_dnotin _ _ _ _ _ (hu_of hr) (@pe_fldK _ (K) _ _ _ _ rfl (@pv _ 0 _ _ (by rfl) (by first | exact vis0 rfl | exact vis1 rfl | exact vis2 rfl) (by decide) (by decide)) rfl) (@pv _ 1 _ _ (by rfl) (by first | exact vis0 rfl | exact vis1 rfl | exact vis2 rfl) (by decide) (by decide))) (by with_unfolding_all rfl)))))) (fun _ _ _ _ _ => (@pv _ 0 _ _ (by rfl) (by first | exact vis0 rfl | exact vis1 rfl | exact vis2 rfl) (by decide) (by decide))) sc_d_sure_rounds.nd rfl (by first | exact Or.inl rfl | exact Or.inr rfl) rfl (by intro _ ; rfl) (by first | exact Or.inl rfl | exact Or.inr rfl | assumption)) (@pss_cons _ _ _ _ _ (@ps_set _ _ (4) _ _ _ _ sc_d_sure_rounds.nd rfl (by first | exact Or.inl rfl | exact Or.inr rfl) (@pe_dnewK _ _) (by rfl) (by first | exact Or.inl rfl | exact Or.inr rfl | assumption)) (@pss_cons _ _ _ _ _ (@ps_set _ _ (5) _ _ _ _ sc_d_sure_rounds.nd rfl (by first | exact Or.inl rfl | exact Or.inr rfl) (@pe_int _ _ _ _) (by rfl) (by first | exact Or.inl rfl | exact Or.inr rfl | assumption)) (@pss_cons _ _ _ _ _ (@ps_setComp _ _ _ _ _ _ _ _ _ _ _ _ _ (6) _ _ _ (@compOk_of _ (defScope s_d_sure_rounds) (n_d_sure_rounds) (["rule", "sure"]) ([none, some 2]) _ rfl rfl (by decide +kernel)) rfl (@pi_list _ _ _ _ (@pv _ 3 _ _ (by rfl) (by first | exact vis0 rfl | exact vis1 rfl | exact vis2 rfl) (by decide) (by decide))) (fun _ _ _ _ _ => (@pg_name _ _ (0) _ (show List.Nodup (["rule", "sure"] : List Str) by decide +kernel) rfl (by first | exact Or.inl rfl | exact Or.inr rfl) (by first | exact Or.inl rfl | exact Or.inr rfl | assumption))) (fun _ _ _ _ _ => @pts_one _ _ _ (@pt_val _ _ _ (@pe_call _ _ _ _ _ _ _ _ _ _ _ _ _ _ _ _ (ok_d_all_among T) (hr.mono (by decide)) rfl T.g_d_all_among T.F_d_all_among.kp T.b_d_all_among .nil pass0 (@pa_cons _ _ _ _ _ (@pe_fldK _ (K) _ _ _ _ rfl (@pv _ 0 _ _ (by rfl) (by first | exact vis0 rfl | exact vis1 rfl | exact vis2 rfl) (by decide) (by decide)) rfl) (@pa_cons _ _ _ _ _ (@pv _ 1 _ _ (by rfl) (by first | exact vis0 rfl | exact vis1 rfl | exact vis2 rfl) (by decide) (by decide)) (@pa_nil _) (by rfl)) (by rfl)) (by decide) (by rfl) (by rfl)) (by intro _ ; rfl))) (fun _ _ _ _ _ => (@pe_fldK _ (K) _ _ _ _ rfl (@pv _ 0 _ _ (by rfl) (by first | exact vis0 rfl | exact vis1 rfl | exact vis2 rfl) (by decide) (by decide)) rfl)) sc_d_sure_rounds.nd rfl (by first | exact Or.inl rfl | exact Or.inr rfl) rfl (by intro _ ; rfl) (by first | exact Or.inl rfl | exact Or.inr rfl | assumption)) (@pss_cons _ _ _ _ _ (@ps_while _ _ _ _ _ _ PassesOwn.never (@pt_cmpR _ _ _ _ _ _ _ _ op_gt (@pe_callB _ _ _ _ _ _ _ _ _ call_lenA rfl T.z_len boot_lenT (@pa_cons _ _ _ _ _ (@pv _ 6 _ _ (by rfl) (by first | exact vis0 rfl | exact vis1 rfl | exact vis2 rfl) (by decide) (by decide)) (@pa_nil _) (by rfl)) (by decide) (by decide) (by rfl) (by rfl)) (@pe_int _ _ _ _) (nomark _)) (@pss_cons _ _ _ _ _ (@ps_for _ _ _ _ _ _ _ _ PassesOwn.never rfl (@pi_list _ _ _ _ (@pv _ 6 _ _ (by rfl) (by first | exact vis0 rfl | exact vis1 rfl | exact vis2 rfl) (by decide) (by decide))) (@pg_name _ _ (7) _ sc_d_sure_rounds.nd rfl (by first | exact Or.inl rfl | exact Or.inr rfl) (by first | exact Or.inl rfl | exact Or.inr rfl | assumption)) (@pss_cons _ _ _ _ _ (@ps_dput _ _ _ _ _ _ _ _ _ (hu_of hr) (@pv _ 4 _ _ (by rfl) (by first | exact vis0 rfl | exact vis1 rfl | exact vis2 rfl) (by decide) (by decide)) (@pv _ 7 _ _ (by rfl) (by first | exact vis0 rfl | exact vis1 rfl | exact vis2 rfl) (by decide) (by decide)) (@pv _ 5 _ _ (by rfl) (by first | exact vis0 rfl | exact vis1 rfl | exact vis2 rfl) (by decide) (by decide)) rfl) (@pss_one _ _ _ (@ps_dput _ _ _ _ _ _ _ _ _ (hu_of hr) (@pv _ 2 _ _ (by rfl) (by first | exact vis0 rfl | exact vis1 rfl | exact vis2 rfl) (by decide) (by decide)) (@pv _ 7 _ _ (by rfl) (by first | exact vis0 rfl | exact vis1 rfl | exact vis2 rfl) (by decide) (by decide)) (@pe_bl _ _ _ _) rfl))) (by intro _ ; rfl)) (@pss_cons _ _ _ _ _ (@ps_setComp _ _ _ _ _ _ _ _ _ _ _ _ _ (3) _ _ _ (@compOk_of _ (defScope s_d_sure_rounds) (n_d_sure_rounds) (["rule", "sure"]) ([none, some 2]) _ rfl rfl (by decide +kernel)) rfl (@pi_list _ _ _ _ (@pv _ 3 _ _ (by rfl) (by first | exact vis0 rfl | exact vis1 rfl | exact vis2 rfl) (by decide) (by decide))) (fun _ _ _ _ _ => (@pg_name _ _ (0) _ (show List.Nodup (["rule", "sure"] : List Str) by decide +kernel) rfl (by first | exact Or.inl rfl | exact Or.inr rfl) (by first | exact Or.inl rfl | exact Or.inr rfl | assumption))) (fun _ _ _ _ _ => @pts_one _ _ _ (@pt_cmp _ _ _ _ _ _ (@pc_dnotin _ _ _ _ _ (hu_of hr) (@pe_fldK _ (K) _ _ _ _ rfl (@pv _ 0 _ _ (by rfl) (by first | exact vis0 rfl | exact vis1 rfl | exact vis2 rfl) (by decide) (by decide)) rfl) (@pv _ 1 _ _ (by rfl) (by first | exact vis0 rfl | exact vis1 rfl | exact vis2 rfl) (by decide) (by decide))) (by with_unfolding_all rfl))) (fun _ _ _ _ _ => (@pv _ 0 _ _ (by rfl) (by first | exact vis0 rfl | exact vis1 rfl | exact vis2 rfl) (by decide) (by decide))) sc_d_sure_rounds.nd rfl (by first | exact Or.inl rfl | exact Or.inr rfl) rfl (by intro _ ; rfl) (by first | exact Or.inl rfl | exact Or.inr rfl | assumption)) (@pss_cons _ _ _ _ _ (@ps_set _ _ (5) _ _ _ _ sc_d_sure_rounds.nd rfl (by first | exact Or.inl rfl | exact Or.inr rfl) (@pe_op _ _ _ _ _ _ _ _ op_addA (@pv _ 5 _ _ (by rfl) (by first | exact vis0 rfl | exact vis1 rfl | exact vis2 rfl) (by decide) (by decide)) (@pe_int _ _ _ _)) (by rfl) (by first | exact Or.inl rfl | exact Or.inr rfl | assumption)) (@pss_one _ _ _ (@ps_setComp _ _ _ _ _ _ _ _ _ _ _ _ _ (6) _ _ _ (@compOk_of _ (defScope s_d_sure_rounds) (n_d_sure_rounds) (["rule", "sure"]) ([none, some 2]) _ rfl rfl (by decide +kernel)) rfl (@pi_list _ _ _ _ (@pv _ 3 _ _ (by rfl) (by first | exact vis0 rfl | exact vis1 rfl | exact vis2 rfl) (by decide) (by decide))) (fun _ _ _ _ _ => (@pg_name _ _ (0) _ (show List.Nodup (["rule", "sure"] : List Str) by decide +kernel) rfl (by first | exact Or.inl rfl | exact Or.inr rfl) (by first | exact Or.inl rfl | exact Or.inr rfl | assumption))) (fun _ _ _ _ _ => @pts_one _ _ _ (@pt_val _ _ _ (@pe_call _ _ _ _ _ _ _ _ _ _ _ _ _ _ _ _ (ok_d_all_among T) (hr.mono (by decide)) rfl T.g_d_all_among T.F_d_all_among.kp T.b_d_all_among .nil pass0 (@pa_cons _ _ _ _ _ (@pe_fldK _ (K) _ _ _ _ rfl (@pv _ 0 _ _ (by rfl) (by first | exact vis0 rfl | exact vis1 rfl | exact vis2 rfl) (by decide) (by decide)) rfl) (@pa_cons _ _ _ _ _ (@pv _ 1 _ _ (by rfl) (by first | exact vis0 rfl | exact vis1 rfl | exact vis2 rfl) (by decide) (by decide)) (@pa_nil _) (by rfl)) (by rfl)) (by decide) (by rfl) (by rfl)) (by intro _ ; rfl))) (fun _ _ _ _ _ => (@pe_fldK _ (K) _ _ _ _ rfl (@pv _ 0 _ _ (by rfl) (by first | exact vis0 rfl | exact vis1 rfl | exact vis2 rfl) (by decide) (by decide)) rfl)) sc_d_sure_rounds.nd rfl (by first | exact Or.inl rfl | exact Or.inr rfl) rfl (by intro _ ; rfl) (by first | exact Or.inl rfl | exact Or.inr rfl | assumption))))))) (@pss_one _ _ _ (@ps_ret _ _ _ _ (@pv _ 4 _ _ (by rfl) (by first | exact vis0 rfl | exact vis1 rfl | exact vis2 rfl) (by decide) (by decide)))))))))), ?_⟩
    rw [show start n_d_sure_rounds [V.ref a, kv] = [some (V.ref a), some (kv), none, none, none, none, none, none] from rfl]
    have hkl' : (kn.foldl putU []).length ≤ 100 := Nat.le_trans (len_puts kn []) (by simpa using hkl)
    have hkn : (kn.foldl putU []).Nodup := nodup_puts kn (by simp)
    try simp only [tComp_eq, iList, tVar]
    refine ⟨fun σ' H' => ∃ D, σ' = [some (V.ref a), some kv, some (V.ref D), none, none, none, none, none] ∧ Same H H' ∧ H D = none ∧ H' D = some (.dK (bv (kn.foldl putU []))), ?_, ?_⟩
    · rcases hk with ⟨rfl, rfl⟩ | ⟨b, rfl, hb⟩
      · try simp only [tAsg, tCall, tCons, tIf, tTest, tOp, tVar, List.getElem?_cons_succ, List.getElem?_cons_zero, tC, tLst, tNil, List.append_nil, gName, List.set_cons_succ, List.set_cons_zero, exSlot, rIsN_non, exBl]
        refine ⟨by decide, fun p hp => ?_⟩
        obtain ⟨H1, e1, s1, h1⟩ := newO hp (.lst []); rw [e1]
        exact ⟨p, [], rfl, SqL.of h1, by decide, fun D H' s hD hD' => ⟨D, rfl, s1.trans s, none_of s1 hD, hD'⟩⟩
      · try simp only [tAsg, tCall, tCons, tIf, tTest, tOp, tVar, List.getElem?_cons_succ, List.getElem?_cons_zero, tC, tLst, tNil, List.append_nil, gName, List.set_cons_succ, List.set_cons_zero, exSlot, rIsN_ref, exBl, ite_ft]
        exact ⟨b, kn, rfl, hb, by omega, fun D H' s hD hD' => ⟨D, rfl, s, hD, hD'⟩⟩
    rintro σ H1 ⟨D, rfl, s1, hD, hD1⟩
    generalize kn.foldl putU [] = k0 at hD1 hkl' hkn q
    obtain ⟨zr, ez1, ez2, hz⟩ := hA.zip hO
    subst ez1 ez2
    have hzl : zr.length ≤ 100 := by simpa using hrl
    try simp only [tSeq, List.getElem?_cons_zero, tAsg, tDNewK, gName, tC, List.set_cons_succ, List.set_cons_zero, List.getElem?_cons_succ, exSlot, exRef]
    refine ⟨⟨_, SqL.of (s1 _ _ ha)⟩, ?_⟩
    refine comp_ru zr (s1 _ _ ha) (by omega) (hz.same s1) [some (V.ref D)] rfl (fun r => (srW r).1 && decide ((srW r).2.1 ∉ k0)) (fun p => p.1) (fun x r H' R ho hr s hR => ?_) (fun x r H' R ho hr s hR => ?_) (fun W H2 hWn s2 hW2 => ?_)
    · try simp only [tAnd, tB, tDNotIn, tFld, tVar, List.getElem?_cons_zero, List.getElem?_cons_succ, exBl, exSlot]
      have CF := clsF T ho.1
      refine alt4 ho.1 (tVar_go rfl) hr ⟨by decide +kernel, by decide +kernel, by decide +kernel⟩ ?_
      rw [pick_sure ho.1]
      try simp only [spBoolR_at, exBl, decide_eq_true_eq]
      obtain ⟨dx, t0, h1, h2⟩ := hr
      have := hR _ (Same.refl _)
      refine ite2 (fun c => ?_) (fun c => ?_)
      · have e1 : (srW r).1 = true := decide_eq_true (by have := c; omega)
        refine ⟨x, _, dx, _, _, rfl, h1, CF.cl, CF.nh, flds_head _ _ _, D, _, rfl, bask (s _ _ hD1) _, ?_⟩
        rw [e1, Bool.true_and] at this
        by_cases h : r.2.2.1 ∈ k0
        · rw [if_pos h]; rw [decide_eq_false (show ¬ ¬ (srW r).2.1 ∈ k0 from fun z => z h)] at this; exact this
        · rw [if_neg h]; rw [decide_eq_true (show ¬ (srW r).2.1 ∈ k0 from h)] at this; exact this
      · have e1 : (srW r).1 = false := decide_eq_false (by have := c; omega)
        rw [e1, Bool.false_and] at this; exact this
    · try simp only [tVar, List.getElem?_cons_zero, exSlot]
      exact hR _ (Same.refl _)
    try simp only [exRef]
    obtain ⟨RS, eRS⟩ : ∃ RS, (zr.map (·.2)).map srW = RS := ⟨_, rfl⟩
    rw [eRS] at q
    have hRl : RS.length ≤ 100 := by rw [← eRS]; simpa using hzl
    intro R hR0
    obtain ⟨H3, e3, s3, hR3⟩ := newO hR0 (.dK []); rw [e3]
    have hD3 := s3 _ _ (s2 _ _ hD1)
    have hW3 := s3 _ _ hW2
    have s03 := (s1.trans s2).trans s3
    have hRn : H R = none := none_of (s1.trans s2) hR0
    have hDR : D ≠ R := fun z => by have e := s2 _ _ hD1; rw [z, hR0] at e; cases e
    refine ⟨⟨_, SqL.of hW3⟩, ?_⟩
    have hAm : ∀ (S : List Str) (x : Addr) (r : Rw) (H' : Hp) (R : Bool → Hp → Prop), RwOk r → RuleAt H' x (clsOf t r.1) (.str r.2.1) (.str r.2.2.1) (r.2.2.2.map V.str) → H' D = some (.dK (bv S)) → (∀ H'', Same H' H'' → R ((srW r).2.2.all fun q => decide (q ∈ S)) H'') → tB (tCall spAmong [] E0 (tCons (tFld K (tVar 0) "body") (tCons (tVar 1) tNil))) [some (V.ref x), some (V.ref D)] H' R := by
      intro S x r H' R ho hr hD' hR
      have CF := clsF T ho.1
      obtain ⟨dx, t0, h1, h2⟩ := hr
      try simp only [tB, tCall, tCons, tFld, tVar, List.getElem?_cons_zero, List.getElem?_cons_succ, tNil, List.append_nil, exSlot]
      refine ⟨x, _, dx, _, _, rfl, h1, CF.cl, CF.nb, flds_body _ _ _, ?_⟩
      refine ⟨t0, D, r.2.2.2, S, rfl, h2, by have := ho.2.2.2.2.2; omega, hD', fun H'' s'' => ?_⟩
      try simp only [exBl]
      exact hR _ s''
    have hHd : ∀ (x : Addr) (r : Rw) (H' : Hp) (R : V → Hp → Prop), RwOk r → RuleAt H' x (clsOf t r.1) (.str r.2.1) (.str r.2.2.1) (r.2.2.2.map V.str) → (∀ H'', Same H' H'' → R (V.str (srW r).2.1) H'') → tFld K (tVar 0) "head" [some (V.ref x), some (V.ref D)] H' R := by
      intro x r H' R ho hr hR
      have CF := clsF T ho.1
      obtain ⟨dx, t0, h1, h2⟩ := hr
      try simp only [tFld, tVar, List.getElem?_cons_zero, exSlot]
      exact ⟨x, _, dx, _, _, rfl, h1, CF.cl, CF.nh, flds_head _ _ _, hR _ (Same.refl _)⟩
    refine comp_ru (wat zr k0) hW3 (Nat.le_trans (wat_len _ _) (by omega)) ((wat_ok hz).same s03) [some (V.ref D)] rfl (fun r => (srW r).2.2.all fun q => decide (q ∈ k0)) (fun p => V.str (srW p.2).2.1) (fun x r H' R ho hr s hR => hAm k0 x r H' R ho hr (s _ _ hD3) hR) (fun x r H' R ho hr s hR => hHd x r H' R ho hr hR) (fun F H4 hFn s4 hF4 => ?_)
    rw [frs_wait, eRS] at hF4
    refine while_w (fun m σ H' => ∃ (n : Nat) (W F : Addr) (x7 : Option V), σ = [some (V.ref a), some kv, some (V.ref D), some (V.ref W), some (V.ref R), some (V.int ((n : Int) + 1)), some (V.ref F), x7] ∧ Same H H' ∧ H' D = some (.dK (bv (sS RS k0 n))) ∧ H' R = some (.dK (dv (sR RS k0 n))) ∧ H' W = some (.lst ((wat zr (sS RS k0 n)).map (·.1))) ∧ H' F = some (.lst ((frs RS (sS RS k0 n)).map V.str)) ∧ m = lack RS (sS RS k0 n))
      (lack RS k0) ⟨0, W, F, _, rfl, s03.trans s4, s4 _ _ hD3, s4 _ _ hR3, s4 _ _ hW3, hF4, rfl⟩ ?_
    clear hF4 hFn s4 hW3 hW2 hWn
    rintro m σ H4 ⟨n, W, F, x7, rfl, s4, hD4, hR4, hW4, hF4, hm⟩
    have hfl := frs_len RS (sS RS k0 n)
    have hSl := sS_len (rs := RS) hkn n
    have hRl' := sR_len (rs := RS) hkn n
    try simp only [tTest, tOp, tCB, tCons, tVar, List.getElem?_cons_succ, List.getElem?_cons_zero, tNil, tC, tSeq, tFor_eq, iList, exSlot, exRef, tRet]
    refine rLenA_lst (SqL.of hF4) ?_
    rw [List.length_map]
    try simp only [rI0_int, exBl, decide_eq_true_eq]
    refine ite2 (fun c1 => ?_) (fun c1 => ?_)
    · have hne : frs RS (sS RS k0 n) ≠ [] := fun z => by rw [z] at c1; exact absurd c1 (by decide)
      refine ⟨fun σ' H' => ∃ m', m' < m ∧ ∃ (n : Nat) (W F : Addr) (x7 : Option V), σ' = [some (V.ref a), some kv, some (V.ref D), some (V.ref W), some (V.ref R), some (V.int ((n : Int) + 1)), some (V.ref F), x7] ∧ Same H H' ∧ H' D = some (.dK (bv (sS RS k0 n))) ∧ H' R = some (.dK (dv (sR RS k0 n))) ∧ H' W = some (.lst ((wat zr (sS RS k0 n)).map (·.1))) ∧ H' F = some (.lst ((frs RS (sS RS k0 n)).map V.str)) ∧ m' = lack RS (sS RS k0 n), fun _ _ h => h, ⟨_, SqL.of hF4⟩, ?_⟩
      have hFD : F ≠ D := ne_of hF4 hD4 (by intro z; cases z)
      have hFR : F ≠ R := ne_of hF4 hR4 (by intro z; cases z)
      have hWD : W ≠ D := ne_of hW4 hD4 (by intro z; cases z)
      have hWR : W ≠ R := ne_of hW4 hR4 (by intro z; cases z)
      refine for_list (K := K) (a := F) (xs := (frs RS (sS RS k0 n)).map V.str) (fun j σ H' => ∃ (x7 : Option V), σ = [some (V.ref a), some kv, some (V.ref D), some (V.ref W), some (V.ref R), some (V.int ((n : Int) + 1)), some (V.ref F), x7] ∧ Same H H' ∧ H' D = some (.dK (bv (((frs RS (sS RS k0 n)).take j).foldl putU (sS RS k0 n)))) ∧ H' R = some (.dK (dv (((frs RS (sS RS k0 n)).take j).foldl (putN (n + 1)) (sR RS k0 n)))) ∧ H' W = some (.lst ((wat zr (sS RS k0 n)).map (·.1))) ∧ H' F = some (.lst ((frs RS (sS RS k0 n)).map V.str)))
        ⟨_, rfl, s4, hD4, hR4, hW4, hF4⟩ (fun j σ H' _ h => by obtain ⟨_, _, _, _, _, _, h⟩ := h; exact SqL.of h) ?_ ?_
      · rintro j x σ H5 hj ⟨x9, rfl, s5, hD5, hR5, hW5, hF5⟩
        have hjl : j < (frs RS (sS RS k0 n)).length := by simpa using (List.getElem?_eq_some_iff.mp hj).1
        have ex : x = V.str (frs RS (sS RS k0 n))[j] := by
          rw [List.getElem?_map, List.getElem?_eq_getElem hjl] at hj
          exact (Option.some.inj hj).symm
        subst ex
        have hnew := frs_new (List.getElem_mem hjl)
        rw [List.take_succ_eq_append_getElem hjl, List.foldl_append, List.foldl_append]
        have hlkt : lk (((frs RS (sS RS k0 n)).take j).foldl (putN (n + 1)) (sR RS k0 n)) (frs RS (sS RS k0 n))[j] = none ∨ lk (((frs RS (sS RS k0 n)).take j).foldl (putN (n + 1)) (sR RS k0 n)) (frs RS (sS RS k0 n))[j] = some (n + 1) := by
          rw [lk_putsN fun h hh => .inl (frs_new (List.mem_of_mem_take hh)), hnew]
          split
          · exact .inr rfl
          · exact .inl rfl
        have l1 := len_puts ((frs RS (sS RS k0 n)).take j) (sS RS k0 n)
        have l2 := len_putsN (n + 1) ((frs RS (sS RS k0 n)).take j) (sR RS k0 n)
        have l3 : ((frs RS (sS RS k0 n)).take j).length ≤ 100 := by rw [List.length_take]; omega
        have nd := nodup_putsN (n + 1) ((frs RS (sS RS k0 n)).take j) (keysR_nodup (rs := RS) (kn := k0) n)
        generalize ((frs RS (sS RS k0 n)).take j).foldl (putN (n + 1)) (sR RS k0 n) = R5 at hR5 l2 nd hlkt
        generalize ((frs RS (sS RS k0 n)).take j).foldl putU (sS RS k0 n) = S5 at hD5 l1
        try simp only [gName, tSeq, sDPut, tVar, List.set_cons_succ, List.set_cons_zero, List.getElem?_cons_succ, List.getElem?_cons_zero, tC, exSlot]
        refine ⟨R, _, rfl, rput (n := n + 1) hR5 (by omega) nd hlkt, ?_⟩
        refine ⟨D, _, rfl, bput (by rw [upd_ne hDR]; exact hD5) (by omega) _, _, rfl, ?_, upd_same, ?_, ?_, ?_⟩
        · intro b o e; rw [upd_ne (ne_of_none e hD), upd_ne (ne_of_none e hRn)]; exact s5 _ _ e
        · rw [upd_ne hDR.symm, upd_same]; rfl
        · rw [upd_ne hWD, upd_ne hWR]; exact hW5
        · rw [upd_ne hFD, upd_ne hFR]; exact hF5
      · rintro σ H5 ⟨x9, rfl, s5, hD5, hR5, hW5, hF5⟩
        rw [List.length_map, List.take_length] at hD5 hR5
        have hD5' : H5 D = some (.dK (bv (sS RS k0 (n + 1)))) := hD5
        have hR5' : H5 R = some (.dK (dv (sR RS k0 (n + 1)))) := hR5
        clear hD5 hR5
        have hsub : ∀ x, x ∈ sS RS k0 n → x ∈ sS RS k0 (n + 1) := fun x hx => sS_mem.mpr (.inl hx)
        have hlack := lack_less hne
        try simp only [tSeq, List.getElem?_cons_succ, List.getElem?_cons_zero, tAsg, tOp, tVar, List.set_cons_succ, List.set_cons_zero, tC, gName, exSlot, rAddA_int, exRef]
        refine ⟨⟨_, SqL.of hW5⟩, ?_⟩
        refine comp_ru (wat zr (sS RS k0 n)) hW5 (Nat.le_trans (wat_len _ _) (by omega)) ((wat_ok hz).same s5) [some (V.ref D)] rfl (fun r => decide ((srW r).2.1 ∉ sS RS k0 (n + 1))) (fun p => p.1) (fun x r H' R ho hr s hR => ?_) (fun x r H' R ho hr s hR => ?_) (fun W' H6 hWn s6 hW6 => ?_)
        · have CF := clsF T ho.1
          obtain ⟨dx, t0, h1, h2⟩ := hr
          try simp only [tB, tDNotIn, tFld, tVar, List.getElem?_cons_zero, List.getElem?_cons_succ, exBl, exSlot]
          refine ⟨x, _, dx, _, _, rfl, h1, CF.cl, CF.nh, flds_head _ _ _, D, _, rfl, bask (s _ _ hD5') _, ?_⟩
          have := hR _ (Same.refl _)
          by_cases h : r.2.2.1 ∈ sS RS k0 (n + 1)
          · rw [if_pos h]; rw [decide_eq_false (show ¬ ¬ (srW r).2.1 ∈ sS RS k0 (n + 1) from fun z => z h)] at this; exact this
          · rw [if_neg h]; rw [decide_eq_true (show ¬ (srW r).2.1 ∈ sS RS k0 (n + 1) from h)] at this; exact this
        · try simp only [tVar, List.getElem?_cons_zero, exSlot]
          exact hR _ (Same.refl _)
        rw [wat_on zr hsub] at hW6
        have hD6 := s6 _ _ hD5'
        try simp only [exRef]
        refine ⟨⟨_, SqL.of hW6⟩, ?_⟩
        refine comp_ru (wat zr (sS RS k0 (n + 1))) hW6 (Nat.le_trans (wat_len _ _) (by omega)) ((wat_ok hz).same (s5.trans s6)) [some (V.ref D)] rfl (fun r => (srW r).2.2.all fun q => decide (q ∈ sS RS k0 (n + 1))) (fun p => V.str (srW p.2).2.1) (fun x r H' R ho hr s hR => hAm _ x r H' R ho hr (s _ _ hD6) hR) (fun x r H' R ho hr s hR => hHd x r H' R ho hr hR) (fun F' H7 hFn s7 hF7 => ?_)
        rw [frs_wait, eRS] at hF7
        have s57 := s6.trans s7
        exact ⟨_, by rw [hm]; exact hlack, n + 1, W', F', _, rfl, s5.trans s57, s57 _ _ hD5', s57 _ _ hR5', s7 _ _ hW6, hF7, rfl⟩
    · have he : frs RS (sS RS k0 n) = [] := by
        cases e : frs RS (sS RS k0 n) with
        | nil => rfl
        | cons x l => rw [e] at c1; exact absurd (by simp only [List.length_cons]; omega) c1
      rw [fin_at he] at hR4
      try skip
      exact q R H4 s4 hRn hR4
theorem ok_d_sure_steps (T : Txt K mg t) : FnOk P w K mg base CX0 4 t.f_d_sure_steps t.fd_d_sure_steps ["ground"] (spSteps t) := by
  refine T.F_d_sure_steps.okC sc_d_sure_steps (fun vs H Q E h => ?_) (fun A outer s H vs Q E hr h => ?_)
  · obtain ⟨g, rs, pl, rfl, hG, hO, hrl, lt, q⟩ := h; rfl
  · obtain ⟨g, rs, pl, rfl, hG, hO, hrl, lt, q⟩ := h
    refine ⟨_, (@pss_cons _ _ _ _ _ (@ps_set _ _ (1) _ _ _ _ sc_d_sure_steps.nd rfl (by first | exact Or.inl rfl | exact Or.inr rfl) (@pe_call _ _ _ _ _ _ _ _ _ _ _ _ _ _ _ _ (ok_d_sure_rounds T) (hr.mono (by decide)) rfl T.g_d_sure_rounds T.F_d_sure_rounds.kp T.bd_d_sure_rounds (.cons (show RelV .non Value.none from rfl) .nil) pass0 (@pa_cons _ _ _ _ _ (@pe_meth0 _ _ _ _ _ _ _ _ _ _ _ _ _ _ _ _ _ (@pv _ 0 _ _ (by rfl) (by first | exact vis0 rfl | exact vis1 rfl | exact vis2 rfl) (by decide) (by decide)) T.cl_Ground T.me_Ground_rules (ok_c_Ground_rules T) (hr.mono (by decide)) T.b_c_Ground_rules .nil pass0 (by rfl)) (@pa_nil _) (by rfl)) (by decide) (by rfl) (by rfl)) (by rfl) (by first | exact Or.inl rfl | exact Or.inr rfl | assumption)) (@pss_one _ _ _ (@ps_ret _ _ _ _ (@pe_sortK _ _ _ _ _ _ _ ("statement") _ _ _ _ _ (["ranks"]) ([some 1]) _ (lamq_d_sure_steps) (0) rfl rfl (hr.mono (by decide)) rfl T.z_sorted T.L_d_sure_steps T.LB (@pv _ 1 _ _ (by rfl) (by first | exact vis0 rfl | exact vis1 rfl | exact vis2 rfl) (by decide) (by decide)) (@compOk_of _ (defScope s_d_sure_steps) (n_d_sure_steps) (["statement", "ranks"]) ([none, some 1]) _ rfl rfl (by decide +kernel)) rfl rfl rfl (fun _ _ _ _ _ _ => rfl) lamq_d_sure_steps_eq rfl (fun _ _ _ _ _ _ hr => (@pe_tup _ _ _ _ _ (@pa_cons _ _ _ _ _ (@pe_dget _ _ _ _ _ _ (hu_of hr) (@pv _ 1 _ _ (by rfl) (by first | exact vis0 rfl | exact vis1 rfl | exact vis2 rfl) (by decide) (by decide)) (@pv _ 0 _ _ (by rfl) (by first | exact vis0 rfl | exact vis1 rfl | exact vis2 rfl) (by decide) (by decide)) (fun _ _ => rfl)) (@pa_cons _ _ _ _ _ (@pv _ 0 _ _ (by rfl) (by first | exact vis0 rfl | exact vis1 rfl | exact vis2 rfl) (by decide) (by decide)) (@pa_nil _) (by rfl)) (by rfl)))) (by rfl))))), ?_⟩
    rw [show start n_d_sure_steps [V.ref g] = [some (V.ref g), none] from rfl]
    obtain ⟨dx, io, bh, pr, _, _, _, hg1, _⟩ := id hG
    try simp only [tSeq, tAsg, tCall, tCons, tMeth, tVar, List.getElem?_cons_zero, tNil, List.append_nil, List.cons_append, List.nil_append, gName, tRet, tSortK, List.set_cons_succ, List.set_cons_zero, List.getElem?_cons_succ, exSlot]
    refine ⟨g, dx, _, rfl, hg1, gfl_no _ _ _ (by decide +kernel) (by decide +kernel) (by decide +kernel), g, rs, pl, rfl, hG, fun W ys H1 s1 hWn hW1 hR1 => ?_⟩
    refine ⟨W, _, ys, rs, [], rfl, hW1, hR1, hO, by omega, .inl ⟨rfl, rfl⟩, by decide, fun Fd H2 s2 hFn hF2 => ?_⟩
    obtain ⟨F, eF⟩ : ∃ F, FIN (rs.map srW) [] = F := ⟨_, rfl⟩
    have hF2' : H2 Fd = some (.dK (dv F)) := by rw [← eF]; exact hF2
    have hFn' : (F.map (·.1)).Nodup := by rw [← eF]; exact fin_nodup _ _
    have hFl : F.length ≤ 63 := by rw [← eF]; exact Nat.le_trans (fin_len rs) hrl
    have lt2 := lt.mono (s1.trans s2)
    try skip
    refine ⟨Fd, dv F, F.map (·.1), gF (rs.map srW), rfl, hF2', dv_keys F, by rw [List.length_map]; omega, hFn', lt2, fun z hz H3 k3 => ?_, fun l H' ss lt' k' hln hl' hp hs => ?_⟩
    · have hF3 := get_on lt2 k3 hF2' (by intro _ z; cases z)
      try simp only [tTup, tCons, tDGet, tVar, List.getElem?_cons_succ, List.getElem?_cons_zero, tNil, exRef, exSlot]
      obtain ⟨p0, hp0, rfl⟩ := List.mem_map.mp hz
      have hlk := lk_of hFn' hp0
      have hg : gF (rs.map srW) p0.1 = (p0.2 : Int) := by unfold gF; rw [eF, hlk]; rfl
      have hd := DGet.k (k := (Sum.inr p0.1 : Key)) hF3
      rw [valV_dv, hlk] at hd
      exact ⟨_, rfl, Fd, _, rfl, hd, by simp only [List.length_cons, List.length_nil]; decide, fun p hp => ⟨by rw [upd_same, hg], Same.upd hp⟩⟩
    · exact q l ss H' lt' (fun a o n e => k' a o n (s2 _ _ (s1 _ _ e))) (none_of (s1.trans s2) hln) hl' ⟨by rw [eF]; exact hp, hs⟩
theorem ok_d_law (T : Txt K mg t) : FnOk P w K mg base CX0 8 t.f_d_law t.fd_d_law ["_law_script"] (spLaw t.TB_d_sure_steps K) := by
  refine T.F_d_law.ok sc_d_law (fun vs H Q E h => ?_) (fun cdv A outer s H vs Q E hr h => ?_)
  · obtain ⟨a, ns, rfl, hS, hl, lt, q⟩ := h; rfl
  · obtain ⟨a, ns, rfl, hS, hl, lt, q⟩ := h
    refine ⟨_, (@pss_cons _ _ _ _ _ (@ps_set _ _ (1) _ _ _ _ sc_d_law.nd rfl (by first | exact Or.inl rfl | exact Or.inr rfl) (@pe_call _ _ _ _ _ _ _ _ _ _ _ _ _ _ _ _ (ok_d_l_rows T) (hr.mono (by decide)) rfl T.g_d_l_rows T.F_d_l_rows.kp T.b_d_l_rows .nil pass0 (@pa_cons _ _ _ _ _ (@pv _ 0 _ _ (by rfl) (by first | exact vis0 rfl | exact vis1 rfl | exact vis2 rfl) (by decide) (by decide)) (@pa_cons _ _ _ _ _ (@pe_int _ _ _ _) (@pa_nil _) (by rfl)) (by rfl)) (by decide) (by rfl) (by rfl)) (by rfl) (by first | exact Or.inl rfl | exact Or.inr rfl | assumption)) (@pss_cons _ _ _ _ _ (@ps_setComp _ _ _ _ _ _ _ _ _ _ _ _ _ (2) _ _ _ (@compOk_of _ (defScope s_d_law) (n_d_law) (["_law_row_here"]) ([none]) _ rfl rfl (by decide +kernel)) rfl (@pi_list _ _ _ _ (@pv _ 1 _ _ (by rfl) (by first | exact vis0 rfl | exact vis1 rfl | exact vis2 rfl) (by decide) (by decide))) (fun _ _ _ _ _ => (@pg_name _ _ (0) _ (show List.Nodup (["_law_row_here"] : List Str) by decide +kernel) rfl (by first | exact Or.inl rfl | exact Or.inr rfl) (by first | exact Or.inl rfl | exact Or.inr rfl | assumption))) (fun _ _ _ _ _ => @pts_nil _) (fun _ _ _ _ _ => (@pe_call _ _ _ _ _ _ _ _ _ _ _ _ _ _ _ _ (ok_d_l_made T) (hr.mono (by decide)) rfl T.g_d_l_made T.F_d_l_made.kp T.b_d_l_made .nil pass0 (@pa_cons _ _ _ _ _ (@pv _ 0 _ _ (by rfl) (by first | exact vis0 rfl | exact vis1 rfl | exact vis2 rfl) (by decide) (by decide)) (@pa_nil _) (by rfl)) (by decide) (by rfl) (by rfl))) sc_d_law.nd rfl (by first | exact Or.inl rfl | exact Or.inr rfl) rfl (by intro _ ; rfl) (by first | exact Or.inl rfl | exact Or.inr rfl | assumption)) (@pss_cons _ _ _ _ _ (@ps_set _ _ (3) _ _ _ _ sc_d_law.nd rfl (by first | exact Or.inl rfl | exact Or.inr rfl) (@pe_call _ _ _ _ _ _ _ _ _ _ _ _ _ _ _ _ (ok_d_l_pairs T) (hr.mono (by decide)) rfl T.g_d_l_pairs T.F_d_l_pairs.kp T.b_d_l_pairs .nil pass0 (@pa_cons _ _ _ _ _ (@pe_call _ _ _ _ _ _ _ _ _ _ _ _ _ _ _ _ (ok_d_l_cell_at T) (hr.mono (by decide)) rfl T.g_d_l_cell_at T.F_d_l_cell_at.kp T.b_d_l_cell_at .nil pass0 (@pa_cons _ _ _ _ _ (@pv _ 0 _ _ (by rfl) (by first | exact vis0 rfl | exact vis1 rfl | exact vis2 rfl) (by decide) (by decide)) (@pa_cons _ _ _ _ _ (@pe_int _ _ _ _) (@pa_nil _) (by rfl)) (by rfl)) (by decide) (by rfl) (by rfl)) (@pa_nil _) (by rfl)) (by decide) (by rfl) (by rfl)) (by rfl) (by first | exact Or.inl rfl | exact Or.inr rfl | assumption)) (@pss_cons _ _ _ _ _ (@ps_set _ _ (4) _ _ _ _ sc_d_law.nd rfl (by first | exact Or.inl rfl | exact Or.inr rfl) (@pe_make _ _ _ _ _ _ _ _ _ _ _ _ _ _ _ _ _ T.mk_Ground (ok_c_Ground_init T) (hr.mono (by decide)) rfl T.g_Ground T.b_c_Ground_init .nil pass0 (@pa_cons _ _ _ _ _ (@pv _ 2 _ _ (by rfl) (by first | exact vis0 rfl | exact vis1 rfl | exact vis2 rfl) (by decide) (by decide)) (@pa_cons _ _ _ _ _ (@pv _ 3 _ _ (by rfl) (by first | exact vis0 rfl | exact vis1 rfl | exact vis2 rfl) (by decide) (by decide)) (@pa_nil _) (by rfl)) (by rfl)) (by decide) (by rfl) (by rfl)) (by rfl) (by first | exact Or.inl rfl | exact Or.inr rfl | assumption)) (@pss_cons _ _ _ _ _ (@ps_set _ _ (5) _ _ _ _ sc_d_law.nd rfl (by first | exact Or.inl rfl | exact Or.inr rfl) (@pe_call _ _ _ _ _ _ _ _ _ _ _ _ _ _ _ _ (ok_d_sure_steps T) (hr.mono (by decide)) rfl T.g_d_sure_steps T.F_d_sure_steps.kp T.b_d_sure_steps .nil pass0 (@pa_cons _ _ _ _ _ (@pv _ 4 _ _ (by rfl) (by first | exact vis0 rfl | exact vis1 rfl | exact vis2 rfl) (by decide) (by decide)) (@pa_nil _) (by rfl)) (by decide) (by rfl) (by rfl)) (by rfl) (by first | exact Or.inl rfl | exact Or.inr rfl | assumption)) (@pss_cons _ _ _ _ _ (@ps_set _ _ (6) _ _ _ _ sc_d_law.nd rfl (by first | exact Or.inl rfl | exact Or.inr rfl) (@pe_call _ _ _ _ _ _ _ _ _ _ _ _ _ _ _ _ (ok_d_l_due T) (hr.mono (by decide)) rfl T.g_d_l_due T.F_d_l_due.kp T.b_d_l_due .nil pass0 (@pa_cons _ _ _ _ _ (@pv _ 1 _ _ (by rfl) (by first | exact vis0 rfl | exact vis1 rfl | exact vis2 rfl) (by decide) (by decide)) (@pa_nil _) (by rfl)) (by decide) (by rfl) (by rfl)) (by rfl) (by first | exact Or.inl rfl | exact Or.inr rfl | assumption)) (@pss_mid _ _ _ _ _ (@ps_if _ _ _ _ _ _ _ _ (@PW.pt _ _ _ (@pw_or _ _ _ _ _ _ _ (@pt_not _ _ _ _ (@pt_val _ _ _ (@pe_callB _ _ _ _ _ _ _ _ _ call_isinst rfl T.z_isinstance boot_isinstanceT (@pa_cons _ _ _ _ _ (@pv _ 5 _ _ (by rfl) (by first | exact vis0 rfl | exact vis1 rfl | exact vis2 rfl) (by decide) (by decide)) (@pa_cons _ _ _ _ _ (@pe_bltn _ _ (.ty "list") _ _ rfl T.z_list boot_listT rfl (by decide) (by decide)) (@pa_nil _) (by rfl)) (by rfl)) (by decide) (by decide) (by rfl) (by rfl)) (by intro _ ; rfl))) (@pw_or _ _ _ _ _ _ _ (@pt_cmpR _ _ _ _ _ _ _ _ (op_neH hr.units) (@pv _ 5 _ _ (by rfl) (by first | exact vis0 rfl | exact vis1 rfl | exact vis2 rfl) (by decide) (by decide)) (@pv _ 6 _ _ (by rfl) (by first | exact vis0 rfl | exact vis1 rfl | exact vis2 rfl) (by decide) (by decide)) (nomark _)) (@pw_or1 _ _ _ _ (@pt_cmpR _ _ _ _ _ _ _ _ (op_neH hr.units) (@pe_call _ _ _ _ _ _ _ _ _ _ _ _ _ _ _ _ (ok_d_sure_steps T) (hr.mono (by decide)) rfl T.g_d_sure_steps T.F_d_sure_steps.kp T.b_d_sure_steps .nil pass0 (@pa_cons _ _ _ _ _ (@pe_make _ _ _ _ _ _ _ _ _ _ _ _ _ _ _ _ _ T.mk_Ground (ok_c_Ground_init T) (hr.mono (by decide)) rfl T.g_Ground T.b_c_Ground_init .nil pass0 (@pa_cons _ _ _ _ _ (@pe_listRev _ _ _ _ _ _ _ rfl rfl T.z_list rfl T.z_reversed (@pv _ 2 _ _ (by rfl) (by first | exact vis0 rfl | exact vis1 rfl | exact vis2 rfl) (by decide) (by decide)) (by rfl) (by rfl)) (@pa_cons _ _ _ _ _ (@pv _ 3 _ _ (by rfl) (by first | exact vis0 rfl | exact vis1 rfl | exact vis2 rfl) (by decide) (by decide)) (@pa_nil _) (by rfl)) (by rfl)) (by decide) (by rfl) (by rfl)) (@pa_nil _) (by rfl)) (by decide) (by rfl) (by rfl)) (@pv _ 6 _ _ (by rfl) (by first | exact vis0 rfl | exact vis1 rfl | exact vis2 rfl) (by decide) (by decide)) (nomark _)))))) (@pss_one _ _ _ (@ps_ret _ _ _ _ (@pe_bl _ _ _ _))) (@pss_nil _)) (@pss_cons _ _ _ _ _ (@ps_set _ _ (7) _ _ _ _ sc_d_law.nd rfl (by first | exact Or.inl rfl | exact Or.inr rfl) (@pe_call _ _ _ _ _ _ _ _ _ _ _ _ _ _ _ _ (ok_d_l_pool T) (hr.mono (by decide)) rfl T.g_d_l_pool T.F_d_l_pool.kp T.b_d_l_pool .nil pass0 (@pa_cons _ _ _ _ _ (@pe_call _ _ _ _ _ _ _ _ _ _ _ _ _ _ _ _ (ok_d_l_cell_at T) (hr.mono (by decide)) rfl T.g_d_l_cell_at T.F_d_l_cell_at.kp T.b_d_l_cell_at .nil pass0 (@pa_cons _ _ _ _ _ (@pv _ 0 _ _ (by rfl) (by first | exact vis0 rfl | exact vis1 rfl | exact vis2 rfl) (by decide) (by decide)) (@pa_cons _ _ _ _ _ (@pe_int _ _ _ _) (@pa_nil _) (by rfl)) (by rfl)) (by decide) (by rfl) (by rfl)) (@pa_nil _) (by rfl)) (by decide) (by rfl) (by rfl)) (by rfl) (by first | exact Or.inl rfl | exact Or.inr rfl | assumption)) (@pss_cons _ _ _ _ _ (@ps_set _ _ (8) _ _ _ _ sc_d_law.nd rfl (by first | exact Or.inl rfl | exact Or.inr rfl) (@pe_call _ _ _ _ _ _ _ _ _ _ _ _ _ _ _ _ (ok_d_l_labels T) (hr.mono (by decide)) rfl T.g_d_l_labels T.F_d_l_labels.kp T.b_d_l_labels .nil pass0 (@pa_cons _ _ _ _ _ (@pe_call _ _ _ _ _ _ _ _ _ _ _ _ _ _ _ _ (ok_d_l_cell_at T) (hr.mono (by decide)) rfl T.g_d_l_cell_at T.F_d_l_cell_at.kp T.b_d_l_cell_at .nil pass0 (@pa_cons _ _ _ _ _ (@pv _ 0 _ _ (by rfl) (by first | exact vis0 rfl | exact vis1 rfl | exact vis2 rfl) (by decide) (by decide)) (@pa_cons _ _ _ _ _ (@pe_int _ _ _ _) (@pa_nil _) (by rfl)) (by rfl)) (by decide) (by rfl) (by rfl)) (@pa_nil _) (by rfl)) (by decide) (by rfl) (by rfl)) (by rfl) (by first | exact Or.inl rfl | exact Or.inr rfl | assumption)) (@pss_cons _ _ _ _ _ (@ps_set _ _ (9) _ _ _ _ sc_d_law.nd rfl (by first | exact Or.inl rfl | exact Or.inr rfl) (@pe_call _ _ _ _ _ _ _ _ _ _ _ _ _ _ _ _ (ok_d_l_row T) (hr.mono (by decide)) rfl T.g_d_l_row T.F_d_l_row.kp T.b_d_l_row .nil pass0 (@pa_cons _ _ _ _ _ (@pe_call _ _ _ _ _ _ _ _ _ _ _ _ _ _ _ _ (ok_d_l_mix T) (hr.mono (by decide)) rfl T.g_d_l_mix T.F_d_l_mix.kp T.b_d_l_mix .nil pass0 (@pa_cons _ _ _ _ _ (@pe_call _ _ _ _ _ _ _ _ _ _ _ _ _ _ _ _ (ok_d_l_cell_at T) (hr.mono (by decide)) rfl T.g_d_l_cell_at T.F_d_l_cell_at.kp T.b_d_l_cell_at .nil pass0 (@pa_cons _ _ _ _ _ (@pv _ 0 _ _ (by rfl) (by first | exact vis0 rfl | exact vis1 rfl | exact vis2 rfl) (by decide) (by decide)) (@pa_cons _ _ _ _ _ (@pe_int _ _ _ _) (@pa_nil _) (by rfl)) (by rfl)) (by decide) (by rfl) (by rfl)) (@pa_cons _ _ _ _ _ (@pe_int _ _ _ _) (@pa_nil _) (by rfl)) (by rfl)) (by decide) (by rfl) (by rfl)) (@pa_cons _ _ _ _ _ (@pe_op _ _ _ _ _ _ _ _ op_mod (@pe_call _ _ _ _ _ _ _ _ _ _ _ _ _ _ _ _ (ok_d_l_cell_at T) (hr.mono (by decide)) rfl T.g_d_l_cell_at T.F_d_l_cell_at.kp T.b_d_l_cell_at .nil pass0 (@pa_cons _ _ _ _ _ (@pv _ 0 _ _ (by rfl) (by first | exact vis0 rfl | exact vis1 rfl | exact vis2 rfl) (by decide) (by decide)) (@pa_cons _ _ _ _ _ (@pe_int _ _ _ _) (@pa_nil _) (by rfl)) (by rfl)) (by decide) (by rfl) (by rfl)) (@pe_int _ _ _ _)) (@pa_cons _ _ _ _ _ (@pv _ 7 _ _ (by rfl) (by first | exact vis0 rfl | exact vis1 rfl | exact vis2 rfl) (by decide) (by decide)) (@pa_cons _ _ _ _ _ (@pv _ 8 _ _ (by rfl) (by first | exact vis0 rfl | exact vis1 rfl | exact vis2 rfl) (by decide) (by decide)) (@pa_cons _ _ _ _ _ (@pe_int _ _ _ _) (@pa_nil _) (by rfl)) (by rfl)) (by rfl)) (by rfl)) (by rfl)) (by decide) (by rfl) (by rfl)) (by rfl) (by first | exact Or.inl rfl | exact Or.inr rfl | assumption)) (@pss_cons _ _ _ _ _ (@ps_set _ _ (10) _ _ _ _ sc_d_law.nd rfl (by first | exact Or.inl rfl | exact Or.inr rfl) (@pe_call _ _ _ _ _ _ _ _ _ _ _ _ _ _ _ _ (ok_d_sure_steps T) (hr.mono (by decide)) rfl T.g_d_sure_steps T.F_d_sure_steps.kp T.b_d_sure_steps .nil pass0 (@pa_cons _ _ _ _ _ (@pe_make _ _ _ _ _ _ _ _ _ _ _ _ _ _ _ _ _ T.mk_Ground (ok_c_Ground_init T) (hr.mono (by decide)) rfl T.g_Ground T.b_c_Ground_init .nil pass0 (@pa_cons _ _ _ _ _ (@pe_op _ _ _ _ _ _ _ _ op_addA (@pe_lst _ _ _ _ (@pa_cons _ _ _ _ _ (@pe_call _ _ _ _ _ _ _ _ _ _ _ _ _ _ _ _ (ok_d_l_made T) (hr.mono (by decide)) rfl T.g_d_l_made T.F_d_l_made.kp T.b_d_l_made .nil pass0 (@pa_cons _ _ _ _ _ (@pv _ 9 _ _ (by rfl) (by first | exact vis0 rfl | exact vis1 rfl | exact vis2 rfl) (by decide) (by decide)) (@pa_nil _) (by rfl)) (by decide) (by rfl) (by rfl)) (@pa_nil _) (by rfl))) (@pv _ 2 _ _ (by rfl) (by first | exact vis0 rfl | exact vis1 rfl | exact vis2 rfl) (by decide) (by decide))) (@pa_cons _ _ _ _ _ (@pv _ 3 _ _ (by rfl) (by first | exact vis0 rfl | exact vis1 rfl | exact vis2 rfl) (by decide) (by decide)) (@pa_nil _) (by rfl)) (by rfl)) (by decide) (by rfl) (by rfl)) (@pa_nil _) (by rfl)) (by decide) (by rfl) (by rfl)) (by rfl) (by first | exact Or.inl rfl | exact Or.inr rfl | assumption)) (@pss_mid _ _ _ _ _ (@ps_if _ _ _ _ _ _ _ _ (@PW.pt _ _ _ (@pw_or _ _ _ _ _ _ _ (@pt_cmpR _ _ _ _ _ _ _ _ (op_neH hr.units) (@pv _ 10 _ _ (by rfl) (by first | exact vis0 rfl | exact vis1 rfl | exact vis2 rfl) (by decide) (by decide)) (@pe_call _ _ _ _ _ _ _ _ _ _ _ _ _ _ _ _ (ok_d_l_due T) (hr.mono (by decide)) rfl T.g_d_l_due T.F_d_l_due.kp T.b_d_l_due .nil pass0 (@pa_cons _ _ _ _ _ (@pe_op _ _ _ _ _ _ _ _ op_addA (@pe_lst _ _ _ _ (@pa_cons _ _ _ _ _ (@pv _ 9 _ _ (by rfl) (by first | exact vis0 rfl | exact vis1 rfl | exact vis2 rfl) (by decide) (by decide)) (@pa_nil _) (by rfl))) (@pv _ 1 _ _ (by rfl) (by first | exact vis0 rfl | exact vis1 rfl | exact vis2 rfl) (by decide) (by decide))) (@pa_nil _) (by rfl)) (by decide) (by rfl) (by rfl)) (nomark _)) (@pw_or1 _ _ _ _ (@pt_cmpR _ _ _ _ _ _ _ _ (op_neH hr.units) (@pe_comp _ _ _ _ _ _ _ _ _ _ _ _ _ (@compOk_of _ (defScope s_d_law) (n_d_law) (["_law_q", "_law_again"]) ([none, some 10]) _ rfl rfl (by decide +kernel)) rfl (@pi_list _ _ _ _ (@pv _ 6 _ _ (by rfl) (by first | exact vis0 rfl | exact vis1 rfl | exact vis2 rfl) (by decide) (by decide))) (fun _ _ _ _ _ => (@pg_name _ _ (0) _ (show List.Nodup (["_law_q", "_law_again"] : List Str) by decide +kernel) rfl (by first | exact Or.inl rfl | exact Or.inr rfl) (by first | exact Or.inl rfl | exact Or.inr rfl | assumption))) (fun _ _ _ _ _ => @pts_one _ _ _ (@pt_cmpR _ _ _ _ _ _ _ _ (op_notinK (K := K) rfl) (@pv _ 0 _ _ (by rfl) (by first | exact vis0 rfl | exact vis1 rfl | exact vis2 rfl) (by decide) (by decide)) (@pv _ 1 _ _ (by rfl) (by first | exact vis0 rfl | exact vis1 rfl | exact vis2 rfl) (by decide) (by decide)) (by with_unfolding_all rfl))) (fun _ _ _ _ _ => (@pv _ 0 _ _ (by rfl) (by first | exact vis0 rfl | exact vis1 rfl | exact vis2 rfl) (by decide) (by decide))) (by intro _ ; rfl)) (@pe_lst _ _ _ _ (@pa_nil _)) (nomark _))))) (@pss_one _ _ _ (@ps_ret _ _ _ _ (@pe_bl _ _ _ _))) (@pss_nil _)) (@pss_cons _ _ _ _ _ (@ps_expr _ _ _ _ (@pe_bm _ _ _ _ _ _ _ _ _ _ _ _ PySem.F.plainAttrs_list PySem.F.slot_list_append PySem.F.type_list_append mt_append (@pv _ 5 _ _ (by rfl) (by first | exact vis0 rfl | exact vis1 rfl | exact vis2 rfl) (by decide) (by decide)) (@pa_cons _ _ _ _ _ (@pe_ix _ _ _ _ _ _ _ ix_seq (@pv _ 7 _ _ (by rfl) (by first | exact vis0 rfl | exact vis1 rfl | exact vis2 rfl) (by decide) (by decide)) (@pe_int _ _ _ _) (fun _ _ => rfl)) (@pa_nil _) (by rfl)) (by rfl) (by rfl) (by rfl) (by rfl) (by rfl)) (by rfl)) (@pss_one _ _ _ (@ps_ret _ _ _ _ (@pe_cmpR _ _ _ _ _ _ _ _ (op_eqH hr.units) (@pe_call _ _ _ _ _ _ _ _ _ _ _ _ _ _ _ _ (ok_d_sure_steps T) (hr.mono (by decide)) rfl T.g_d_sure_steps T.F_d_sure_steps.kp T.b_d_sure_steps .nil pass0 (@pa_cons _ _ _ _ _ (@pv _ 4 _ _ (by rfl) (by first | exact vis0 rfl | exact vis1 rfl | exact vis2 rfl) (by decide) (by decide)) (@pa_nil _) (by rfl)) (by decide) (by rfl) (by rfl)) (@pv _ 6 _ _ (by rfl) (by first | exact vis0 rfl | exact vis1 rfl | exact vis2 rfl) (by decide) (by decide)) (nomark _))))))))))))))))), ?_⟩
    rw [show start n_d_law [V.ref a] = [some (V.ref a), none, none, none, none, none, none, none, none, none, none] from rfl]
    try simp only [tSeq, tAsg, tCall, tCons, tVar, List.getElem?_cons_zero, tC, tNil, List.append_nil, gName, List.set_cons_succ, List.set_cons_zero, tMake, List.getElem?_cons_succ, exSlot, tComp_eq, iList]
    refine ⟨a, ns, 4, rfl, hS, hl, ⟨by decide, by decide⟩, fun R0 xs rs H1 s1 hBn hB1 hA1 hrl hO => ?_⟩
    have hrl' : rs.length ≤ 59 := by have : rs.length + (4 : Int).toNat ≤ 63 := hrl; simp at this; omega
    try simp only [exRef]
    refine ⟨⟨_, SqL.of hB1⟩, ?_⟩
    refine comp_1d (src_list (xs := xs)) (Nat.le_trans (show xs.length ≤ 1000 by rw [hA1.len]; omega) (by decide)) [] rfl (fun D i v H' => ∃ hi : i < rs.length, RuD t D v rs[i] H') ?_ (fun H' s => SqL.of (s _ _ hB1)) (fun D i H' R hi hDn s hD hR => ?_) (fun Ru H2 ys hRn s2 hR2 hyl hv => ?_)
    · rintro D i v Ha Hb up ⟨hi, p, dx, t0, e, n1, n2, g1, g2⟩
      exact ⟨hi, p, dx, t0, e, n1, n2, up _ _ n1 g1, up _ _ n2 g2⟩
    · have hi' : i < rs.length := by rw [← hA1.len]; exact hi
      obtain ⟨x, ex, p, t1, rfl, g1, g2⟩ := hA1.get i rs[i] (List.getElem?_eq_getElem hi')
      rw [ex, Option.getD_some]
      obtain ⟨zs, hD⟩ := hD
      try simp only [tCall, tCons, tVar, List.getElem?_cons_zero, tNil, List.append_nil, exSlot]
      refine ⟨p, t1, rs[i], rfl, hO _ (List.getElem_mem hi'), s _ _ g1, s _ _ g2, fun x H' s' hx => ?_⟩
      obtain ⟨dx, t0, f1, f2⟩ := hx
      have hD' := s' _ _ hD
      exact hR _ _ s' ⟨hi', x, dx, t0, rfl, ne_of f1 hD' (by intro z; cases z), ne_of f2 hD' (by intro z; cases z), f1, f2⟩
    have hU2 := ru_all (hyl.trans hA1.len) hv
    clear hv
    have hS2 : SqL K H2 a (ns.map V.int) := (s1.trans s2).seq hS
    try skip
    refine ⟨a, ns, 0, rfl, hS2, hl, by decide, by decide, fun c0 => ?_⟩
    refine ⟨c0, rfl, fun Pr ps pl H3 s3 hPrn hP3 hQ3 hpll hplo => ?_⟩
    have sc3 : Sc K t H3 a ns R0 xs rs Ru ys Pr ps pl := ⟨s3.seq hS2, s3 _ _ (s2 _ _ hB1), hA1.same (s2.trans s3), s3 _ _ hR2, hU2.same s3, hP3, hQ3⟩
    have lt3 := lt.mono ((s1.trans s2).trans s3)
    try simp only []
    refine gr_make sc3.R sc3.U hO (by omega) sc3.P sc3.Q hpll fun g H5 s5 ng hG5 => ?_
    have sc5 := sc3.same s5
    have lt5 := lt3.mono s5
    try skip
    refine ⟨g, rs, pl, rfl, hG5, hO, by omega, lt5, fun Fo ss H6 lt6 k6 hFn hF6 hdue => ?_⟩
    have sc6 := sc5.on lt5 k6
    have hG6 := gr_on lt5 k6 hG5
    try simp only []
    refine ⟨R0, xs, rs, rfl, sc6.B, sc6.A, hO, by omega, fun Du dd H7 s7 hDn hD7 hdd => ?_⟩
    obtain rfl : ss = dd := due_same (fun _ => Iff.rfl) rfl hdue hdd
    have sc7 := sc6.same s7
    have hG7 := hG6.same s7
    have lt7 := lt6.mono s7
    have hF7 := s7 _ _ hF6
    have hso : ∀ z ∈ ss, PyData.strOk z = true := fun z hz => (due_ok hO hdue z hz).1
    have hsl : ss.length ≤ 59 := Nat.le_trans (due_len hdue) hrl'
    try skip
    refine ⟨fun σ' H' => σ' = [some (V.ref a), some (V.ref R0), some (V.ref Ru), some (V.ref Pr), some (V.ref g), some (V.ref Fo), some (V.ref Du), none, none, none, none] ∧ Sc K t H' a ns R0 xs rs Ru ys Pr ps pl ∧ LamT t.TB_d_sure_steps lamq_d_sure_steps H' ∧ (∀ b o, b ≠ t.TB_d_sure_steps → H5 b = some o → H' b = some o) ∧ H' Fo = some (.lst (ss.map V.str)) ∧ H' Du = some (.lst (ss.map V.str)), ?_, ?_⟩
    · try simp only [tIfS, tOr, tNot, tB, tCB, tCons, tVar, List.getElem?_cons_succ, List.getElem?_cons_zero, tC, tNil, Bool.not_eq_true', tRet, tNext, tTest, tOp, tCall, tMake, tListRev, List.append_nil, exSlot]
      refine ⟨_, _, _, _, _, rfl, rfl, .lst hF7, kit_list_list, ?_⟩
      try simp only [exBl, ite_tf]
      refine rNe_strs (SqL.of hF7) (SqL.of hD7) hso hso ?_
      try simp only [decide_true, exBl, Bool.not_eq_true', ite_tf]
      refine ⟨Ru, _, rfl, SqL.of sc7.R, fun Z hZ => ?_⟩
      obtain ⟨H8, e8, s8, h8⟩ := newO hZ (.lst ys.reverse); rw [e8]
      refine gr_make h8 (sc7.U.same s8).rev (fun r hr => hO r (List.mem_reverse.mp hr)) (by rw [List.length_reverse]; omega) (s8 _ _ sc7.P) (PrsAt.same s8 sc7.Q) hpll fun g2 H9 s9 ng2 hG9 => ?_
      have s79 := s8.trans s9
      have lt9 := lt7.mono s79
      try skip
      refine ⟨g2, rs.reverse, pl, rfl, hG9, fun r hr => hO r (List.mem_reverse.mp hr), by rw [List.length_reverse]; omega, lt9, fun Fr sr H10 lt10 k10 _ hF10 hdr => ?_⟩
      obtain rfl : ss = sr := due_same (fun r => by simp) (by simp) hdue hdr
      have sc10 := (sc7.same s79).on lt9 k10
      have hFo10 := get_on lt9 k10 (s79 _ _ hF7) (fun _ z => nomatch z)
      have hDu10 := get_on lt9 k10 (s79 _ _ hD7) (fun _ z => nomatch z)
      try skip
      refine rNe_strs (SqL.of hF10) (SqL.of hDu10) hso hso ?_
      try simp only [decide_true, exBl, Bool.not_eq_true', ite_tf]
      exact ⟨(by trivial), sc10, lt10, fun b o n e => k10 b o n (s79 _ _ (s7 _ _ (k6 b o n e))), hFo10, hDu10⟩
    rintro σ' H8 ⟨rfl, sc8, lt8, k8, hF8, hD8⟩
    try simp only [tSeq, tAsg, tCall, tCons, tVar, List.getElem?_cons_zero, tC, tNil, List.append_nil, gName, List.set_cons_succ, List.set_cons_zero, tOp, List.getElem?_cons_succ, tMake, tLst, exSlot]
    refine ⟨a, ns, 0, rfl, sc8.S, hl, by decide, by decide, fun c1 => ?_⟩
    refine ⟨c1, rfl, fun Pa po H9 s9 hPn hP9 hp2 hp18 hpo => ?_⟩
    try simp only []
    refine ⟨a, ns, 0, rfl, s9.seq sc8.S, hl, by decide, by decide, fun c2 => ?_⟩
    refine ⟨c2, rfl, fun La ls H10 s10 hLn hL10 hl12 hlo => ?_⟩
    have s810 := s9.trans s10
    have sc10 := sc8.same s810
    try simp only []
    refine ⟨a, ns, 2, rfl, sc10.S, hl, by decide, by decide, fun c3 => ?_⟩
    try simp only [spMix_at]
    intro m hm
    refine ⟨a, ns, 3, rfl, sc10.S, hl, by decide, by decide, fun c4 => ?_⟩
    try simp only [rI_int]
    refine ⟨by decide, m, c4 % 9, 1, Pa, La, po, ls, rfl, s10 _ _ hP9, hp2, hp18, hpo, hL10, hl12, hlo, fun Mo Mt r0 H11 s11 hMn hMtn hro hM hMt => ?_⟩
    have sc11 := sc10.same s11
    have hO' : ∀ r ∈ r0 :: rs, RwOk r := fun r hr => by
      rcases List.mem_cons.mp hr with z | z
      · rw [z]; exact hro
      · exact hO r z
    try simp only []
    refine ⟨Mo, Mt, r0, rfl, hro, hM, hMt, fun x H12 s12 hx => ?_⟩
    try simp only []
    refine ⟨by simp only [List.length_cons, List.length_nil]; decide, fun L1 hL1 => ?_⟩
    obtain ⟨H13, e13, s13, h13⟩ := newO hL1 (.lst [V.ref x]); rw [e13]
    refine .inr (.inr (.inl ⟨L1, Ru, _, _, rfl, rfl, h13, (sc11.same (s12.trans s13)).R, Nat.le_trans (show _ ≤ 1000 by rw [List.length_singleton, sc11.U.len]; omega) (by decide), fun L2 hL2 => ?_⟩))
    obtain ⟨H14, e14, s14, h14⟩ := newO hL2 (.lst ([V.ref x] ++ ys)); rw [e14]
    have s1114 := (s12.trans s13).trans s14
    have sc14 := sc11.same s1114
    refine gr_make h14 (ru_cons (hx.same (s13.trans s14)) sc14.U) hO' (by rw [List.length_cons]; omega) sc14.P sc14.Q hpll fun g3 H15 s15 ng3 hG15 => ?_
    have s815 := (s810.trans s11).trans (s1114.trans s15)
    have lt15 := lt8.mono s815
    try skip
    refine ⟨g3, r0 :: rs, pl, rfl, hG15, hO', by rw [List.length_cons]; omega, lt15, fun Ag sa H16 lt16 k16 _ hA16 hda => ?_⟩
    have sc16 := (sc8.same s815).on lt15 k16
    have hF16 := get_on lt15 k16 (s815 _ _ hF8) (fun _ z => nomatch z)
    have hD16 := get_on lt15 k16 (s815 _ _ hD8) (fun _ z => nomatch z)
    have hP16 := get_on lt15 k16 ((s10.trans s11).trans (s1114.trans s15) _ _ hP9) (fun _ z => nomatch z)
    have hM16 := get_on lt15 k16 ((s1114.trans s15) _ _ hM) (fun _ z => nomatch z)
    have hMt16 := get_on lt15 k16 ((s1114.trans s15) _ _ hMt) (fun _ z => nomatch z)
    have hao : ∀ z ∈ sa, PyData.strOk z = true := fun z hz => (due_ok hO' hda z hz).1
    try simp only []
    refine ⟨fun σ' H' => ∃ H0', σ' = [some (V.ref a), some (V.ref R0), some (V.ref Ru), some (V.ref Pr), some (V.ref g), some (V.ref Fo), some (V.ref Du), some (V.ref Pa), some (V.ref La), some (V.ref Mo), some (V.ref Ag)] ∧ H0' = H16 ∧ Same H16 H', ?_, ?_⟩
    · try simp only [tIfS, tOr, tTest, tOp, tVar, List.getElem?_cons_succ, List.getElem?_cons_zero, tCall, tCons, tLst, tNil, List.append_nil, tRet, tC, tNext, tComp_eq, iList, exSlot, exRef]
      refine ⟨by simp only [List.length_cons, List.length_nil]; decide, fun L3 hL3 => ?_⟩
      obtain ⟨H17, e17, s17, h17⟩ := newO hL3 (.lst [V.ref Mo]); rw [e17]
      refine .inr (.inr (.inl ⟨L3, R0, _, _, rfl, rfl, h17, (sc16.same s17).B, Nat.le_trans (show _ ≤ 1000 by rw [List.length_singleton, sc16.A.len]; omega) (by decide), fun L4 hL4 => ?_⟩))
      obtain ⟨H18, e18, s18, h18⟩ := newO hL4 (.lst ([V.ref Mo] ++ xs)); rw [e18]
      have s1618 := s17.trans s18
      refine ⟨L4, _, r0 :: rs, rfl, h18, rw_cons (s1618 _ _ hM16) (s1618 _ _ hMt16) (sc16.same s1618).A, hO', by rw [List.length_cons]; omega, fun Dn dn H19 s19 _ hD19 hdn => ?_⟩
      obtain rfl : sa = dn := due_same (fun _ => Iff.rfl) rfl hda hdn
      have s1619 := s1618.trans s19
      try skip
      refine rNe_strs (SqL.of (s1619 _ _ hA16)) (SqL.of hD19) hao hao ?_
      try simp only [decide_true, exBl, Bool.not_eq_true', ite_tf]
      have hD19' := s1619 _ _ hD16
      refine ⟨⟨_, SqL.of hD19'⟩, ?_⟩
      refine comp_f (src_list (xs := ss.map V.str)) (Nat.le_trans (show (ss.map V.str).length ≤ 1000 by rw [List.length_map]; omega) (by decide)) [some (V.ref Ag)] rfl (fun i => decide (((ss[i]?).getD "") ∉ sa)) (fun i => V.str ((ss[i]?).getD "")) (fun H'' s => SqL.of (s _ _ hD19')) (fun i H'' R'' hi s hR'' => ?_) (fun i H'' R'' hi s hR'' => ?_) (fun C H20 hCn s20 hC => ?_)
      · have hi' : i < ss.length := by simpa using hi
        have e2 : ((ss.map V.str)[i]?).getD .non = V.str ss[i] := by rw [List.getElem?_map, List.getElem?_eq_getElem hi']; rfl
        rw [e2]
        rw [List.getElem?_eq_getElem hi', Option.getD_some] at hR''
        try simp only [tTest, tOp, tVar, List.getElem?_cons_zero, List.getElem?_cons_succ, exSlot]
        refine rNotIn_lst (SqL.of (s _ _ (s1619 _ _ hA16))) ⟨_, rfl, ?_⟩
        have := hR'' _ (Same.refl _)
        rw [show (!decide (ss[i] ∈ sa)) = decide (ss[i] ∉ sa) from by simp]
        exact this
      · have hi' : i < ss.length := by simpa using hi
        have e2 : ((ss.map V.str)[i]?).getD .non = V.str ss[i] := by rw [List.getElem?_map, List.getElem?_eq_getElem hi']; rfl
        rw [e2]
        rw [List.getElem?_eq_getElem hi', Option.getD_some] at hR''
        try simp only [tVar, List.getElem?_cons_zero, exSlot]
        exact hR'' _ (Same.refl _)
      rw [show (ss.map V.str).length = ss.length by simp, range_filter ("" : Str) (fun z => decide (z ∉ sa)) V.str ss] at hC
      have e0 : ss.filter (fun z => decide (z ∉ sa)) = [] := List.filter_eq_nil_iff.mpr fun z hz => by simpa using due_more hdue hda z hz
      rw [e0] at hC
      try skip
      refine ⟨Nat.zero_le _, fun p20 hp20 => ?_⟩
      obtain ⟨H21, e21, s21, h21⟩ := newO hp20 (.lst []); rw [e21]
      refine rNe_nil (zs := []) (SqL.of (s21 _ _ hC)) (SqL.of h21) (fun z hz => nomatch hz) ?_
      try simp only [decide_true, exBl, Bool.not_eq_true', ite_tf]
      exact ⟨_, (by trivial), rfl, s1619.trans (s20.trans s21)⟩
    rintro σ' H17 ⟨_, rfl, _, s17⟩
    try simp only [tSeq, tDrop, tBM, tVar, List.getElem?_cons_succ, List.getElem?_cons_zero, tCons, tOp, tC, tNil, tRet, tCall, List.append_nil, exSlot]
    have hF17 := s17 _ _ hF16
    have hDF : Du ≠ Fo := fun z => by rw [z, hF6] at hDn; cases hDn
    obtain ⟨v0, ez0, hv0, _⟩ := atI_in (xs := po.map V.str) (i := 0) (by decide) (by rw [List.length_map]; omega)
    refine ⟨.inl ⟨rfl, _, SqL.of hF17⟩, rIx_lst (SqL.of (s17 _ _ hP16)) ez0 ⟨Fo, _, _, rfl, rfl, hF17, Nat.lt_of_le_of_lt (show _ ≤ 1000 by rw [List.length_map]; omega) (by decide), ?_⟩⟩
    have lt17 := lamT_upd (o := .lst (ss.map V.str ++ [v0])) (lt16.mono s17) hF17
    refine ⟨g, rs, pl, rfl, gr_on lt5 (fun b o n e => ?_) hG5, hO, by omega, lt17, fun Fx sx H18 lt18 k18 _ hx18 hdx => ?_⟩
    · rw [upd_ne (fun z => by rw [z, hFn] at e; cases e)]; exact s17 _ _ (k16 b o n (s815 _ _ (k8 b o n e)))
    obtain rfl : ss = sx := due_same (fun _ => Iff.rfl) rfl hdue hdx
    have hD18 := get_on lt17 k18 (show _ = some (HO.lst (ss.map V.str)) by rw [upd_ne hDF]; exact s17 _ _ hD16) (fun _ z => nomatch z)
    refine rEq_strs (SqL.of hx18) (SqL.of hD18) hso hso ?_
    rw [decide_eq_true rfl]
    exact q _
end
end K32
open PySem PySem.W PyProof.Rows
namespace K32
open PySem PySem.W L2
noncomputable section
abbrev kE (P : Params) (x : String) (t : Nat) (v : Value) : DictEntry := ⟨PyData.keyHash P x, .str x t, v⟩
abbrev kC (n q : String) (s : Stmt) : Obj := ⟨.none, none, (.func ⟨n, q, defArgs s, .stmts (defBody s), defScope s, 0, [], .none, .none, .none, .none, none, .none, .none, 0⟩), #[]⟩
def o0 (P : Params) : Obj := ⟨(.type "dict"), none, (.dict #[kE P "__name__" 1 (.str "builtins" 160), kE P "__doc__" 2 (.builtin "builtins.__doc__:str#opaque"), kE P "__package__" 3 (.builtin "builtins.__package__:str#opaque"), kE P "__loader__" 4 (.builtin "builtins.__loader__:shared#opaque"), kE P "__spec__" 5 (.builtin "builtins.__spec__#opaque"), kE P "__build_class__" 6 (.builtin "__build_class__"), kE P "__import__" 7 (.builtin "__import__"), kE P "abs" 8 (.builtin "abs"), kE P "all" 9 (.builtin "all"), kE P "any" 10 (.builtin "any"), kE P "ascii" 11 (.builtin "ascii"), kE P "bin" 12 (.builtin "bin"), kE P "breakpoint" 13 (.builtin "breakpoint"), kE P "callable" 14 (.builtin "callable"), kE P "chr" 15 (.builtin "chr"), kE P "compile" 16 (.builtin "compile"), kE P "delattr" 17 (.builtin "delattr"), kE P "dir" 18 (.builtin "dir"), kE P "divmod" 19 (.builtin "divmod"), kE P "eval" 20 (.builtin "eval"), kE P "exec" 21 (.builtin "exec"), kE P "format" 22 (.builtin "format"), kE P "getattr" 23 (.builtin "getattr"), kE P "globals" 24 (.builtin "globals"), kE P "hasattr" 25 (.builtin "hasattr"), kE P "hash" 26 (.builtin "hash"), kE P "hex" 27 (.builtin "hex"), kE P "id" 28 (.builtin "id"), kE P "input" 29 (.builtin "input"), kE P "isinstance" 30 (.builtin "isinstance"), kE P "issubclass" 31 (.builtin "issubclass"), kE P "iter" 32 (.builtin "iter"), kE P "aiter" 33 (.builtin "aiter"), kE P "len" 34 (.builtin "len"), kE P "locals" 35 (.builtin "locals"), kE P "max" 36 (.builtin "max"), kE P "min" 37 (.builtin "min"), kE P "next" 38 (.builtin "next"), kE P "anext" 39 (.builtin "anext"), kE P "oct" 40 (.builtin "oct"), kE P "ord" 41 (.builtin "ord"), kE P "pow" 42 (.builtin "pow"), kE P "print" 43 (.builtin "print"), kE P "repr" 44 (.builtin "repr"), kE P "round" 45 (.builtin "round"), kE P "setattr" 46 (.builtin "setattr"), kE P "sorted" 47 (.builtin "sorted"), kE P "sum" 48 (.builtin "sum"), kE P "vars" 49 (.builtin "vars"), kE P "None" 50 .none, kE P "Ellipsis" 51 .ellipsis, kE P "NotImplemented" 52 .notImplemented, kE P "False" 53 (.bool false), kE P "True" 54 (.bool true), kE P "bool" 55 (.type "bool"), kE P "memoryview" 56 (.type "memoryview"), kE P "bytearray" 57 (.type "bytearray"), kE P "bytes" 58 (.type "bytes"), kE P "classmethod" 59 (.type "classmethod"), kE P "complex" 60 (.type "complex"), kE P "dict" 61 (.type "dict"), kE P "enumerate" 62 (.type "enumerate"), kE P "filter" 63 (.type "filter"), kE P "float" 64 (.type "float"), kE P "frozenset" 65 (.type "frozenset"), kE P "property" 66 (.type "property"), kE P "int" 67 (.type "int"), kE P "list" 68 (.type "list"), kE P "map" 69 (.type "map"), kE P "object" 70 (.type "object"), kE P "range" 71 (.type "range"), kE P "reversed" 72 (.type "reversed"), kE P "set" 73 (.type "set"), kE P "slice" 74 (.type "slice"), kE P "staticmethod" 75 (.type "staticmethod"), kE P "str" 76 (.type "str"), kE P "super" 77 (.type "super"), kE P "tuple" 78 (.type "tuple"), kE P "type" 79 (.type "type"), kE P "zip" 80 (.type "zip"), kE P "__debug__" 81 (.bool true), kE P "BaseException" 82 (.type "BaseException"), kE P "BaseExceptionGroup" 83 (.type "BaseExceptionGroup"), kE P "Exception" 84 (.type "Exception"), kE P "GeneratorExit" 85 (.type "GeneratorExit"), kE P "KeyboardInterrupt" 86 (.type "KeyboardInterrupt"), kE P "SystemExit" 87 (.type "SystemExit"), kE P "ArithmeticError" 88 (.type "ArithmeticError"), kE P "AssertionError" 89 (.type "AssertionError"), kE P "AttributeError" 90 (.type "AttributeError"), kE P "BufferError" 91 (.type "BufferError"), kE P "EOFError" 92 (.type "EOFError"), kE P "ImportError" 93 (.type "ImportError"), kE P "LookupError" 94 (.type "LookupError"), kE P "MemoryError" 95 (.type "MemoryError"), kE P "NameError" 96 (.type "NameError"), kE P "OSError" 97 (.type "OSError"), kE P "ReferenceError" 98 (.type "ReferenceError"), kE P "RuntimeError" 99 (.type "RuntimeError"), kE P "StopAsyncIteration" 100 (.type "StopAsyncIteration"), kE P "StopIteration" 101 (.type "StopIteration"), kE P "SyntaxError" 102 (.type "SyntaxError"), kE P "SystemError" 103 (.type "SystemError"), kE P "TypeError" 104 (.type "TypeError"), kE P "ValueError" 105 (.type "ValueError"), kE P "Warning" 106 (.type "Warning"), kE P "FloatingPointError" 107 (.type "FloatingPointError"), kE P "OverflowError" 108 (.type "OverflowError"), kE P "ZeroDivisionError" 109 (.type "ZeroDivisionError"), kE P "BytesWarning" 110 (.type "BytesWarning"), kE P "DeprecationWarning" 111 (.type "DeprecationWarning"), kE P "EncodingWarning" 112 (.type "EncodingWarning"), kE P "FutureWarning" 113 (.type "FutureWarning"), kE P "ImportWarning" 114 (.type "ImportWarning"), kE P "PendingDeprecationWarning" 115 (.type "PendingDeprecationWarning"), kE P "ResourceWarning" 116 (.type "ResourceWarning"), kE P "RuntimeWarning" 117 (.type "RuntimeWarning"), kE P "SyntaxWarning" 118 (.type "SyntaxWarning"), kE P "UnicodeWarning" 119 (.type "UnicodeWarning"), kE P "UserWarning" 120 (.type "UserWarning"), kE P "BlockingIOError" 121 (.type "BlockingIOError"), kE P "ChildProcessError" 122 (.type "ChildProcessError"), kE P "ConnectionError" 123 (.type "ConnectionError"), kE P "FileExistsError" 124 (.type "FileExistsError"), kE P "FileNotFoundError" 125 (.type "FileNotFoundError"), kE P "InterruptedError" 126 (.type "InterruptedError"), kE P "IsADirectoryError" 127 (.type "IsADirectoryError"), kE P "NotADirectoryError" 128 (.type "NotADirectoryError"), kE P "PermissionError" 129 (.type "PermissionError"), kE P "ProcessLookupError" 130 (.type "ProcessLookupError"), kE P "TimeoutError" 131 (.type "TimeoutError"), kE P "IndentationError" 132 (.type "IndentationError"), kE P "_IncompleteInputError" 133 (.type "_IncompleteInputError"), kE P "IndexError" 134 (.type "IndexError"), kE P "KeyError" 135 (.type "KeyError"), kE P "ModuleNotFoundError" 136 (.type "ModuleNotFoundError"), kE P "NotImplementedError" 137 (.type "NotImplementedError"), kE P "PythonFinalizationError" 138 (.type "PythonFinalizationError"), kE P "RecursionError" 139 (.type "RecursionError"), kE P "UnboundLocalError" 140 (.type "UnboundLocalError"), kE P "UnicodeError" 141 (.type "UnicodeError"), kE P "BrokenPipeError" 142 (.type "BrokenPipeError"), kE P "ConnectionAbortedError" 143 (.type "ConnectionAbortedError"), kE P "ConnectionRefusedError" 144 (.type "ConnectionRefusedError"), kE P "ConnectionResetError" 145 (.type "ConnectionResetError"), kE P "TabError" 146 (.type "TabError"), kE P "UnicodeDecodeError" 147 (.type "UnicodeDecodeError"), kE P "UnicodeEncodeError" 148 (.type "UnicodeEncodeError"), kE P "UnicodeTranslateError" 149 (.type "UnicodeTranslateError"), kE P "ExceptionGroup" 150 (.type "ExceptionGroup"), kE P "EnvironmentError" 151 (.type "OSError"), kE P "IOError" 152 (.type "OSError"), kE P "open" 153 (.builtin "open"), kE P "quit" 154 (.builtin "builtins.quit#opaque"), kE P "exit" 155 (.builtin "builtins.exit#opaque"), kE P "copyright" 156 (.builtin "builtins.copyright#opaque"), kE P "credits" 157 (.builtin "builtins.credits#opaque"), kE P "license" 158 (.builtin "builtins.license#opaque"), kE P "help" 159 (.builtin "builtins.help#opaque")] 159), #[]⟩
def o1 (P : Params) : Obj := ⟨(.type "dict"), none, (.dict #[kE P "builtins" 162 (.ref 4), kE P "__main__" 163 (.ref 5)] 2), #[]⟩
def o2 (P : Params) : Obj := ⟨.none, none, (.dict #[] 0), #[]⟩
def o3 (P : Params) : Obj := ⟨(.type "dict"), none, (.dict #[kE P "__name__" 165 (.str "law_mostwise_k32_sure_steps" 581), kE P "__doc__" 166 .none, kE P "__package__" 167 .none, kE P "__loader__" 168 (.builtin "__main__.__loader__#opaque"), kE P "__spec__" 169 .none, kE P "__annotations__" 170 (.ref 6), kE P "__builtins__" 171 (.ref 4), kE P "__file__" 173 (.str "/claim/cut.py" 172), kE P "__cached__" 174 .none, kE P "_wall" 193 (.ref 21), kE P "keyed" 204 (.ref 28), kE P "all_among" 210 (.ref 33), kE P "sure_rounds" 218 (.ref 39), kE P "sure_steps" 226 (.ref 46), kE P "opposite" 235 (.ref 53), kE P "Rule" 322 (.ref 119), kE P "Fact" 376 (.ref 168), kE P "Sure" 415 (.ref 201), kE P "Most" 447 (.ref 227), kE P "Block" 486 (.ref 260), kE P "Ground" 580 (.ref 328), kE P "_law_cell_at" 590 (.ref 339), kE P "_law_mix" 599 (.ref 346), kE P "_law_word" 613 (.ref 353), kE P "_law_pool" 619 (.ref 358), kE P "_law_row" 625 (.ref 363), kE P "_law_made" 636 (.ref 370), kE P "_law_labels" 642 (.ref 375), kE P "_law_row_by_digits" 659 (.ref 382), kE P "_law_rows" 665 (.ref 387), kE P "_law_rounds" 671 (.ref 392), kE P "_law_due" 677 (.ref 397), kE P "_law_pairs" 688 (.ref 404), kE P "law" 694 (.ref 409)] 34), #[]⟩
def o4 (P : Params) : Obj := ⟨(.type "module"), (some 0), .plain, #[]⟩
def o5 (P : Params) : Obj := ⟨(.type "module"), (some 3), .plain, #[]⟩
def o6 (P : Params) : Obj := ⟨(.type "dict"), none, (.dict #[] 0), #[]⟩
def o7 (P : Params) : Obj := ⟨(.type "tuple"), none, (.seq #[] 0), #[]⟩
def o8 (P : Params) : Obj := ⟨.none, none, (.fields #[]), #[]⟩
def o9 (P : Params) : Obj := ⟨(.type "code"), none, (.fields #[(.str "<module>" 176), (.str "<module>" 177), (.str "/claim/cut.py" 178), (.int (1) 0), (.int (0) 0), (.int (0) 0), (.int (0) 0), (.int (0) 0), (.ref 7), (.bool false), (.int (175) 0), (.ref 8), .none, .none, .none, .none, (.int (179) 0), (.int (1) 0), (.str "/claim/cut.py" 180)]), #[]⟩
def o10 (P : Params) : Obj := ⟨(.type "frame"), none, .plain, #[(some (.ref 9)), (some (.ref 3)), (some (.ref 3)), none, (some (.str "__main__" 164)), none, (some (.ref 0))]⟩
def o11 (P : Params) : Obj := ⟨(.type "tuple"), none, (.seq #[] 0), #[]⟩
def o12 (P : Params) : Obj := ⟨.none, none, (.fields #[(.int (1) 0), (.int (0) 0), (.ref 20), (.int (5) 0), (.int (0) 0), (.ref 27), (.int (10) 0), (.int (0) 0), (.ref 32), (.int (13) 0), (.int (0) 0), (.ref 38), (.int (27) 0), (.int (0) 0), (.ref 45), (.int (31) 0), (.int (0) 0), (.ref 52), (.int (34) 0), (.int (0) 0), (.ref 59), (.int (61) 0), (.int (0) 0), (.ref 129), (.int (77) 0), (.int (0) 0), (.ref 176), (.int (87) 0), (.int (0) 0), (.ref 209), (.int (94) 0), (.int (0) 0), (.ref 235), (.int (105) 0), (.int (0) 0), (.ref 268), (.int (142) 0), (.int (0) 0), (.ref 338), (.int (146) 0), (.int (0) 0), (.ref 345), (.int (150) 0), (.int (0) 0), (.ref 352), (.int (160) 0), (.int (0) 0), (.ref 357), (.int (168) 0), (.int (0) 0), (.ref 362), (.int (182) 0), (.int (0) 0), (.ref 369), (.int (191) 0), (.int (0) 0), (.ref 374), (.int (193) 0), (.int (0) 0), (.ref 381), (.int (207) 0), (.int (0) 0), (.ref 386), (.int (215) 0), (.int (0) 0), (.ref 391), (.int (232) 0), (.int (0) 0), (.ref 396), (.int (235) 0), (.int (0) 0), (.ref 403), (.int (242) 0), (.int (0) 0), (.ref 408)]), #[]⟩
def o13 (P : Params) : Obj := ⟨(.type "code"), none, (.fields #[(.str "<module>" 182), (.str "<module>" 183), (.str "/claim/cut.py" 184), (.int (1) 0), (.int (0) 0), (.int (0) 0), (.int (0) 0), (.int (0) 0), (.ref 11), (.bool false), (.int (181) 0), (.ref 12), .none, .none, .none, .none, (.int (185) 0), (.int (1) 0), (.str "/claim/cut.py" 186)]), #[]⟩
def o14 (P : Params) : Obj := ⟨(.type "frame"), none, .plain, #[(some (.ref 13)), (some (.ref 3)), (some (.ref 3)), none, (some (.str "__main__" 164)), none, (some (.ref 0))]⟩
def o15 (P : Params) : Obj := ⟨(.type "tuple"), none, (.seq #[] 0), #[]⟩
def o16 (P : Params) : Obj := ⟨.none, none, (.fields #[]), #[]⟩
def o17 (P : Params) : Obj := ⟨(.type "tuple"), none, (.seq #[(.str "k" 190)] 0), #[]⟩
def o18 (P : Params) : Obj := ⟨(.type "tuple"), none, (.seq #[] 0), #[]⟩
def o19 (P : Params) : Obj := kC "_wall" "_wall" (top 0)
def o20 (P : Params) : Obj := ⟨(.type "code"), none, (.fields #[(.str "_wall" 187), (.str "_wall" 188), (.str "/claim/cut.py" 189), (.int (1) 0), (.int (1) 0), (.int (0) 0), (.int (0) 0), (.int (3) 0), (.ref 15), (.bool true), (.int (181) 0), (.ref 16), .none, (.ref 17), (.ref 18), (.ref 19), (.int (191) 0), (.int (1) 0), (.str "/claim/cut.py" 192)]), #[]⟩
def o21 (P : Params) : Obj := ⟨(.type "function"), none, (.func (PySem.W.fnOf "_wall" "_wall" (defArgs (top 0)) (defBody (top 0)) (defScope (top 0)) .none .none .none (.str "__main__" 164) none (.ref 20) .none)), #[]⟩
def o22 (P : Params) : Obj := ⟨(.type "tuple"), none, (.seq #[] 0), #[]⟩
def o23 (P : Params) : Obj := ⟨.none, none, (.fields #[]), #[]⟩
def o24 (P : Params) : Obj := ⟨(.type "tuple"), none, (.seq #[(.str "some" 199), (.str "told" 200), (.str "statement" 201)] 0), #[]⟩
def o25 (P : Params) : Obj := ⟨(.type "tuple"), none, (.seq #[] 0), #[]⟩
def o26 (P : Params) : Obj := kC "keyed" "keyed" s_d_keyed
def o27 (P : Params) : Obj := ⟨(.type "code"), none, (.fields #[(.str "keyed" 196), (.str "keyed" 197), (.str "/claim/cut.py" 198), (.int (5) 0), (.int (1) 0), (.int (0) 0), (.int (0) 0), (.int (3) 0), (.ref 22), (.bool true), (.int (181) 0), (.ref 23), .none, (.ref 24), (.ref 25), (.ref 26), (.int (202) 0), (.int (5) 0), (.str "/claim/cut.py" 203)]), #[]⟩
def o28 (P : Params) : Obj := ⟨(.type "function"), none, (.func (PySem.W.fnOf "keyed" "keyed" (defArgs s_d_keyed) (defBody s_d_keyed) (defScope s_d_keyed) .none .none .none (.str "mostwise.among" 194) none (.ref 27) .none)), #[]⟩
def o29 (P : Params) : Obj := ⟨(.type "tuple"), none, (.seq #[] 0), #[]⟩
def o30 (P : Params) : Obj := ⟨.none, none, (.fields #[]), #[]⟩
def o31 (P : Params) : Obj := kC "all_among" "all_among" s_d_all_among
def o32 (P : Params) : Obj := ⟨(.type "code"), none, (.fields #[(.str "all_among" 205), (.str "all_among" 206), (.str "/claim/cut.py" 207), (.int (10) 0), (.int (2) 0), (.int (0) 0), (.int (0) 0), (.int (3) 0), (.ref 29), (.bool true), (.int (181) 0), (.ref 30), .none, .none, .none, (.ref 31), (.int (208) 0), (.int (10) 0), (.str "/claim/cut.py" 209)]), #[]⟩
def o33 (P : Params) : Obj := ⟨(.type "function"), none, (.func (PySem.W.fnOf "all_among" "all_among" (defArgs s_d_all_among) (defBody s_d_all_among) (defScope s_d_all_among) .none .none .none (.str "mostwise.among" 194) none (.ref 32) .none)), #[]⟩
def o34 (P : Params) : Obj := ⟨(.type "tuple"), none, (.seq #[.none] 0), #[]⟩
def o35 (P : Params) : Obj := ⟨(.type "tuple"), none, (.seq #[] 0), #[]⟩
def o36 (P : Params) : Obj := ⟨.none, none, (.fields #[]), #[]⟩
def o37 (P : Params) : Obj := kC "sure_rounds" "sure_rounds" s_d_sure_rounds
def o38 (P : Params) : Obj := ⟨(.type "code"), none, (.fields #[(.str "sure_rounds" 213), (.str "sure_rounds" 214), (.str "/claim/cut.py" 215), (.int (13) 0), (.int (2) 0), (.int (0) 0), (.int (0) 0), (.int (3) 0), (.ref 35), (.bool true), (.int (181) 0), (.ref 36), .none, .none, .none, (.ref 37), (.int (216) 0), (.int (13) 0), (.str "/claim/cut.py" 217)]), #[]⟩
def o39 (P : Params) : Obj := ⟨(.type "function"), none, (.func (PySem.W.fnOf "sure_rounds" "sure_rounds" (defArgs s_d_sure_rounds) (defBody s_d_sure_rounds) (defScope s_d_sure_rounds) (.ref 34) .none .none (.str "mostwise.sure" 211) none (.ref 38) .none)), #[]⟩
def o40 (P : Params) : Obj := ⟨(.type "tuple"), none, (.seq #[] 0), #[]⟩
def o41 (P : Params) : Obj := ⟨.none, none, (.fields #[]), #[]⟩
def o42 (P : Params) : Obj := ⟨(.type "tuple"), none, (.seq #[(.str "ground" 222)] 0), #[]⟩
def o43 (P : Params) : Obj := ⟨(.type "tuple"), none, (.seq #[(.str "ranks" 223)] 0), #[]⟩
def o44 (P : Params) : Obj := kC "sure_steps" "sure_steps" s_d_sure_steps
def o45 (P : Params) : Obj := ⟨(.type "code"), none, (.fields #[(.str "sure_steps" 219), (.str "sure_steps" 220), (.str "/claim/cut.py" 221), (.int (27) 0), (.int (1) 0), (.int (0) 0), (.int (0) 0), (.int (3) 0), (.ref 40), (.bool true), (.int (181) 0), (.ref 41), .none, (.ref 42), (.ref 43), (.ref 44), (.int (224) 0), (.int (27) 0), (.str "/claim/cut.py" 225)]), #[]⟩
def o46 (P : Params) : Obj := ⟨(.type "function"), none, (.func (PySem.W.fnOf "sure_steps" "sure_steps" (defArgs s_d_sure_steps) (defBody s_d_sure_steps) (defScope s_d_sure_steps) .none .none .none (.str "mostwise.sure" 211) none (.ref 45) .none)), #[]⟩
def o47 (P : Params) : Obj := ⟨(.type "tuple"), none, (.seq #[] 0), #[]⟩
def o48 (P : Params) : Obj := ⟨.none, none, (.fields #[]), #[]⟩
def o49 (P : Params) : Obj := ⟨(.type "tuple"), none, (.seq #[(.str "statement" 232)] 0), #[]⟩
def o50 (P : Params) : Obj := ⟨(.type "tuple"), none, (.seq #[] 0), #[]⟩
def o51 (P : Params) : Obj := kC "opposite" "opposite" (top 8)
def o52 (P : Params) : Obj := ⟨(.type "code"), none, (.fields #[(.str "opposite" 229), (.str "opposite" 230), (.str "/claim/cut.py" 231), (.int (31) 0), (.int (1) 0), (.int (0) 0), (.int (0) 0), (.int (3) 0), (.ref 47), (.bool true), (.int (181) 0), (.ref 48), .none, (.ref 49), (.ref 50), (.ref 51), (.int (233) 0), (.int (31) 0), (.str "/claim/cut.py" 234)]), #[]⟩
def o53 (P : Params) : Obj := ⟨(.type "function"), none, (.func (PySem.W.fnOf "opposite" "opposite" (defArgs (top 8)) (defBody (top 8)) (defScope (top 8)) .none .none .none (.str "mostwise.words" 227) none (.ref 52) .none)), #[]⟩
def o54 (P : Params) : Obj := ⟨(.type "tuple"), none, (.seq #[] 0), #[]⟩
def o55 (P : Params) : Obj := ⟨(.type "builtin_function_or_method"), none, (.fields #[(.builtin "type.__prepare__"), (.type "type")]), #[]⟩
def o56 (P : Params) : Obj := ⟨(.type "dict"), none, (.dict #[kE P "__module__" 245 (.str "mostwise.rules" 236), kE P "__qualname__" 247 (.str "Rule" 246), ⟨PyData.keyHash P "__firstlineno__", (.str "__firstlineno__" 249), (.int (34) 248)⟩, kE P "__init__" 259 (.ref 67), kE P "word" 266 (.ref 74), kE P "speaks" 273 (.ref 81), kE P "is_sure" 280 (.ref 88), kE P "letters" 287 (.ref 95), kE P "again" 296 (.ref 102), kE P "filled" 304 (.ref 109), kE P "row" 311 (.ref 116), kE P "__static_attributes__" 315 (.ref 117)] 12), #[]⟩
def o57 (P : Params) : Obj := ⟨(.type "tuple"), none, (.seq #[] 0), #[]⟩
def o58 (P : Params) : Obj := ⟨.none, none, (.fields #[(.int (36) 0), (.int (4) 0), (.ref 66), (.int (41) 0), (.int (4) 0), (.ref 73), (.int (44) 0), (.int (4) 0), (.ref 80), (.int (47) 0), (.int (4) 0), (.ref 87), (.int (50) 0), (.int (4) 0), (.ref 94), (.int (53) 0), (.int (4) 0), (.ref 101), (.int (56) 0), (.int (4) 0), (.ref 108), (.int (59) 0), (.int (4) 0), (.ref 115)]), #[]⟩
def o59 (P : Params) : Obj := ⟨(.type "code"), none, (.fields #[(.str "Rule" 240), (.str "Rule" 241), (.str "/claim/cut.py" 242), (.int (34) 0), (.int (0) 0), (.int (0) 0), (.int (0) 0), (.int (0) 0), (.ref 57), (.bool false), (.int (181) 0), (.ref 58), .none, .none, .none, .none, (.int (243) 0), (.int (34) 0), (.str "/claim/cut.py" 244)]), #[]⟩
def o60 (P : Params) : Obj := ⟨(.type "frame"), none, .plain, #[(some (.ref 59)), (some (.ref 3)), (some (.ref 56)), none, (some (.str "mostwise.rules" 236)), none, (some (.ref 0))]⟩
def o61 (P : Params) : Obj := ⟨(.type "tuple"), none, (.seq #[] 0), #[]⟩
def o62 (P : Params) : Obj := ⟨.none, none, (.fields #[]), #[]⟩
def o63 (P : Params) : Obj := ⟨(.type "tuple"), none, (.seq #[(.str "self" 253), (.str "label" 254), (.str "head" 255), (.str "body" 256)] 0), #[]⟩
def o64 (P : Params) : Obj := ⟨(.type "tuple"), none, (.seq #[] 0), #[]⟩
def o65 (P : Params) : Obj := kC "__init__" "Rule.__init__" s_c_Rule_init
def o66 (P : Params) : Obj := ⟨(.type "code"), none, (.fields #[(.str "__init__" 250), (.str "Rule.__init__" 251), (.str "/claim/cut.py" 252), (.int (36) 0), (.int (4) 0), (.int (0) 0), (.int (0) 0), (.int (3) 0), (.ref 61), (.bool true), (.int (181) 0), (.ref 62), .none, (.ref 63), (.ref 64), (.ref 65), (.int (257) 0), (.int (36) 0), (.str "/claim/cut.py" 258)]), #[]⟩
def o67 (P : Params) : Obj := ⟨(.type "function"), none, (.func (PySem.W.fnOf "__init__" "Rule.__init__" (defArgs s_c_Rule_init) (defBody s_c_Rule_init) (defScope s_c_Rule_init) .none .none .none (.str "mostwise.rules" 236) none (.ref 66) .none)), #[]⟩
def o68 (P : Params) : Obj := ⟨(.type "tuple"), none, (.seq #[] 0), #[]⟩
def o69 (P : Params) : Obj := ⟨.none, none, (.fields #[]), #[]⟩
def o70 (P : Params) : Obj := ⟨(.type "tuple"), none, (.seq #[(.str "self" 263)] 0), #[]⟩
def o71 (P : Params) : Obj := ⟨(.type "tuple"), none, (.seq #[] 0), #[]⟩
def o72 (P : Params) : Obj := kC "word" "Rule.word" (inClass (top 10) 1)
def o73 (P : Params) : Obj := ⟨(.type "code"), none, (.fields #[(.str "word" 260), (.str "Rule.word" 261), (.str "/claim/cut.py" 262), (.int (41) 0), (.int (1) 0), (.int (0) 0), (.int (0) 0), (.int (3) 0), (.ref 68), (.bool true), (.int (181) 0), (.ref 69), .none, (.ref 70), (.ref 71), (.ref 72), (.int (264) 0), (.int (41) 0), (.str "/claim/cut.py" 265)]), #[]⟩
def o74 (P : Params) : Obj := ⟨(.type "function"), none, (.func (PySem.W.fnOf "word" "Rule.word" (defArgs (inClass (top 10) 1)) (defBody (inClass (top 10) 1)) (defScope (inClass (top 10) 1)) .none .none .none (.str "mostwise.rules" 236) none (.ref 73) .none)), #[]⟩
def o75 (P : Params) : Obj := ⟨(.type "tuple"), none, (.seq #[] 0), #[]⟩
def o76 (P : Params) : Obj := ⟨.none, none, (.fields #[]), #[]⟩
def o77 (P : Params) : Obj := ⟨(.type "tuple"), none, (.seq #[(.str "self" 270)] 0), #[]⟩
def o78 (P : Params) : Obj := ⟨(.type "tuple"), none, (.seq #[] 0), #[]⟩
def o79 (P : Params) : Obj := kC "speaks" "Rule.speaks" (inClass (top 10) 2)
def o80 (P : Params) : Obj := ⟨(.type "code"), none, (.fields #[(.str "speaks" 267), (.str "Rule.speaks" 268), (.str "/claim/cut.py" 269), (.int (44) 0), (.int (1) 0), (.int (0) 0), (.int (0) 0), (.int (3) 0), (.ref 75), (.bool true), (.int (181) 0), (.ref 76), .none, (.ref 77), (.ref 78), (.ref 79), (.int (271) 0), (.int (44) 0), (.str "/claim/cut.py" 272)]), #[]⟩
def o81 (P : Params) : Obj := ⟨(.type "function"), none, (.func (PySem.W.fnOf "speaks" "Rule.speaks" (defArgs (inClass (top 10) 2)) (defBody (inClass (top 10) 2)) (defScope (inClass (top 10) 2)) .none .none .none (.str "mostwise.rules" 236) none (.ref 80) .none)), #[]⟩
def o82 (P : Params) : Obj := ⟨(.type "tuple"), none, (.seq #[] 0), #[]⟩
def o83 (P : Params) : Obj := ⟨.none, none, (.fields #[]), #[]⟩
def o84 (P : Params) : Obj := ⟨(.type "tuple"), none, (.seq #[(.str "self" 277)] 0), #[]⟩
def o85 (P : Params) : Obj := ⟨(.type "tuple"), none, (.seq #[] 0), #[]⟩
def o86 (P : Params) : Obj := kC "is_sure" "Rule.is_sure" s_c_Rule_is_sure
def o87 (P : Params) : Obj := ⟨(.type "code"), none, (.fields #[(.str "is_sure" 274), (.str "Rule.is_sure" 275), (.str "/claim/cut.py" 276), (.int (47) 0), (.int (1) 0), (.int (0) 0), (.int (0) 0), (.int (3) 0), (.ref 82), (.bool true), (.int (181) 0), (.ref 83), .none, (.ref 84), (.ref 85), (.ref 86), (.int (278) 0), (.int (47) 0), (.str "/claim/cut.py" 279)]), #[]⟩
def o88 (P : Params) : Obj := ⟨(.type "function"), none, (.func (PySem.W.fnOf "is_sure" "Rule.is_sure" (defArgs s_c_Rule_is_sure) (defBody s_c_Rule_is_sure) (defScope s_c_Rule_is_sure) .none .none .none (.str "mostwise.rules" 236) none (.ref 87) .none)), #[]⟩
def o89 (P : Params) : Obj := ⟨(.type "tuple"), none, (.seq #[] 0), #[]⟩
def o90 (P : Params) : Obj := ⟨.none, none, (.fields #[]), #[]⟩
def o91 (P : Params) : Obj := ⟨(.type "tuple"), none, (.seq #[(.str "self" 284)] 0), #[]⟩
def o92 (P : Params) : Obj := ⟨(.type "tuple"), none, (.seq #[] 0), #[]⟩
def o93 (P : Params) : Obj := kC "letters" "Rule.letters" (inClass (top 10) 4)
def o94 (P : Params) : Obj := ⟨(.type "code"), none, (.fields #[(.str "letters" 281), (.str "Rule.letters" 282), (.str "/claim/cut.py" 283), (.int (50) 0), (.int (1) 0), (.int (0) 0), (.int (0) 0), (.int (3) 0), (.ref 89), (.bool true), (.int (181) 0), (.ref 90), .none, (.ref 91), (.ref 92), (.ref 93), (.int (285) 0), (.int (50) 0), (.str "/claim/cut.py" 286)]), #[]⟩
def o95 (P : Params) : Obj := ⟨(.type "function"), none, (.func (PySem.W.fnOf "letters" "Rule.letters" (defArgs (inClass (top 10) 4)) (defBody (inClass (top 10) 4)) (defScope (inClass (top 10) 4)) .none .none .none (.str "mostwise.rules" 236) none (.ref 94) .none)), #[]⟩
def o96 (P : Params) : Obj := ⟨(.type "tuple"), none, (.seq #[] 0), #[]⟩
def o97 (P : Params) : Obj := ⟨.none, none, (.fields #[]), #[]⟩
def o98 (P : Params) : Obj := ⟨(.type "tuple"), none, (.seq #[(.str "self" 291), (.str "head" 292), (.str "body" 293)] 0), #[]⟩
def o99 (P : Params) : Obj := ⟨(.type "tuple"), none, (.seq #[] 0), #[]⟩
def o100 (P : Params) : Obj := kC "again" "Rule.again" (inClass (top 10) 5)
def o101 (P : Params) : Obj := ⟨(.type "code"), none, (.fields #[(.str "again" 288), (.str "Rule.again" 289), (.str "/claim/cut.py" 290), (.int (53) 0), (.int (3) 0), (.int (0) 0), (.int (0) 0), (.int (3) 0), (.ref 96), (.bool true), (.int (181) 0), (.ref 97), .none, (.ref 98), (.ref 99), (.ref 100), (.int (294) 0), (.int (53) 0), (.str "/claim/cut.py" 295)]), #[]⟩
def o102 (P : Params) : Obj := ⟨(.type "function"), none, (.func (PySem.W.fnOf "again" "Rule.again" (defArgs (inClass (top 10) 5)) (defBody (inClass (top 10) 5)) (defScope (inClass (top 10) 5)) .none .none .none (.str "mostwise.rules" 236) none (.ref 101) .none)), #[]⟩
def o103 (P : Params) : Obj := ⟨(.type "tuple"), none, (.seq #[] 0), #[]⟩
def o104 (P : Params) : Obj := ⟨.none, none, (.fields #[]), #[]⟩
def o105 (P : Params) : Obj := ⟨(.type "tuple"), none, (.seq #[(.str "self" 300), (.str "given" 301)] 0), #[]⟩
def o106 (P : Params) : Obj := ⟨(.type "tuple"), none, (.seq #[] 0), #[]⟩
def o107 (P : Params) : Obj := kC "filled" "Rule.filled" (inClass (top 10) 6)
def o108 (P : Params) : Obj := ⟨(.type "code"), none, (.fields #[(.str "filled" 297), (.str "Rule.filled" 298), (.str "/claim/cut.py" 299), (.int (56) 0), (.int (2) 0), (.int (0) 0), (.int (0) 0), (.int (3) 0), (.ref 103), (.bool true), (.int (181) 0), (.ref 104), .none, (.ref 105), (.ref 106), (.ref 107), (.int (302) 0), (.int (56) 0), (.str "/claim/cut.py" 303)]), #[]⟩
def o109 (P : Params) : Obj := ⟨(.type "function"), none, (.func (PySem.W.fnOf "filled" "Rule.filled" (defArgs (inClass (top 10) 6)) (defBody (inClass (top 10) 6)) (defScope (inClass (top 10) 6)) .none .none .none (.str "mostwise.rules" 236) none (.ref 108) .none)), #[]⟩
def o110 (P : Params) : Obj := ⟨(.type "tuple"), none, (.seq #[] 0), #[]⟩
def o111 (P : Params) : Obj := ⟨.none, none, (.fields #[]), #[]⟩
def o112 (P : Params) : Obj := ⟨(.type "tuple"), none, (.seq #[(.str "self" 308)] 0), #[]⟩
def o113 (P : Params) : Obj := ⟨(.type "tuple"), none, (.seq #[] 0), #[]⟩
def o114 (P : Params) : Obj := kC "row" "Rule.row" (inClass (top 10) 7)
def o115 (P : Params) : Obj := ⟨(.type "code"), none, (.fields #[(.str "row" 305), (.str "Rule.row" 306), (.str "/claim/cut.py" 307), (.int (59) 0), (.int (1) 0), (.int (0) 0), (.int (0) 0), (.int (3) 0), (.ref 110), (.bool true), (.int (181) 0), (.ref 111), .none, (.ref 112), (.ref 113), (.ref 114), (.int (309) 0), (.int (59) 0), (.str "/claim/cut.py" 310)]), #[]⟩
def o116 (P : Params) : Obj := ⟨(.type "function"), none, (.func (PySem.W.fnOf "row" "Rule.row" (defArgs (inClass (top 10) 7)) (defBody (inClass (top 10) 7)) (defScope (inClass (top 10) 7)) .none .none .none (.str "mostwise.rules" 236) none (.ref 115) .none)), #[]⟩
def o117 (P : Params) : Obj := ⟨(.type "tuple"), none, (.seq #[(.str "body" 312), (.str "head" 313), (.str "label" 314)] 0), #[]⟩
def o118 (P : Params) : Obj := ⟨(.type "dict"), none, (.dict #[kE P "__module__" 245 (.str "mostwise.rules" 236), ⟨PyData.keyHash P "__firstlineno__", (.str "__firstlineno__" 249), (.int (34) 248)⟩, kE P "__init__" 259 (.ref 67), kE P "word" 266 (.ref 74), kE P "speaks" 273 (.ref 81), kE P "is_sure" 280 (.ref 88), kE P "letters" 287 (.ref 95), kE P "again" 296 (.ref 102), kE P "filled" 304 (.ref 109), kE P "row" 311 (.ref 116), kE P "__static_attributes__" 315 (.ref 117), kE P "__dict__" 317 (.ref 120), kE P "__weakref__" 319 (.ref 121), kE P "__doc__" 320 .none] 4), #[]⟩
def o119 (P : Params) : Obj := ⟨(.type "type"), none, (.cls ⟨"Rule", [(.type "object")], [(.ref 119), (.type "object")], 118, "Rule", true, [], [(.ref 168), (.ref 201), (.ref 227), (.ref 260)], false, none, false⟩), #[none, none, (some (.str "Rule" 238)), (some (.str "Rule" 246)), (some (.builtin "object.__new__")), (some (.bool true))]⟩
def o120 (P : Params) : Obj := ⟨(.type "getset_descriptor"), none, (.fields #[(.str "__dict__" 316), (.ref 119), (.builtin "function.__dict__"), (.builtin "function.__dict__#set")]), #[]⟩
def o121 (P : Params) : Obj := ⟨(.type "getset_descriptor"), none, (.fields #[(.str "__weakref__" 318), (.ref 119), (.builtin "ExceptionGroup.__weakref__"), .none]), #[]⟩
def o122 (P : Params) : Obj := ⟨(.type "super"), none, (.fields #[(.ref 119), (.ref 119), (.ref 119)]), #[]⟩
def o123 (P : Params) : Obj := ⟨(.type "builtin_function_or_method"), none, (.fields #[(.builtin "object.__init_subclass__"), (.ref 119)]), #[]⟩
def o124 (P : Params) : Obj := ⟨(.type "tuple"), none, (.seq #[(.ref 119)] 0), #[]⟩
def o125 (P : Params) : Obj := ⟨(.type "builtin_function_or_method"), none, (.fields #[(.builtin "type.__prepare__"), (.type "type")]), #[]⟩
def o126 (P : Params) : Obj := ⟨(.type "dict"), none, (.dict #[kE P "__module__" 330 (.str "mostwise.rules" 236), kE P "__qualname__" 332 (.str "Fact" 331), ⟨PyData.keyHash P "__firstlineno__", (.str "__firstlineno__" 334), (.int (61) 333)⟩, kE P "__init__" 342 (.ref 137), kE P "word" 349 (.ref 144), kE P "is_sure" 356 (.ref 151), kE P "again" 365 (.ref 158), kE P "row" 372 (.ref 165), kE P "__static_attributes__" 373 (.ref 166)] 9), #[]⟩
def o127 (P : Params) : Obj := ⟨(.type "tuple"), none, (.seq #[] 0), #[]⟩
def o128 (P : Params) : Obj := ⟨.none, none, (.fields #[(.int (63) 0), (.int (4) 0), (.ref 136), (.int (66) 0), (.int (4) 0), (.ref 143), (.int (69) 0), (.int (4) 0), (.ref 150), (.int (72) 0), (.int (4) 0), (.ref 157), (.int (75) 0), (.int (4) 0), (.ref 164)]), #[]⟩
def o129 (P : Params) : Obj := ⟨(.type "code"), none, (.fields #[(.str "Fact" 325), (.str "Fact" 326), (.str "/claim/cut.py" 327), (.int (61) 0), (.int (0) 0), (.int (0) 0), (.int (0) 0), (.int (0) 0), (.ref 127), (.bool false), (.int (181) 0), (.ref 128), .none, .none, .none, .none, (.int (328) 0), (.int (61) 0), (.str "/claim/cut.py" 329)]), #[]⟩
def o130 (P : Params) : Obj := ⟨(.type "frame"), none, .plain, #[(some (.ref 129)), (some (.ref 3)), (some (.ref 126)), none, (some (.str "mostwise.rules" 236)), none, (some (.ref 0))]⟩
def o131 (P : Params) : Obj := ⟨(.type "tuple"), none, (.seq #[] 0), #[]⟩
def o132 (P : Params) : Obj := ⟨.none, none, (.fields #[]), #[]⟩
def o133 (P : Params) : Obj := ⟨(.type "tuple"), none, (.seq #[(.str "self" 338), (.str "head" 339)] 0), #[]⟩
def o134 (P : Params) : Obj := ⟨(.type "tuple"), none, (.seq #[] 0), #[]⟩
def o135 (P : Params) : Obj := kC "__init__" "Fact.__init__" s_c_Fact_init
def o136 (P : Params) : Obj := ⟨(.type "code"), none, (.fields #[(.str "__init__" 335), (.str "Fact.__init__" 336), (.str "/claim/cut.py" 337), (.int (63) 0), (.int (2) 0), (.int (0) 0), (.int (0) 0), (.int (3) 0), (.ref 131), (.bool true), (.int (181) 0), (.ref 132), .none, (.ref 133), (.ref 134), (.ref 135), (.int (340) 0), (.int (63) 0), (.str "/claim/cut.py" 341)]), #[]⟩
def o137 (P : Params) : Obj := ⟨(.type "function"), none, (.func (PySem.W.fnOf "__init__" "Fact.__init__" (defArgs s_c_Fact_init) (defBody s_c_Fact_init) (defScope s_c_Fact_init) .none .none .none (.str "mostwise.rules" 236) none (.ref 136) .none)), #[]⟩
def o138 (P : Params) : Obj := ⟨(.type "tuple"), none, (.seq #[] 0), #[]⟩
def o139 (P : Params) : Obj := ⟨.none, none, (.fields #[]), #[]⟩
def o140 (P : Params) : Obj := ⟨(.type "tuple"), none, (.seq #[(.str "self" 346)] 0), #[]⟩
def o141 (P : Params) : Obj := ⟨(.type "tuple"), none, (.seq #[] 0), #[]⟩
def o142 (P : Params) : Obj := kC "word" "Fact.word" (inClass (top 11) 1)
def o143 (P : Params) : Obj := ⟨(.type "code"), none, (.fields #[(.str "word" 343), (.str "Fact.word" 344), (.str "/claim/cut.py" 345), (.int (66) 0), (.int (1) 0), (.int (0) 0), (.int (0) 0), (.int (3) 0), (.ref 138), (.bool true), (.int (181) 0), (.ref 139), .none, (.ref 140), (.ref 141), (.ref 142), (.int (347) 0), (.int (66) 0), (.str "/claim/cut.py" 348)]), #[]⟩
def o144 (P : Params) : Obj := ⟨(.type "function"), none, (.func (PySem.W.fnOf "word" "Fact.word" (defArgs (inClass (top 11) 1)) (defBody (inClass (top 11) 1)) (defScope (inClass (top 11) 1)) .none .none .none (.str "mostwise.rules" 236) none (.ref 143) .none)), #[]⟩
def o145 (P : Params) : Obj := ⟨(.type "tuple"), none, (.seq #[] 0), #[]⟩
def o146 (P : Params) : Obj := ⟨.none, none, (.fields #[]), #[]⟩
def o147 (P : Params) : Obj := ⟨(.type "tuple"), none, (.seq #[(.str "self" 353)] 0), #[]⟩
def o148 (P : Params) : Obj := ⟨(.type "tuple"), none, (.seq #[] 0), #[]⟩
def o149 (P : Params) : Obj := kC "is_sure" "Fact.is_sure" s_c_Fact_is_sure
def o150 (P : Params) : Obj := ⟨(.type "code"), none, (.fields #[(.str "is_sure" 350), (.str "Fact.is_sure" 351), (.str "/claim/cut.py" 352), (.int (69) 0), (.int (1) 0), (.int (0) 0), (.int (0) 0), (.int (3) 0), (.ref 145), (.bool true), (.int (181) 0), (.ref 146), .none, (.ref 147), (.ref 148), (.ref 149), (.int (354) 0), (.int (69) 0), (.str "/claim/cut.py" 355)]), #[]⟩
def o151 (P : Params) : Obj := ⟨(.type "function"), none, (.func (PySem.W.fnOf "is_sure" "Fact.is_sure" (defArgs s_c_Fact_is_sure) (defBody s_c_Fact_is_sure) (defScope s_c_Fact_is_sure) .none .none .none (.str "mostwise.rules" 236) none (.ref 150) .none)), #[]⟩
def o152 (P : Params) : Obj := ⟨(.type "tuple"), none, (.seq #[] 0), #[]⟩
def o153 (P : Params) : Obj := ⟨.none, none, (.fields #[]), #[]⟩
def o154 (P : Params) : Obj := ⟨(.type "tuple"), none, (.seq #[(.str "self" 360), (.str "head" 361), (.str "body" 362)] 0), #[]⟩
def o155 (P : Params) : Obj := ⟨(.type "tuple"), none, (.seq #[] 0), #[]⟩
def o156 (P : Params) : Obj := kC "again" "Fact.again" (inClass (top 11) 3)
def o157 (P : Params) : Obj := ⟨(.type "code"), none, (.fields #[(.str "again" 357), (.str "Fact.again" 358), (.str "/claim/cut.py" 359), (.int (72) 0), (.int (3) 0), (.int (0) 0), (.int (0) 0), (.int (3) 0), (.ref 152), (.bool true), (.int (181) 0), (.ref 153), .none, (.ref 154), (.ref 155), (.ref 156), (.int (363) 0), (.int (72) 0), (.str "/claim/cut.py" 364)]), #[]⟩
def o158 (P : Params) : Obj := ⟨(.type "function"), none, (.func (PySem.W.fnOf "again" "Fact.again" (defArgs (inClass (top 11) 3)) (defBody (inClass (top 11) 3)) (defScope (inClass (top 11) 3)) .none .none .none (.str "mostwise.rules" 236) none (.ref 157) .none)), #[]⟩
def o159 (P : Params) : Obj := ⟨(.type "tuple"), none, (.seq #[] 0), #[]⟩
def o160 (P : Params) : Obj := ⟨.none, none, (.fields #[]), #[]⟩
def o161 (P : Params) : Obj := ⟨(.type "tuple"), none, (.seq #[(.str "self" 369)] 0), #[]⟩
def o162 (P : Params) : Obj := ⟨(.type "tuple"), none, (.seq #[] 0), #[]⟩
def o163 (P : Params) : Obj := kC "row" "Fact.row" (inClass (top 11) 4)
def o164 (P : Params) : Obj := ⟨(.type "code"), none, (.fields #[(.str "row" 366), (.str "Fact.row" 367), (.str "/claim/cut.py" 368), (.int (75) 0), (.int (1) 0), (.int (0) 0), (.int (0) 0), (.int (3) 0), (.ref 159), (.bool true), (.int (181) 0), (.ref 160), .none, (.ref 161), (.ref 162), (.ref 163), (.int (370) 0), (.int (75) 0), (.str "/claim/cut.py" 371)]), #[]⟩
def o165 (P : Params) : Obj := ⟨(.type "function"), none, (.func (PySem.W.fnOf "row" "Fact.row" (defArgs (inClass (top 11) 4)) (defBody (inClass (top 11) 4)) (defScope (inClass (top 11) 4)) .none .none .none (.str "mostwise.rules" 236) none (.ref 164) .none)), #[]⟩
def o166 (P : Params) : Obj := ⟨(.type "tuple"), none, (.seq #[] 0), #[]⟩
def o167 (P : Params) : Obj := ⟨(.type "dict"), none, (.dict #[kE P "__module__" 330 (.str "mostwise.rules" 236), ⟨PyData.keyHash P "__firstlineno__", (.str "__firstlineno__" 334), (.int (61) 333)⟩, kE P "__init__" 342 (.ref 137), kE P "word" 349 (.ref 144), kE P "is_sure" 356 (.ref 151), kE P "again" 365 (.ref 158), kE P "row" 372 (.ref 165), kE P "__static_attributes__" 373 (.ref 166), kE P "__doc__" 374 .none] 2), #[]⟩
def o168 (P : Params) : Obj := ⟨(.type "type"), none, (.cls ⟨"Fact", [(.ref 119)], [(.ref 168), (.ref 119), (.type "object")], 167, "Fact", true, [], [], false, none, false⟩), #[(some (.ref 124)), none, (some (.str "Fact" 323)), (some (.str "Fact" 331)), (some (.builtin "object.__new__")), (some (.bool true))]⟩
def o169 (P : Params) : Obj := ⟨(.type "super"), none, (.fields #[(.ref 168), (.ref 168), (.ref 168)]), #[]⟩
def o170 (P : Params) : Obj := ⟨(.type "builtin_function_or_method"), none, (.fields #[(.builtin "object.__init_subclass__"), (.ref 168)]), #[]⟩
def o171 (P : Params) : Obj := ⟨(.type "tuple"), none, (.seq #[(.ref 119)] 0), #[]⟩
def o172 (P : Params) : Obj := ⟨(.type "builtin_function_or_method"), none, (.fields #[(.builtin "type.__prepare__"), (.type "type")]), #[]⟩
def o173 (P : Params) : Obj := ⟨(.type "dict"), none, (.dict #[kE P "__module__" 384 (.str "mostwise.rules" 236), kE P "__qualname__" 386 (.str "Sure" 385), ⟨PyData.keyHash P "__firstlineno__", (.str "__firstlineno__" 388), (.int (77) 387)⟩, kE P "word" 395 (.ref 184), kE P "is_sure" 402 (.ref 191), kE P "again" 411 (.ref 198), kE P "__static_attributes__" 412 (.ref 199)] 7), #[]⟩
def o174 (P : Params) : Obj := ⟨(.type "tuple"), none, (.seq #[] 0), #[]⟩
def o175 (P : Params) : Obj := ⟨.none, none, (.fields #[(.int (79) 0), (.int (4) 0), (.ref 183), (.int (82) 0), (.int (4) 0), (.ref 190), (.int (85) 0), (.int (4) 0), (.ref 197)]), #[]⟩
def o176 (P : Params) : Obj := ⟨(.type "code"), none, (.fields #[(.str "Sure" 379), (.str "Sure" 380), (.str "/claim/cut.py" 381), (.int (77) 0), (.int (0) 0), (.int (0) 0), (.int (0) 0), (.int (0) 0), (.ref 174), (.bool false), (.int (181) 0), (.ref 175), .none, .none, .none, .none, (.int (382) 0), (.int (77) 0), (.str "/claim/cut.py" 383)]), #[]⟩
def o177 (P : Params) : Obj := ⟨(.type "frame"), none, .plain, #[(some (.ref 176)), (some (.ref 3)), (some (.ref 173)), none, (some (.str "mostwise.rules" 236)), none, (some (.ref 0))]⟩
def o178 (P : Params) : Obj := ⟨(.type "tuple"), none, (.seq #[] 0), #[]⟩
def o179 (P : Params) : Obj := ⟨.none, none, (.fields #[]), #[]⟩
def o180 (P : Params) : Obj := ⟨(.type "tuple"), none, (.seq #[(.str "self" 392)] 0), #[]⟩
def o181 (P : Params) : Obj := ⟨(.type "tuple"), none, (.seq #[] 0), #[]⟩
def o182 (P : Params) : Obj := kC "word" "Sure.word" (inClass (top 12) 0)
def o183 (P : Params) : Obj := ⟨(.type "code"), none, (.fields #[(.str "word" 389), (.str "Sure.word" 390), (.str "/claim/cut.py" 391), (.int (79) 0), (.int (1) 0), (.int (0) 0), (.int (0) 0), (.int (3) 0), (.ref 178), (.bool true), (.int (181) 0), (.ref 179), .none, (.ref 180), (.ref 181), (.ref 182), (.int (393) 0), (.int (79) 0), (.str "/claim/cut.py" 394)]), #[]⟩
def o184 (P : Params) : Obj := ⟨(.type "function"), none, (.func (PySem.W.fnOf "word" "Sure.word" (defArgs (inClass (top 12) 0)) (defBody (inClass (top 12) 0)) (defScope (inClass (top 12) 0)) .none .none .none (.str "mostwise.rules" 236) none (.ref 183) .none)), #[]⟩
def o185 (P : Params) : Obj := ⟨(.type "tuple"), none, (.seq #[] 0), #[]⟩
def o186 (P : Params) : Obj := ⟨.none, none, (.fields #[]), #[]⟩
def o187 (P : Params) : Obj := ⟨(.type "tuple"), none, (.seq #[(.str "self" 399)] 0), #[]⟩
def o188 (P : Params) : Obj := ⟨(.type "tuple"), none, (.seq #[] 0), #[]⟩
def o189 (P : Params) : Obj := kC "is_sure" "Sure.is_sure" s_c_Sure_is_sure
def o190 (P : Params) : Obj := ⟨(.type "code"), none, (.fields #[(.str "is_sure" 396), (.str "Sure.is_sure" 397), (.str "/claim/cut.py" 398), (.int (82) 0), (.int (1) 0), (.int (0) 0), (.int (0) 0), (.int (3) 0), (.ref 185), (.bool true), (.int (181) 0), (.ref 186), .none, (.ref 187), (.ref 188), (.ref 189), (.int (400) 0), (.int (82) 0), (.str "/claim/cut.py" 401)]), #[]⟩
def o191 (P : Params) : Obj := ⟨(.type "function"), none, (.func (PySem.W.fnOf "is_sure" "Sure.is_sure" (defArgs s_c_Sure_is_sure) (defBody s_c_Sure_is_sure) (defScope s_c_Sure_is_sure) .none .none .none (.str "mostwise.rules" 236) none (.ref 190) .none)), #[]⟩
def o192 (P : Params) : Obj := ⟨(.type "tuple"), none, (.seq #[] 0), #[]⟩
def o193 (P : Params) : Obj := ⟨.none, none, (.fields #[]), #[]⟩
def o194 (P : Params) : Obj := ⟨(.type "tuple"), none, (.seq #[(.str "self" 406), (.str "head" 407), (.str "body" 408)] 0), #[]⟩
def o195 (P : Params) : Obj := ⟨(.type "tuple"), none, (.seq #[] 0), #[]⟩
def o196 (P : Params) : Obj := kC "again" "Sure.again" (inClass (top 12) 2)
def o197 (P : Params) : Obj := ⟨(.type "code"), none, (.fields #[(.str "again" 403), (.str "Sure.again" 404), (.str "/claim/cut.py" 405), (.int (85) 0), (.int (3) 0), (.int (0) 0), (.int (0) 0), (.int (3) 0), (.ref 192), (.bool true), (.int (181) 0), (.ref 193), .none, (.ref 194), (.ref 195), (.ref 196), (.int (409) 0), (.int (85) 0), (.str "/claim/cut.py" 410)]), #[]⟩
def o198 (P : Params) : Obj := ⟨(.type "function"), none, (.func (PySem.W.fnOf "again" "Sure.again" (defArgs (inClass (top 12) 2)) (defBody (inClass (top 12) 2)) (defScope (inClass (top 12) 2)) .none .none .none (.str "mostwise.rules" 236) none (.ref 197) .none)), #[]⟩
def o199 (P : Params) : Obj := ⟨(.type "tuple"), none, (.seq #[] 0), #[]⟩
def o200 (P : Params) : Obj := ⟨(.type "dict"), none, (.dict #[kE P "__module__" 384 (.str "mostwise.rules" 236), ⟨PyData.keyHash P "__firstlineno__", (.str "__firstlineno__" 388), (.int (77) 387)⟩, kE P "word" 395 (.ref 184), kE P "is_sure" 402 (.ref 191), kE P "again" 411 (.ref 198), kE P "__static_attributes__" 412 (.ref 199), kE P "__doc__" 413 .none] 2), #[]⟩
def o201 (P : Params) : Obj := ⟨(.type "type"), none, (.cls ⟨"Sure", [(.ref 119)], [(.ref 201), (.ref 119), (.type "object")], 200, "Sure", true, [], [], false, none, false⟩), #[(some (.ref 171)), none, (some (.str "Sure" 377)), (some (.str "Sure" 385)), (some (.builtin "object.__new__")), (some (.bool true))]⟩
def o202 (P : Params) : Obj := ⟨(.type "super"), none, (.fields #[(.ref 201), (.ref 201), (.ref 201)]), #[]⟩
def o203 (P : Params) : Obj := ⟨(.type "builtin_function_or_method"), none, (.fields #[(.builtin "object.__init_subclass__"), (.ref 201)]), #[]⟩
def o204 (P : Params) : Obj := ⟨(.type "tuple"), none, (.seq #[(.ref 119)] 0), #[]⟩
def o205 (P : Params) : Obj := ⟨(.type "builtin_function_or_method"), none, (.fields #[(.builtin "type.__prepare__"), (.type "type")]), #[]⟩
def o206 (P : Params) : Obj := ⟨(.type "dict"), none, (.dict #[kE P "__module__" 423 (.str "mostwise.rules" 236), kE P "__qualname__" 425 (.str "Most" 424), ⟨PyData.keyHash P "__firstlineno__", (.str "__firstlineno__" 427), (.int (87) 426)⟩, kE P "word" 434 (.ref 217), kE P "again" 443 (.ref 224), kE P "__static_attributes__" 444 (.ref 225)] 6), #[]⟩
def o207 (P : Params) : Obj := ⟨(.type "tuple"), none, (.seq #[] 0), #[]⟩
def o208 (P : Params) : Obj := ⟨.none, none, (.fields #[(.int (89) 0), (.int (4) 0), (.ref 216), (.int (92) 0), (.int (4) 0), (.ref 223)]), #[]⟩
def o209 (P : Params) : Obj := ⟨(.type "code"), none, (.fields #[(.str "Most" 418), (.str "Most" 419), (.str "/claim/cut.py" 420), (.int (87) 0), (.int (0) 0), (.int (0) 0), (.int (0) 0), (.int (0) 0), (.ref 207), (.bool false), (.int (181) 0), (.ref 208), .none, .none, .none, .none, (.int (421) 0), (.int (87) 0), (.str "/claim/cut.py" 422)]), #[]⟩
def o210 (P : Params) : Obj := ⟨(.type "frame"), none, .plain, #[(some (.ref 209)), (some (.ref 3)), (some (.ref 206)), none, (some (.str "mostwise.rules" 236)), none, (some (.ref 0))]⟩
def o211 (P : Params) : Obj := ⟨(.type "tuple"), none, (.seq #[] 0), #[]⟩
def o212 (P : Params) : Obj := ⟨.none, none, (.fields #[]), #[]⟩
def o213 (P : Params) : Obj := ⟨(.type "tuple"), none, (.seq #[(.str "self" 431)] 0), #[]⟩
def o214 (P : Params) : Obj := ⟨(.type "tuple"), none, (.seq #[] 0), #[]⟩
def o215 (P : Params) : Obj := kC "word" "Most.word" (inClass (top 13) 0)
def o216 (P : Params) : Obj := ⟨(.type "code"), none, (.fields #[(.str "word" 428), (.str "Most.word" 429), (.str "/claim/cut.py" 430), (.int (89) 0), (.int (1) 0), (.int (0) 0), (.int (0) 0), (.int (3) 0), (.ref 211), (.bool true), (.int (181) 0), (.ref 212), .none, (.ref 213), (.ref 214), (.ref 215), (.int (432) 0), (.int (89) 0), (.str "/claim/cut.py" 433)]), #[]⟩
def o217 (P : Params) : Obj := ⟨(.type "function"), none, (.func (PySem.W.fnOf "word" "Most.word" (defArgs (inClass (top 13) 0)) (defBody (inClass (top 13) 0)) (defScope (inClass (top 13) 0)) .none .none .none (.str "mostwise.rules" 236) none (.ref 216) .none)), #[]⟩
def o218 (P : Params) : Obj := ⟨(.type "tuple"), none, (.seq #[] 0), #[]⟩
def o219 (P : Params) : Obj := ⟨.none, none, (.fields #[]), #[]⟩
def o220 (P : Params) : Obj := ⟨(.type "tuple"), none, (.seq #[(.str "self" 438), (.str "head" 439), (.str "body" 440)] 0), #[]⟩
def o221 (P : Params) : Obj := ⟨(.type "tuple"), none, (.seq #[] 0), #[]⟩
def o222 (P : Params) : Obj := kC "again" "Most.again" (inClass (top 13) 1)
def o223 (P : Params) : Obj := ⟨(.type "code"), none, (.fields #[(.str "again" 435), (.str "Most.again" 436), (.str "/claim/cut.py" 437), (.int (92) 0), (.int (3) 0), (.int (0) 0), (.int (0) 0), (.int (3) 0), (.ref 218), (.bool true), (.int (181) 0), (.ref 219), .none, (.ref 220), (.ref 221), (.ref 222), (.int (441) 0), (.int (92) 0), (.str "/claim/cut.py" 442)]), #[]⟩
def o224 (P : Params) : Obj := ⟨(.type "function"), none, (.func (PySem.W.fnOf "again" "Most.again" (defArgs (inClass (top 13) 1)) (defBody (inClass (top 13) 1)) (defScope (inClass (top 13) 1)) .none .none .none (.str "mostwise.rules" 236) none (.ref 223) .none)), #[]⟩
def o225 (P : Params) : Obj := ⟨(.type "tuple"), none, (.seq #[] 0), #[]⟩
def o226 (P : Params) : Obj := ⟨(.type "dict"), none, (.dict #[kE P "__module__" 423 (.str "mostwise.rules" 236), ⟨PyData.keyHash P "__firstlineno__", (.str "__firstlineno__" 427), (.int (87) 426)⟩, kE P "word" 434 (.ref 217), kE P "again" 443 (.ref 224), kE P "__static_attributes__" 444 (.ref 225), kE P "__doc__" 445 .none] 2), #[]⟩
def o227 (P : Params) : Obj := ⟨(.type "type"), none, (.cls ⟨"Most", [(.ref 119)], [(.ref 227), (.ref 119), (.type "object")], 226, "Most", true, [], [], false, none, false⟩), #[(some (.ref 204)), none, (some (.str "Most" 416)), (some (.str "Most" 424)), (some (.builtin "object.__new__")), (some (.bool true))]⟩
def o228 (P : Params) : Obj := ⟨(.type "super"), none, (.fields #[(.ref 227), (.ref 227), (.ref 227)]), #[]⟩
def o229 (P : Params) : Obj := ⟨(.type "builtin_function_or_method"), none, (.fields #[(.builtin "object.__init_subclass__"), (.ref 227)]), #[]⟩
def o230 (P : Params) : Obj := ⟨(.type "tuple"), none, (.seq #[(.ref 119)] 0), #[]⟩
def o231 (P : Params) : Obj := ⟨(.type "builtin_function_or_method"), none, (.fields #[(.builtin "type.__prepare__"), (.type "type")]), #[]⟩
def o232 (P : Params) : Obj := ⟨(.type "dict"), none, (.dict #[kE P "__module__" 455 (.str "mostwise.rules" 236), kE P "__qualname__" 457 (.str "Block" 456), ⟨PyData.keyHash P "__firstlineno__", (.str "__firstlineno__" 459), (.int (94) 458)⟩, kE P "word" 466 (.ref 243), kE P "speaks" 473 (.ref 250), kE P "again" 482 (.ref 257), kE P "__static_attributes__" 483 (.ref 258)] 7), #[]⟩
def o233 (P : Params) : Obj := ⟨(.type "tuple"), none, (.seq #[] 0), #[]⟩
def o234 (P : Params) : Obj := ⟨.none, none, (.fields #[(.int (96) 0), (.int (4) 0), (.ref 242), (.int (99) 0), (.int (4) 0), (.ref 249), (.int (102) 0), (.int (4) 0), (.ref 256)]), #[]⟩
def o235 (P : Params) : Obj := ⟨(.type "code"), none, (.fields #[(.str "Block" 450), (.str "Block" 451), (.str "/claim/cut.py" 452), (.int (94) 0), (.int (0) 0), (.int (0) 0), (.int (0) 0), (.int (0) 0), (.ref 233), (.bool false), (.int (181) 0), (.ref 234), .none, .none, .none, .none, (.int (453) 0), (.int (94) 0), (.str "/claim/cut.py" 454)]), #[]⟩
def o236 (P : Params) : Obj := ⟨(.type "frame"), none, .plain, #[(some (.ref 235)), (some (.ref 3)), (some (.ref 232)), none, (some (.str "mostwise.rules" 236)), none, (some (.ref 0))]⟩
def o237 (P : Params) : Obj := ⟨(.type "tuple"), none, (.seq #[] 0), #[]⟩
def o238 (P : Params) : Obj := ⟨.none, none, (.fields #[]), #[]⟩
def o239 (P : Params) : Obj := ⟨(.type "tuple"), none, (.seq #[(.str "self" 463)] 0), #[]⟩
def o240 (P : Params) : Obj := ⟨(.type "tuple"), none, (.seq #[] 0), #[]⟩
def o241 (P : Params) : Obj := kC "word" "Block.word" (inClass (top 14) 0)
def o242 (P : Params) : Obj := ⟨(.type "code"), none, (.fields #[(.str "word" 460), (.str "Block.word" 461), (.str "/claim/cut.py" 462), (.int (96) 0), (.int (1) 0), (.int (0) 0), (.int (0) 0), (.int (3) 0), (.ref 237), (.bool true), (.int (181) 0), (.ref 238), .none, (.ref 239), (.ref 240), (.ref 241), (.int (464) 0), (.int (96) 0), (.str "/claim/cut.py" 465)]), #[]⟩
def o243 (P : Params) : Obj := ⟨(.type "function"), none, (.func (PySem.W.fnOf "word" "Block.word" (defArgs (inClass (top 14) 0)) (defBody (inClass (top 14) 0)) (defScope (inClass (top 14) 0)) .none .none .none (.str "mostwise.rules" 236) none (.ref 242) .none)), #[]⟩
def o244 (P : Params) : Obj := ⟨(.type "tuple"), none, (.seq #[] 0), #[]⟩
def o245 (P : Params) : Obj := ⟨.none, none, (.fields #[]), #[]⟩
def o246 (P : Params) : Obj := ⟨(.type "tuple"), none, (.seq #[(.str "self" 470)] 0), #[]⟩
def o247 (P : Params) : Obj := ⟨(.type "tuple"), none, (.seq #[] 0), #[]⟩
def o248 (P : Params) : Obj := kC "speaks" "Block.speaks" (inClass (top 14) 1)
def o249 (P : Params) : Obj := ⟨(.type "code"), none, (.fields #[(.str "speaks" 467), (.str "Block.speaks" 468), (.str "/claim/cut.py" 469), (.int (99) 0), (.int (1) 0), (.int (0) 0), (.int (0) 0), (.int (3) 0), (.ref 244), (.bool true), (.int (181) 0), (.ref 245), .none, (.ref 246), (.ref 247), (.ref 248), (.int (471) 0), (.int (99) 0), (.str "/claim/cut.py" 472)]), #[]⟩
def o250 (P : Params) : Obj := ⟨(.type "function"), none, (.func (PySem.W.fnOf "speaks" "Block.speaks" (defArgs (inClass (top 14) 1)) (defBody (inClass (top 14) 1)) (defScope (inClass (top 14) 1)) .none .none .none (.str "mostwise.rules" 236) none (.ref 249) .none)), #[]⟩
def o251 (P : Params) : Obj := ⟨(.type "tuple"), none, (.seq #[] 0), #[]⟩
def o252 (P : Params) : Obj := ⟨.none, none, (.fields #[]), #[]⟩
def o253 (P : Params) : Obj := ⟨(.type "tuple"), none, (.seq #[(.str "self" 477), (.str "head" 478), (.str "body" 479)] 0), #[]⟩
def o254 (P : Params) : Obj := ⟨(.type "tuple"), none, (.seq #[] 0), #[]⟩
def o255 (P : Params) : Obj := kC "again" "Block.again" (inClass (top 14) 2)
def o256 (P : Params) : Obj := ⟨(.type "code"), none, (.fields #[(.str "again" 474), (.str "Block.again" 475), (.str "/claim/cut.py" 476), (.int (102) 0), (.int (3) 0), (.int (0) 0), (.int (0) 0), (.int (3) 0), (.ref 251), (.bool true), (.int (181) 0), (.ref 252), .none, (.ref 253), (.ref 254), (.ref 255), (.int (480) 0), (.int (102) 0), (.str "/claim/cut.py" 481)]), #[]⟩
def o257 (P : Params) : Obj := ⟨(.type "function"), none, (.func (PySem.W.fnOf "again" "Block.again" (defArgs (inClass (top 14) 2)) (defBody (inClass (top 14) 2)) (defScope (inClass (top 14) 2)) .none .none .none (.str "mostwise.rules" 236) none (.ref 256) .none)), #[]⟩
def o258 (P : Params) : Obj := ⟨(.type "tuple"), none, (.seq #[] 0), #[]⟩
def o259 (P : Params) : Obj := ⟨(.type "dict"), none, (.dict #[kE P "__module__" 455 (.str "mostwise.rules" 236), ⟨PyData.keyHash P "__firstlineno__", (.str "__firstlineno__" 459), (.int (94) 458)⟩, kE P "word" 466 (.ref 243), kE P "speaks" 473 (.ref 250), kE P "again" 482 (.ref 257), kE P "__static_attributes__" 483 (.ref 258), kE P "__doc__" 484 .none] 2), #[]⟩
def o260 (P : Params) : Obj := ⟨(.type "type"), none, (.cls ⟨"Block", [(.ref 119)], [(.ref 260), (.ref 119), (.type "object")], 259, "Block", true, [], [], false, none, false⟩), #[(some (.ref 230)), none, (some (.str "Block" 448)), (some (.str "Block" 456)), (some (.builtin "object.__new__")), (some (.bool true))]⟩
def o261 (P : Params) : Obj := ⟨(.type "super"), none, (.fields #[(.ref 260), (.ref 260), (.ref 260)]), #[]⟩
def o262 (P : Params) : Obj := ⟨(.type "builtin_function_or_method"), none, (.fields #[(.builtin "object.__init_subclass__"), (.ref 260)]), #[]⟩
def o263 (P : Params) : Obj := ⟨(.type "tuple"), none, (.seq #[] 0), #[]⟩
def o264 (P : Params) : Obj := ⟨(.type "builtin_function_or_method"), none, (.fields #[(.builtin "type.__prepare__"), (.type "type")]), #[]⟩
def o265 (P : Params) : Obj := ⟨(.type "dict"), none, (.dict #[kE P "__module__" 496 (.str "mostwise.ground" 487), kE P "__qualname__" 498 (.str "Ground" 497), ⟨PyData.keyHash P "__firstlineno__", (.str "__firstlineno__" 500), (.int (105) 499)⟩, kE P "__init__" 511 (.ref 276), kE P "rules" 518 (.ref 283), kE P "ruling" 526 (.ref 290), kE P "speaking" 534 (.ref 297), kE P "against" 542 (.ref 304), kE P "beats" 551 (.ref 311), kE P "statements" 561 (.ref 318), kE P "part" 569 (.ref 325), kE P "__static_attributes__" 573 (.ref 326)] 12), #[]⟩
def o266 (P : Params) : Obj := ⟨(.type "tuple"), none, (.seq #[] 0), #[]⟩
def o267 (P : Params) : Obj := ⟨.none, none, (.fields #[(.int (107) 0), (.int (4) 0), (.ref 275), (.int (116) 0), (.int (4) 0), (.ref 282), (.int (119) 0), (.int (4) 0), (.ref 289), (.int (122) 0), (.int (4) 0), (.ref 296), (.int (125) 0), (.int (4) 0), (.ref 303), (.int (128) 0), (.int (4) 0), (.ref 310), (.int (131) 0), (.int (4) 0), (.ref 317), (.int (139) 0), (.int (4) 0), (.ref 324)]), #[]⟩
def o268 (P : Params) : Obj := ⟨(.type "code"), none, (.fields #[(.str "Ground" 491), (.str "Ground" 492), (.str "/claim/cut.py" 493), (.int (105) 0), (.int (0) 0), (.int (0) 0), (.int (0) 0), (.int (0) 0), (.ref 266), (.bool false), (.int (181) 0), (.ref 267), .none, .none, .none, .none, (.int (494) 0), (.int (105) 0), (.str "/claim/cut.py" 495)]), #[]⟩
def o269 (P : Params) : Obj := ⟨(.type "frame"), none, .plain, #[(some (.ref 268)), (some (.ref 3)), (some (.ref 265)), none, (some (.str "mostwise.ground" 487)), none, (some (.ref 0))]⟩
def o270 (P : Params) : Obj := ⟨(.type "tuple"), none, (.seq #[] 0), #[]⟩
def o271 (P : Params) : Obj := ⟨.none, none, (.fields #[]), #[]⟩
def o272 (P : Params) : Obj := ⟨(.type "tuple"), none, (.seq #[(.str "self" 504), (.str "rules" 505), (.str "pairs" 506), (.str "rule" 507), (.str "pair" 508)] 0), #[]⟩
def o273 (P : Params) : Obj := ⟨(.type "tuple"), none, (.seq #[] 0), #[]⟩
def o274 (P : Params) : Obj := kC "__init__" "Ground.__init__" s_c_Ground_init
def o275 (P : Params) : Obj := ⟨(.type "code"), none, (.fields #[(.str "__init__" 501), (.str "Ground.__init__" 502), (.str "/claim/cut.py" 503), (.int (107) 0), (.int (3) 0), (.int (0) 0), (.int (0) 0), (.int (3) 0), (.ref 270), (.bool true), (.int (181) 0), (.ref 271), .none, (.ref 272), (.ref 273), (.ref 274), (.int (509) 0), (.int (107) 0), (.str "/claim/cut.py" 510)]), #[]⟩
def o276 (P : Params) : Obj := ⟨(.type "function"), none, (.func (PySem.W.fnOf "__init__" "Ground.__init__" (defArgs s_c_Ground_init) (defBody s_c_Ground_init) (defScope s_c_Ground_init) .none .none .none (.str "mostwise.ground" 487) none (.ref 275) .none)), #[]⟩
def o277 (P : Params) : Obj := ⟨(.type "tuple"), none, (.seq #[] 0), #[]⟩
def o278 (P : Params) : Obj := ⟨.none, none, (.fields #[]), #[]⟩
def o279 (P : Params) : Obj := ⟨(.type "tuple"), none, (.seq #[(.str "self" 515)] 0), #[]⟩
def o280 (P : Params) : Obj := ⟨(.type "tuple"), none, (.seq #[] 0), #[]⟩
def o281 (P : Params) : Obj := kC "rules" "Ground.rules" s_c_Ground_rules
def o282 (P : Params) : Obj := ⟨(.type "code"), none, (.fields #[(.str "rules" 512), (.str "Ground.rules" 513), (.str "/claim/cut.py" 514), (.int (116) 0), (.int (1) 0), (.int (0) 0), (.int (0) 0), (.int (3) 0), (.ref 277), (.bool true), (.int (181) 0), (.ref 278), .none, (.ref 279), (.ref 280), (.ref 281), (.int (516) 0), (.int (116) 0), (.str "/claim/cut.py" 517)]), #[]⟩
def o283 (P : Params) : Obj := ⟨(.type "function"), none, (.func (PySem.W.fnOf "rules" "Ground.rules" (defArgs s_c_Ground_rules) (defBody s_c_Ground_rules) (defScope s_c_Ground_rules) .none .none .none (.str "mostwise.ground" 487) none (.ref 282) .none)), #[]⟩
def o284 (P : Params) : Obj := ⟨(.type "tuple"), none, (.seq #[] 0), #[]⟩
def o285 (P : Params) : Obj := ⟨.none, none, (.fields #[]), #[]⟩
def o286 (P : Params) : Obj := ⟨(.type "tuple"), none, (.seq #[(.str "self" 522), (.str "statement" 523)] 0), #[]⟩
def o287 (P : Params) : Obj := ⟨(.type "tuple"), none, (.seq #[] 0), #[]⟩
def o288 (P : Params) : Obj := kC "ruling" "Ground.ruling" (inClass (top 16) 2)
def o289 (P : Params) : Obj := ⟨(.type "code"), none, (.fields #[(.str "ruling" 519), (.str "Ground.ruling" 520), (.str "/claim/cut.py" 521), (.int (119) 0), (.int (2) 0), (.int (0) 0), (.int (0) 0), (.int (3) 0), (.ref 284), (.bool true), (.int (181) 0), (.ref 285), .none, (.ref 286), (.ref 287), (.ref 288), (.int (524) 0), (.int (119) 0), (.str "/claim/cut.py" 525)]), #[]⟩
def o290 (P : Params) : Obj := ⟨(.type "function"), none, (.func (PySem.W.fnOf "ruling" "Ground.ruling" (defArgs (inClass (top 16) 2)) (defBody (inClass (top 16) 2)) (defScope (inClass (top 16) 2)) .none .none .none (.str "mostwise.ground" 487) none (.ref 289) .none)), #[]⟩
def o291 (P : Params) : Obj := ⟨(.type "tuple"), none, (.seq #[] 0), #[]⟩
def o292 (P : Params) : Obj := ⟨.none, none, (.fields #[]), #[]⟩
def o293 (P : Params) : Obj := ⟨(.type "tuple"), none, (.seq #[(.str "self" 530), (.str "statement" 531)] 0), #[]⟩
def o294 (P : Params) : Obj := ⟨(.type "tuple"), none, (.seq #[] 0), #[]⟩
def o295 (P : Params) : Obj := kC "speaking" "Ground.speaking" (inClass (top 16) 3)
def o296 (P : Params) : Obj := ⟨(.type "code"), none, (.fields #[(.str "speaking" 527), (.str "Ground.speaking" 528), (.str "/claim/cut.py" 529), (.int (122) 0), (.int (2) 0), (.int (0) 0), (.int (0) 0), (.int (3) 0), (.ref 291), (.bool true), (.int (181) 0), (.ref 292), .none, (.ref 293), (.ref 294), (.ref 295), (.int (532) 0), (.int (122) 0), (.str "/claim/cut.py" 533)]), #[]⟩
def o297 (P : Params) : Obj := ⟨(.type "function"), none, (.func (PySem.W.fnOf "speaking" "Ground.speaking" (defArgs (inClass (top 16) 3)) (defBody (inClass (top 16) 3)) (defScope (inClass (top 16) 3)) .none .none .none (.str "mostwise.ground" 487) none (.ref 296) .none)), #[]⟩
def o298 (P : Params) : Obj := ⟨(.type "tuple"), none, (.seq #[] 0), #[]⟩
def o299 (P : Params) : Obj := ⟨.none, none, (.fields #[]), #[]⟩
def o300 (P : Params) : Obj := ⟨(.type "tuple"), none, (.seq #[(.str "self" 538), (.str "statement" 539)] 0), #[]⟩
def o301 (P : Params) : Obj := ⟨(.type "tuple"), none, (.seq #[] 0), #[]⟩
def o302 (P : Params) : Obj := kC "against" "Ground.against" (inClass (top 16) 4)
def o303 (P : Params) : Obj := ⟨(.type "code"), none, (.fields #[(.str "against" 535), (.str "Ground.against" 536), (.str "/claim/cut.py" 537), (.int (125) 0), (.int (2) 0), (.int (0) 0), (.int (0) 0), (.int (3) 0), (.ref 298), (.bool true), (.int (181) 0), (.ref 299), .none, (.ref 300), (.ref 301), (.ref 302), (.int (540) 0), (.int (125) 0), (.str "/claim/cut.py" 541)]), #[]⟩
def o304 (P : Params) : Obj := ⟨(.type "function"), none, (.func (PySem.W.fnOf "against" "Ground.against" (defArgs (inClass (top 16) 4)) (defBody (inClass (top 16) 4)) (defScope (inClass (top 16) 4)) .none .none .none (.str "mostwise.ground" 487) none (.ref 303) .none)), #[]⟩
def o305 (P : Params) : Obj := ⟨(.type "tuple"), none, (.seq #[] 0), #[]⟩
def o306 (P : Params) : Obj := ⟨.none, none, (.fields #[]), #[]⟩
def o307 (P : Params) : Obj := ⟨(.type "tuple"), none, (.seq #[(.str "self" 546), (.str "one" 547), (.str "other" 548)] 0), #[]⟩
def o308 (P : Params) : Obj := ⟨(.type "tuple"), none, (.seq #[] 0), #[]⟩
def o309 (P : Params) : Obj := kC "beats" "Ground.beats" (inClass (top 16) 5)
def o310 (P : Params) : Obj := ⟨(.type "code"), none, (.fields #[(.str "beats" 543), (.str "Ground.beats" 544), (.str "/claim/cut.py" 545), (.int (128) 0), (.int (3) 0), (.int (0) 0), (.int (0) 0), (.int (3) 0), (.ref 305), (.bool true), (.int (181) 0), (.ref 306), .none, (.ref 307), (.ref 308), (.ref 309), (.int (549) 0), (.int (128) 0), (.str "/claim/cut.py" 550)]), #[]⟩
def o311 (P : Params) : Obj := ⟨(.type "function"), none, (.func (PySem.W.fnOf "beats" "Ground.beats" (defArgs (inClass (top 16) 5)) (defBody (inClass (top 16) 5)) (defScope (inClass (top 16) 5)) .none .none .none (.str "mostwise.ground" 487) none (.ref 310) .none)), #[]⟩
def o312 (P : Params) : Obj := ⟨(.type "tuple"), none, (.seq #[] 0), #[]⟩
def o313 (P : Params) : Obj := ⟨.none, none, (.fields #[]), #[]⟩
def o314 (P : Params) : Obj := ⟨(.type "tuple"), none, (.seq #[(.str "self" 555), (.str "told" 556), (.str "rule" 557), (.str "statement" 558)] 0), #[]⟩
def o315 (P : Params) : Obj := ⟨(.type "tuple"), none, (.seq #[] 0), #[]⟩
def o316 (P : Params) : Obj := kC "statements" "Ground.statements" (inClass (top 16) 6)
def o317 (P : Params) : Obj := ⟨(.type "code"), none, (.fields #[(.str "statements" 552), (.str "Ground.statements" 553), (.str "/claim/cut.py" 554), (.int (131) 0), (.int (1) 0), (.int (0) 0), (.int (0) 0), (.int (3) 0), (.ref 312), (.bool true), (.int (181) 0), (.ref 313), .none, (.ref 314), (.ref 315), (.ref 316), (.int (559) 0), (.int (131) 0), (.str "/claim/cut.py" 560)]), #[]⟩
def o318 (P : Params) : Obj := ⟨(.type "function"), none, (.func (PySem.W.fnOf "statements" "Ground.statements" (defArgs (inClass (top 16) 6)) (defBody (inClass (top 16) 6)) (defScope (inClass (top 16) 6)) .none .none .none (.str "mostwise.ground" 487) none (.ref 317) .none)), #[]⟩
def o319 (P : Params) : Obj := ⟨(.type "tuple"), none, (.seq #[] 0), #[]⟩
def o320 (P : Params) : Obj := ⟨.none, none, (.fields #[]), #[]⟩
def o321 (P : Params) : Obj := ⟨(.type "tuple"), none, (.seq #[(.str "self" 565), (.str "some" 566)] 0), #[]⟩
def o322 (P : Params) : Obj := ⟨(.type "tuple"), none, (.seq #[] 0), #[]⟩
def o323 (P : Params) : Obj := kC "part" "Ground.part" (inClass (top 16) 7)
def o324 (P : Params) : Obj := ⟨(.type "code"), none, (.fields #[(.str "part" 562), (.str "Ground.part" 563), (.str "/claim/cut.py" 564), (.int (139) 0), (.int (2) 0), (.int (0) 0), (.int (0) 0), (.int (3) 0), (.ref 319), (.bool true), (.int (181) 0), (.ref 320), .none, (.ref 321), (.ref 322), (.ref 323), (.int (567) 0), (.int (139) 0), (.str "/claim/cut.py" 568)]), #[]⟩
def o325 (P : Params) : Obj := ⟨(.type "function"), none, (.func (PySem.W.fnOf "part" "Ground.part" (defArgs (inClass (top 16) 7)) (defBody (inClass (top 16) 7)) (defScope (inClass (top 16) 7)) .none .none .none (.str "mostwise.ground" 487) none (.ref 324) .none)), #[]⟩
def o326 (P : Params) : Obj := ⟨(.type "tuple"), none, (.seq #[(.str "by_head" 570), (.str "in_order" 571), (.str "pairs" 572)] 0), #[]⟩
def o327 (P : Params) : Obj := ⟨(.type "dict"), none, (.dict #[kE P "__module__" 496 (.str "mostwise.ground" 487), ⟨PyData.keyHash P "__firstlineno__", (.str "__firstlineno__" 500), (.int (105) 499)⟩, kE P "__init__" 511 (.ref 276), kE P "rules" 518 (.ref 283), kE P "ruling" 526 (.ref 290), kE P "speaking" 534 (.ref 297), kE P "against" 542 (.ref 304), kE P "beats" 551 (.ref 311), kE P "statements" 561 (.ref 318), kE P "part" 569 (.ref 325), kE P "__static_attributes__" 573 (.ref 326), kE P "__dict__" 575 (.ref 329), kE P "__weakref__" 577 (.ref 330), kE P "__doc__" 578 .none] 4), #[]⟩
def o328 (P : Params) : Obj := ⟨(.type "type"), none, (.cls ⟨"Ground", [(.type "object")], [(.ref 328), (.type "object")], 327, "Ground", true, [], [], false, none, false⟩), #[none, none, (some (.str "Ground" 489)), (some (.str "Ground" 497)), (some (.builtin "object.__new__")), (some (.bool true))]⟩
def o329 (P : Params) : Obj := ⟨(.type "getset_descriptor"), none, (.fields #[(.str "__dict__" 574), (.ref 328), (.builtin "function.__dict__"), (.builtin "function.__dict__#set")]), #[]⟩
def o330 (P : Params) : Obj := ⟨(.type "getset_descriptor"), none, (.fields #[(.str "__weakref__" 576), (.ref 328), (.builtin "ExceptionGroup.__weakref__"), .none]), #[]⟩
def o331 (P : Params) : Obj := ⟨(.type "super"), none, (.fields #[(.ref 328), (.ref 328), (.ref 328)]), #[]⟩
def o332 (P : Params) : Obj := ⟨(.type "builtin_function_or_method"), none, (.fields #[(.builtin "object.__init_subclass__"), (.ref 328)]), #[]⟩
def o333 (P : Params) : Obj := ⟨(.type "tuple"), none, (.seq #[] 0), #[]⟩
def o334 (P : Params) : Obj := ⟨.none, none, (.fields #[]), #[]⟩
def o335 (P : Params) : Obj := ⟨(.type "tuple"), none, (.seq #[(.str "_law_script" 586), (.str "_law_k" 587)] 0), #[]⟩
def o336 (P : Params) : Obj := ⟨(.type "tuple"), none, (.seq #[] 0), #[]⟩
def o337 (P : Params) : Obj := kC "_law_cell_at" "_law_cell_at" s_d_l_cell_at
def o338 (P : Params) : Obj := ⟨(.type "code"), none, (.fields #[(.str "_law_cell_at" 583), (.str "_law_cell_at" 584), (.str "/claim/cut.py" 585), (.int (142) 0), (.int (2) 0), (.int (0) 0), (.int (0) 0), (.int (3) 0), (.ref 333), (.bool true), (.int (181) 0), (.ref 334), .none, (.ref 335), (.ref 336), (.ref 337), (.int (588) 0), (.int (142) 0), (.str "/claim/cut.py" 589)]), #[]⟩
def o339 (P : Params) : Obj := ⟨(.type "function"), none, (.func (PySem.W.fnOf "_law_cell_at" "_law_cell_at" (defArgs s_d_l_cell_at) (defBody s_d_l_cell_at) (defScope s_d_l_cell_at) .none .none .none (.str "law_mostwise_k32_sure_steps" 581) none (.ref 338) .none)), #[]⟩
def o340 (P : Params) : Obj := ⟨(.type "tuple"), none, (.seq #[] 0), #[]⟩
def o341 (P : Params) : Obj := ⟨.none, none, (.fields #[]), #[]⟩
def o342 (P : Params) : Obj := ⟨(.type "tuple"), none, (.seq #[(.str "_law_cell" 594), (.str "_law_k" 595), (.str "_law_number" 596)] 0), #[]⟩
def o343 (P : Params) : Obj := ⟨(.type "tuple"), none, (.seq #[] 0), #[]⟩
def o344 (P : Params) : Obj := kC "_law_mix" "_law_mix" s_d_l_mix
def o345 (P : Params) : Obj := ⟨(.type "code"), none, (.fields #[(.str "_law_mix" 591), (.str "_law_mix" 592), (.str "/claim/cut.py" 593), (.int (146) 0), (.int (2) 0), (.int (0) 0), (.int (0) 0), (.int (3) 0), (.ref 340), (.bool true), (.int (181) 0), (.ref 341), .none, (.ref 342), (.ref 343), (.ref 344), (.int (597) 0), (.int (146) 0), (.str "/claim/cut.py" 598)]), #[]⟩
def o346 (P : Params) : Obj := ⟨(.type "function"), none, (.func (PySem.W.fnOf "_law_mix" "_law_mix" (defArgs s_d_l_mix) (defBody s_d_l_mix) (defScope s_d_l_mix) .none .none .none (.str "law_mostwise_k32_sure_steps" 581) none (.ref 345) .none)), #[]⟩
def o347 (P : Params) : Obj := ⟨(.type "tuple"), none, (.seq #[] 0), #[]⟩
def o348 (P : Params) : Obj := ⟨.none, none, (.fields #[]), #[]⟩
def o349 (P : Params) : Obj := ⟨(.type "tuple"), none, (.seq #[(.str "_law_cell" 603), (.str "_law_k" 604), (.str "_law_signs" 605), (.str "_law_size" 606), (.str "_law_at" 607), (.str "_law_word_here" 608), (.str "_law_j" 609), (.str "_law_step" 610)] 0), #[]⟩
def o350 (P : Params) : Obj := ⟨(.type "tuple"), none, (.seq #[] 0), #[]⟩
def o351 (P : Params) : Obj := kC "_law_word" "_law_word" s_d_l_word
def o352 (P : Params) : Obj := ⟨(.type "code"), none, (.fields #[(.str "_law_word" 600), (.str "_law_word" 601), (.str "/claim/cut.py" 602), (.int (150) 0), (.int (3) 0), (.int (0) 0), (.int (0) 0), (.int (3) 0), (.ref 347), (.bool true), (.int (181) 0), (.ref 348), .none, (.ref 349), (.ref 350), (.ref 351), (.int (611) 0), (.int (150) 0), (.str "/claim/cut.py" 612)]), #[]⟩
def o353 (P : Params) : Obj := ⟨(.type "function"), none, (.func (PySem.W.fnOf "_law_word" "_law_word" (defArgs s_d_l_word) (defBody s_d_l_word) (defScope s_d_l_word) .none .none .none (.str "law_mostwise_k32_sure_steps" 581) none (.ref 352) .none)), #[]⟩
def o354 (P : Params) : Obj := ⟨(.type "tuple"), none, (.seq #[] 0), #[]⟩
def o355 (P : Params) : Obj := ⟨.none, none, (.fields #[]), #[]⟩
def o356 (P : Params) : Obj := kC "_law_pool" "_law_pool" s_d_l_pool
def o357 (P : Params) : Obj := ⟨(.type "code"), none, (.fields #[(.str "_law_pool" 614), (.str "_law_pool" 615), (.str "/claim/cut.py" 616), (.int (160) 0), (.int (1) 0), (.int (0) 0), (.int (0) 0), (.int (3) 0), (.ref 354), (.bool true), (.int (181) 0), (.ref 355), .none, .none, .none, (.ref 356), (.int (617) 0), (.int (160) 0), (.str "/claim/cut.py" 618)]), #[]⟩
def o358 (P : Params) : Obj := ⟨(.type "function"), none, (.func (PySem.W.fnOf "_law_pool" "_law_pool" (defArgs s_d_l_pool) (defBody s_d_l_pool) (defScope s_d_l_pool) .none .none .none (.str "law_mostwise_k32_sure_steps" 581) none (.ref 357) .none)), #[]⟩
def o359 (P : Params) : Obj := ⟨(.type "tuple"), none, (.seq #[] 0), #[]⟩
def o360 (P : Params) : Obj := ⟨.none, none, (.fields #[]), #[]⟩
def o361 (P : Params) : Obj := kC "_law_row" "_law_row" s_d_l_row
def o362 (P : Params) : Obj := ⟨(.type "code"), none, (.fields #[(.str "_law_row" 620), (.str "_law_row" 621), (.str "/claim/cut.py" 622), (.int (168) 0), (.int (5) 0), (.int (0) 0), (.int (0) 0), (.int (3) 0), (.ref 359), (.bool true), (.int (181) 0), (.ref 360), .none, .none, .none, (.ref 361), (.int (623) 0), (.int (168) 0), (.str "/claim/cut.py" 624)]), #[]⟩
def o363 (P : Params) : Obj := ⟨(.type "function"), none, (.func (PySem.W.fnOf "_law_row" "_law_row" (defArgs s_d_l_row) (defBody s_d_l_row) (defScope s_d_l_row) .none .none .none (.str "law_mostwise_k32_sure_steps" 581) none (.ref 362) .none)), #[]⟩
def o364 (P : Params) : Obj := ⟨(.type "tuple"), none, (.seq #[] 0), #[]⟩
def o365 (P : Params) : Obj := ⟨.none, none, (.fields #[]), #[]⟩
def o366 (P : Params) : Obj := ⟨(.type "tuple"), none, (.seq #[(.str "_law_row_here" 629), (.str "_law_sort" 630), (.str "_law_label" 631), (.str "_law_head" 632), (.str "_law_body" 633)] 0), #[]⟩
def o367 (P : Params) : Obj := ⟨(.type "tuple"), none, (.seq #[] 0), #[]⟩
def o368 (P : Params) : Obj := kC "_law_made" "_law_made" s_d_l_made
def o369 (P : Params) : Obj := ⟨(.type "code"), none, (.fields #[(.str "_law_made" 626), (.str "_law_made" 627), (.str "/claim/cut.py" 628), (.int (182) 0), (.int (1) 0), (.int (0) 0), (.int (0) 0), (.int (3) 0), (.ref 364), (.bool true), (.int (181) 0), (.ref 365), .none, (.ref 366), (.ref 367), (.ref 368), (.int (634) 0), (.int (182) 0), (.str "/claim/cut.py" 635)]), #[]⟩
def o370 (P : Params) : Obj := ⟨(.type "function"), none, (.func (PySem.W.fnOf "_law_made" "_law_made" (defArgs s_d_l_made) (defBody s_d_l_made) (defScope s_d_l_made) .none .none .none (.str "law_mostwise_k32_sure_steps" 581) none (.ref 369) .none)), #[]⟩
def o371 (P : Params) : Obj := ⟨(.type "tuple"), none, (.seq #[] 0), #[]⟩
def o372 (P : Params) : Obj := ⟨.none, none, (.fields #[]), #[]⟩
def o373 (P : Params) : Obj := kC "_law_labels" "_law_labels" s_d_l_labels
def o374 (P : Params) : Obj := ⟨(.type "code"), none, (.fields #[(.str "_law_labels" 637), (.str "_law_labels" 638), (.str "/claim/cut.py" 639), (.int (191) 0), (.int (1) 0), (.int (0) 0), (.int (0) 0), (.int (3) 0), (.ref 371), (.bool true), (.int (181) 0), (.ref 372), .none, .none, .none, (.ref 373), (.int (640) 0), (.int (191) 0), (.str "/claim/cut.py" 641)]), #[]⟩
def o375 (P : Params) : Obj := ⟨(.type "function"), none, (.func (PySem.W.fnOf "_law_labels" "_law_labels" (defArgs s_d_l_labels) (defBody s_d_l_labels) (defScope s_d_l_labels) .none .none .none (.str "law_mostwise_k32_sure_steps" 581) none (.ref 374) .none)), #[]⟩
def o376 (P : Params) : Obj := ⟨(.type "tuple"), none, (.seq #[] 0), #[]⟩
def o377 (P : Params) : Obj := ⟨.none, none, (.fields #[]), #[]⟩
def o378 (P : Params) : Obj := ⟨(.type "tuple"), none, (.seq #[(.str "_law_cell" 646), (.str "_law_pool_here" 647), (.str "_law_labels_here" 648), (.str "_law_size" 649), (.str "_law_sort" 650), (.str "_law_label" 651), (.str "_law_head" 652), (.str "_law_many" 653), (.str "_law_rest" 654), (.str "_law_body" 655), (.str "_law_j" 656)] 0), #[]⟩
def o379 (P : Params) : Obj := ⟨(.type "tuple"), none, (.seq #[] 0), #[]⟩
def o380 (P : Params) : Obj := kC "_law_row_by_digits" "_law_row_by_digits" s_d_l_row_by_digits
def o381 (P : Params) : Obj := ⟨(.type "code"), none, (.fields #[(.str "_law_row_by_digits" 643), (.str "_law_row_by_digits" 644), (.str "/claim/cut.py" 645), (.int (193) 0), (.int (3) 0), (.int (0) 0), (.int (0) 0), (.int (3) 0), (.ref 376), (.bool true), (.int (181) 0), (.ref 377), .none, (.ref 378), (.ref 379), (.ref 380), (.int (657) 0), (.int (193) 0), (.str "/claim/cut.py" 658)]), #[]⟩
def o382 (P : Params) : Obj := ⟨(.type "function"), none, (.func (PySem.W.fnOf "_law_row_by_digits" "_law_row_by_digits" (defArgs s_d_l_row_by_digits) (defBody s_d_l_row_by_digits) (defScope s_d_l_row_by_digits) .none .none .none (.str "law_mostwise_k32_sure_steps" 581) none (.ref 381) .none)), #[]⟩
def o383 (P : Params) : Obj := ⟨(.type "tuple"), none, (.seq #[] 0), #[]⟩
def o384 (P : Params) : Obj := ⟨.none, none, (.fields #[]), #[]⟩
def o385 (P : Params) : Obj := kC "_law_rows" "_law_rows" s_d_l_rows
def o386 (P : Params) : Obj := ⟨(.type "code"), none, (.fields #[(.str "_law_rows" 660), (.str "_law_rows" 661), (.str "/claim/cut.py" 662), (.int (207) 0), (.int (2) 0), (.int (0) 0), (.int (0) 0), (.int (3) 0), (.ref 383), (.bool true), (.int (181) 0), (.ref 384), .none, .none, .none, (.ref 385), (.int (663) 0), (.int (207) 0), (.str "/claim/cut.py" 664)]), #[]⟩
def o387 (P : Params) : Obj := ⟨(.type "function"), none, (.func (PySem.W.fnOf "_law_rows" "_law_rows" (defArgs s_d_l_rows) (defBody s_d_l_rows) (defScope s_d_l_rows) .none .none .none (.str "law_mostwise_k32_sure_steps" 581) none (.ref 386) .none)), #[]⟩
def o388 (P : Params) : Obj := ⟨(.type "tuple"), none, (.seq #[] 0), #[]⟩
def o389 (P : Params) : Obj := ⟨.none, none, (.fields #[]), #[]⟩
def o390 (P : Params) : Obj := kC "_law_rounds" "_law_rounds" s_d_l_rounds
def o391 (P : Params) : Obj := ⟨(.type "code"), none, (.fields #[(.str "_law_rounds" 666), (.str "_law_rounds" 667), (.str "/claim/cut.py" 668), (.int (215) 0), (.int (2) 0), (.int (0) 0), (.int (0) 0), (.int (3) 0), (.ref 388), (.bool true), (.int (181) 0), (.ref 389), .none, .none, .none, (.ref 390), (.int (669) 0), (.int (215) 0), (.str "/claim/cut.py" 670)]), #[]⟩
def o392 (P : Params) : Obj := ⟨(.type "function"), none, (.func (PySem.W.fnOf "_law_rounds" "_law_rounds" (defArgs s_d_l_rounds) (defBody s_d_l_rounds) (defScope s_d_l_rounds) .none .none .none (.str "law_mostwise_k32_sure_steps" 581) none (.ref 391) .none)), #[]⟩
def o393 (P : Params) : Obj := ⟨(.type "tuple"), none, (.seq #[] 0), #[]⟩
def o394 (P : Params) : Obj := ⟨.none, none, (.fields #[]), #[]⟩
def o395 (P : Params) : Obj := kC "_law_due" "_law_due" s_d_l_due
def o396 (P : Params) : Obj := ⟨(.type "code"), none, (.fields #[(.str "_law_due" 672), (.str "_law_due" 673), (.str "/claim/cut.py" 674), (.int (232) 0), (.int (1) 0), (.int (0) 0), (.int (0) 0), (.int (3) 0), (.ref 393), (.bool true), (.int (181) 0), (.ref 394), .none, .none, .none, (.ref 395), (.int (675) 0), (.int (232) 0), (.str "/claim/cut.py" 676)]), #[]⟩
def o397 (P : Params) : Obj := ⟨(.type "function"), none, (.func (PySem.W.fnOf "_law_due" "_law_due" (defArgs s_d_l_due) (defBody s_d_l_due) (defScope s_d_l_due) .none .none .none (.str "law_mostwise_k32_sure_steps" 581) none (.ref 396) .none)), #[]⟩
def o398 (P : Params) : Obj := ⟨(.type "tuple"), none, (.seq #[] 0), #[]⟩
def o399 (P : Params) : Obj := ⟨.none, none, (.fields #[]), #[]⟩
def o400 (P : Params) : Obj := ⟨(.type "tuple"), none, (.seq #[(.str "_law_cell" 681), (.str "_law_labels_here" 682), (.str "_law_pairs_here" 683), (.str "_law_k" 684), (.str "_law_at" 685)] 0), #[]⟩
def o401 (P : Params) : Obj := ⟨(.type "tuple"), none, (.seq #[] 0), #[]⟩
def o402 (P : Params) : Obj := kC "_law_pairs" "_law_pairs" s_d_l_pairs
def o403 (P : Params) : Obj := ⟨(.type "code"), none, (.fields #[(.str "_law_pairs" 678), (.str "_law_pairs" 679), (.str "/claim/cut.py" 680), (.int (235) 0), (.int (1) 0), (.int (0) 0), (.int (0) 0), (.int (3) 0), (.ref 398), (.bool true), (.int (181) 0), (.ref 399), .none, (.ref 400), (.ref 401), (.ref 402), (.int (686) 0), (.int (235) 0), (.str "/claim/cut.py" 687)]), #[]⟩
def o404 (P : Params) : Obj := ⟨(.type "function"), none, (.func (PySem.W.fnOf "_law_pairs" "_law_pairs" (defArgs s_d_l_pairs) (defBody s_d_l_pairs) (defScope s_d_l_pairs) .none .none .none (.str "law_mostwise_k32_sure_steps" 581) none (.ref 403) .none)), #[]⟩
def o405 (P : Params) : Obj := ⟨(.type "tuple"), none, (.seq #[] 0), #[]⟩
def o406 (P : Params) : Obj := ⟨.none, none, (.fields #[]), #[]⟩
def o407 (P : Params) : Obj := kC "law" "law" s_d_law
def o408 (P : Params) : Obj := ⟨(.type "code"), none, (.fields #[(.str "law" 689), (.str "law" 690), (.str "/claim/cut.py" 691), (.int (242) 0), (.int (1) 0), (.int (0) 0), (.int (0) 0), (.int (3) 0), (.ref 405), (.bool true), (.int (181) 0), (.ref 406), .none, .none, .none, (.ref 407), (.int (692) 0), (.int (242) 0), (.str "/claim/cut.py" 693)]), #[]⟩
def o409 (P : Params) : Obj := ⟨(.type "function"), none, (.func (PySem.W.fnOf "law" "law" (defArgs s_d_law) (defBody s_d_law) (defScope s_d_law) .none .none .none (.str "law_mostwise_k32_sure_steps" 581) none (.ref 408) .none)), #[]⟩
def p3 (P : Params) : Obj := ⟨(.type "dict"), none, (.dict #[kE P "__name__" 165 (.str "__main__" 164), kE P "__doc__" 166 .none, kE P "__package__" 167 .none, kE P "__loader__" 168 (.builtin "__main__.__loader__#opaque"), kE P "__spec__" 169 .none, kE P "__annotations__" 170 (.ref 6), kE P "__builtins__" 171 (.ref 4), kE P "__file__" 173 (.str "/claim/cut.py" 172), kE P "__cached__" 174 .none] 9), #[]⟩
def H0 (P : Params) : Heap := ⟨⟨o0 P :: o1 P :: o2 P :: p3 P :: o4 P :: o5 P :: o6 P :: o7 P :: o8 P :: o9 P :: o10 P :: []⟩, {}⟩
def H1 (P : Params) : Heap := ⟨⟨o0 P :: o1 P :: o2 P :: o3 P :: o4 P :: o5 P :: o6 P :: o7 P :: o8 P :: o9 P :: o10 P :: o11 P :: o12 P :: o13 P :: o14 P :: o15 P :: o16 P :: o17 P :: o18 P :: o19 P :: o20 P :: o21 P :: o22 P :: o23 P :: o24 P :: o25 P :: o26 P :: o27 P :: o28 P :: o29 P :: o30 P :: o31 P :: o32 P :: o33 P :: o34 P :: o35 P :: o36 P :: o37 P :: o38 P :: o39 P :: o40 P :: o41 P :: o42 P :: o43 P :: o44 P :: o45 P :: o46 P :: o47 P :: o48 P :: o49 P :: o50 P :: o51 P :: o52 P :: o53 P :: o54 P :: o55 P :: o56 P :: o57 P :: o58 P :: o59 P :: o60 P :: o61 P :: o62 P :: o63 P :: o64 P :: o65 P :: o66 P :: o67 P :: o68 P :: o69 P :: o70 P :: o71 P :: o72 P :: o73 P :: o74 P :: o75 P :: o76 P :: o77 P :: o78 P :: o79 P :: o80 P :: o81 P :: o82 P :: o83 P :: o84 P :: o85 P :: o86 P :: o87 P :: o88 P :: o89 P :: o90 P :: o91 P :: o92 P :: o93 P :: o94 P :: o95 P :: o96 P :: o97 P :: o98 P :: o99 P :: o100 P :: o101 P :: o102 P :: o103 P :: o104 P :: o105 P :: o106 P :: o107 P :: o108 P :: o109 P :: o110 P :: o111 P :: o112 P :: o113 P :: o114 P :: o115 P :: o116 P :: o117 P :: o118 P :: o119 P :: o120 P :: o121 P :: o122 P :: o123 P :: o124 P :: o125 P :: o126 P :: o127 P :: o128 P :: o129 P :: o130 P :: o131 P :: o132 P :: o133 P :: o134 P :: o135 P :: o136 P :: o137 P :: o138 P :: o139 P :: o140 P :: o141 P :: o142 P :: o143 P :: o144 P :: o145 P :: o146 P :: o147 P :: o148 P :: o149 P :: o150 P :: o151 P :: o152 P :: o153 P :: o154 P :: o155 P :: o156 P :: o157 P :: o158 P :: o159 P :: o160 P :: o161 P :: o162 P :: o163 P :: o164 P :: o165 P :: o166 P :: o167 P :: o168 P :: o169 P :: o170 P :: o171 P :: o172 P :: o173 P :: o174 P :: o175 P :: o176 P :: o177 P :: o178 P :: o179 P :: o180 P :: o181 P :: o182 P :: o183 P :: o184 P :: o185 P :: o186 P :: o187 P :: o188 P :: o189 P :: o190 P :: o191 P :: o192 P :: o193 P :: o194 P :: o195 P :: o196 P :: o197 P :: o198 P :: o199 P :: o200 P :: o201 P :: o202 P :: o203 P :: o204 P :: o205 P :: o206 P :: o207 P :: o208 P :: o209 P :: o210 P :: o211 P :: o212 P :: o213 P :: o214 P :: o215 P :: o216 P :: o217 P :: o218 P :: o219 P :: o220 P :: o221 P :: o222 P :: o223 P :: o224 P :: o225 P :: o226 P :: o227 P :: o228 P :: o229 P :: o230 P :: o231 P :: o232 P :: o233 P :: o234 P :: o235 P :: o236 P :: o237 P :: o238 P :: o239 P :: o240 P :: o241 P :: o242 P :: o243 P :: o244 P :: o245 P :: o246 P :: o247 P :: o248 P :: o249 P :: o250 P :: o251 P :: o252 P :: o253 P :: o254 P :: o255 P :: o256 P :: o257 P :: o258 P :: o259 P :: o260 P :: o261 P :: o262 P :: o263 P :: o264 P :: o265 P :: o266 P :: o267 P :: o268 P :: o269 P :: o270 P :: o271 P :: o272 P :: o273 P :: o274 P :: o275 P :: o276 P :: o277 P :: o278 P :: o279 P :: o280 P :: o281 P :: o282 P :: o283 P :: o284 P :: o285 P :: o286 P :: o287 P :: o288 P :: o289 P :: o290 P :: o291 P :: o292 P :: o293 P :: o294 P :: o295 P :: o296 P :: o297 P :: o298 P :: o299 P :: o300 P :: o301 P :: o302 P :: o303 P :: o304 P :: o305 P :: o306 P :: o307 P :: o308 P :: o309 P :: o310 P :: o311 P :: o312 P :: o313 P :: o314 P :: o315 P :: o316 P :: o317 P :: o318 P :: o319 P :: o320 P :: o321 P :: o322 P :: o323 P :: o324 P :: o325 P :: o326 P :: o327 P :: o328 P :: o329 P :: o330 P :: o331 P :: o332 P :: o333 P :: o334 P :: o335 P :: o336 P :: o337 P :: o338 P :: o339 P :: o340 P :: o341 P :: o342 P :: o343 P :: o344 P :: o345 P :: o346 P :: o347 P :: o348 P :: o349 P :: o350 P :: o351 P :: o352 P :: o353 P :: o354 P :: o355 P :: o356 P :: o357 P :: o358 P :: o359 P :: o360 P :: o361 P :: o362 P :: o363 P :: o364 P :: o365 P :: o366 P :: o367 P :: o368 P :: o369 P :: o370 P :: o371 P :: o372 P :: o373 P :: o374 P :: o375 P :: o376 P :: o377 P :: o378 P :: o379 P :: o380 P :: o381 P :: o382 P :: o383 P :: o384 P :: o385 P :: o386 P :: o387 P :: o388 P :: o389 P :: o390 P :: o391 P :: o392 P :: o393 P :: o394 P :: o395 P :: o396 P :: o397 P :: o398 P :: o399 P :: o400 P :: o401 P :: o402 P :: o403 P :: o404 P :: o405 P :: o406 P :: o407 P :: o408 P :: o409 P :: []⟩, {}⟩
def heapK : Params → PySem.W.Frag := fun P =>
(nat_lit 2, o2 P) :: (nat_lit 3, o3 P) :: (nat_lit 4, o4 P) :: (nat_lit 15, o15 P) :: (nat_lit 17, o17 P) :: (nat_lit 18, o18 P) :: (nat_lit 20, o20 P) :: (nat_lit 22, o22 P) :: (nat_lit 24, o24 P) :: (nat_lit 25, o25 P) :: (nat_lit 27, o27 P) :: (nat_lit 28, o28 P) :: (nat_lit 29, o29 P) :: (nat_lit 32, o32 P) :: (nat_lit 33, o33 P) :: (nat_lit 34, o34 P) :: (nat_lit 35, o35 P) :: (nat_lit 38, o38 P) :: (nat_lit 39, o39 P) :: (nat_lit 40, o40 P) :: (nat_lit 42, o42 P) :: (nat_lit 43, o43 P) :: (nat_lit 45, o45 P) :: (nat_lit 46, o46 P) :: (nat_lit 47, o47 P) :: (nat_lit 49, o49 P) :: (nat_lit 50, o50 P) :: (nat_lit 52, o52 P) :: (nat_lit 61, o61 P) :: (nat_lit 63, o63 P) :: (nat_lit 64, o64 P) :: (nat_lit 66, o66 P) :: (nat_lit 67, o67 P) :: (nat_lit 68, o68 P) :: (nat_lit 70, o70 P) :: (nat_lit 71, o71 P) :: (nat_lit 73, o73 P) :: (nat_lit 75, o75 P) :: (nat_lit 77, o77 P) :: (nat_lit 78, o78 P) :: (nat_lit 80, o80 P) :: (nat_lit 82, o82 P) :: (nat_lit 84, o84 P) :: (nat_lit 85, o85 P) :: (nat_lit 87, o87 P) :: (nat_lit 88, o88 P) :: (nat_lit 89, o89 P) :: (nat_lit 91, o91 P) :: (nat_lit 92, o92 P) :: (nat_lit 94, o94 P) :: (nat_lit 96, o96 P) :: (nat_lit 98, o98 P) :: (nat_lit 99, o99 P) :: (nat_lit 101, o101 P) :: (nat_lit 103, o103 P) :: (nat_lit 105, o105 P) :: (nat_lit 106, o106 P) :: (nat_lit 108, o108 P) :: (nat_lit 110, o110 P) :: (nat_lit 112, o112 P) :: (nat_lit 113, o113 P) :: (nat_lit 115, o115 P) :: (nat_lit 117, o117 P) :: (nat_lit 118, o118 P) :: (nat_lit 119, o119 P) :: (nat_lit 120, o120 P) :: (nat_lit 121, o121 P) :: (nat_lit 124, o124 P) :: (nat_lit 131, o131 P) :: (nat_lit 133, o133 P) :: (nat_lit 134, o134 P) :: (nat_lit 136, o136 P) :: (nat_lit 137, o137 P) :: (nat_lit 138, o138 P) :: (nat_lit 140, o140 P) :: (nat_lit 141, o141 P) :: (nat_lit 143, o143 P) :: (nat_lit 145, o145 P) :: (nat_lit 147, o147 P) :: (nat_lit 148, o148 P) :: (nat_lit 150, o150 P) :: (nat_lit 151, o151 P) :: (nat_lit 152, o152 P) :: (nat_lit 154, o154 P) :: (nat_lit 155, o155 P) :: (nat_lit 157, o157 P) :: (nat_lit 159, o159 P) :: (nat_lit 161, o161 P) :: (nat_lit 162, o162 P) :: (nat_lit 164, o164 P) :: (nat_lit 166, o166 P) :: (nat_lit 167, o167 P) :: (nat_lit 168, o168 P) :: (nat_lit 171, o171 P) :: (nat_lit 178, o178 P) :: (nat_lit 180, o180 P) :: (nat_lit 181, o181 P) :: (nat_lit 183, o183 P) :: (nat_lit 185, o185 P) :: (nat_lit 187, o187 P) :: (nat_lit 188, o188 P) :: (nat_lit 190, o190 P) :: (nat_lit 191, o191 P) :: (nat_lit 192, o192 P) :: (nat_lit 194, o194 P) :: (nat_lit 195, o195 P) :: (nat_lit 197, o197 P) :: (nat_lit 199, o199 P) :: (nat_lit 200, o200 P) :: (nat_lit 201, o201 P) :: (nat_lit 204, o204 P) :: (nat_lit 211, o211 P) :: (nat_lit 213, o213 P) :: (nat_lit 214, o214 P) :: (nat_lit 216, o216 P) :: (nat_lit 218, o218 P) :: (nat_lit 220, o220 P) :: (nat_lit 221, o221 P) :: (nat_lit 223, o223 P) :: (nat_lit 225, o225 P) :: (nat_lit 226, o226 P) :: (nat_lit 227, o227 P) :: (nat_lit 230, o230 P) :: (nat_lit 237, o237 P) :: (nat_lit 239, o239 P) :: (nat_lit 240, o240 P) :: (nat_lit 242, o242 P) :: (nat_lit 244, o244 P) :: (nat_lit 246, o246 P) :: (nat_lit 247, o247 P) :: (nat_lit 249, o249 P) :: (nat_lit 251, o251 P) :: (nat_lit 253, o253 P) :: (nat_lit 254, o254 P) :: (nat_lit 256, o256 P) :: (nat_lit 258, o258 P) :: (nat_lit 259, o259 P) :: (nat_lit 260, o260 P) :: (nat_lit 270, o270 P) :: (nat_lit 272, o272 P) :: (nat_lit 273, o273 P) :: (nat_lit 275, o275 P) :: (nat_lit 276, o276 P) :: (nat_lit 277, o277 P) :: (nat_lit 279, o279 P) :: (nat_lit 280, o280 P) :: (nat_lit 282, o282 P) :: (nat_lit 283, o283 P) :: (nat_lit 284, o284 P) :: (nat_lit 286, o286 P) :: (nat_lit 287, o287 P) :: (nat_lit 289, o289 P) :: (nat_lit 291, o291 P) :: (nat_lit 293, o293 P) :: (nat_lit 294, o294 P) :: (nat_lit 296, o296 P) :: (nat_lit 298, o298 P) :: (nat_lit 300, o300 P) :: (nat_lit 301, o301 P) :: (nat_lit 303, o303 P) :: (nat_lit 305, o305 P) :: (nat_lit 307, o307 P) :: (nat_lit 308, o308 P) :: (nat_lit 310, o310 P) :: (nat_lit 312, o312 P) :: (nat_lit 314, o314 P) :: (nat_lit 315, o315 P) :: (nat_lit 317, o317 P) :: (nat_lit 319, o319 P) :: (nat_lit 321, o321 P) :: (nat_lit 322, o322 P) :: (nat_lit 324, o324 P) :: (nat_lit 326, o326 P) :: (nat_lit 327, o327 P) :: (nat_lit 328, o328 P) :: (nat_lit 329, o329 P) :: (nat_lit 330, o330 P) :: (nat_lit 333, o333 P) :: (nat_lit 335, o335 P) :: (nat_lit 336, o336 P) :: (nat_lit 338, o338 P) :: (nat_lit 339, o339 P) :: (nat_lit 340, o340 P) :: (nat_lit 342, o342 P) :: (nat_lit 343, o343 P) :: (nat_lit 345, o345 P) :: (nat_lit 346, o346 P) :: (nat_lit 347, o347 P) :: (nat_lit 349, o349 P) :: (nat_lit 350, o350 P) :: (nat_lit 352, o352 P) :: (nat_lit 353, o353 P) :: (nat_lit 354, o354 P) :: (nat_lit 357, o357 P) :: (nat_lit 358, o358 P) :: (nat_lit 359, o359 P) :: (nat_lit 362, o362 P) :: (nat_lit 363, o363 P) :: (nat_lit 364, o364 P) :: (nat_lit 366, o366 P) :: (nat_lit 367, o367 P) :: (nat_lit 369, o369 P) :: (nat_lit 370, o370 P) :: (nat_lit 371, o371 P) :: (nat_lit 374, o374 P) :: (nat_lit 375, o375 P) :: (nat_lit 376, o376 P) :: (nat_lit 378, o378 P) :: (nat_lit 379, o379 P) :: (nat_lit 381, o381 P) :: (nat_lit 382, o382 P) :: (nat_lit 383, o383 P) :: (nat_lit 386, o386 P) :: (nat_lit 387, o387 P) :: (nat_lit 388, o388 P) :: (nat_lit 391, o391 P) :: (nat_lit 392, o392 P) :: (nat_lit 393, o393 P) :: (nat_lit 396, o396 P) :: (nat_lit 397, o397 P) :: (nat_lit 398, o398 P) :: (nat_lit 400, o400 P) :: (nat_lit 401, o401 P) :: (nat_lit 403, o403 P) :: (nat_lit 404, o404 P) :: (nat_lit 405, o405 P) :: (nat_lit 408, o408 P) :: (nat_lit 409, o409 P) :: []
abbrev heapA : List Addr := [2, 3, 4, 15, 17, 18, 20, 22, 24, 25, 27, 28, 29, 32, 33, 34, 35, 38, 39, 40, 42, 43, 45, 46, 47, 49, 50, 52, 61, 63, 64, 66, 67, 68, 70, 71, 73, 75, 77, 78, 80, 82, 84, 85, 87, 88, 89, 91, 92, 94, 96, 98, 99, 101, 103, 105, 106, 108, 110, 112, 113, 115, 117, 118, 119, 120, 121, 124, 131, 133, 134, 136, 137, 138, 140, 141, 143, 145, 147, 148, 150, 151, 152, 154, 155, 157, 159, 161, 162, 164, 166, 167, 168, 171, 178, 180, 181, 183, 185, 187, 188, 190, 191, 192, 194, 195, 197, 199, 200, 201, 204, 211, 213, 214, 216, 218, 220, 221, 223, 225, 226, 227, 230, 237, 239, 240, 242, 244, 246, 247, 249, 251, 253, 254, 256, 258, 259, 260, 270, 272, 273, 275, 276, 277, 279, 280, 282, 283, 284, 286, 287, 289, 291, 293, 294, 296, 298, 300, 301, 303, 305, 307, 308, 310, 312, 314, 315, 317, 319, 321, 322, 324, 326, 327, 328, 329, 330, 333, 335, 336, 338, 339, 340, 342, 343, 345, 346, 347, 349, 350, 352, 353, 354, 357, 358, 359, 362, 363, 364, 366, 367, 369, 370, 371, 374, 375, 376, 378, 379, 381, 382, 383, 386, 387, 388, 391, 392, 393, 396, 397, 398, 400, 401, 403, 404, 405, 408, 409]
theorem heapE : ∀ P, heapA = (heapK P).map (·.1) := fun _ => by kernel_rfl
def heapKT : Params → PySem.W.Frag := fun P => (nat_lit 41, o41 P) :: heapK P
abbrev heapAT : List Addr := 41 :: heapA
theorem heapET : ∀ P, heapAT = (heapKT P).map (·.1) := fun _ => by kernel_rfl
def viewQ : Program := PySem.W.view PySem.Challenge.pw_mostwise_k32_sure_steps [0, 2, 3, 6, 8, 10, 11, 12, 13, 14, 16, 18, 19, 20, 21, 22, 23, 24, 25, 26, 27, 28, 29, 30]
theorem l_open : ∀ w : World, (fencedOpening treeTable PySem.Challenge.pw_mostwise_k32_sure_steps w 5664).map (fun s => (s.heap, s.gens, s.drawn, s.toks)) = some (H0 w.params, #[], {}, 181) := fun w => by kernel_rfl
theorem piece_take {tb : String → Option Builtin} {p : Program} {w : World} {n₀ : Nat} {ann : Option Value} {env : Env} {q : Pos} {n N a l : Nat} {s s' r : Shared} {b : List Stmt} {c : Code} {pos p' : Pos} (h : segRun tb p w n₀ ann 1 n s (piecesOf ((b.drop a).take l) env c pos [topFrame q]) = some (.next, s', c, p'))
    (k : topRun tb p w n₀ ann N s' (restOf (b.drop (a + l)) env c p' [topFrame q]) = some r) : topRun tb p w n₀ ann (n + N) s (restOf (b.drop a) env c pos [topFrame q]) = some r := by
  have e := piece_app h k
  rwa [← List.drop_drop, List.take_append_drop] at e
def pre12 (P : Params) : Obj := ⟨.none, none, (.fields #[]), #[]⟩
def H_pre (P : Params) : Heap := ⟨⟨o0 P :: o1 P :: o2 P :: p3 P :: o4 P :: o5 P :: o6 P :: o7 P :: o8 P :: o9 P :: o10 P :: o11 P :: pre12 P :: o13 P :: o14 P :: []⟩, {}⟩
def block12 (P : Params) : Obj := ⟨.none, none, (.fields #[]), #[]⟩
def H_block (P : Params) : Heap := ⟨⟨o0 P :: o1 P :: o2 P :: p3 P :: o4 P :: o5 P :: o6 P :: o7 P :: o8 P :: o9 P :: o10 P :: o11 P :: block12 P :: o13 P :: o14 P :: []⟩, {}⟩
def tEnv : Env := { scope := PySem.Challenge.pw_mostwise_k32_sure_steps.main.scope, locals := mainNs, globals := mainNs, cells := [], code := (.ref 13), frame := some 14 }
def tCode : Code := .body (behindTheImports PySem.Challenge.pw_mostwise_k32_sure_steps) tEnv
abbrev tFr : List Frame := [topFrame ⟨0, 0, 0, 0⟩]
abbrev tRest (i : Nat) (q : Pos) : Thread := restOf ((behindTheImports PySem.Challenge.pw_mostwise_k32_sure_steps).drop i) tEnv tCode q tFr
theorem l_pre : ∀ (w : World) (os : OsState), topGo treeTable PySem.Challenge.pw_mostwise_k32_sure_steps w 11 (some (.ref 6)) 12 ⟨H0 w.params, #[], {}, 181, os⟩ (topStub PySem.Challenge.pw_mostwise_k32_sure_steps) = some (⟨H_pre w.params, #[], {}, 187, os⟩, ⟨denote treeTable tCode, tCode, ⟨0, 0, 0, 0⟩, tFr⟩) := fun w os => by kernel_rfl
theorem l_block : ∀ (w : World) (os : OsState), segRun treeTable PySem.Challenge.pw_mostwise_k32_sure_steps w 11 (some (.ref 6)) 1 1 ⟨H_pre w.params, #[], {}, 187, os⟩ (blockOf (behindTheImports PySem.Challenge.pw_mostwise_k32_sure_steps) tEnv tCode ⟨0, 0, 0, 0⟩ tFr) = some (.next, ⟨H_block w.params, #[], {}, 187, os⟩, tCode, ⟨0, 0, 0, 0⟩) := fun w os => by kernel_rfl
def g13 (P : Params) : Obj := ⟨(.type "dict"), none, (.dict #[kE P "__name__" 165 (.str "mostwise.rules" 236), kE P "__doc__" 166 .none, kE P "__package__" 167 .none, kE P "__loader__" 168 (.builtin "__main__.__loader__#opaque"), kE P "__spec__" 169 .none, kE P "__annotations__" 170 (.ref 6), kE P "__builtins__" 171 (.ref 4), kE P "__file__" 173 (.str "/claim/cut.py" 172), kE P "__cached__" 174 .none, kE P "_wall" 193 (.ref 21), kE P "keyed" 204 (.ref 28), kE P "all_among" 210 (.ref 33), kE P "sure_rounds" 218 (.ref 39), kE P "sure_steps" 226 (.ref 46), kE P "opposite" 235 (.ref 53), kE P "Rule" 322 (.ref 119), kE P "Fact" 376 (.ref 168), kE P "Sure" 415 (.ref 201), kE P "Most" 447 (.ref 227)] 19), #[]⟩
def g112 (P : Params) : Obj := ⟨.none, none, (.fields #[(.int (1) 0), (.int (0) 0), (.ref 20), (.int (5) 0), (.int (0) 0), (.ref 27), (.int (10) 0), (.int (0) 0), (.ref 32), (.int (13) 0), (.int (0) 0), (.ref 38), (.int (27) 0), (.int (0) 0), (.ref 45), (.int (31) 0), (.int (0) 0), (.ref 52), (.int (34) 0), (.int (0) 0), (.ref 59), (.int (61) 0), (.int (0) 0), (.ref 129), (.int (77) 0), (.int (0) 0), (.ref 176), (.int (87) 0), (.int (0) 0), (.ref 209)]), #[]⟩
def g1119 (P : Params) : Obj := ⟨(.type "type"), none, (.cls ⟨"Rule", [(.type "object")], [(.ref 119), (.type "object")], 118, "Rule", true, [], [(.ref 168), (.ref 201), (.ref 227)], false, none, false⟩), #[none, none, (some (.str "Rule" 238)), (some (.str "Rule" 246)), (some (.builtin "object.__new__")), (some (.bool true))]⟩
def H_g1 (P : Params) : Heap := ⟨⟨o0 P :: o1 P :: o2 P :: g13 P :: o4 P :: o5 P :: o6 P :: o7 P :: o8 P :: o9 P :: o10 P :: o11 P :: g112 P :: o13 P :: o14 P :: o15 P :: o16 P :: o17 P :: o18 P :: o19 P :: o20 P :: o21 P :: o22 P :: o23 P :: o24 P :: o25 P :: o26 P :: o27 P :: o28 P :: o29 P :: o30 P :: o31 P :: o32 P :: o33 P :: o34 P :: o35 P :: o36 P :: o37 P :: o38 P :: o39 P :: o40 P :: o41 P :: o42 P :: o43 P :: o44 P :: o45 P :: o46 P :: o47 P :: o48 P :: o49 P :: o50 P :: o51 P :: o52 P :: o53 P :: o54 P :: o55 P :: o56 P :: o57 P :: o58 P :: o59 P :: o60 P :: o61 P :: o62 P :: o63 P :: o64 P :: o65 P :: o66 P :: o67 P :: o68 P :: o69 P :: o70 P :: o71 P :: o72 P :: o73 P :: o74 P :: o75 P :: o76 P :: o77 P :: o78 P :: o79 P :: o80 P :: o81 P :: o82 P :: o83 P :: o84 P :: o85 P :: o86 P :: o87 P :: o88 P :: o89 P :: o90 P :: o91 P :: o92 P :: o93 P :: o94 P :: o95 P :: o96 P :: o97 P :: o98 P :: o99 P :: o100 P :: o101 P :: o102 P :: o103 P :: o104 P :: o105 P :: o106 P :: o107 P :: o108 P :: o109 P :: o110 P :: o111 P :: o112 P :: o113 P :: o114 P :: o115 P :: o116 P :: o117 P :: o118 P :: g1119 P :: o120 P :: o121 P :: o122 P :: o123 P :: o124 P :: o125 P :: o126 P :: o127 P :: o128 P :: o129 P :: o130 P :: o131 P :: o132 P :: o133 P :: o134 P :: o135 P :: o136 P :: o137 P :: o138 P :: o139 P :: o140 P :: o141 P :: o142 P :: o143 P :: o144 P :: o145 P :: o146 P :: o147 P :: o148 P :: o149 P :: o150 P :: o151 P :: o152 P :: o153 P :: o154 P :: o155 P :: o156 P :: o157 P :: o158 P :: o159 P :: o160 P :: o161 P :: o162 P :: o163 P :: o164 P :: o165 P :: o166 P :: o167 P :: o168 P :: o169 P :: o170 P :: o171 P :: o172 P :: o173 P :: o174 P :: o175 P :: o176 P :: o177 P :: o178 P :: o179 P :: o180 P :: o181 P :: o182 P :: o183 P :: o184 P :: o185 P :: o186 P :: o187 P :: o188 P :: o189 P :: o190 P :: o191 P :: o192 P :: o193 P :: o194 P :: o195 P :: o196 P :: o197 P :: o198 P :: o199 P :: o200 P :: o201 P :: o202 P :: o203 P :: o204 P :: o205 P :: o206 P :: o207 P :: o208 P :: o209 P :: o210 P :: o211 P :: o212 P :: o213 P :: o214 P :: o215 P :: o216 P :: o217 P :: o218 P :: o219 P :: o220 P :: o221 P :: o222 P :: o223 P :: o224 P :: o225 P :: o226 P :: o227 P :: o228 P :: o229 P :: []⟩, {}⟩
theorem l_g1 : ∀ (w : World) (os : OsState), segRun treeTable PySem.Challenge.pw_mostwise_k32_sure_steps w 11 (some (.ref 6)) 1 1608 ⟨H_block w.params, #[], {}, 187, os⟩ (piecesOf (((behindTheImports PySem.Challenge.pw_mostwise_k32_sure_steps).drop 0).take 14) tEnv tCode ⟨0, 0, 0, 0⟩ tFr) = some (.next, ⟨H_g1 w.params, #[], {}, 448, os⟩, tCode, ⟨87, 0, 93, 17⟩) := fun w os => by kernel_rfl
theorem l_end : ∀ (w : World) (os : OsState), topRun treeTable PySem.Challenge.pw_mostwise_k32_sure_steps w 11 (some (.ref 6)) 1165 ⟨H_g1 w.params, #[], {}, 448, os⟩ (tRest 14 ⟨87, 0, 93, 17⟩) = some ⟨H1 w.params, #[], {}, 695, os⟩ := fun w os => by kernel_rfl
theorem l_run : ∀ (w : World) (os : OsState), topRun treeTable PySem.Challenge.pw_mostwise_k32_sure_steps w 11 (some (.ref 6)) 2786 ⟨H0 w.params, #[], {}, 181, os⟩ (topStub PySem.Challenge.pw_mostwise_k32_sure_steps) = some ⟨H1 w.params, #[], {}, 695, os⟩ := fun w os => go_top (n := 12) (l_pre w os) (piece_block (n := 1) (l_block w os) (piece_take (l_g1 w os) (l_end w os)))
end
end K32
set_option maxRecDepth 100000 in
set_option maxHeartbeats 0 in
theorem PySem.Challenge.cw_mostwise_k32_sure_steps_holds : PySem.Challenge.rw_mostwise_k32_sure_steps.Holds := by
  w_on; o_law
  refine PySem.W.holds_open (q := K32.viewQ) (loose := [("sure_rounds" : PySem.Str)]) (Xt := fun s => PySem.W.xlAt K32.viewQ [] s && PySem.W.recOk (PySem.W.RowW.records (PySem.W.OpenRow.toRowW PySem.Challenge.rw_mostwise_k32_sure_steps.row)) s) (XP := PySem.W.XL K32.viewQ []) (Yf := PySem.W.Hook.obs (PySem.W.kHook K32.heapKT K32.heapAT K32.heapET)) (Ya := PySem.W.Hook.val (PySem.W.kHook K32.heapKT K32.heapAT K32.heapET)) (YP := PySem.W.Hook.says (PySem.W.kHook K32.heapKT K32.heapAT K32.heapET)) (N := 5664) ?hl (PySem.W.Hook.of (PySem.W.kHook K32.heapKT K32.heapAT K32.heapET)) (PySem.W.Hook.keeps (PySem.W.kHook K32.heapKT K32.heapAT K32.heapET)) (fun s e => PySem.W.xl_of s (Bool.and_eq_true_iff.mp e).1) PySem.W.XL.keeps (by rfl) (by rfl) (by rfl) (fun s e => PySem.W.recFacts_of (Bool.and_eq_true_iff.mp e).2) (by rfl) (by first | assumption | decide +kernel) (by decide +kernel) ⟨rfl, rfl, rfl, rfl, rfl, by decide +kernel⟩ ?hw ?hc
  (case hl => refine PySem.W.LeftO.of_pieces (H₀ := K32.H0) (H₁ := K32.H1) (gs₀ := #[]) (gs₁ := #[]) (d₀ := {}) (d₁ := {}) (k₀ := 181) (k₁ := 695) (m₀ := 11) (ann := (some (.ref 6))) (M := 2786) K32.l_open ?_ K32.l_run rfl ?_ <;> (intro w; kernel_rfl))
  (case hw => w_witness2)
  refine L2.walk_ofKT (l := PySem.Challenge.rw_mostwise_k32_sure_steps) (n := 63) (k := 8) (x := "_law_script") (CX := L2.CX0) (K := K32.heapK) (sp := K32.spLaw 41) 41 45 rfl (by decide) rfl ⟨rfl, by decide, by decide⟩ (fun w h Y => L2.in_cons (PySem.W.kIn_of Y) (by kernel_rfl)) (fun w => by kernel_rfl) (fun w => by kernel_rfl) ?F (fun K H a ns hl hO hS => K32.spLaw_of hl hO hS) (fun _ _ _ _ z => z)
  case F =>
    k_fill
    intro w mg fa h KX G hmg
    have T : ∃ t : K32.Adr, t.TB_d_sure_steps = 41 ∧ K32.Txt (L2.KOf KX) mg t := by
      dsimp only [L2.KOf]
      refine' Exists.imp (fun _ h => ⟨h.1, h.2.2.2⟩) (K32.txt_mk KX G ?a_Rule ?a_Fact ?a_Sure ?a_Most ?a_Block ?a_Ground ?a_d_keyed ?l_d_keyed ?c_d_keyed ?p_d_keyed ?a_d_all_among ?l_d_all_among ?c_d_all_among ?p_d_all_among ?a_d_sure_rounds ?l_d_sure_rounds ?lt_d_sure_rounds ?c_d_sure_rounds ?p_d_sure_rounds ?a_d_sure_steps ?l_d_sure_steps ?c_d_sure_steps ?p_d_sure_steps ?a_c_Rule_init ?l_c_Rule_init ?c_c_Rule_init ?p_c_Rule_init ?a_c_Rule_is_sure ?l_c_Rule_is_sure ?c_c_Rule_is_sure ?p_c_Rule_is_sure ?a_c_Fact_init ?l_c_Fact_init ?c_c_Fact_init ?p_c_Fact_init ?a_c_Fact_is_sure ?l_c_Fact_is_sure ?c_c_Fact_is_sure ?p_c_Fact_is_sure ?a_c_Sure_is_sure ?l_c_Sure_is_sure ?c_c_Sure_is_sure ?p_c_Sure_is_sure ?a_c_Ground_init ?l_c_Ground_init ?c_c_Ground_init ?p_c_Ground_init ?a_c_Ground_rules ?l_c_Ground_rules ?c_c_Ground_rules ?p_c_Ground_rules ?a_d_l_cell_at ?l_d_l_cell_at ?c_d_l_cell_at ?p_d_l_cell_at ?a_d_l_mix ?l_d_l_mix ?c_d_l_mix ?p_d_l_mix ?a_d_l_word ?l_d_l_word ?c_d_l_word ?p_d_l_word ?a_d_l_pool ?l_d_l_pool ?c_d_l_pool ?p_d_l_pool ?a_d_l_row ?l_d_l_row ?c_d_l_row ?p_d_l_row ?a_d_l_made ?l_d_l_made ?c_d_l_made ?p_d_l_made ?a_d_l_labels ?l_d_l_labels ?c_d_l_labels ?p_d_l_labels ?a_d_l_row_by_digits ?l_d_l_row_by_digits ?c_d_l_row_by_digits ?p_d_l_row_by_digits ?a_d_l_rows ?l_d_l_rows ?c_d_l_rows ?p_d_l_rows ?a_d_l_rounds ?l_d_l_rounds ?c_d_l_rounds ?p_d_l_rounds ?a_d_l_due ?l_d_l_due ?c_d_l_due ?p_d_l_due ?a_d_l_pairs ?l_d_l_pairs ?c_d_l_pairs ?p_d_l_pairs ?a_d_law ?l_d_law ?c_d_law ?p_d_law ?z_all ?z_enumerate ?z_isinstance ?z_len ?z_list ?z_range ?z_reversed ?z_sorted ?z_tuple ?kc_Rule ?kt_Rule ?cg_Rule ?cr_Rule ?ca_Rule ?kc_Fact ?kt_Fact ?pg_Fact ?hd_Fact ?po_Fact ?sa_Fact ?th_Fact ?tn_Fact ?tt_Fact ?tm_Fact ?nf_Fact_label ?nf_Fact_head ?nf_Fact_body ?mm_Fact ?mi_Fact ?mf_Fact ?mq_Fact ?ma_Fact_is_sure ?mb_Fact_is_sure ?ks_Fact_Rule ?ks_Fact_Fact ?kc_Sure ?kt_Sure ?pg_Sure ?hd_Sure ?po_Sure ?sa_Sure ?th_Sure ?tn_Sure ?tt_Sure ?tm_Sure ?nf_Sure_label ?nf_Sure_head ?nf_Sure_body ?mm_Sure ?mi_Sure ?mf_Sure ?mq_Sure ?ma_Sure_is_sure ?mb_Sure_is_sure ?ks_Sure_Rule ?ks_Sure_Sure ?kc_Most ?kt_Most ?pg_Most ?hd_Most ?po_Most ?sa_Most ?th_Most ?tn_Most ?tt_Most ?tm_Most ?nf_Most_label ?nf_Most_head ?nf_Most_body ?mm_Most ?mi_Most ?mf_Most ?mq_Most ?ma_Most_is_sure ?mb_Most_is_sure ?ks_Most_Rule ?ks_Most_Most ?kc_Block ?kt_Block ?pg_Block ?hd_Block ?po_Block ?sa_Block ?th_Block ?tn_Block ?tt_Block ?tm_Block ?nf_Block_label ?nf_Block_head ?nf_Block_body ?mm_Block ?mi_Block ?mf_Block ?mq_Block ?ma_Block_is_sure ?mb_Block_is_sure ?ks_Block_Rule ?ks_Block_Block ?kc_Ground ?kt_Ground ?pg_Ground ?hd_Ground ?po_Ground ?sa_Ground ?th_Ground ?tn_Ground ?tt_Ground ?tm_Ground ?nf_Ground_in_order ?nf_Ground_by_head ?nf_Ground_pairs ?mm_Ground ?mi_Ground ?mf_Ground ?mq_Ground ?ma_Ground_rules ?mb_Ground_rules ?ks_Ground_Ground ?tb_d_sure_steps ?nb_ ?bo_)
      (case a_Rule => k_is); (case a_Fact => k_is); (case a_Sure => k_is); (case a_Most => k_is); (case a_Block => k_is); (case a_Ground => k_is); (case a_d_keyed => k_is); (case l_d_keyed => k_is); (case c_d_keyed => k_is); (case p_d_keyed => k_is); (case a_d_all_among => k_is); (case l_d_all_among => k_is); (case c_d_all_among => k_is); (case p_d_all_among => k_is); (case a_d_sure_rounds => k_is); (case l_d_sure_rounds => k_is); (case lt_d_sure_rounds => k_is); (case c_d_sure_rounds => k_is); (case p_d_sure_rounds => k_is); (case a_d_sure_steps => k_is)
      (case l_d_sure_steps => k_is); (case c_d_sure_steps => k_is); (case p_d_sure_steps => k_is); (case a_c_Rule_init => k_is); (case l_c_Rule_init => k_is); (case c_c_Rule_init => k_is); (case p_c_Rule_init => k_is); (case a_c_Rule_is_sure => k_is); (case l_c_Rule_is_sure => k_is); (case c_c_Rule_is_sure => k_is); (case p_c_Rule_is_sure => k_is); (case a_c_Fact_init => k_is); (case l_c_Fact_init => k_is); (case c_c_Fact_init => k_is); (case p_c_Fact_init => k_is); (case a_c_Fact_is_sure => k_is); (case l_c_Fact_is_sure => k_is); (case c_c_Fact_is_sure => k_is); (case p_c_Fact_is_sure => k_is); (case a_c_Sure_is_sure => k_is)
      (case l_c_Sure_is_sure => k_is); (case c_c_Sure_is_sure => k_is); (case p_c_Sure_is_sure => k_is); (case a_c_Ground_init => k_is); (case l_c_Ground_init => k_is); (case c_c_Ground_init => k_is); (case p_c_Ground_init => k_is); (case a_c_Ground_rules => k_is); (case l_c_Ground_rules => k_is); (case c_c_Ground_rules => k_is); (case p_c_Ground_rules => k_is); (case a_d_l_cell_at => k_is); (case l_d_l_cell_at => k_is); (case c_d_l_cell_at => k_is); (case p_d_l_cell_at => k_is); (case a_d_l_mix => k_is); (case l_d_l_mix => k_is); (case c_d_l_mix => k_is); (case p_d_l_mix => k_is); (case a_d_l_word => k_is)
      (case l_d_l_word => k_is); (case c_d_l_word => k_is); (case p_d_l_word => k_is); (case a_d_l_pool => k_is); (case l_d_l_pool => k_is); (case c_d_l_pool => k_is); (case p_d_l_pool => k_is); (case a_d_l_row => k_is); (case l_d_l_row => k_is); (case c_d_l_row => k_is); (case p_d_l_row => k_is); (case a_d_l_made => k_is); (case l_d_l_made => k_is); (case c_d_l_made => k_is); (case p_d_l_made => k_is); (case a_d_l_labels => k_is); (case l_d_l_labels => k_is); (case c_d_l_labels => k_is); (case p_d_l_labels => k_is); (case a_d_l_row_by_digits => k_is)
      (case l_d_l_row_by_digits => k_is); (case c_d_l_row_by_digits => k_is); (case p_d_l_row_by_digits => k_is); (case a_d_l_rows => k_is); (case l_d_l_rows => k_is); (case c_d_l_rows => k_is); (case p_d_l_rows => k_is); (case a_d_l_rounds => k_is); (case l_d_l_rounds => k_is); (case c_d_l_rounds => k_is); (case p_d_l_rounds => k_is); (case a_d_l_due => k_is); (case l_d_l_due => k_is); (case c_d_l_due => k_is); (case p_d_l_due => k_is); (case a_d_l_pairs => k_is); (case l_d_l_pairs => k_is); (case c_d_l_pairs => k_is); (case p_d_l_pairs => k_is); (case a_d_law => k_is)
      (case l_d_law => k_is); (case c_d_law => k_is); (case p_d_law => k_is); (case z_all => k_is); (case z_enumerate => k_is); (case z_isinstance => k_is); (case z_len => k_is); (case z_list => k_is); (case z_range => k_is); (case z_reversed => k_is); (case z_sorted => k_is); (case z_tuple => k_is); (case kc_Rule => k_is); (case kt_Rule => k_is); (case cg_Rule => k_is); (case cr_Rule => k_is); (case ca_Rule => k_is); (case kc_Fact => k_is); (case kt_Fact => k_is); (case pg_Fact => k_is)
      (case hd_Fact => k_is); (case po_Fact => k_is); (case sa_Fact => k_is); (case th_Fact => k_is); (case tn_Fact => k_is); (case tt_Fact => k_is); (case tm_Fact => k_is); (case nf_Fact_label => k_is); (case nf_Fact_head => k_is); (case nf_Fact_body => k_is); (case mm_Fact => k_is); (case mi_Fact => k_is); (case mf_Fact => k_is); (case mq_Fact => k_is); (case ma_Fact_is_sure => k_is); (case mb_Fact_is_sure => k_is); (case ks_Fact_Rule => k_is); (case ks_Fact_Fact => k_is); (case kc_Sure => k_is); (case kt_Sure => k_is)
      (case pg_Sure => k_is); (case hd_Sure => k_is); (case po_Sure => k_is); (case sa_Sure => k_is); (case th_Sure => k_is); (case tn_Sure => k_is); (case tt_Sure => k_is); (case tm_Sure => k_is); (case nf_Sure_label => k_is); (case nf_Sure_head => k_is); (case nf_Sure_body => k_is); (case mm_Sure => k_is); (case mi_Sure => k_is); (case mf_Sure => k_is); (case mq_Sure => k_is); (case ma_Sure_is_sure => k_is); (case mb_Sure_is_sure => k_is); (case ks_Sure_Rule => k_is); (case ks_Sure_Sure => k_is); (case kc_Most => k_is)
      (case kt_Most => k_is); (case pg_Most => k_is); (case hd_Most => k_is); (case po_Most => k_is); (case sa_Most => k_is); (case th_Most => k_is); (case tn_Most => k_is); (case tt_Most => k_is); (case tm_Most => k_is); (case nf_Most_label => k_is); (case nf_Most_head => k_is); (case nf_Most_body => k_is); (case mm_Most => k_is); (case mi_Most => k_is); (case mf_Most => k_is); (case mq_Most => k_is); (case ma_Most_is_sure => k_is); (case mb_Most_is_sure => k_is); (case ks_Most_Rule => k_is); (case ks_Most_Most => k_is)
      (case kc_Block => k_is); (case kt_Block => k_is); (case pg_Block => k_is); (case hd_Block => k_is); (case po_Block => k_is); (case sa_Block => k_is); (case th_Block => k_is); (case tn_Block => k_is); (case tt_Block => k_is); (case tm_Block => k_is); (case nf_Block_label => k_is); (case nf_Block_head => k_is); (case nf_Block_body => k_is); (case mm_Block => k_is); (case mi_Block => k_is); (case mf_Block => k_is); (case mq_Block => k_is); (case ma_Block_is_sure => k_is); (case mb_Block_is_sure => k_is); (case ks_Block_Rule => k_is)
      (case ks_Block_Block => k_is); (case kc_Ground => k_is); (case kt_Ground => k_is); (case pg_Ground => k_is); (case hd_Ground => k_is); (case po_Ground => k_is); (case sa_Ground => k_is); (case th_Ground => k_is); (case tn_Ground => k_is); (case tt_Ground => k_is); (case tm_Ground => k_is); (case nf_Ground_in_order => k_is); (case nf_Ground_by_head => k_is); (case nf_Ground_pairs => k_is); (case mm_Ground => k_is); (case mi_Ground => k_is); (case mf_Ground => k_is); (case mq_Ground => k_is); (case ma_Ground_rules => k_is); (case mb_Ground_rules => k_is)
      (case ks_Ground_Ground => k_is); (case nb_ => k_is)
      (case tb_d_sure_steps => kernel_rfl)
      (case bo_ => kernel_rfl)
    obtain ⟨t, hTB, T⟩ := T
    obtain ⟨_, _, _, _, _, _, _, _, _, e2, _, _⟩ := T.F_d_law.ex
    have e0 := hmg.symm.trans T.g_d_law
    cases e0
    exact ⟨t.fd_d_law, fun s u => by rw [e2]; exact .of_eq rfl, fun base kb nb => hTB ▸ K32.ok_d_law T⟩
