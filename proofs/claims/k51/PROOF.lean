import PyProof.Rows.All
import Wide.All
import OpenK.AllK
import Wide.FinOn
import Lean
import PyProof.EqAt
import PyProof.EqKinds
import PyProof.TupleCall
import PyProof.StrLawsChain
import PyProof.StrLawsIn
import PyProof.Rows.StrNews2
import PyProof.StrBlockL
import PyProof.Rows.StrClose3
import PyProof.Rows.StrClose5
import PyProof.Rows.StrFirst
import PyProof.WalkInts
import PyProof.StrOps
import PyProof.WalksEnum
import PyProof.EnumMake
import PyProof.NeKinds
import KE.KEqDict
import KE.KRevIter
import PyProof.DictWalks
import PyProof.DictValues
import PyProof.ListRange
import PyProof.CollectIter
import PyProof.ZipIter
import PyProof.Rows.ZipGen
import PyProof.FString5
import KE.KDictLaws
import KE.KDictSum
import KE.KSortTup
import PyProof.Rows.SortStr
import PyProof.DictItems
import KE.KPairComp
import KE.KUnpack
import PyProof.P3Eq
import PySem.Challenge.RW_mostwise_k51_what_follows
set_option Elab.async false
set_option linter.all false
set_option maxRecDepth 100000
set_option maxHeartbeats 4000000
namespace L2
open PySem PySem.Spec PyProof.Rows
abbrev Key := Sum Int Str
def keyIs : Key → Value → Bool
  | .inl k, v => Value.isInt k v
  | .inr x, v => Value.isStrOf x v
def keyH (w : World) : Key → Int
  | .inl k => hashInt k
  | .inr x => hashStr w x
theorem keyIs_shape : ∀ {k : Key} {v : Value}, keyIs k v = true → (∃ i t, k = Sum.inl i ∧ v = Value.int i t) ∨ (∃ x t, k = Sum.inr x ∧ v = Value.str x t)
  | .inl i, v, h => by
    obtain ⟨t, e⟩ := Value.isInt_shape (k := i) (v := v) h
    exact .inl ⟨i, t, rfl, e⟩
  | .inr x, v, h => by
    obtain ⟨t, e⟩ := Value.isStrOf_shape (x := x) (v := v) h
    exact .inr ⟨x, t, rfl, e⟩
theorem keyIs_int (i : Int) (t : Tok) : keyIs (.inl i) (.int i t) = true := by simp [keyIs, Value.isInt]
theorem keyIs_str (x : Str) (t : Tok) : keyIs (.inr x) (.str x t) = true := by simp [keyIs, Value.isStrOf]
theorem key_ll (a b : Int) : decide ((Sum.inl a : Key) = Sum.inl b) = (a == b) := by
  by_cases e : a = b
  · subst e; simp
  · have h : ¬ (Sum.inl a : Key) = Sum.inl b := fun q => e (Sum.inl.inj q)
    rw [decide_eq_false h]
    exact (beq_eq_false_iff_ne.mpr e).symm
theorem key_rr (a b : Str) : decide ((Sum.inr a : Key) = Sum.inr b) = decide (a = b) := by
  by_cases e : a = b
  · subst e; simp
  · have h : ¬ (Sum.inr a : Key) = Sum.inr b := fun q => e (Sum.inr.inj q)
    rw [decide_eq_false h, decide_eq_false e]
theorem key_lr (a : Int) (b : Str) : decide ((Sum.inl a : Key) = Sum.inr b) = false := decide_eq_false (fun q => nomatch q)
theorem key_rl (a : Str) (b : Int) : decide ((Sum.inr a : Key) = Sum.inl b) = false := decide_eq_false (fun q => nomatch q)
def mixKind (prog : Program) (w : World) : PySem.KeyKind prog w Key where
  is := keyIs
  hash := keyH w
  inj := fun v a b ha hb => by
    rcases keyIs_shape ha with ⟨i, t, rfl, rfl⟩ | ⟨x, t, rfl, rfl⟩
    · rcases keyIs_shape hb with ⟨j, u, rfl, e⟩ | ⟨y, u, rfl, e⟩
      · injection e with e1 _; rw [e1]
      · exact nomatch e
    · rcases keyIs_shape hb with ⟨j, u, rfl, e⟩ | ⟨y, u, rfl, e⟩
      · exact nomatch e
      · injection e with e1 _; rw [e1]
  byValue := fun k v h => by
    rcases keyIs_shape h with ⟨i, t, rfl, rfl⟩ | ⟨x, t, rfl, rfl⟩ <;> rfl
  pyHash := fun hv h => by
    rcases keyIs_shape hv with ⟨i, t, rfl, rfl⟩ | ⟨x, t, rfl, rfl⟩
    · exact wpAny_pyHash_int h
    · exact wpAny_pyHash_str h
  eqBool := fun hu hv h => by
    rcases keyIs_shape hu with ⟨i, t, rfl, rfl⟩ | ⟨x, t, rfl, rfl⟩
    · rcases keyIs_shape hv with ⟨j, u, rfl, rfl⟩ | ⟨y, u, rfl, rfl⟩
      · rw [key_ll] at h; exact wpAny_eqBool_int h
      · rw [key_lr] at h; exact SeqAt.EqAt.int_str i t y u _ _ _ _ h
    · rcases keyIs_shape hv with ⟨j, u, rfl, rfl⟩ | ⟨y, u, rfl, rfl⟩
      · rw [key_rl] at h; exact SeqAt.EqAt.str_int x t j u _ _ _ _ h
      · rw [key_rr] at h; exact wpAny_eqBool_str h
  «strs» := fun k x t v h => by
    rcases keyIs_shape h with ⟨i, u, rfl, e⟩ | ⟨y, u, rfl, e⟩
    · exact nomatch e
    · injection e with e1 _
      subst e1
      cases v <;> rfl
theorem mixKind_int (prog : Program) (w : World) (i : Int) (t : Tok) : (mixKind prog w).is (.inl i) (.int i t) = true := keyIs_int i t
theorem mixKind_str (prog : Program) (w : World) (x : Str) (t : Tok) : (mixKind prog w).is (.inr x) (.str x t) = true := keyIs_str x t
end L2
namespace L2
open PySem PySem.Spec PyProof.Rows
inductive V where
  | non | bl (b : Bool) | int (i : Int) | str (x : Str) | byt (b : Array UInt8) | flt (b : UInt64) | ref (a : Addr) | ty (n : String)
  deriving DecidableEq
def RelV : V → Value → Prop
  | .non, u => u = Value.none
  | .bl b, u => u = Value.bool b
  | .int i, u => ∃ t, u = Value.int i t
  | .str x, u => ∃ t, u = Value.str x t
  | .byt b, u => ∃ t, u = Value.bytes b t
  | .flt b, u => ∃ t, u = Value.float b t
  | .ref a, u => u = Value.ref a
  | .ty n, u => u = Value.type n
abbrev Vals : List V → List Value → Prop := Paired RelV
theorem Vals.length {xs : List V} {us : List Value} (r : Vals xs us) : xs.length = us.length := Paired.length r
theorem Vals.get : ∀ {xs : List V} {us : List Value} {i : Nat} {x : V}, Vals xs us → xs[i]? = some x → ∃ u, us[i]? = some u ∧ RelV x u
  | _, _, _, _, .nil, e => by simp at e
  | _, _, 0, _, .cons r _, e => by simp at e; subst e; exact ⟨_, rfl, r⟩
  | _, _, i + 1, x, .cons _ t, e => by
    obtain ⟨u, h1, h2⟩ := Vals.get (i := i) (x := x) t (by simpa using e)
    exact ⟨u, by simpa using h1, h2⟩
theorem Vals.set {x : V} {u : Value} (r : RelV x u) : ∀ {xs : List V} {us : List Value} (i : Nat), Vals xs us → Vals (xs.set i x) (us.set i u)
  | _, _, _, .nil => .nil
  | _, _, 0, .cons _ t => .cons r t
  | _, _, i + 1, .cons q t => .cons q (Vals.set r i t)
theorem Vals.append : ∀ {xs ys : List V} {us ws : List Value}, Vals xs us → Vals ys ws → Vals (xs ++ ys) (us ++ ws)
  | _, _, _, _, .nil, s => s
  | _, _, _, _, .cons r t, s => .cons r (Vals.append t s)
theorem Vals.take : ∀ {xs : List V} {us : List Value} (n : Nat), Vals xs us → Vals (xs.take n) (us.take n)
  | _, _, 0, _ => .nil
  | _, _, _ + 1, .nil => .nil
  | _, _, n + 1, .cons r t => .cons r (Vals.take n t)
theorem Vals.drop : ∀ {xs : List V} {us : List Value} (n : Nat), Vals xs us → Vals (xs.drop n) (us.drop n)
  | _, _, 0, r => r
  | _, _, _ + 1, .nil => .nil
  | _, _, n + 1, .cons _ t => Vals.drop n t
theorem Vals.none_of : ∀ {xs : List V} {us : List Value} {i : Nat}, Vals xs us → xs[i]? = none → us[i]? = none := fun {xs us i} r e => by
  have h1 := r.length
  have h2 : xs.length ≤ i := List.getElem?_eq_none_iff.mp e
  exact List.getElem?_eq_none_iff.mpr (by omega)
def RelO : Option V → Option Value → Prop
  | some v, some u => RelV v u
  | none, none => True
  | _, _ => False
def KV {κ : Type} : List (κ × V) → List (κ × Value) → Prop := Paired fun (p : κ × V) (q : κ × Value) => p.1 = q.1 ∧ RelV p.2 q.2
def kV : Key → V
  | .inl i => .int i
  | .inr x => .str x
inductive HO where
  | lst (xs : List V)
  | tup (xs : List V)
  | dK (kvs : List (Key × V)) | dT (kvs : List (List Key × V))
  | set (S : Int → Bool) (n : Nat)
  | ins (C dx : Addr) (fs : List (Str × V))
  | own (x : Addr)
  | xd (fs : List (Str × V))
  | met (f x : Addr)
  | rng (lo hi : Int)
  | frz (o : Obj) (u : HO)
  | tbl (ps : Array Value)
  | ext (φ : Heap → Prop)
abbrev Hp := Addr → Option HO
def upd (H : Hp) (a : Addr) (o : HO) : Hp := fun b => if b = a then some o else H b
theorem upd_same {H : Hp} {a : Addr} {o : HO} : upd H a o a = some o := by unfold upd; rw [if_pos rfl]
theorem upd_ne {H : Hp} {a b : Addr} {o : HO} (h : b ≠ a) : upd H a o b = H b := by unfold upd; rw [if_neg h]
theorem upd_upd {H : Hp} {a : Addr} {o u : HO} : upd (upd H a o) a u = upd H a u := by
  funext b; unfold upd; split <;> rfl
theorem ne_of {H : Hp} {a b : Addr} {o u : HO} (h : H a = some o) (h' : H b = some u) (d : o ≠ u) : a ≠ b := by
  intro e; subst e; rw [h] at h'; exact d (Option.some.inj h')
theorem ne_of_none {H : Hp} {a b : Addr} {o : HO} (h : H a = some o) (h' : H b = none) : a ≠ b := by
  intro e; subst e; rw [h] at h'; cases h'
section
variable (P : Program) (w : World)
def ObjOk (H : Hp) (h : Heap) (a : Addr) : HO → Prop
  | .lst xs => xs.length ≤ sizeLine ∧ ∃ (its : List Value) (n : Nat), Vals xs its ∧ h.get? a = some { cls := .type "list", data := .seq its.toArray n }
  | .tup xs => xs.length ≤ sizeLine ∧ ∃ its : List Value, Vals xs its ∧ IsTup h a its.toArray
  | .dK kvs => kvs.length ≤ sizeLine ∧ (a == sysModules) = false ∧ ∃ vs, KV kvs vs ∧ h.DictOf (mixKind P w) a vs
  | .dT kvs => kvs.length ≤ sizeLine ∧ (a == sysModules) = false ∧ ∃ xs : List (List Key × Addr × Value),
      Paired (fun (p : List Key × V) (q : List Key × Addr × Value) => p.1 = q.1 ∧ H q.2.1 = some (.tup (p.1.map kV)) ∧ RelV p.2 q.2.2) kvs xs ∧
      ∃ o es ep, h.get? a = some o ∧ o.ExactDict ∧ o.data = .dict es ep ∧ es.toList = xs.map (entryOfKey (tupleKind (mixKind P w))) ∧ (xs.map (·.1)).Nodup
  | .set S n => h.SetOf (intKind P w) a S n
  | .ins C dx fs => H dx = some (.own a) ∧ fs.length ≤ 1000 ∧ dx ≠ a ∧ h.get? a = some (PySem.W.instObj C dx) ∧
      ∃ mA, h.Ns1 dx mA ∧ (∀ f, RelO (fs.lookup f) (mA f)) ∧ PySem.Within mA (fs.map (·.1))
  | .own _ => ∃ o, h.get? a = some o
  | .xd fs => ∃ mA, h.Ns1 a mA ∧ ∀ f, RelO (fs.lookup f) (mA f)
  | .rng lo hi => ∃ t u v, h.get? a = some { cls := .type "range", data := .fields #[.int lo t, .int hi u, .int 1 v] }
  | .frz o u => h.get? a = some o ∧ ObjOk H h a u
  | .tbl ps => h.get? a = some { cls := .none, data := .fields ps }
  | .met f x => h.get? a = some (PySem.W.methodObj (.ref f) (.ref x))
  | .ext φ => φ h ∧ (∃ o, h.get? a = some o) ∧ ∀ h1 h2 : Heap, φ h1 → (∀ o, h1.get? a = some o → h2.get? a = some o) → φ h2
def HOk (H : Hp) (h : Heap) : Prop := ∀ a o, H a = some o → ObjOk P w H h a o
end
section
variable {P : Program} {w : World} {H H' : Hp} {h h' : Heap} {a : Addr} {o : HO}
theorem ObjOk.lt (x : ObjOk P w H h a o) : a < h.objs.size := by
  cases o with
  | lst xs => obtain ⟨_, _, _, _, e⟩ := x; exact Heap.lt_size e
  | tup xs => obtain ⟨_, _, _, p⟩ := x; exact p.lt
  | dK kvs => obtain ⟨_, _, _, _, o, _, _, e, _⟩ := x; exact Heap.lt_size e
  | dT kvs => obtain ⟨_, _, _, _, o, _, _, e, _⟩ := x; exact Heap.lt_size e
  | set S n => obtain ⟨o, _, _, _, e, _⟩ := x; exact Heap.lt_size e
  | ins C dx fs => obtain ⟨_, _, _, e, _⟩ := x; exact Heap.lt_size e
  | own y => obtain ⟨_, e⟩ := x; exact Heap.lt_size e
  | xd fs => obtain ⟨_, ⟨_, _, _, e, _⟩, _⟩ := x; exact Heap.lt_size e
  | rng lo hi => obtain ⟨_, _, _, e⟩ := x; exact Heap.lt_size e
  | frz ob u => obtain ⟨e, _⟩ := x; exact Heap.lt_size e
  | tbl ps => exact Heap.lt_size (show h.get? a = some _ from x)
  | met f y => exact Heap.lt_size (show h.get? a = some _ from x)
  | ext φ => obtain ⟨_, ⟨_, e⟩, _⟩ := x; exact Heap.lt_size e
theorem Paired.mapP {α β : Type} {F G : α → β → Prop} : ∀ {l₁ : List α} {l₂ : List β}, Paired F l₁ l₂ → (∀ a b, F a b → G a b) → Paired G l₁ l₂
  | _, _, .nil, _ => .nil
  | _, _, .cons r t, f => .cons (f _ _ r) (Paired.mapP t f)
theorem ObjOk.stay (x : ObjOk P w H h a o) (k : ∀ b u, (b = a ∨ H b = some (.own a)) → h.get? b = some u → h'.get? b = some u)
    (ho : ∀ b, H b = some (.own a) → H' b = some (.own a)) (ht : ∀ b xs, H b = some (.tup xs) → H' b = some (.tup xs)) : ObjOk P w H' h' a o := by
  induction o with
  | lst xs => obtain ⟨z, its, n, r, e⟩ := x; exact ⟨z, its, n, r, k _ _ (.inl rfl) e⟩
  | tup xs => obtain ⟨z, its, r, ob, e, c⟩ := x; exact ⟨z, its, r, ob, k _ _ (.inl rfl) e, c⟩
  | dK kvs => obtain ⟨z, y, vs, r, ob, es, ep, e, c⟩ := x; exact ⟨z, y, vs, r, ob, es, ep, k _ _ (.inl rfl) e, c⟩
  | dT kvs =>
    obtain ⟨z, y, xs, r, ob, es, ep, e, c⟩ := x
    exact ⟨z, y, xs, Paired.mapP r fun p q z => ⟨z.1, ht _ _ z.2.1, z.2.2⟩, ob, es, ep, k _ _ (.inl rfl) e, c⟩
  | set S n => obtain ⟨ob, es, ep, t, e, c⟩ := x; exact ⟨ob, es, ep, t, k _ _ (.inl rfl) e, c⟩
  | ins C dx fs =>
    obtain ⟨d, z, ne, e, mA, ⟨od, es, ep, e2, c⟩, r⟩ := x
    exact ⟨ho _ d, z, ne, k _ _ (.inl rfl) e, mA, ⟨od, es, ep, k _ _ (.inr d) e2, c⟩, r⟩
  | own y => obtain ⟨ob, e⟩ := x; exact ⟨ob, k _ _ (.inl rfl) e⟩
  | xd fs => obtain ⟨mA, ⟨od, es, ep, e, c⟩, r⟩ := x; exact ⟨mA, ⟨od, es, ep, k _ _ (.inl rfl) e, c⟩, r⟩
  | rng lo hi => obtain ⟨t, u, v, e⟩ := x; exact ⟨t, u, v, k _ _ (.inl rfl) e⟩
  | frz ob u ih => obtain ⟨e, q⟩ := x; exact ⟨k _ _ (.inl rfl) e, ih q⟩
  | tbl ps =>
    have e : h.get? a = some { cls := .none, data := .fields ps } := x
    show h'.get? a = some { cls := .none, data := .fields ps }
    exact k a _ (.inl rfl) e
  | met f y =>
    have e : h.get? a = some (PySem.W.methodObj (.ref f) (.ref y)) := x
    show h'.get? a = some (PySem.W.methodObj (.ref f) (.ref y))
    exact k a _ (.inl rfl) e
  | ext φ => obtain ⟨p, ⟨o, e⟩, st⟩ := x; exact ⟨st _ _ p fun o q => k _ _ (.inl rfl) q, ⟨o, k _ _ (.inl rfl) e⟩, st⟩
theorem HOk.lt (x : HOk P w H h) (e : H a = some o) : a < h.objs.size := (x a o e).lt
theorem HOk.fresh (x : HOk P w H h) (e : h.objs.size ≤ a) : H a = none := by
  cases q : H a with
  | none => rfl
  | some u => exact absurd (Nat.lt_of_lt_of_le (x.lt q) e) (Nat.lt_irrefl _)
theorem HOk.kept (x : HOk P w H h) (k : ∀ b u, h.get? b = some u → h'.get? b = some u) : HOk P w H h' := fun a o e =>
  (x a o e).stay (fun b u _ q => k b u q) (fun _ q => q) fun _ _ q => q
theorem HOk.laid (x : HOk P w H h) (k : ∀ b u, h.get? b = some u → h'.get? b = some u) (hp : h.objs.size ≤ a) (new : ObjOk P w (upd H a o) h' a o) : HOk P w (upd H a o) h' := fun b u e => by
  have hn := x.fresh hp
  by_cases hb : b = a
  · subst hb; rw [upd_same] at e; cases e; exact new
  · rw [upd_ne hb] at e
    exact (x b u e).stay (fun c v _ q => k c v q) (fun c q => by rw [upd_ne (ne_of_none q hn)]; exact q) fun c xs q => by rw [upd_ne (ne_of_none q hn)]; exact q
end
def Rd (H : Hp) (a : Addr) (u : HO) : Prop := H a = some u ∨ ∃ o, H a = some (.frz o u)
theorem Rd.of {H : Hp} {a : Addr} {u : HO} (h : H a = some u) : Rd H a u := .inl h
theorem Rd.ok {P : Program} {w : World} {H : Hp} {h : Heap} {a : Addr} {u : HO} (r : Rd H a u) (x : HOk P w H h) : ObjOk P w H h a u := by
  rcases r with r | ⟨o, r⟩
  · exact x a u r
  · obtain ⟨_, q⟩ := x a _ r
    exact q
def Mut : Option HO → Prop
  | some (.lst _) => True
  | some (.dK _) => True
  | some (.dT _) => True
  | some (.set _ _) => True
  | some (.ins _ _ _) => True
  | some (.ext _) => True
  | _ => False
section
variable {P : Program} {w : World} {H : Hp} {h h' : Heap} {x e : Addr} {o' : HO}
theorem HOk.write (ok : HOk P w H h) (mu : Mut (H x)) (he : e = x ∨ H e = some (.own x)) (k : ∀ b u, b ≠ e → h.get? b = some u → h'.get? b = some u) (heo : ∃ u, h'.get? e = some u)
    (new : ObjOk P w (upd H x o') h' x o') : HOk P w (upd H x o') h' := fun b u q => by
  have nown : ∀ c y, H c = some (.own y) → c ≠ x := fun c y r z => by subst z; rw [r] at mu; exact mu
  have ntup : ∀ c xs, H c = some (.tup xs) → c ≠ x := fun c xs r z => by subst z; rw [r] at mu; exact mu
  by_cases hb : b = x
  · subst hb; rw [upd_same] at q; cases q; exact new
  · rw [upd_ne hb] at q
    by_cases hbe : b = e
    · have q' : H b = some (.own x) := by
        rcases he with z | z
        · exact absurd (hbe.trans z) hb
        · rw [hbe]; exact z
      rw [q] at q'; cases q'
      obtain ⟨v, hv⟩ := heo
      exact ⟨v, by rw [hbe]; exact hv⟩
    · refine (ok b u q).stay (fun c v hc r => k c v ?_ r) (fun c r => by rw [upd_ne (nown c b r)]; exact r) fun c xs r => by rw [upd_ne (ntup c xs r)]; exact r
      rcases hc with rfl | hc
      · exact hbe
      · rintro rfl
        rcases he with z | z
        · exact nown c b hc z
        · rw [hc] at z; cases z; exact hb rfl
end
structure Un (fs ex : List Addr) (H H' : Hp) (h h' : Heap) : Prop where
  keep : ∀ b o, h.get? b = some o → H b = none → b ∉ fs → b ∉ ex → h'.get? b = some o
  slot : ∀ b o, h.get? b = some o → H b = none → b ∈ fs → b ∉ ex → ∃ sl, h'.get? b = some { o with slots := sl }
  free : ∀ b o, h.get? b = some o → H b = none → b ∉ ex → H' b = none
  there : ∀ b o, h.get? b = some o → b ∉ ex → ∃ o', h'.get? b = some o'
  tups : ∀ b xs, H b = some (.tup xs) → H' b = some (.tup xs)
  frzs : ∀ b o u, H b = some (.frz o u) → H' b = some (.frz o u)
  tbls : ∀ b ps, H b = some (.tbl ps) → ∃ more, H' b = some (.tbl (ps ++ more))
section
variable {fs fs' ex ex' : List Addr} {H H1 H2 : Hp} {h h1 h2 h' : Heap} {a x e : Addr} {o : HO}
theorem Un.any (u : Un fs ex H H1 h h1) {b : Addr} {ob : Obj} (q : h.get? b = some ob) (n : H b = none) (hx : b ∉ ex) : ∃ sl, h1.get? b = some { ob with slots := sl } := by
  by_cases hb : b ∈ fs
  · exact u.slot b ob q n hb hx
  · exact ⟨ob.slots, u.keep b ob q n hb hx⟩
theorem Un.trans (a : Un fs ex H H1 h h1) (b : Un fs ex H1 H2 h1 h2) : Un fs ex H H2 h h2 where
  keep := fun c ob q n hc hx => b.keep c ob (a.keep c ob q n hc hx) (a.free c ob q n hx) hc hx
  slot := fun c ob q n hc hx => by
    obtain ⟨sl, e1⟩ := a.slot c ob q n hc hx
    obtain ⟨sl', e2⟩ := b.slot c _ e1 (a.free c ob q n hx) hc hx
    exact ⟨sl', e2⟩
  free := fun c ob q n hx => by
    obtain ⟨o', e1⟩ := a.there c ob q hx
    exact b.free c o' e1 (a.free c ob q n hx) hx
  there := fun c ob q hx => by
    obtain ⟨o', e1⟩ := a.there c ob q hx
    exact b.there c o' e1 hx
  tups := fun c xs q => b.tups c xs (a.tups c xs q)
  frzs := fun c ob xs q => b.frzs c ob xs (a.frzs c ob xs q)
  tbls := fun c ps q => by
    obtain ⟨m1, e1⟩ := a.tbls c ps q
    obtain ⟨m2, e2⟩ := b.tbls c _ e1
    exact ⟨m1 ++ m2, by rw [e2, Array.append_assoc]⟩
theorem Un.kept (k : ∀ b u, h.get? b = some u → h'.get? b = some u) : Un fs ex H H h h' :=
  ⟨fun b ob q _ _ _ => k b ob q, fun b ob q _ _ _ => ⟨ob.slots, k b ob q⟩, fun _ _ _ n _ => n, fun b ob q _ => ⟨ob, k b ob q⟩, fun _ _ q => q, fun _ _ _ q => q, fun _ ps q => ⟨#[], by rw [q]; simp⟩⟩
theorem Un.refl : Un fs ex H H h h := Un.kept fun _ _ q => q
theorem Un.laid (k : ∀ b u, h.get? b = some u → h'.get? b = some u) (hp : h.objs.size ≤ a) (hn : H a = none) : Un fs ex H (upd H a o) h h' where
  keep := fun b u q _ _ _ => k b u q
  slot := fun b u q _ _ _ => ⟨u.slots, k b u q⟩
  free := fun b u q n _ => by rw [upd_ne (Nat.ne_of_lt (Nat.lt_of_lt_of_le (Heap.lt_size q) hp))]; exact n
  there := fun b u q _ => ⟨u, k b u q⟩
  tups := fun b xs q => by rw [upd_ne (ne_of_none q hn)]; exact q
  frzs := fun b u xs q => by rw [upd_ne (ne_of_none q hn)]; exact q
  tbls := fun b ps q => ⟨#[], by rw [upd_ne (ne_of_none q hn), q]; simp⟩
theorem Un.write (mu : Mut (H x)) (he : e = x ∨ H e = some (.own x)) (k : ∀ b u, b ≠ e → h.get? b = some u → h'.get? b = some u) (heo : ∃ u, h'.get? e = some u) : Un fs ex H (upd H x o) h h' := by
  have hx : ∀ b, H b = none → b ≠ x := fun b n z => by subst z; rw [n] at mu; exact mu
  have hb : ∀ b, H b = none → b ≠ e := fun b n z => by
    subst z
    rcases he with r | r
    · exact hx b n r
    · rw [n] at r; cases r
  have hm : ∀ b u, H b = some u → ¬ Mut (some u) → b ≠ x := fun b u q nm z => by subst z; rw [q] at mu; exact nm mu
  refine ⟨fun b u q n _ _ => k b u (hb b n) q, fun b u q n _ _ => ⟨u.slots, k b u (hb b n) q⟩, fun b u q n _ => by rw [upd_ne (hx b n)]; exact n, fun b u q _ => ?_,
    fun b xs q => by rw [upd_ne (hm b _ q fun z => z)]; exact q, fun b u xs q => by rw [upd_ne (hm b _ q fun z => z)]; exact q, fun b ps q => ⟨#[], by rw [upd_ne (hm b _ q fun z => z), q]; simp⟩⟩
  by_cases hbe : b = e
  · subst hbe; exact heo
  · exact ⟨u, k b u hbe q⟩
theorem Un.mono (u : Un fs ex H H1 h h1) (hs : ∀ b ∈ fs, b ∈ fs') (hx : ∀ b ∈ ex, b ∈ ex') : Un fs' ex' H H1 h h1 :=
  ⟨fun b ob q n hb he => u.keep b ob q n (fun z => hb (hs b z)) fun z => he (hx b z), fun _ _ q n _ he => u.any q n fun z => he (hx _ z), fun b ob q n he => u.free b ob q n fun z => he (hx b z), fun b ob q he => u.there b ob q fun z => he (hx b z), u.tups, u.frzs, u.tbls⟩
end
def trk (h : Heap) (H : Hp) : List Addr := (List.range h.objs.size).filter fun a => (H a).isSome
def hidT (h : Heap) (H : Hp) : Heap := PySem.W.hideAll h (trk h H)
theorem hidT_size (h : Heap) (H : Hp) : (hidT h H).objs.size = h.objs.size := PySem.W.hideAll_size _ _
theorem hidT_get {h : Heap} {H : Hp} {b : Addr} {o : Obj} (e : h.get? b = some o) (n : H b = none) : (hidT h H).get? b = some o :=
  PySem.W.hideAll_get _ e fun hm => by
    have q : (H b).isSome = true := (List.mem_filter.mp hm).2
    rw [n] at q; simp at q
theorem of_hidT {h : Heap} {H : Hp} {b : Addr} {o : Obj} (e : (hidT h H).get? b = some o) : h.get? b = some o ∧ H b = none := by
  have e' : h.get? b = some o := PySem.W.of_hideAll (trk h H) e
  refine ⟨e', ?_⟩
  cases q : H b with
  | none => rfl
  | some x =>
    have hm : b ∈ trk h H := List.mem_filter.mpr ⟨List.mem_range.mpr (Heap.lt_size e'), by simp [q]⟩
    have z : (hidT h H).get? b = none := PySem.W.hideAll_none (trk h H) hm
    rw [z] at e; cases e
def allNews (g h : Heap) (L : Addr) : List (Addr × Obj) := (List.range h.objs.size).filterMap fun a => if a = L ∨ (g.get? a).isSome = true then none else (h.get? a).map fun o => (a, o)
def rest (g h : Heap) (L d : Addr) : List (Addr × Obj) := (allNews g h L).filter fun p => decide (p.1 ≠ d)
end L2
namespace L2
open PySem PySem.Spec PyProof.Rows
structure Mod (K : PySem.W.Frag) (mg : Str → Option Value) (base : Heap) : Prop where
  kin : K.In base
  glob : base.Ns mainGlobals mg
  blt : ∃ mb, base.Ns builtinsNs mb ∧ ∀ x : Str, x ≠ "__name__" → mb x = bootBuiltins x
  nolimit : base.NoLimit
structure Cx where
  prog : Program
  w : World
  K : PySem.W.Frag
  mg : Str → Option Value
  base : Heap
  A : Around
  N : List Str
  s₀ : Shared
  H₀ : Hp
  env : Env
  outer : List Env
  stack : List Env
  ex : List Addr
  fn : Str → Bool
  calm : Bool
  pn : List (Addr × Obj)
  xe : Value → Shared → Prop
def frs (l : List Env) : List Addr := l.filterMap (·.frame)
abbrev Cx.fs (X : Cx) : List Addr := frs X.outer
def Vis (sc : Scope) (x : Str) : Prop := sc.names.lookup x = some .local ∨ sc.names.lookup x = some .cell ∨ sc.names.lookup x = some .free
def Loc (sc : Scope) (x : Str) : Prop := sc.names.lookup x = some .local ∨ sc.names.lookup x = some .cell
def Look (env : Env) (h : Heap) (m : Str → Option Value) (x : Str) (u : Value) : Prop :=
  (env.kindOf x = some .local ∧ m x = some u) ∨ ((env.kindOf x = some .cell ∨ env.kindOf x = some .free) ∧ ∃ c, env.cells.lookup x = some c ∧ h.IsCell c (some u))
structure Cx.Ok (X : Cx) : Prop where
  mod : Mod X.K X.mg X.base
  kind : X.env.scope.kind = .function
  glob : X.env.globals = mainGlobals
  blt : X.env.builtins = builtinsNs
  above : X.s₀.heap.objs.size ≤ X.env.locals
  inj : ∀ x y c, X.env.cells.lookup x = some c → X.env.cells.lookup y = some c → x = y
  has : ∀ x, (X.env.kindOf x = some .cell ∨ X.env.kindOf x = some .free) → ∃ c, X.env.cells.lookup x = some c
  cab : ∀ x c, X.fn x = true → X.env.cells.lookup x = some c → X.s₀.heap.objs.size ≤ c
  hd : X.calm = true → X.A.handled = none
  frames : X.A.frames = some X.stack
  stk : X.stack = X.outer ∨ (X.stack = X.env :: X.outer ∧ X.env.frame = some X.env.locals)
  exf : ∀ b ∈ X.ex, b ≠ X.env.locals ∧ ∀ x c, X.env.cells.lookup x = some c → c ≠ b
  bs : ∀ b o, X.base.get? b = some o → X.s₀.heap.get? b = some o ∧ X.H₀ b = none
  bsz : X.base.objs.size ≤ X.s₀.heap.objs.size
  noex : ∀ b o, X.base.get? b = some o → b ∉ X.ex
  exfs : ∀ b ∈ X.ex, b ∉ X.fs
  funs : X.s₀.heap.FunFrames X.base X.outer
  frf : ∀ b ∈ X.fs, X.H₀ b = none
structure Inv (X : Cx) (pins : List (Addr × Obj)) (σ : List (Option V)) (H : Hp) (s : Shared) : Prop where
  ok : X.Ok
  os : s.os = X.s₀.os
  bare : AllBare s.gens
  base : Un X.fs X.ex X.H₀ H X.s₀.heap s.heap
  loc : ∃ m, s.heap.Ns X.env.locals m ∧ ∀ (i : Nat) (x : Str) (v : V), X.N[i]? = some x → σ[i]? = some (some v) → Vis X.env.scope x → ∃ u, RelV v u ∧ Look X.env s.heap m x u
  cell : ∀ x c, X.env.cells.lookup x = some c → ∃ v, s.heap.IsCell c v
  free : H X.env.locals = none
  freeC : ∀ x c, X.env.cells.lookup x = some c → H c = none
  pin : ∀ p ∈ X.pn ++ pins, s.heap.get? p.1 = some p.2 ∧ H p.1 = none ∧ p.1 ≠ X.env.locals ∧ p.1 ∉ X.fs ∧ ∀ v, p.2.data ≠ .cell v
  hok : HOk X.prog X.w H s.heap
  len : σ.length = X.N.length
section
variable {X : Cx} {pins : List (Addr × Obj)} {σ : List (Option V)} {H H' : Hp} {s : Shared} {h' : Heap}
theorem Cx.Ok.nofr (ok : X.Ok) {b : Addr} {o : Obj} (e : X.base.get? b = some o) : b ∉ X.fs := fun hb => by
  have := (ok.funs.mem hb).1
  rw [e] at this; cases this
theorem Inv.bs (I : Inv X pins σ H s) : ∀ b o, X.base.get? b = some o → s.heap.get? b = some o ∧ H b = none := fun b o e =>
  ⟨I.base.keep b o (I.ok.bs b o e).1 (I.ok.bs b o e).2 (I.ok.nofr e) (I.ok.noex b o e), I.base.free b o (I.ok.bs b o e).1 (I.ok.bs b o e).2 (I.ok.noex b o e)⟩
theorem Inv.bk (I : Inv X pins σ H s) : ∀ b o, X.base.get? b = some o → s.heap.get? b = some o := fun b o e => (I.bs b o e).1
theorem Inv.mod (I : Inv X pins σ H s) : Mod X.K X.mg X.base := I.ok.mod
theorem Inv.kIn (I : Inv X pins σ H s) : X.K.In s.heap := I.ok.mod.kin.keeps I.bk
theorem Inv.nolimit (I : Inv X pins σ H s) : s.heap.NoLimit := I.ok.mod.nolimit.keeps I.bk
theorem Inv.lt (I : Inv X pins σ H s) : X.env.locals < s.heap.objs.size := let ⟨_, hn, _⟩ := I.loc; hn.lt
theorem Inv.sz (I : Inv X pins σ H s) : X.s₀.heap.objs.size ≤ s.heap.objs.size := Nat.le_trans I.ok.above (Nat.le_of_lt I.lt)
theorem Inv.nofs (I : Inv X pins σ H s) {a : Addr} (h : s.heap.objs.size ≤ a) : a ∉ X.fs := fun hb => by
  obtain ⟨_, o, ho, _⟩ := I.ok.funs.mem hb
  exact absurd (Nat.lt_of_lt_of_le (Heap.lt_size ho) (Nat.le_trans I.sz h)) (Nat.lt_irrefl _)
theorem Inv.cne (I : Inv X pins σ H s) : ∀ x c, X.env.cells.lookup x = some c → c ≠ X.env.locals := fun x c e z => by
  obtain ⟨v, o, ho, hd⟩ := I.cell x c e
  obtain ⟨m, ⟨o', es, ep, ho', hd', _⟩, _⟩ := I.loc
  rw [z, ho'] at ho; cases ho; rw [hd'] at hd; cases hd
theorem Inv.funs (I : Inv X pins σ H s) : s.heap.FunFrames X.base X.outer := by
  have all : ∀ (l : List Env), (∀ b ∈ frs l, b ∈ X.fs) → X.s₀.heap.FunFrames X.base l → s.heap.FunFrames X.base l := by
    intro l
    induction l with
    | nil => intro _ _; trivial
    | cons env r ih =>
      intro hs hl
      obtain ⟨hk, ⟨L, o, hf, hn, ho, hd⟩, hr⟩ := hl
      have hL : L ∈ X.fs := hs L (by unfold frs; rw [List.filterMap_cons, hf]; exact List.mem_cons_self)
      obtain ⟨sl, e⟩ := I.base.slot L o ho (I.ok.frf L hL) hL fun z => I.ok.exfs L z hL
      exact ⟨hk, ⟨L, _, hf, hn, e, hd⟩, ih (fun b hb => hs b (by unfold frs; rw [List.filterMap_cons, hf]; exact List.mem_cons_of_mem _ hb)) hr⟩
  exact all X.outer (fun _ hb => hb) I.ok.funs
theorem Inv.stack (I : Inv X pins σ H s) : s.heap.FunFrames X.base X.stack := by
  rcases I.ok.stk with e | ⟨e, hf⟩
  · rw [e]; exact I.funs
  · rw [e]
    obtain ⟨m, hn, _⟩ := I.loc
    refine .cons (by rw [I.ok.kind]; decide) hf hn ?_ I.funs
    exact Heap.get?_none_of_le (Nat.le_trans I.ok.bsz I.ok.above)
theorem Inv.stkSub (I : Inv X pins σ H s) : ∀ b ∈ frs X.stack, b ∈ X.env.locals :: X.fs := fun b hb => by
  rcases I.ok.stk with e | ⟨e, hf⟩
  · rw [e] at hb; exact List.mem_cons_of_mem _ hb
  · rw [e] at hb
    unfold frs at hb
    rw [List.filterMap_cons, hf] at hb
    exact hb
theorem Inv.stkFree (I : Inv X pins σ H s) : ∀ b ∈ frs X.stack, H b = none := fun b hb => by
  rcases List.mem_cons.mp (I.stkSub b hb) with e | hb
  · rw [e]; exact I.free
  · obtain ⟨_, o, ho, _⟩ := I.ok.funs.mem hb
    exact I.base.free b o ho (I.ok.frf b hb) fun z => I.ok.exfs b z hb
theorem Inv.step {g' : Array GenState} {t' : Nat} {d' : Drawn} {ch : List Addr} (I : Inv X pins σ H s)
    (hch : ∀ b ∈ ch, (b ∈ X.ex ∨ X.s₀.heap.objs.size ≤ b) ∧ b ≠ X.env.locals ∧ (∀ x c, X.env.cells.lookup x = some c → c ≠ b) ∧ ∀ p ∈ X.pn ++ pins, p.1 ≠ b)
    (keep : ∀ b o, b ≠ X.env.locals → b ∉ X.fs → b ∉ ch → s.heap.get? b = some o → H b = none → h'.get? b = some o)
    (slot : ∀ b o, b ≠ X.env.locals → b ∈ X.fs → b ∉ ch → s.heap.get? b = some o → H b = none → ∃ sl, h'.get? b = some { o with slots := sl }) (free : ∀ b o, b ∉ ch → s.heap.get? b = some o → H b = none → H' b = none)
    (there : ∀ b o, b ∉ ch → s.heap.get? b = some o → ∃ o', h'.get? b = some o')
    (tups : ∀ b xs, H b = some (.tup xs) → H' b = some (.tup xs)) (frzs : ∀ b o u, H b = some (.frz o u) → H' b = some (.frz o u)) (tbls : ∀ b ps, H b = some (.tbl ps) → ∃ more, H' b = some (.tbl (ps ++ more)))
    (ns : ∀ m, s.heap.Ns X.env.locals m → h'.Ns X.env.locals m) (hok : HOk X.prog X.w H' h') (hg : AllBare g') :
    Inv X pins σ H' { s with heap := h', gens := g', drawn := d', toks := t' } := by
  have neL : ∀ b o, X.s₀.heap.get? b = some o → b ≠ X.env.locals := fun b o e => Nat.ne_of_lt (Nat.lt_of_lt_of_le (Heap.lt_size e) I.ok.above)
  have neC : ∀ b o, X.s₀.heap.get? b = some o → b ∉ X.ex → b ∉ ch := fun b o e hx hb => by
    rcases (hch b hb).1 with z | z
    · exact hx z
    · exact absurd (Nat.lt_of_lt_of_le (Heap.lt_size e) z) (Nat.lt_irrefl _)
  have cellK : ∀ x c, X.env.cells.lookup x = some c → ∀ v, s.heap.IsCell c v → h'.IsCell c v := fun x c e v ⟨o, ho, hd⟩ => by
    have nch : c ∉ ch := fun z => (hch c z).2.2.1 x c e rfl
    by_cases hc : c ∈ X.fs
    · obtain ⟨sl, q⟩ := slot c o (I.cne x c e) hc nch ho (I.freeC x c e)
      exact ⟨_, q, hd⟩
    · exact ⟨o, keep c o (I.cne x c e) hc nch ho (I.freeC x c e), hd⟩
  refine ⟨I.ok, I.os, hg, ⟨fun b o e n hb hx => ?_, fun b o e n hb hx => ?_, fun b o e n hx => ?_, fun b o e hx => ?_, fun b xs e => tups b xs (I.base.tups b xs e), fun b o xs e => frzs b o xs (I.base.frzs b o xs e), fun b ps e => ?_⟩, ?_, fun x c e => ?_, ?_, fun x c e => ?_, fun p hp => ?_, hok, I.len⟩
  · exact keep b o (neL b o e) hb (neC b o e hx) (I.base.keep b o e n hb hx) (I.base.free b o e n hx)
  · obtain ⟨sl, e1⟩ := I.base.slot b o e n hb hx
    obtain ⟨sl', e2⟩ := slot b _ (neL b o e) hb (neC b o e hx) e1 (I.base.free b o e n hx)
    exact ⟨sl', e2⟩
  · obtain ⟨o', e1⟩ := I.base.there b o e hx
    exact free b o' (neC b o e hx) e1 (I.base.free b o e n hx)
  · obtain ⟨o', e1⟩ := I.base.there b o e hx
    exact there b o' (neC b o e hx) e1
  · obtain ⟨m1, e1⟩ := I.base.tbls b ps e
    obtain ⟨m2, e2⟩ := tbls b _ e1
    exact ⟨m1 ++ m2, by rw [e2, Array.append_assoc]⟩
  · obtain ⟨m, hn, hl⟩ := I.loc
    refine ⟨m, ns m hn, fun i x v e1 e2 e3 => ?_⟩
    obtain ⟨u, r, l⟩ := hl i x v e1 e2 e3
    refine ⟨u, r, ?_⟩
    rcases l with l | ⟨k, c, e, z⟩
    · exact .inl l
    · exact .inr ⟨k, c, e, cellK x c e _ z⟩
  · obtain ⟨v, z⟩ := I.cell x c e
    exact ⟨v, cellK x c e v z⟩
  · obtain ⟨m, ⟨o, _, _, ho, _⟩, _⟩ := I.loc
    exact free _ o (fun z => (hch _ z).2.1 rfl) ho I.free
  · obtain ⟨v, o, ho, hd⟩ := I.cell x c e
    exact free c o (fun z => (hch c z).2.2.1 x c e rfl) ho (I.freeC x c e)
  · obtain ⟨e, n, ne, nf, d⟩ := I.pin p hp
    have nch : p.1 ∉ ch := fun z => (hch p.1 z).2.2.2 p hp rfl
    exact ⟨keep p.1 p.2 ne nf nch e n, free p.1 p.2 nch e n, ne, nf, d⟩
theorem Inv.un {t' : Nat} (I : Inv X pins σ H s) (u : Un X.fs [] H H' s.heap h') (hok : HOk X.prog X.w H' h') : Inv X pins σ H' { s with heap := h', toks := t' } := by
  obtain ⟨m, ⟨o, es, ep, ho, r⟩, _⟩ := id I.loc
  obtain ⟨sl, hL⟩ := u.any ho I.free (by simp)
  exact I.step (g' := s.gens) (d' := s.drawn) (ch := []) (fun _ z => nomatch z) (fun b o _ hb _ e n => u.keep b o e n hb (by simp)) (fun b o _ hb _ e n => u.slot b o e n hb (by simp)) (fun b o _ e n => u.free b o e n (by simp)) (fun b o _ e => u.there b o e (by simp)) u.tups u.frzs u.tbls (fun m' hm => by
    obtain ⟨o', es', ep', ho', r'⟩ := hm
    rw [ho] at ho'; cases ho'
    exact ⟨_, es', ep', hL, r'⟩) hok I.bare
theorem Inv.call {g' : Array GenState} {t' : Nat} {d' : Drawn} {ch : List Addr} (I : Inv X pins σ H s) (u : Un (frs X.stack) ch H H' s.heap h') (hok : HOk X.prog X.w H' h') (hg : AllBare g')
    (hch : ∀ b ∈ ch, (b ∈ X.ex ∨ X.s₀.heap.objs.size ≤ b) ∧ b ≠ X.env.locals ∧ (∀ x c, X.env.cells.lookup x = some c → c ≠ b) ∧ ∀ p ∈ X.pn ++ pins, p.1 ≠ b) :
    Inv X pins σ H' { s with heap := h', gens := g', drawn := d', toks := t' } := by
  obtain ⟨m, ⟨o, es, ep, ho, r⟩, _⟩ := id I.loc
  obtain ⟨sl, hL⟩ := u.any ho I.free fun z => (hch _ z).2.1 rfl
  exact I.step (ch := ch) hch (fun b o hL hb hc e n => u.keep b o e n (fun z => (List.mem_cons.mp (I.stkSub b z)).elim hL hb) hc) (fun b o _ _ hc e n => u.any e n hc) (fun b o hc e n => u.free b o e n hc) (fun b o hc e => u.there b o e hc) u.tups u.frzs u.tbls (fun m' hm => by
    obtain ⟨o', es', ep', ho', r'⟩ := hm
    rw [ho] at ho'; cases ho'
    exact ⟨_, es', ep', hL, r'⟩) hok hg
theorem Inv.turned {t' : Nat} {it : Addr} (I : Inv X pins σ H s) (k : ∀ b o, b ≠ it → s.heap.get? b = some o → h'.get? b = some o) (hn : H it = none) (hL : it ≠ X.env.locals)
    (h1 : it ∈ X.ex ∨ X.s₀.heap.objs.size ≤ it) (h2 : ∀ x c, X.env.cells.lookup x = some c → c ≠ it) (h3 : ∀ p ∈ X.pn ++ pins, p.1 ≠ it) : Inv X pins σ H { s with heap := h', toks := t' } := by
  have nit : ∀ b u, H b = some u → b ≠ it := fun b u e z => by rw [z, hn] at e; cases e
  refine I.step (g' := s.gens) (d' := s.drawn) (ch := [it]) (fun b hb => ?_) (fun b o _ _ hc e _ => k b o (fun z => hc (by simp [z])) e) (fun b o _ _ hc e _ => ⟨o.slots, k b o (fun z => hc (by simp [z])) e⟩) (fun _ _ _ _ n => n)
    (fun b o hc e => ⟨o, k b o (fun z => hc (by simp [z])) e⟩) (fun _ _ e => e) (fun _ _ _ e => e) (fun b ps e => ⟨#[], by rw [e]; simp⟩) (fun m hm => ?_) (fun b u e => ?_) I.bare
  · have e : b = it := by simpa using hb
    subst e
    exact ⟨h1, hL, h2, h3⟩
  · obtain ⟨o, es, ep, ho, r⟩ := hm
    exact ⟨o, es, ep, k _ o (Ne.symm hL) ho, r⟩
  · refine (I.hok b u e).stay (fun c v hc q => k c v ?_ q) (fun _ q => q) fun _ _ q => q
    rcases hc with z | z
    · rw [z]; exact nit b u e
    · exact nit c _ z
theorem Inv.tok (I : Inv X pins σ H s) (t : Nat) : Inv X pins σ H { s with toks := t } := I.un (h' := s.heap) (t' := t) Un.refl I.hok
theorem Inv.kept {t' : Nat} (I : Inv X pins σ H s) (k : ∀ b u, s.heap.get? b = some u → h'.get? b = some u) : Inv X pins σ H { s with heap := h', toks := t' } := I.un (Un.kept k) (I.hok.kept k)
theorem Inv.laid {a : Addr} {o : HO} {t' : Nat} (I : Inv X pins σ H s) (k : ∀ b u, s.heap.get? b = some u → h'.get? b = some u) (hp : s.heap.objs.size ≤ a) (new : ObjOk X.prog X.w (upd H a o) h' a o) :
    Inv X pins σ (upd H a o) { s with heap := h', toks := t' } := I.un (Un.laid k hp (I.hok.fresh hp)) (I.hok.laid k hp new)
theorem Inv.write {x e : Addr} {o : HO} {t' : Nat} (I : Inv X pins σ H s) (mu : Mut (H x)) (he : e = x ∨ H e = some (.own x)) (k : ∀ b u, b ≠ e → s.heap.get? b = some u → h'.get? b = some u) (heo : ∃ u, h'.get? e = some u)
    (new : ObjOk X.prog X.w (upd H x o) h' x o) : Inv X pins σ (upd H x o) { s with heap := h', toks := t' } := I.un (Un.write mu he k heo) (I.hok.write mu he k heo new)
theorem Inv.pins_of {pins' : List (Addr × Obj)} (I : Inv X pins σ H s) (h : ∀ p ∈ pins', s.heap.get? p.1 = some p.2 ∧ H p.1 = none ∧ p.1 ≠ X.env.locals ∧ p.1 ∉ X.fs ∧ ∀ v, p.2.data ≠ .cell v) : Inv X pins' σ H s :=
  ⟨I.ok, I.os, I.bare, I.base, I.loc, I.cell, I.free, I.freeC, fun p hp => (List.mem_append.mp hp).elim (fun z => I.pin p (List.mem_append_left _ z)) (h p), I.hok, I.len⟩
theorem nodup_ix {N : List Str} (hN : N.Nodup) {i j : Nat} {x : Str} (a : N[i]? = some x) (b : N[j]? = some x) : i = j := by
  obtain ⟨h1, e1⟩ := List.getElem?_eq_some_iff.mp a
  obtain ⟨h2, e2⟩ := List.getElem?_eq_some_iff.mp b
  exact (List.getElem_inj hN).mp (e1.trans e2.symm)
theorem store_ok2 {M : Model} {A : Around} {E : Value → Shared → Prop} {i : Nat} {x : Str} {v : V} {u : Value} {Q : Unit → Shared → Prop} (I : Inv X pins σ H s) (hN : X.N.Nodup) (hi : X.N[i]? = some x) (hx : Loc X.env.scope x) (r : RelV v u)
    (h : ∀ s', Inv X pins (σ.set i (some v)) H s' → (∃ a, Heap.SameBut a s.heap s'.heap ∧ (a = X.env.locals ∨ X.env.cells.lookup x = some a)) → Q () s') (hf : X.fn x = true ∨ X.env.scope.names.lookup x = some .local := by first | exact .inl rfl | exact .inr rfl | assumption) : wpAny M A (storeName X.env x u) Q E s := by
  obtain ⟨m, hn, hl⟩ := id I.loc
  have hcls : (X.env.scope.kind == .class || (X.env.scope.kind == .module && X.env.locals != X.env.globals)) = false := by rw [I.ok.kind]; rfl
  have hiσ : i < σ.length := by rw [I.len]; exact (List.getElem?_eq_some_iff.mp hi).1
  have cne := I.cne
  have tracked : ∀ {a : Addr} {h' : Heap}, (∃ o, s.heap.get? a = some o ∧ H a = none) → Heap.SameBut a s.heap h' → HOk X.prog X.w H h' := fun {a h'} ha hs b ob e => by
    obtain ⟨_, _, hfree⟩ := ha
    refine (I.hok b ob e).stay (fun c w' hc q => (hs.2 c ?_).trans q) (fun _ q => q) fun _ _ q => q
    rintro rfl
    rcases hc with rfl | hc
    · rw [hfree] at e; cases e
    · rw [hfree] at hc; cases hc
  rcases hx with hk | hk
  · refine wpAny_storeName_local hk hn (fun h' hn' hs => ?_) hcls
    obtain ⟨oL, _, _, hoL, _⟩ := id hn
    refine h _ ⟨I.ok, I.os, I.bare, ⟨fun b o e n hb hx => ?_, fun b o e n hb hx => ?_, I.base.free, fun b o e hx => ?_, I.base.tups, I.base.frzs, I.base.tbls⟩, ⟨_, hn', fun j y v' e1 e2 e3 => ?_⟩, fun y c e => ?_, I.free, I.freeC, fun p hp => ?_, tracked ⟨oL, hoL, I.free⟩ hs, by simpa using I.len⟩ ⟨_, hs, .inl rfl⟩
    · exact (hs.2 b (Nat.ne_of_lt (Nat.lt_of_lt_of_le (Heap.lt_size e) I.ok.above))).trans (I.base.keep b o e n hb hx)
    · obtain ⟨sl, e1⟩ := I.base.slot b o e n hb hx
      exact ⟨sl, (hs.2 b (Nat.ne_of_lt (Nat.lt_of_lt_of_le (Heap.lt_size e) I.ok.above))).trans e1⟩
    · obtain ⟨o', e1⟩ := I.base.there b o e hx
      exact ⟨o', (hs.2 b (Nat.ne_of_lt (Nat.lt_of_lt_of_le (Heap.lt_size e) I.ok.above))).trans e1⟩
    · by_cases hj : j = i
      · subst hj
        rw [hi] at e1; cases e1
        rw [List.getElem?_set_self hiσ] at e2
        cases e2
        exact ⟨u, r, .inl ⟨hk, by simp⟩⟩
      · rw [List.getElem?_set_ne (Ne.symm hj)] at e2
        obtain ⟨u', r', q⟩ := hl j y v' e1 e2 e3
        refine ⟨u', r', ?_⟩
        rcases q with ⟨k, e⟩ | ⟨k, c, e, z⟩
        · refine .inl ⟨k, ?_⟩
          have : y ≠ x := fun e => hj (nodup_ix hN e1 (e ▸ hi))
          simp [this, e]
        · exact .inr ⟨k, c, e, z.sameBut hs (cne y c e)⟩
    · obtain ⟨w', z⟩ := I.cell y c e
      exact ⟨w', z.sameBut hs (cne y c e)⟩
    · obtain ⟨e, n, ne, nf, d⟩ := I.pin p hp
      exact ⟨(hs.2 p.1 ne).trans e, n, ne, nf, d⟩
  · have hfn : X.fn x = true := by
      rcases hf with z | z
      · exact z
      · rw [z] at hk; cases hk
    obtain ⟨c, hc⟩ := I.ok.has x (.inl hk)
    obtain ⟨w', z⟩ := I.cell x c hc
    refine wpAny_storeName_cell I.ok.kind hk hc z (fun h' hc' hs => ?_)
    obtain ⟨oc, hoc, hocd⟩ := id z
    refine h { s with heap := h' } ⟨I.ok, I.os, I.bare, ⟨fun b o e n hb hx => ?_, fun b o e n hb hx => ?_, I.base.free, fun b o e hx => ?_, I.base.tups, I.base.frzs, I.base.tbls⟩, ⟨m, hn.sameBut hs (Ne.symm (cne x c hc)), fun j y v' e1 e2 e3 => ?_⟩, fun y c' e => ?_, I.free, I.freeC, fun p hp => ?_, tracked ⟨oc, hoc, I.freeC x c hc⟩ hs, by simpa using I.len⟩ ⟨c, hs, .inr hc⟩
    · exact (hs.2 b (Nat.ne_of_lt (Nat.lt_of_lt_of_le (Heap.lt_size e) (I.ok.cab x c hfn hc)))).trans (I.base.keep b o e n hb hx)
    · obtain ⟨sl, e1⟩ := I.base.slot b o e n hb hx
      exact ⟨sl, (hs.2 b (Nat.ne_of_lt (Nat.lt_of_lt_of_le (Heap.lt_size e) (I.ok.cab x c hfn hc)))).trans e1⟩
    · obtain ⟨o', e1⟩ := I.base.there b o e hx
      exact ⟨o', (hs.2 b (Nat.ne_of_lt (Nat.lt_of_lt_of_le (Heap.lt_size e) (I.ok.cab x c hfn hc)))).trans e1⟩
    · by_cases hj : j = i
      · subst hj
        rw [hi] at e1; cases e1
        rw [List.getElem?_set_self hiσ] at e2
        cases e2
        exact ⟨u, r, .inr ⟨.inl hk, c, hc, hc'⟩⟩
      · rw [List.getElem?_set_ne (Ne.symm hj)] at e2
        obtain ⟨u', r', q⟩ := hl j y v' e1 e2 e3
        refine ⟨u', r', ?_⟩
        rcases q with q | ⟨k, c', e, z'⟩
        · exact .inl q
        · refine .inr ⟨k, c', e, z'.sameBut hs ?_⟩
          rintro rfl
          exact hj (nodup_ix hN e1 (I.ok.inj _ _ _ e hc ▸ hi))
    · by_cases hcc : c' = c
      · subst hcc; exact ⟨_, hc'⟩
      · obtain ⟨w2, z2⟩ := I.cell y c' e
        exact ⟨w2, z2.sameBut hs hcc⟩
    · obtain ⟨e, n, ne, nf, d⟩ := I.pin p hp
      refine ⟨(hs.2 p.1 ?_).trans e, n, ne, nf, d⟩
      intro q
      rw [q, hoc] at e
      have q' : oc = p.2 := Option.some.inj e
      exact d w' (by rw [← q']; exact hocd)
theorem store_ok {M : Model} {A : Around} {E : Value → Shared → Prop} {i : Nat} {x : Str} {v : V} {u : Value} {Q : Unit → Shared → Prop} (I : Inv X pins σ H s) (hN : X.N.Nodup) (hi : X.N[i]? = some x) (hx : Loc X.env.scope x) (r : RelV v u)
    (h : ∀ s', Inv X pins (σ.set i (some v)) H s' → Q () s') (hf : X.fn x = true ∨ X.env.scope.names.lookup x = some .local := by first | exact .inl rfl | exact .inr rfl | assumption) : wpAny M A (storeName X.env x u) Q E s :=
  store_ok2 I hN hi hx r (fun s' I' _ => h s' I') hf
theorem Inv.call' {s' : Shared} {ch : List Addr} (I : Inv X pins σ H s) (ho : s'.os = s.os) (u : Un (frs X.stack) ch H H' s.heap s'.heap) (hok : HOk X.prog X.w H' s'.heap) (hg : AllBare s'.gens)
    (hch : ∀ b ∈ ch, (b ∈ X.ex ∨ X.s₀.heap.objs.size ≤ b) ∧ b ≠ X.env.locals ∧ (∀ x c, X.env.cells.lookup x = some c → c ≠ b) ∧ ∀ p ∈ X.pn ++ pins, p.1 ≠ b) : Inv X pins σ H' s' := by
  obtain ⟨h', g', d', t', o'⟩ := s'
  have e : o' = s.os := ho
  subst e
  exact I.call (g' := g') (t' := t') (d' := d') u hok hg hch
end
abbrev XK := Value → Option Addr → Hp → Prop
abbrev St := List (Option V)
abbrev VK := V → Hp → Prop
abbrev TE := St → Hp → VK → Prop
abbrev TT := St → Hp → (Bool → Hp → Prop) → Prop
abbrev TA := St → Hp → (List V → Hp → Prop) → Prop
structure Ends where
  nx : St → Hp → Prop
  rt : VK
  bk : St → Hp → Prop := fun _ _ => False
  ct : St → Hp → Prop := fun _ _ => False
abbrev TS := Ends → St → Hp → Prop
def EP (X : Cx) (pins : List (Addr × Obj)) (σ : St) (Q : VK) (u : Value) (s' : Shared) : Prop := ∃ v H', Inv X pins σ H' s' ∧ RelV v u ∧ Q v H'
def TP (X : Cx) (pins : List (Addr × Obj)) (σ : St) (Q : Bool → Hp → Prop) (b : Bool) (s' : Shared) : Prop := ∃ H', Inv X pins σ H' s' ∧ Q b H'
def AP (X : Cx) (pins : List (Addr × Obj)) (σ : St) (Q : List V → Hp → Prop) (us : List Value) (s' : Shared) : Prop := ∃ vs H', Inv X pins σ H' s' ∧ Vals vs us ∧ Q vs H'
def SP (X : Cx) (pins : List (Addr × Obj)) (D : Ends) (f : Flow) (s' : Shared) : Prop :=
  match f with
  | .next => ∃ σ' H', Inv X pins σ' H' s' ∧ D.nx σ' H'
  | .brk => ∃ σ' H', Inv X pins σ' H' s' ∧ D.bk σ' H'
  | .cont => ∃ σ' H', Inv X pins σ' H' s' ∧ D.ct σ' H'
  | .ret u => ∃ v σ' H', Inv X pins σ' H' s' ∧ RelV v u ∧ D.rt v H'
def PE (X : Cx) (e : Expr) (t : TE) : Prop :=
  ∀ (pins : List (Addr × Obj)) (s : Shared) (σ : St) (H : Hp) (Q : VK), Inv X pins σ H s → t σ H Q → wpAny (model X.prog X.w) X.A (eval e X.env) (EP X pins σ Q) X.xe s
def PT (X : Cx) (e : Expr) (t : TT) : Prop :=
  ∀ (pins : List (Addr × Obj)) (s : Shared) (σ : St) (H : Hp) (Q : Bool → Hp → Prop), Inv X pins σ H s → t σ H Q → wpAny (model X.prog X.w) X.A (isTrue e X.env (eval e X.env)) (TP X pins σ Q) X.xe s
def PW (X : Cx) (e : Expr) (t : TT) : Prop :=
  ∀ (whole : Sem Value) (pins : List (Addr × Obj)) (s : Shared) (σ : St) (H : Hp) (Q : Bool → Hp → Prop), Inv X pins σ H s → t σ H Q → wpAny (model X.prog X.w) X.A (isTrue e X.env whole) (TP X pins σ Q) X.xe s
theorem PW.pt {X : Cx} {e : Expr} {t : TT} (h : PW X e t) : PT X e t := h _
def PA (X : Cx) (es : List Expr) (t : TA) : Prop :=
  ∀ (pos : Pos) (pins : List (Addr × Obj)) (s : Shared) (σ : St) (H : Hp) (Q : List V → Hp → Prop), Inv X pins σ H s → t σ H Q → wpAny (model X.prog X.w) X.A (spliced (backTo pos (starEach es X.env))) (AP X pins σ Q) X.xe s
def PS (X : Cx) (st : Stmt) (t : TS) : Prop :=
  ∀ (pins : List (Addr × Obj)) (s : Shared) (σ : St) (H : Hp) (D : Ends), Inv X pins σ H s → t D σ H → wpAny (model X.prog X.w) X.A (exec st X.env) (SP X pins D) X.xe s
def PSs (X : Cx) (st : List Stmt) (t : TS) : Prop :=
  ∀ (pins : List (Addr × Obj)) (s : Shared) (σ : St) (H : Hp) (D : Ends), Inv X pins σ H s → t D σ H → wpAny (model X.prog X.w) X.A (execs st X.env) (SP X pins D) X.xe s
theorem thn {α : Type} {t : Sem α} {Q Q' : α → Shared → Prop} {M : Model} {A : Around} {E : Value → Shared → Prop} {s : Shared} (h : wpAny M A t Q E s) (hQ : ∀ a s, Q a s → Q' a s) : wpAny M A t Q' E s := wpAny_mono h hQ fun _ _ x => x
end L2
namespace L2
open PySem PySem.Spec PyProof.Rows
section
variable {X : Cx}
theorem bin {a b : Expr} {ta tb : TE} (ha : PE X a ta) (hb : PE X b tb) {pins : List (Addr × Obj)} {s : Shared} {σ : St} {H : Hp} {R : V → V → Hp → Prop} (I : Inv X pins σ H s) (h : ta σ H fun x H1 => tb σ H1 fun y H2 => R x y H2)
    {α : Type} {Q : α → Shared → Prop} {f : Value → Value → Sem α}
    (hf : ∀ v u s2 x y H2, Inv X pins σ H2 s2 → RelV x v → RelV y u → R x y H2 → wpAny (model X.prog X.w) X.A (f v u) Q X.xe s2) :
    wpAny (model X.prog X.w) X.A (eval a X.env) (fun v s₁ => wpAny (model X.prog X.w) X.A (eval b X.env) (fun u s₂ => wpAny (model X.prog X.w) X.A (f v u) Q X.xe s₂) X.xe s₁) X.xe s := by
  refine thn (ha pins s σ H _ I h) fun v s1 ⟨x, H1, I1, r1, q1⟩ => ?_
  refine thn (hb pins s1 σ H1 _ I1 q1) fun u s2 ⟨y, H2, I2, r2, q2⟩ => ?_
  exact hf v u s2 x y H2 I2 r1 r2 q2
def tVar (i : Nat) : TE := fun σ H Q => ∃ v, σ[i]? = some (some v) ∧ Q v H
def tC (v : V) : TE := fun _ H Q => Q v H
theorem pe_var {i : Nat} {x : Str} {pos : Pos} (hN : X.N[i]? = some x) (hv : Vis X.env.scope x) (hd : (x == ("__debug__" : Str)) = false := by decide) (hcd : (x == ("__classdict__" : Str)) = false := by decide) : PE X (.Name x pos) (tVar i) := by
  intro pins s σ H Q I h
  obtain ⟨v, e, h⟩ := h
  obtain ⟨m, hn, hl⟩ := I.loc
  obtain ⟨u, r, l⟩ := hl i x v hN e hv
  have fin : EP X pins σ Q u s := ⟨v, H, I, r, h⟩
  rcases l with ⟨hk, hm⟩ | ⟨hk, c, hc, hcell⟩
  · exact wpAny_Name (wpAny_loadName_local I.ok.kind hk hn hm fin) hd
  · rcases hk with hk | hk
    · exact wpAny_Name (wpAny_loadName_cell I.ok.kind hk hc hcell fin) hd
    · exact wpAny_Name (wpAny_loadName_free I.ok.kind hk hc hcell fin hcd) hd
theorem pe_int {i j pos} : PE X (.Constant (.int i) j pos) (tC (.int i)) := fun _ _ _ H _ I h => wpAny_Constant_int ⟨.int i, H, I.tok _, ⟨_, rfl⟩, h⟩
theorem pe_bl {b j pos} : PE X (.Constant (.bool b) j pos) (tC (.bl b)) := fun _ _ _ H _ I h => Constant_bool ⟨.bl b, H, I, rfl, h⟩
theorem pe_str {x j pos} : PE X (.Constant (.str x) j pos) (tC (.str x)) := fun _ _ _ H _ I h => Calls.Constant_str ⟨.str x, H, I.tok _, ⟨_, rfl⟩, h⟩
def Gl (X : Cx) (x : Str) : Prop := X.env.kindOf x = some .globalImplicit
theorem ld_glob {E : Value → Shared → Prop} {pins : List (Addr × Obj)} {s : Shared} {σ : St} {H : Hp} {x : Str} {u : Value} {pos : Pos} {Q : Value → Shared → Prop} (I : Inv X pins σ H s) (hg : Gl X x) (hm : X.mg x = some u) (h : Q u s)
    (hd : (x == ("__debug__" : Str)) = false := by decide) : wpAny (model X.prog X.w) X.A (eval (.Name x pos) X.env) Q E s :=
  Calls.Name_function_global I.ok.kind hg (Calls.loadGlobal_global (by rw [I.ok.glob]; exact I.mod.glob.keeps I.bk) hm h) hd
theorem ld_blt {E : Value → Shared → Prop} {pins : List (Addr × Obj)} {s : Shared} {σ : St} {H : Hp} {x : Str} {u : Value} {pos : Pos} {Q : Value → Shared → Prop} (I : Inv X pins σ H s) (hg : Gl X x) (hm : X.mg x = none) (hv : bootBuiltins x = some u) (h : Q u s)
    (hn : x ≠ "__name__" := by decide) (hd : (x == ("__debug__" : Str)) = false := by decide) : wpAny (model X.prog X.w) X.A (eval (.Name x pos) X.env) Q E s := by
  obtain ⟨mb, h1, h2⟩ := I.mod.blt
  exact Calls.Name_function_global I.ok.kind hg (Calls.loadGlobal_builtin (by rw [I.ok.glob]; exact I.mod.glob.keeps I.bk) hm (by rw [I.ok.blt]; exact h1.keeps I.bk) ((h2 x hn).trans hv) h) hd
theorem pe_glob {x : Str} {v : V} {u : Value} {pos : Pos} (hg : Gl X x) (hm : X.mg x = some u) (r : RelV v u) (hd : (x == ("__debug__" : Str)) = false := by decide) : PE X (.Name x pos) (tC v) :=
  fun _ _ _ H _ I h => ld_glob I hg hm ⟨v, H, I, r, h⟩ hd
theorem pe_bltn {x : Str} {v : V} {u : Value} {pos : Pos} (hg : Gl X x) (hm : X.mg x = none) (hv : bootBuiltins x = some u) (r : RelV v u) (hn : x ≠ "__name__" := by decide) (hd : (x == ("__debug__" : Str)) = false := by decide) : PE X (.Name x pos) (tC v) :=
  fun _ _ _ H _ I h => ld_blt I hg hm hv ⟨v, H, I, r, h⟩ hn hd
variable {a b : Expr} {ta tb : TE} {pos : Pos}
def PC (X : Cx) (op : CmpOp) (a b : Expr) (t : TE) : Prop :=
  ∀ (pins : List (Addr × Obj)) (s : Shared) (σ : St) (H : Hp) (Q : VK), Inv X pins σ H s → t σ H Q →
    wpAny (model X.prog X.w) X.A (eval a X.env) (fun v s₁ => wpAny (model X.prog X.w) X.A (eval b X.env) (fun u s₂ => wpAny (model X.prog X.w) X.A (compareOp op v u) (EP X pins σ Q) X.xe s₂) X.xe s₁) X.xe s
theorem nobehind (b : Expr) {op : CmpOp} (h : op ≠ .In) (h2 : op ≠ .NotIn) : behindInMarks op b = false := by
  have e1 : (op == CmpOp.In) = false := by cases op <;> first | rfl | exact absurd rfl h
  have e2 : (op == CmpOp.NotIn) = false := by cases op <;> first | rfl | exact absurd rfl h2
  cases b <;> simp [behindInMarks, e1, e2]
def tB (t : TE) : TT := fun σ H Q => t σ H fun x H1 => ∃ c, x = .bl c ∧ Q c H1
theorem pe_cmp {op : CmpOp} {t : TE} (h : PC X op a b t) (h1 : behindInMarks op b = false := by first | exact nobehind _ (by decide) (by decide) | rfl) : PE X (.Compare a [op] [b] pos) t := fun pins s σ H Q I hw => wpAny_Compare1 (h pins s σ H Q I hw) h1
theorem pt_cmp {op : CmpOp} {t : TE} (h : PC X op a b t) (h1 : behindInMarks op b = false := by first | exact nobehind _ (by decide) (by decide) | rfl) : PT X (.Compare a [op] [b] pos) (tB t) := by
  intro pins s σ H Q I hw
  refine wpAny_isTrue_Compare1 (thn (h pins s σ H _ I hw) fun v s1 h1 => thn h1 fun u s2 h2 => thn h2 fun c s3 ⟨x, H1, I1, r1, q1⟩ => ?_) h1
  obtain ⟨d, rfl, q⟩ := q1
  cases r1
  exact wpAny_truthy_bool ⟨H1, I1, q⟩
theorem pt_val {e : Expr} {t : TE} (h : PE X e t) (he : ∀ whole, isTrue e X.env whole = (do let v ← whole; standAt e.pos; holding [v] (truthy v)) := by intro _; rfl) : PT X e (tB t) := by
  intro pins s σ H Q I hw
  refine isTrue_plain (thn (h pins s σ H _ I hw) fun v s1 ⟨x, H1, I1, r1, q1⟩ => ?_) (he _)
  obtain ⟨d, rfl, q⟩ := q1
  cases r1
  exact wpAny_truthy_bool ⟨H1, I1, q⟩
variable {tA tB' : TT} {rest : List Expr}
def tAnd (t u : TT) : TT := fun σ H Q => t σ H fun c H1 => if c = true then u σ H1 Q else Q false H1
def tOr (t u : TT) : TT := fun σ H Q => t σ H fun c H1 => if c = true then Q true H1 else u σ H1 Q
def tNot (t : TT) : TT := fun σ H Q => t σ H fun c H1 => Q (!c) H1
theorem pw_and1 (ha : PT X a tA) : PW X (.BoolOp .And [a] pos) tA := by
  intro wh pins s σ H Q I h
  refine isTrue_and (thn (ha pins s σ H Q I h) fun c s1 e => ?_)
  cases c with
  | true => exact isTrue_and_nil e
  | false => exact e
theorem pw_or1 (ha : PT X a tA) : PW X (.BoolOp .Or [a] pos) tA := by
  intro wh pins s σ H Q I h
  refine isTrue_or (thn (ha pins s σ H Q I h) fun c s1 e => ?_)
  cases c with
  | false => exact isTrue_or_nil e
  | true => exact e
theorem pw_and (ha : PT X a tA) (hb : PW X (.BoolOp .And (b :: rest) pos) tB') : PW X (.BoolOp .And (a :: b :: rest) pos) (tAnd tA tB') := by
  intro wh pins s σ H Q I h
  refine isTrue_and (thn (ha pins s σ H _ I h) fun c s1 ⟨H1, I1, q1⟩ => ?_)
  cases c with
  | true => exact hb wh pins s1 σ H1 Q I1 q1
  | false => exact ⟨H1, I1, q1⟩
theorem pw_or (ha : PT X a tA) (hb : PW X (.BoolOp .Or (b :: rest) pos) tB') : PW X (.BoolOp .Or (a :: b :: rest) pos) (tOr tA tB') := by
  intro wh pins s σ H Q I h
  refine isTrue_or (thn (ha pins s σ H _ I h) fun c s1 ⟨H1, I1, q1⟩ => ?_)
  cases c with
  | true => exact ⟨H1, I1, q1⟩
  | false => exact hb wh pins s1 σ H1 Q I1 q1
theorem pt_not (ha : PT X a tA) : PT X (.UnaryOp .Not a pos) (tNot tA) := by
  intro pins s σ H Q I h
  exact isTrue_not (ha pins s σ H (fun c H1 => Q (!c) H1) I h)
def tAndV (ta tb : TE) : TE := fun σ H Q => ta σ H fun x H1 => ∃ c, x = .bl c ∧ if c = true then tb σ H1 Q else Q (.bl false) H1
def tOrV (ta tb : TE) : TE := fun σ H Q => ta σ H fun x H1 => ∃ c, x = .bl c ∧ if c = true then Q (.bl true) H1 else tb σ H1 Q
def tNotV (ta : TE) : TE := fun σ H Q => ta σ H fun x H1 => ∃ c, x = .bl c ∧ Q (.bl (!c)) H1
theorem pe_one {op} {t : TE} (h : PE X a t) : PE X (.BoolOp op [a] pos) t := fun pins s σ H Q I hw => BoolOp_one (h pins s σ H Q I hw)
theorem pe_and (ha : PE X a ta) (hb : PE X (.BoolOp .And (b :: rest) pos) tb) : PE X (.BoolOp .And (a :: b :: rest) pos) (tAndV ta tb) := by
  intro pins s σ H Q I h
  refine BoolOp_and (thn (ha pins s σ H _ I h) fun v s1 ⟨x, H1, I1, r1, q1⟩ => ?_)
  obtain ⟨c, rfl, q1⟩ := q1
  cases r1
  refine wpAny_truthy_bool ?_
  cases c with
  | true => exact hb pins s1 σ H1 Q I1 q1
  | false => exact ⟨.bl false, H1, I1, rfl, q1⟩
theorem pe_or (ha : PE X a ta) (hb : PE X (.BoolOp .Or (b :: rest) pos) tb) : PE X (.BoolOp .Or (a :: b :: rest) pos) (tOrV ta tb) := by
  intro pins s σ H Q I h
  refine BoolOp_or (thn (ha pins s σ H _ I h) fun v s1 ⟨x, H1, I1, r1, q1⟩ => ?_)
  obtain ⟨c, rfl, q1⟩ := q1
  cases r1
  refine wpAny_truthy_bool ?_
  cases c with
  | false => exact hb pins s1 σ H1 Q I1 q1
  | true => exact ⟨.bl true, H1, I1, rfl, q1⟩
theorem pe_not (ha : PE X a ta) : PE X (.UnaryOp .Not a pos) (tNotV ta) := by
  intro pins s σ H Q I h
  refine UnaryOp_ (thn (ha pins s σ H _ I h) fun v s1 ⟨x, H1, I1, r1, q1⟩ => ?_)
  obtain ⟨c, rfl, q1⟩ := q1
  cases r1
  exact not_of (wpAny_truthy_bool ⟨.bl (!c), H1, I1, rfl, q1⟩)
def tIf (t : TT) (ta tb : TE) : TE := fun σ H Q => t σ H fun c H1 => if c = true then ta σ H1 Q else tb σ H1 Q
theorem pe_ifExp {c : Expr} (hc : PT X c tA) (ha : PE X a ta) (hb : PE X b tb) : PE X (.IfExp c a b pos) (tIf tA ta tb) := by
  intro pins s σ H Q I h
  refine wpAny_IfExp (thn (hc pins s σ H _ I h) fun d s1 ⟨H1, I1, q1⟩ => ?_)
  cases d with
  | true => exact ha pins s1 σ H1 Q I1 q1
  | false => exact hb pins s1 σ H1 Q I1 q1
end
end L2
namespace L2
open PySem PySem.Spec PyProof.Rows
def SqL (K : PySem.W.Frag) (H : Hp) (a : Addr) (xs : List V) : Prop :=
  Rd H a (.lst xs) ∨
    ∃ (o : Obj) (its : Array Value) (n : Nat), K.lookup a = some o ∧ o.cls = .type "list" ∧ o.dict = none ∧ o.data = .seq its n ∧ its.size ≤ sizeLine ∧ Vals xs its.toList
def SqT (K : PySem.W.Frag) (H : Hp) (a : Addr) (xs : List V) : Prop :=
  Rd H a (.tup xs) ∨
    ∃ (o : Obj) (its : Array Value) (n : Nat), K.lookup a = some o ∧ o.cls = .type "tuple" ∧ o.data = .seq its n ∧ its.size ≤ sizeLine ∧ Vals xs its.toList
def absV : Value → Option V
  | .none => some .non
  | .bool b => some (.bl b)
  | .int i _ => some (.int i)
  | .str x _ => some (.str x)
  | .bytes b _ => some (.byt b)
  | .float b _ => some (.flt b)
  | .ref a => some (.ref a)
  | .type n => some (.ty n)
  | _ => none
theorem RelV.abs {x : V} {u : Value} (r : RelV x u) : absV u = some x := by
  cases x with
  | non => cases r; rfl
  | bl _ => cases r; rfl
  | int _ => obtain ⟨t, rfl⟩ := r; rfl
  | str _ => obtain ⟨t, rfl⟩ := r; rfl
  | byt _ => obtain ⟨t, rfl⟩ := r; rfl
  | flt _ => obtain ⟨t, rfl⟩ := r; rfl
  | ref _ => cases r; rfl
  | ty _ => cases r; rfl
theorem RelV.inj {x y : V} {u : Value} (r : RelV x u) (q : RelV y u) : x = y := Option.some.inj (r.abs.symm.trans q.abs)
theorem Vals.inj : ∀ {xs ys : List V} {us : List Value}, Vals xs us → Vals ys us → xs = ys
  | _, _, _, .nil, .nil => rfl
  | _, _, _, .cons r t, .cons r' t' => by rw [r.inj r', Vals.inj t t']
section
variable {X : Cx} {pins : List (Addr × Obj)} {σ : St} {H : Hp} {s : Shared} {a : Addr} {xs ys : List V}
theorem SqL.of {K : PySem.W.Frag} (h : H a = some (.lst xs)) : SqL K H a xs := .inl (.inl h)
theorem SqT.of {K : PySem.W.Frag} (h : H a = some (.tup xs)) : SqT K H a xs := .inl (.inl h)
theorem Inv.list (I : Inv X pins σ H s) (h : SqL X.K H a xs) : ∃ its : List Value, Vals xs its ∧ PlainL s.heap a its.toArray ∧ xs.length ≤ sizeLine := by
  rcases h with h | ⟨o, its, n, hk, hc, hd, hs, hz, r⟩
  · obtain ⟨z, its, n, r, e⟩ := h.ok I.hok
    exact ⟨its, r, ⟨_, n, e, rfl, rfl, rfl⟩, z⟩
  · refine ⟨its.toList, r, ⟨o, n, I.kIn a o hk, hc, hd, by simpa using hs⟩, ?_⟩
    have e := r.length
    simp only [Array.length_toList] at e
    omega
theorem Inv.tuple (I : Inv X pins σ H s) (h : SqT X.K H a xs) : ∃ its : List Value, Vals xs its ∧ IsTup s.heap a its.toArray ∧ xs.length ≤ sizeLine := by
  rcases h with h | ⟨o, its, n, hk, hc, hs, hz, r⟩
  · obtain ⟨z, its, r, p⟩ := h.ok I.hok
    exact ⟨its, r, p, z⟩
  · refine ⟨its.toList, r, ⟨o, I.kIn a o hk, hc, n, by simpa using hs⟩, ?_⟩
    have e := r.length
    simp only [Array.length_toList] at e
    omega
theorem Inv.list_inj (I : Inv X pins σ H s) (h : SqL X.K H a xs) (h' : SqL X.K H a ys) : xs = ys := by
  obtain ⟨its, r, ⟨o, n, e, _, _, d⟩, _⟩ := I.list h
  obtain ⟨its', r', ⟨o', n', e', _, _, d'⟩, _⟩ := I.list h'
  rw [e] at e'; cases e'
  rw [d] at d'
  injection d' with d1 _
  have : its = its' := by simpa using congrArg Array.toList d1
  subst this
  exact r.inj r'
theorem Inv.tuple_inj (I : Inv X pins σ H s) (h : SqT X.K H a xs) (h' : SqT X.K H a ys) : xs = ys := by
  obtain ⟨its, r, ⟨o, e, _, n, d⟩, _⟩ := I.tuple h
  obtain ⟨its', r', ⟨o', e', _, n', d'⟩, _⟩ := I.tuple h'
  rw [e] at e'; cases e'
  rw [d] at d'
  injection d' with d1 _
  have : its = its' := by simpa using congrArg Array.toList d1
  subst this
  exact r.inj r'
end
abbrev Cx.wish (X : Cx) (E : Value → Shared → Prop) : Cx := { X with xe := E }
abbrev Cx.nox (X : Cx) : Cx := X.wish fun _ _ => False
theorem Cx.Ok.wish {X : Cx} (ok : X.Ok) (E : Value → Shared → Prop) : (X.wish E).Ok :=
  ⟨ok.mod, ok.kind, ok.glob, ok.blt, ok.above, ok.inj, ok.has, ok.cab, ok.hd, ok.frames, ok.stk, ok.exf, ok.bs, ok.bsz, ok.noex, ok.exfs, ok.funs, ok.frf⟩
theorem Cx.Ok.unwish {X : Cx} {E : Value → Shared → Prop} (ok : (X.wish E).Ok) : X.Ok :=
  ⟨ok.mod, ok.kind, ok.glob, ok.blt, ok.above, ok.inj, ok.has, ok.cab, ok.hd, ok.frames, ok.stk, ok.exf, ok.bs, ok.bsz, ok.noex, ok.exfs, ok.funs, ok.frf⟩
section
variable {X : Cx} {pins : List (Addr × Obj)} {σ : St} {H : Hp} {s : Shared} {E : Value → Shared → Prop}
theorem Inv.wish (I : Inv X pins σ H s) (E : Value → Shared → Prop) : Inv (X.wish E) pins σ H s := ⟨I.ok.wish E, I.os, I.bare, I.base, I.loc, I.cell, I.free, I.freeC, I.pin, I.hok, I.len⟩
theorem Inv.unwish (I : Inv (X.wish E) pins σ H s) : Inv X pins σ H s := ⟨I.ok.unwish, I.os, I.bare, I.base, I.loc, I.cell, I.free, I.freeC, I.pin, I.hok, I.len⟩
theorem SP.unwish {D : Ends} {f : Flow} {s' : Shared} (h : SP (X.wish E) pins D f s') : SP X pins D f s' := by
  cases f with
  | next => obtain ⟨σ', H', I, q⟩ := h; exact ⟨σ', H', I.unwish, q⟩
  | brk => obtain ⟨σ', H', I, q⟩ := h; exact ⟨σ', H', I.unwish, q⟩
  | cont => obtain ⟨σ', H', I, q⟩ := h; exact ⟨σ', H', I.unwish, q⟩
  | ret u => obtain ⟨v, σ', H', I, r, q⟩ := h; exact ⟨v, σ', H', I.unwish, r, q⟩
theorem PE.nox {e : Expr} {t : TE} (h : PE X.nox e t) : PE X e t := fun pins s σ H Q I hw =>
  wpAny_mono (h pins s σ H Q (I.wish _) hw) (fun _ _ ⟨v, H', I', r, q⟩ => ⟨v, H', I'.unwish, r, q⟩) fun _ _ z => False.elim z
theorem PT.nox {e : Expr} {t : TT} (h : PT X.nox e t) : PT X e t := fun pins s σ H Q I hw =>
  wpAny_mono (h pins s σ H Q (I.wish _) hw) (fun _ _ ⟨H', I', q⟩ => ⟨H', I'.unwish, q⟩) fun _ _ z => False.elim z
theorem PSs.nox {st : List Stmt} {t : TS} (h : PSs X.nox st t) : PSs X st t := fun pins s σ H D I hw =>
  wpAny_mono (h pins s σ H D (I.wish _) hw) (fun _ _ q => q.unwish) fun _ _ z => False.elim z
end
section
variable {X : Cx} {st : Stmt} {rest : List Stmt} {t u : TS} {e : Expr} {te : TE} {pos : Pos}
def tNext : TS := fun D σ H => D.nx σ H
def tSeq (t u : TS) : TS := fun D σ H => t { D with nx := u D } σ H
theorem pss_nil : PSs X [] tNext := fun _ _ σ H _ I h => wpAny_execs_nil ⟨σ, H, I, h⟩
theorem pss_cons (h1 : PS X st t) (h2 : PSs X rest u) : PSs X (st :: rest) (tSeq t u) := by
  intro pins s σ H D I h
  refine wpAny_execs_cons (thn (h1 pins s σ H { D with nx := u D } I h) fun f s1 q => ?_)
  cases f with
  | next =>
    obtain ⟨σ', H', I', q⟩ := q
    exact h2 pins s1 σ' H' D I' q
  | ret v => exact q
  | brk => exact q
  | cont => exact q
theorem pss_one (h1 : PS X st t) : PSs X [st] t := by
  intro pins s σ H D I h
  refine wpAny_execs_cons (thn (h1 pins s σ H D I h) fun f s1 q => ?_)
  cases f with
  | next => exact wpAny_execs_nil q
  | ret v => exact q
  | brk => exact q
  | cont => exact q
theorem Inv.quiet {pins : List (Addr × Obj)} {σ : St} {H : Hp} {s : Shared} (I : Inv X pins σ H s) : interactive X.env = false := by simp [interactive, I.ok.kind]
def tDrop (te : TE) : TS := fun D σ H => te σ H fun _ H1 => D.nx σ H1
theorem ps_expr (he : PE X e te) (hs : swapsWith e none pos.line X.env = pure false := by rfl) : PS X (.Expr e pos) (tDrop te) := by
  intro pins s σ H D I h
  exact wpAny_Expr_any (thn (he pins s σ H _ I h) fun v s1 ⟨x, H1, I1, r1, q1⟩ => ⟨σ, H1, I1, q1⟩) I.quiet hs
def tRet (te : TE) : TS := fun D σ H => te σ H D.rt
theorem ps_ret (he : PE X e te) : PS X (.Return (some e) pos) (tRet te) := by
  intro pins s σ H D I h
  exact wpAny_Return_some (thn (he pins s σ H _ I h) fun v s1 ⟨x, H1, I1, r1, q1⟩ => ⟨x, σ, H1, I1, r1, q1⟩)
def tIfS (c : TT) (t u : TS) : TS := fun D σ H => c σ H fun b H1 => if b = true then t D σ H1 else u D σ H1
theorem ps_if {c : Expr} {a b : List Stmt} {tc : TT} (hc : PT X c tc) (ha : PSs X a t) (hb : PSs X b u) : PS X (.If c a b pos) (tIfS tc t u) := by
  intro pins s σ H D I h
  refine wpAny_If (thn (hc pins s σ H _ I h) fun d s1 ⟨H1, I1, q1⟩ => ?_)
  cases d with
  | true => exact ha pins s1 σ H1 D I1 q1
  | false => exact hb pins s1 σ H1 D I1 q1
end
abbrev TG := V → St → Hp → (St → Hp → Prop) → Prop
abbrev TGs := List V → St → Hp → (St → Hp → Prop) → Prop
def PG (X : Cx) (target : Expr) (t : TG) : Prop :=
  ∀ (pins : List (Addr × Obj)) (s : Shared) (σ : St) (H : Hp) (v : V) (u : Value) (Q : St → Hp → Prop), Inv X pins σ H s → RelV v u → t v σ H Q →
    wpAny (model X.prog X.w) X.A (assign target X.env u) (fun _ s' => ∃ σ' H', Inv X pins σ' H' s' ∧ Q σ' H') X.xe s
def PGs (X : Cx) (ts : List Expr) (t : TGs) : Prop :=
  ∀ (pins : List (Addr × Obj)) (s : Shared) (σ : St) (H : Hp) (vs : List V) (us : List Value) (Q : St → Hp → Prop), Inv X pins σ H s → Vals vs us → t vs σ H Q →
    wpAny (model X.prog X.w) X.A (assignInOrder ((assignEach ts X.env).map (·.2)) us) (fun _ s' => ∃ σ' H', Inv X pins σ' H' s' ∧ Q σ' H') X.xe s
abbrev TSet := V → V → V → Hp → (Hp → Prop) → Prop
def PSet (X : Cx) (t : TSet) : Prop :=
  ∀ (pins : List (Addr × Obj)) (s : Shared) (σ : St) (H : Hp) (o i v : V) (ov iv u : Value) (Q : Hp → Prop), Inv X pins σ H s → RelV o ov → RelV i iv → RelV v u → t o i v H Q →
    wpAny (model X.prog X.w) X.A (setItem ov iv u) (fun _ s' => ∃ H', Inv X pins σ H' s' ∧ Q H') X.xe s
section
variable {X : Cx} {pos : Pos}
def gName (i : Nat) : TG := fun v σ H Q => Q (σ.set i (some v)) H
theorem pg_name {i : Nat} {x : Str} (hN : X.N.Nodup) (hi : X.N[i]? = some x) (hx : Loc X.env.scope x) (hf : X.fn x = true ∨ X.env.scope.names.lookup x = some .local := by first | exact .inl rfl | exact .inr rfl | assumption) : PG X (.Name x pos) (gName i) := by
  intro pins s σ H v u Q I r h
  exact wpAny_assign_Name (store_ok I hN hi hx r (fun s' I' => ⟨_, H, I', h⟩) hf)
def gNil : TGs := fun vs σ H Q => vs = [] ∧ Q σ H
def gCons (t : TG) (u : TGs) : TGs := fun vs σ H Q => ∃ v r, vs = v :: r ∧ t v σ H fun σ' H' => u r σ' H' Q
theorem pgs_nil : PGs X [] gNil := by
  intro pins s σ H vs us Q I r h
  obtain ⟨e, h⟩ := h
  subst e
  cases r
  exact assignInOrder_nil ⟨σ, H, I, h⟩
theorem pgs_cons {e : Expr} {es : List Expr} {t : TG} {u : TGs} (h1 : PG X e t) (h2 : PGs X es u)
    (hs : (assignEach (e :: es) X.env).map (·.2) = assign e X.env :: (assignEach es X.env).map (·.2) := by rfl) : PGs X (e :: es) (gCons t u) := by
  intro pins s σ H vs us Q I r h
  obtain ⟨v, vr, e1, h⟩ := h
  subst e1
  cases r with
  | cons r rr =>
    rw [hs]
    refine assignInOrder_cons (thn (h1 pins s σ H _ _ _ I r h) fun _ s1 ⟨σ1, H1, I1, q1⟩ => ?_)
    exact h2 pins s1 σ1 H1 _ _ Q I1 rr q1
def gTup (K : PySem.W.Frag) (n : Nat) (t : TGs) : TG := fun v σ H Q => ∃ a xs, v = .ref a ∧ SqT K H a xs ∧ xs.length = n ∧ t xs σ H Q
theorem pg_tup {es : List Expr} {k : Nat} {t : TGs} {n : Nat} (hc : X.calm = true) (h : PGs X es t)
    (hn : (assignEach es X.env).length = n := by rfl) (hst : (assignEach es X.env).findIdx? (·.1) = none := by rfl) : PG X (.Tuple es k pos) (gTup X.K n t) := by
  intro pins s σ H v u Q I r hw
  obtain ⟨a, xs, e1, hq, hl, hw⟩ := hw
  subst e1
  cases r
  obtain ⟨its, rv, ht, hz⟩ := I.tuple hq
  refine assign_Tuple_tuple (I.ok.hd hc) ht (by simp [hn, ← hl, rv.length]) hst fun h' hx => ?_
  have I1 : Inv X pins σ H { s with heap := h' } := I.kept (t' := s.toks) fun b o e => hx b o (Nat.ne_of_lt (Heap.lt_size e)) e
  exact h pins _ σ H xs _ Q I1 (by simpa using rv) hw
def gSub (to ti : TE) (t : TSet) : TG := fun v σ H Q => to σ H fun o H1 => ti σ H1 fun i H2 => t o i v H2 fun H3 => Q σ H3
theorem pg_sub {o i : Expr} {to ti : TE} {t : TSet} (ho : PE X o to) (hi : PE X i ti) (hs : PSet X t)
    (ha : ∀ v, assign (.Subscript o i pos) X.env v = (do
      let ov ← holding [v] (eval o X.env)
      let iv ← holding [v, ov] (eval i X.env)
      standAt pos
      holding [v, ov, iv] (setItem ov iv v)
      release [v, ov, iv] []) := by intro _; rfl) : PG X (.Subscript o i pos) (gSub to ti t) := by
  intro pins s σ H v u Q I r h
  rw [ha]
  refine wpAny_bind (wpAny_holding (thn (ho pins s σ H _ I h) fun ov s1 ⟨x, H1, I1, r1, q1⟩ => ?_))
  refine wpAny_bind (wpAny_holding (thn (hi pins s1 σ H1 _ I1 q1) fun iv s2 ⟨y, H2, I2, r2, q2⟩ => ?_))
  refine wpAny_bind (wpAny_standAt (wpAny_bind (wpAny_holding (thn (hs pins s2 σ H2 x y v ov iv u _ I2 r1 r2 r q2) fun _ s3 ⟨H3, I3, q3⟩ => ?_))))
  exact wpAny_release ⟨σ, H3, I3, q3⟩
def tAsg (te : TE) (g : TG) : TS := fun D σ H => te σ H fun x H1 => g x σ H1 D.nx
theorem ps_asg {tg e : Expr} {te : TE} {g : TG} (he : PE X e te) (hg : PG X tg g) (hs : swapsWithSole [tg] e pos.line X.env = pure false := by rfl) (hw : swappedStores [tg] e X.env = pure none := by rfl)
    (h1 : (assignEach [tg] X.env).map (·.2) = [assign tg X.env] := by rfl) : PS X (.Assign [tg] e pos) (tAsg te g) := by
  intro pins s σ H D I h
  refine wpAny_Assign_stores (thn (he pins s σ H _ I h) fun v s1 ⟨x, H1, I1, r1, q1⟩ => ?_) hs hw
  rw [h1]
  exact thn (hg pins s1 σ H1 x v _ I1 r1 q1) fun _ s2 q => q
theorem ps_set {i : Nat} {x : Str} {e : Expr} {te : TE} {pos' : Pos} (hN : X.N.Nodup) (hi : X.N[i]? = some x) (hx : Loc X.env.scope x) (he : PE X e te) (hs : swapsWith e (some (.Name x pos')) pos.line X.env = pure false := by rfl) (hf : X.fn x = true ∨ X.env.scope.names.lookup x = some .local := by first | exact .inl rfl | exact .inr rfl | assumption) :
    PS X (.Assign [.Name x pos'] e pos) (tAsg te (gName i)) := by
  intro pins s σ H D I h
  refine wpAny_Assign_Name (thn (he pins s σ H _ I h) fun v s1 ⟨y, H1, I1, r1, q1⟩ => ?_) hs
  exact store_ok I1 hN hi hx r1 (fun s2 I2 => ⟨_, H1, I2, q1⟩) hf
end
section
variable {X : Cx} {pos : Pos}
end
structure It where
  go : Nat → Hp → Prop
  yld : Nat → Hp → V → Hp → Prop
  stop : Nat → Hp → Prop
def FpOk (X : Cx) (pins : List (Addr × Obj)) (H : Hp) (b : Addr) : Prop :=
  H b = none ∧ b ≠ X.env.locals ∧ b ∉ X.fs ∧ (b ∈ X.ex ∨ X.s₀.heap.objs.size ≤ b) ∧ (∀ x c, X.env.cells.lookup x = some c → c ≠ b) ∧ ∀ p ∈ X.pn ++ pins, p.1 ≠ b
theorem Inv.fpOk {X : Cx} {pins : List (Addr × Obj)} {σ : St} {H H' : Hp} {s : Shared} {b : Addr} (I : Inv X pins σ H s) (hb : s.heap.objs.size ≤ b) (hn : H' b = none) : FpOk X pins H' b := by
  refine ⟨hn, Nat.ne_of_gt (Nat.lt_of_lt_of_le I.lt hb), I.nofs hb, .inr (Nat.le_trans I.sz hb), fun x c e z => ?_, fun p hp z => ?_⟩
  · obtain ⟨v, q⟩ := I.cell x c e
    exact absurd (Nat.lt_of_lt_of_le q.lt (by rw [z]; exact hb)) (Nat.lt_irrefl _)
  · exact absurd (Nat.lt_of_lt_of_le (Heap.lt_size (I.pin p hp).1) (by rw [z]; exact hb)) (Nat.lt_irrefl _)
structure Turn (P : Program) (w : World) (K : PySem.W.Frag) (tg : Expr) (J : It) (fp : List Addr) (it : Addr) (tn : Nat → Heap → Prop) : Prop where
  mem : it ∈ fp
  obj : ∀ i h, tn i h → ∀ b ∈ fp, ∃ o, h.get? b = some o ∧ ∀ v, o.data ≠ .cell v
  keep : ∀ i h h', tn i h → (∀ b ∈ fp, ∀ o, h.get? b = some o → h'.get? b = some o) → tn i h'
  item : ∀ (X : Cx), X.prog = P → X.w = w → X.K = K → X.calm = true → ∀ (i : Nat) (pins : List (Addr × Obj)) (s : Shared) (σ : St) (H : Hp) (E : Value → Shared → Prop), Inv X pins σ H s → (∀ b ∈ fp, FpOk X pins H b) → tn i s.heap → J.go i H →
    wpAny (model P w) X.A (pyNext (.ref it)) (fun r s1 => ∃ u, r = some u ∧
      wpAny (model P w) X.A (letOwnedTupleGo tg (.ref it) u) (fun _ s2 => ∃ x H', Inv X pins σ H' s2 ∧ RelV x u ∧ J.yld i H x H' ∧ tn (i + 1) s2.heap ∧ ∀ b ∈ fp, H' b = none) E s1) E s
  done : ∀ (X : Cx), X.prog = P → X.w = w → X.K = K → X.calm = true → ∀ (i : Nat) (pins : List (Addr × Obj)) (s : Shared) (σ : St) (H : Hp) (E : Value → Shared → Prop), Inv X pins σ H s → (∀ b ∈ fp, FpOk X pins H b) → tn i s.heap → J.stop i H →
    wpAny (model P w) X.A (pyNext (.ref it)) (fun r s1 => r = none ∧ Inv X pins σ H s1) E s
  self : ∀ (A : Around) (i : Nat) (s : Shared) (Q : Value → Shared → Prop) (E : Value → Shared → Prop), tn i s.heap → Q (.ref it) s → wpAny (model P w) A (pyIter (.ref it)) Q E s
abbrev TI := St → Hp → (It → Hp → Prop) → Prop
def PIE (X : Cx) (pins : List (Addr × Obj)) (σ : St) (tg : Expr) (R : It → Hp → Prop) (itv : Value) (s2 : Shared) : Prop :=
  ∃ (it : Addr) (fp : List Addr) (tn : Nat → Heap → Prop) (J : It) (H' : Hp), itv = .ref it ∧ Inv X pins σ H' s2 ∧ Turn X.prog X.w X.K tg J fp it tn ∧ tn 0 s2.heap ∧ (∀ b ∈ fp, FpOk X pins H' b) ∧ R J H'
def PI (X : Cx) (tg iter : Expr) (wi : TI) : Prop :=
  ∀ (pins : List (Addr × Obj)) (s : Shared) (σ : St) (H : Hp) (R : It → Hp → Prop), Inv X pins σ H s → wi σ H R →
    wpAny (model X.prog X.w) X.A (eval iter X.env) (fun v s1 => wpAny (model X.prog X.w) X.A (pyIter v) (PIE X pins σ tg R) X.xe s1) X.xe s
theorem go_of {M : Model} {A : Around} {E : Value → Shared → Prop} {s : Shared} {tg : Expr} {it : Addr} {u : Value} {o : Obj} {n : String} {vs : Array Value} {Q : Unit → Shared → Prop} (ho : s.heap.get? it = some o) (hc : o.cls = .type n) (hd : o.data = .fields vs)
    (hn : ["enumerate", "zip", "dict_itemiterator", "dict_reverseitemiterator", "odict_iterator", "itertools.zip_longest", "itertools.pairwise"].contains n = false) (hQ : Q () s) : wpAny M A (letOwnedTupleGo tg (.ref it) u) Q E s := by
  unfold letOwnedTupleGo
  cases tg <;> first
    | exact wpAny_pure hQ
    | (cases u <;> first
        | exact wpAny_pure hQ
        | (refine wpAny_bind (wpAny_load ho ?_)
           rw [hc, hd]
           show wpAny M A (if (["enumerate", "zip", "dict_itemiterator", "dict_reverseitemiterator", "odict_iterator", "itertools.zip_longest", "itertools.pairwise"].contains n && vs[0]? == some (rawInt _)) = true then _ else _) Q E s
           rw [if_neg (by intro h; rw [hn, Bool.false_and] at h; cases h)]
           exact wpAny_pure hQ))
def Itl (K : PySem.W.Frag) (a : Addr) : It :=
  ⟨fun i H => ∃ xs x, SqL K H a xs ∧ xs[i]? = some x, fun i H x H' => H' = H ∧ ∀ xs, SqL K H a xs → xs[i]? = some x, fun i H => ∃ xs, SqL K H a xs ∧ xs.length ≤ i⟩
def Itt (K : PySem.W.Frag) (a : Addr) : It :=
  ⟨fun i H => ∃ xs x, SqT K H a xs ∧ xs[i]? = some x, fun i H x H' => H' = H ∧ ∀ xs, SqT K H a xs → xs[i]? = some x, fun i H => ∃ xs, SqT K H a xs ∧ xs.length ≤ i⟩
def Itr (lo : Int) (n : Nat) : It := ⟨fun i _ => i < n, fun i H x H' => H' = H ∧ x = .int (lo + i), fun i _ => n ≤ i⟩
theorem turn_list {P : Program} {w : World} {K : PySem.W.Frag} {tg : Expr} (a it : Addr) : Turn P w K tg (Itl K a) [it] it (fun i h => h.IsListIter it a i) where
  mem := by simp
  obj := fun i h st b hb => by
    have e : b = it := by simpa using hb
    subst e
    obtain ⟨o, e, c, d⟩ := st
    exact ⟨o, e, fun v z => by rw [d] at z; cases z⟩
  keep := fun i h h' st k => st.at fun o e => k it (by simp) o e
  item := by
    intro X hP hw hK hc i pins s σ H E I hf st hg
    subst hP hw hK
    obtain ⟨xs, x, hq, hx⟩ := hg
    obtain ⟨its, rv, p, hz⟩ := I.list hq
    obtain ⟨u, hu, ru⟩ := rv.get hx
    obtain ⟨f0, f1, f2, f3, f4, f5⟩ := hf it (by simp)
    refine wpAny_pyNext_list_item st p.isList (x := u) (by simpa using hu) fun h' st' sb => ?_
    have I1 : Inv X pins σ H { s with heap := h' } := I.turned (t' := s.toks) (fun b o hb e => (sb.2 b hb).trans e) f0 f1 f3 f4 f5
    obtain ⟨o, e, c, d⟩ := id st'
    exact ⟨u, rfl, go_of (s := { s with heap := h' }) e c d (by decide) ⟨x, H, I1, ru, ⟨rfl, fun ys hy => by rw [I.list_inj hy hq]; exact hx⟩, st', fun b hb => (hf b hb).1⟩⟩
  done := by
    intro X hP hw hK hc i pins s σ H E I hf st hg
    subst hP hw hK
    obtain ⟨xs, hq, hx⟩ := hg
    obtain ⟨its, rv, p, hz⟩ := I.list hq
    obtain ⟨f0, f1, f2, f3, f4, f5⟩ := hf it (by simp)
    have hl := rv.length
    exact wpAny_pyNext_list_end (I.ok.hd hc) st p.isList (by simp; omega) fun h' eb => ⟨rfl, I.turned (t' := s.toks) (fun b o hb e => eb b o hb e) f0 f1 f3 f4 f5⟩
  self := fun _ _ _ _ _ st h => wpAny_pyIter_listiter st h
theorem turn_tuple {P : Program} {w : World} {K : PySem.W.Frag} {tg : Expr} (a it : Addr) : Turn P w K tg (Itt K a) [it] it (fun i h => h.IsTupleIter it a i) where
  mem := by simp
  obj := fun i h st b hb => by
    have e : b = it := by simpa using hb
    subst e
    obtain ⟨o, e, c, d⟩ := st
    exact ⟨o, e, fun v z => by rw [d] at z; cases z⟩
  keep := fun i h h' st k => st.at fun o e => k it (by simp) o e
  item := by
    intro X hP hw hK hc i pins s σ H E I hf st hg
    subst hP hw hK
    obtain ⟨xs, x, hq, hx⟩ := hg
    obtain ⟨its, rv, p, hz⟩ := I.tuple hq
    obtain ⟨u, hu, ru⟩ := rv.get hx
    obtain ⟨f0, f1, f2, f3, f4, f5⟩ := hf it (by simp)
    refine wpAny_pyNext_tuple_item st (show s.heap.IsTuple a its.toArray from p) (x := u) (by simpa using hu) fun h' st' sb => ?_
    have I1 : Inv X pins σ H { s with heap := h' } := I.turned (t' := s.toks) (fun b o hb e => (sb.2 b hb).trans e) f0 f1 f3 f4 f5
    obtain ⟨o, e, c, d⟩ := id st'
    exact ⟨u, rfl, go_of (s := { s with heap := h' }) e c d (by decide) ⟨x, H, I1, ru, ⟨rfl, fun ys hy => by rw [I.tuple_inj hy hq]; exact hx⟩, st', fun b hb => (hf b hb).1⟩⟩
  done := by
    intro X hP hw hK hc i pins s σ H E I hf st hg
    subst hP hw hK
    obtain ⟨xs, hq, hx⟩ := hg
    obtain ⟨its, rv, p, hz⟩ := I.tuple hq
    obtain ⟨f0, f1, f2, f3, f4, f5⟩ := hf it (by simp)
    have hl := rv.length
    exact wpAny_pyNext_tuple_end (I.ok.hd hc) st (show s.heap.IsTuple a its.toArray from p) (by simp; omega) fun h' eb => ⟨rfl, I.turned (t' := s.toks) (fun b o hb e => eb b o hb e) f0 f1 f3 f4 f5⟩
  self := fun _ _ _ _ _ st h => wpAny_pyIter_tupleiter st h
theorem turn_range {P : Program} {w : World} {K : PySem.W.Frag} {tg : Expr} (it : Addr) (lo : Int) (n : Nat) : Turn P w K tg (Itr lo n) [it] it (fun i h => IsRangeIter h it (lo + (i : Nat) * 1) ((n : Int) - (i : Nat)) 1) where
  mem := by simp
  obj := fun i h st b hb => by
    have e : b = it := by simpa using hb
    subst e
    exact ⟨_, st, fun v z => by
      have z' : Data.fields _ = Data.cell v := z
      cases z'⟩
  keep := fun i h h' st k => k it (by simp) _ st
  item := by
    intro X hP hw hK hc i pins s σ H E I hf st hg
    subst hP hw hK
    obtain ⟨f0, f1, f2, f3, f4, f5⟩ := hf it (by simp)
    have W := Walks.range (prog := X.prog) (w := X.w) (I.ok.hd hc) it lo 1 n
    refine W.item i s _ _ hg st fun v h' tk hv st' kk => ?_
    obtain ⟨t, rfl⟩ := hv
    have I1 : Inv X pins σ H { s with heap := h', toks := tk } := I.turned (fun b o hb e => kk b o (by simpa using hb) e) f0 f1 f3 f4 f5
    refine ⟨_, rfl, go_of (s := { s with heap := h', toks := tk }) (n := "range_iterator") st' rfl rfl (by decide) ⟨.int (lo + i), H, I1, ⟨t, ?_⟩, ⟨rfl, rfl⟩, st', fun b hb => (hf b hb).1⟩⟩
    rw [Int.mul_one]
  done := by
    intro X hP hw hK hc i pins s σ H E I hf st hg
    subst hP hw hK
    obtain ⟨f0, f1, f2, f3, f4, f5⟩ := hf it (by simp)
    exact wpAny_pyNext_range_end (I.ok.hd hc) st (by have : n ≤ i := hg; omega) fun h' eb => ⟨rfl, I.turned (t' := s.toks) (fun b o hb e => eb b o hb e) f0 f1 f3 f4 f5⟩
  self := fun _ _ _ _ _ st h => wpAny_pyIter_rangeiter st h
end L2
namespace L2
open PySem PySem.Spec PyProof.Rows
section
variable {X : Cx} {tg : Expr}
def iList (K : PySem.W.Frag) (tl : TE) : TI := fun σ H R => tl σ H fun x H1 => ∃ a, x = .ref a ∧ (∃ xs, SqL K H1 a xs) ∧ R (Itl K a) H1
def iTup (K : PySem.W.Frag) (tl : TE) : TI := fun σ H R => tl σ H fun x H1 => ∃ a, x = .ref a ∧ (∃ xs, SqT K H1 a xs) ∧ R (Itt K a) H1
theorem pi_list {l : Expr} {tl : TE} (hl : PE X l tl) : PI X tg l (iList X.K tl) := by
  intro pins s σ H R I h
  refine thn (hl pins s σ H _ I h) fun v s1 ⟨x, H1, I1, r1, q1⟩ => ?_
  obtain ⟨a, e, ⟨xs, hq⟩, q⟩ := q1
  subst e
  cases r1
  obtain ⟨its, rv, p, hz⟩ := I1.list hq
  refine wpAny_pyIter_list p.isList ?_
  refine ⟨s1.heap.objs.size, [s1.heap.objs.size], _, _, H1, rfl, I1.kept (t' := s1.toks) fun b o e => Heap.get?_push_of_some _ e, turn_list a _, ⟨_, Heap.get?_push_size _ rfl, rfl, rfl⟩, fun b hb => ?_, q⟩
  have e : b = s1.heap.objs.size := by simpa using hb
  subst e
  exact I1.fpOk (Nat.le_refl _) (I1.hok.fresh (Nat.le_refl _))
theorem pi_tup {l : Expr} {tl : TE} (hl : PE X l tl) : PI X tg l (iTup X.K tl) := by
  intro pins s σ H R I h
  refine thn (hl pins s σ H _ I h) fun v s1 ⟨x, H1, I1, r1, q1⟩ => ?_
  obtain ⟨a, e, ⟨xs, hq⟩, q⟩ := q1
  subst e
  cases r1
  obtain ⟨its, rv, p, hz⟩ := I1.tuple hq
  refine wpAny_pyIter_tuple (show s1.heap.IsTuple a its.toArray from p) ?_
  refine ⟨s1.heap.objs.size, [s1.heap.objs.size], _, _, H1, rfl, I1.kept (t' := s1.toks) fun b o e => Heap.get?_push_of_some _ e, turn_tuple a _, ⟨_, Heap.get?_push_size _ rfl, rfl, rfl⟩, fun b hb => ?_, q⟩
  have e : b = s1.heap.objs.size := by simpa using hb
  subst e
  exact I1.fpOk (Nat.le_refl _) (I1.hok.fresh (Nat.le_refl _))
theorem range_it {pins : List (Addr × Obj)} {σ : St} {H : Hp} {s : Shared} {R : It → Hp → Prop} {E : Value → Shared → Prop} {lo hi : Int} {t u v : Tok} {tk : Nat} (I : Inv X pins σ H s) (h1 : -(2 ^ 62) ≤ lo) (h2 : lo < 2 ^ 62) (h3 : -(2 ^ 62) ≤ hi) (h4 : hi < 2 ^ 62)
    (q : R (Itr lo (hi - lo).toNat) H) : wpAny (model X.prog X.w) X.A (pyIter (.ref s.heap.objs.size)) (PIE X pins σ tg R) E { s with heap := s.heap.push { cls := .type "range", data := .fields #[.int lo t, .int hi u, .int 1 v] }, toks := tk } := by
  refine wpAny_pyIter_range (IsRange.new ..) (small_one h1 h2 h3 h4) ?_
  have I1 : Inv X pins σ H { s with heap := s.heap.push { cls := .type "range", data := .fields #[.int lo t, .int hi u, .int 1 v] }, toks := tk } := I.kept fun b o e => Heap.get?_push_of_some _ e
  refine ⟨(s.heap.push { cls := .type "range", data := .fields #[.int lo t, .int hi u, .int 1 v] }).objs.size, [(s.heap.push { cls := .type "range", data := .fields #[.int lo t, .int hi u, .int 1 v] }).objs.size], _, _, H, rfl,
    I1.kept (t' := tk) fun b o e => Heap.get?_push_of_some _ e, turn_range _ lo (hi - lo).toNat, ?_, fun b hb => ?_, q⟩
  · have e1 : lo + ((0 : Nat) : Int) * 1 = lo := by simp
    have e2 : (((hi - lo).toNat : Nat) : Int) - ((0 : Nat) : Int) = Builtin.Range.rangeSize lo hi 1 := by rw [rangeSize_one]; split <;> omega
    show IsRangeIter _ _ (lo + ((0 : Nat) : Int) * 1) ((((hi - lo).toNat : Nat) : Int) - ((0 : Nat) : Int)) 1
    rw [e1, e2]
    exact Heap.get?_push_size _ rfl
  · have e : b = (s.heap.push { cls := .type "range", data := .fields #[.int lo t, .int hi u, .int 1 v] }).objs.size := by simpa using hb
    subst e
    exact I1.fpOk (Nat.le_refl _) (I1.hok.fresh (Nat.le_refl _))
def iRng1 (ta : TA) : TI := fun σ H R => ta σ H fun vs H1 => ∃ j : Int, vs = [.int j] ∧ -(2 ^ 62) ≤ j ∧ j < 2 ^ 62 ∧ R (Itr 0 j.toNat) H1
def iRng2 (ta : TA) : TI := fun σ H R => ta σ H fun vs H1 => ∃ i j : Int, vs = [.int i, .int j] ∧ (-(2 ^ 62) ≤ i ∧ i < 2 ^ 62 ∧ -(2 ^ 62) ≤ j ∧ j < 2 ^ 62) ∧ R (Itr i (j - i).toNat) H1
theorem pi_range1 {a : Expr} {ta : TA} {p pos : Pos} (hg : Gl X "range") (hm : X.mg "range" = none) (ha : PA X [a] ta) (hs : starEach [a] X.env = [(false, eval a X.env)] := by rfl) : PI X tg (.Call (.Name "range" p) [a] [] pos) (iRng1 ta) := by
  intro pins s σ H R I h
  refine Call_ (ld_blt I hg hm boot_range (PyProof.Rows.callWith_type1 (thn (ha pos pins s σ H _ I h) fun us s1 ⟨vs, H1, I1, r1, q1⟩ => ?_) hs rfl))
  obtain ⟨j, e, q1, q2, q⟩ := q1
  subst e
  cases r1 with
  | cons r rr =>
    cases rr
    obtain ⟨t, rfl⟩ := r
    exact call_range_1 (range_it I1 (by omega) (by omega) q1 q2 (by simpa using q))
theorem pi_range2 {a b : Expr} {ta : TA} {p pos : Pos} (hg : Gl X "range") (hm : X.mg "range" = none) (ha : PA X [a, b] ta) (hs : starEach [a, b] X.env = [(false, eval a X.env), (false, eval b X.env)] := by rfl) (hs2 : starEach [b] X.env = [(false, eval b X.env)] := by rfl) :
    PI X tg (.Call (.Name "range" p) [a, b] [] pos) (iRng2 ta) := by
  intro pins s σ H R I h
  refine Call_ (ld_blt I hg hm boot_range (PyProof.Rows.callWith_type1 (thn (ha pos pins s σ H _ I h) fun us s1 ⟨vs, H1, I1, r1, q1⟩ => ?_) (by rw [hs, hs2]) (by rw [hs2]; rfl)))
  obtain ⟨i, j, e, ⟨q1, q2, q3, q4⟩, q⟩ := q1
  subst e
  cases r1 with
  | cons r rr =>
    cases rr with
    | cons r' rr =>
      cases rr
      obtain ⟨t, rfl⟩ := r
      obtain ⟨t', rfl⟩ := r'
      exact call_range_2 (range_it I1 q1 q2 q3 q4 q)
def tFor (wi : TI) (g : TG) (tb : TS) : TS := fun D σ H => wi σ H fun J H1 => ∃ W : Nat → Nat → St → Hp → Prop, (∃ m, W 0 m σ H1) ∧ ∀ i m σ H, W i m σ H →
  (J.stop i H ∧ D.nx σ H) ∨ (J.go i H ∧ ∃ N : St → Hp → Prop, (∀ σ' H', N σ' H' → ∃ m', m' < m ∧ W (i + 1) m' σ' H') ∧ ∀ x H', J.yld i H x H' → g x σ H' fun σ2 H2 => tb { D with nx := N, ct := N, bk := D.nx } σ2 H2)
def pinsAt (fp : List Addr) (h : Heap) : List (Addr × Obj) := fp.filterMap fun b => (h.get? b).map fun o => (b, o)
theorem mem_pinsAt {fp : List Addr} {h : Heap} {b : Addr} {o : Obj} (hb : b ∈ fp) (e : h.get? b = some o) : (b, o) ∈ pinsAt fp h := List.mem_filterMap.mpr ⟨b, hb, by rw [e]; rfl⟩
theorem of_pinsAt {fp : List Addr} {h : Heap} {p : Addr × Obj} (hp : p ∈ pinsAt fp h) : p.1 ∈ fp ∧ h.get? p.1 = some p.2 := by
  obtain ⟨b, hb, e⟩ := List.mem_filterMap.mp hp
  cases q : h.get? b with
  | none => rw [q] at e; cases e
  | some o =>
    rw [q] at e
    have e' : (b, o) = p := Option.some.inj e
    subst e'
    exact ⟨hb, q⟩
theorem Inv.pinned {pins : List (Addr × Obj)} {σ : St} {H : Hp} {s : Shared} {fp : List Addr} (I : Inv X pins σ H s) (hf : ∀ b ∈ fp, FpOk X pins H b) (ho : ∀ b ∈ fp, ∃ o, s.heap.get? b = some o ∧ ∀ v, o.data ≠ .cell v) : Inv X (pins ++ pinsAt fp s.heap) σ H s :=
  I.pins_of fun p hp => (List.mem_append.mp hp).elim (fun z => I.pin p (List.mem_append_right _ z)) fun z => by
    obtain ⟨hb, e⟩ := of_pinsAt z
    obtain ⟨f0, f1, f2, _⟩ := hf p.1 hb
    obtain ⟨o, e', d⟩ := ho p.1 hb
    rw [e] at e'; cases e'
    exact ⟨e, f0, f1, f2, d⟩
theorem Inv.unpinned {pins pl : List (Addr × Obj)} {σ : St} {H : Hp} {s : Shared} (I : Inv X (pins ++ pl) σ H s) : Inv X pins σ H s := I.pins_of fun p hp => I.pin p (List.mem_append_right _ (List.mem_append_left _ hp))
theorem ps_for {iter : Expr} {body : List Stmt} {wi : TI} {g : TG} {tb : TS} {pos : Pos} (hp : PassesOwn (model X.prog X.w) X.A X.env X.xe) (hc : X.calm = true) (hi : PI X tg iter wi) (hg : PG X tg g) (hb : PSs X body tb)
    (hs : ∀ x, foldedSetIterable iter X.env x = pure x := by intro _; rfl) : PS X (.For tg iter body [] pos) (tFor wi g tb) := by
  intro pins s σ H D I h
  refine wpAny_For (thn (hi pins s σ H _ I h) fun v s1 h1 => thn h1 fun itv s2 h2 => ?_) hs
  obtain ⟨it, fp, tn, J, H2, e, I2, T, st2, f2, W, ⟨m0, w0⟩, turn⟩ := h2
  subst e
  have stat : ∀ {H' : Hp}, (∀ b ∈ fp, H' b = none) → ∀ b ∈ fp, FpOk X pins H' b := fun hn b hb => ⟨hn b hb, (f2 b hb).2⟩
  refine codeAny_forLoop_any (fun n s' => ∃ i σ' H', Inv X pins σ' H' s' ∧ tn i s'.heap ∧ (∀ b ∈ fp, H' b = none) ∧ W i n σ' H') ?_ m0 ⟨0, σ, H2, I2, st2, fun b hb => (f2 b hb).1, w0⟩
  rintro n s3 ⟨i, σ3, H3, I3, st3, fr3, w3⟩
  rcases turn i n σ3 H3 w3 with ⟨stop, qn⟩ | ⟨go, N, hN, step⟩
  · refine wpAny_passesOwn hp (thn (T.done X rfl rfl rfl hc i pins s3 σ3 H3 X.xe I3 (stat fr3) st3 stop) fun r s4 ⟨hr, I4⟩ => ?_)
    subst hr
    exact wpAny_execs_nil ⟨σ3, H3, I4, qn⟩
  · refine wpAny_passesOwn hp (thn (T.item X rfl rfl rfl hc i pins s3 σ3 H3 X.xe I3 (stat fr3) st3 go) fun r s4 ⟨u, hr, h4⟩ => ?_)
    subst hr
    refine wpAny_passesOwn hp (thn h4 fun _ s5 ⟨x, H5, I5, r5, y5, st5, fr5⟩ => ?_)
    have I5' := I5.pinned (stat fr5) (T.obj _ _ st5)
    refine wpAny_passesOwn hp (thn (hg _ s5 σ3 H5 x u _ I5' r5 (step x H5 y5)) fun _ s6 ⟨σ6, H6, I6, q6⟩ => ?_)
    refine wpAny_passesOwn hp (thn (hb _ s6 σ6 H6 _ I6 q6) fun f s7 q7 => ?_)
    have again : ∀ {σ7 : St} {H7 : Hp}, Inv X (pins ++ pinsAt fp s5.heap) σ7 H7 s7 → N σ7 H7 → ∃ m, m < n ∧ ∃ i σ' H', Inv X pins σ' H' s7 ∧ tn i s7.heap ∧ (∀ b ∈ fp, H' b = none) ∧ W i m σ' H' := fun {σ7 H7} I7 n7 => by
      obtain ⟨m', hm, w7⟩ := hN σ7 H7 n7
      refine ⟨m', hm, i + 1, σ7, H7, I7.unpinned, T.keep _ _ _ st5 fun b hb o e => (I7.pin (b, o) (List.mem_append_right _ (List.mem_append_right _ (mem_pinsAt hb e)))).1, fun b hb => ?_, w7⟩
      obtain ⟨o, e, d⟩ := T.obj _ _ st5 b hb
      exact (I7.pin (b, o) (List.mem_append_right _ (List.mem_append_right _ (mem_pinsAt hb e)))).2.1
    cases f with
    | next => obtain ⟨σ7, H7, I7, n7⟩ := q7; exact again I7 n7
    | cont => obtain ⟨σ7, H7, I7, n7⟩ := q7; exact again I7 n7
    | brk => obtain ⟨σ7, H7, I7, q7⟩ := q7; exact ⟨σ7, H7, I7.unpinned, q7⟩
    | ret v => obtain ⟨x7, σ7, H7, I7, r7, q7⟩ := q7; exact ⟨x7, σ7, H7, I7.unpinned, r7, q7⟩
end
theorem for_list {K : PySem.W.Frag} {a : Addr} {xs : List V} {g : TG} {tb : TS} {D : Ends} {σ : St} {H : Hp} (Pv : Nat → St → Hp → Prop) (h0 : Pv 0 σ H) (hl : ∀ i σ H, i ≤ xs.length → Pv i σ H → SqL K H a xs)
    (hs : ∀ i x σ H, xs[i]? = some x → Pv i σ H → g x σ H fun σ2 H2 => tb { D with nx := Pv (i + 1), ct := Pv (i + 1), bk := D.nx } σ2 H2) (hd : ∀ σ H, Pv xs.length σ H → D.nx σ H) :
    ∃ W : Nat → Nat → St → Hp → Prop, (∃ m, W 0 m σ H) ∧ ∀ i m σ H, W i m σ H →
      ((Itl K a).stop i H ∧ D.nx σ H) ∨ ((Itl K a).go i H ∧ ∃ N : St → Hp → Prop, (∀ σ' H', N σ' H' → ∃ m', m' < m ∧ W (i + 1) m' σ' H') ∧ ∀ x H', (Itl K a).yld i H x H' → g x σ H' fun σ2 H2 => tb { D with nx := N, ct := N, bk := D.nx } σ2 H2) := by
  refine ⟨fun i m σ H => m = xs.length - i ∧ i ≤ xs.length ∧ Pv i σ H, ⟨xs.length, by simp, Nat.zero_le _, h0⟩, ?_⟩
  rintro i m σ H ⟨rfl, hi, p⟩
  have q := hl i σ H hi p
  by_cases hlt : i < xs.length
  · refine .inr ⟨⟨xs, xs[i], q, by simp [hlt]⟩, Pv (i + 1), fun σ' H' p' => ⟨xs.length - (i + 1), by omega, rfl, hlt, p'⟩, fun x H' y => ?_⟩
    obtain ⟨e, y⟩ := y
    subst e
    exact hs i x σ _ (y xs q) p
  · have e : i = xs.length := by omega
    subst e
    exact .inl ⟨⟨xs, q, Nat.le_refl _⟩, hd σ H p⟩
theorem for_tup {K : PySem.W.Frag} {a : Addr} {xs : List V} {g : TG} {tb : TS} {D : Ends} {σ : St} {H : Hp} (Pv : Nat → St → Hp → Prop) (h0 : Pv 0 σ H) (hl : ∀ i σ H, i ≤ xs.length → Pv i σ H → SqT K H a xs)
    (hs : ∀ i x σ H, xs[i]? = some x → Pv i σ H → g x σ H fun σ2 H2 => tb { D with nx := Pv (i + 1), ct := Pv (i + 1), bk := D.nx } σ2 H2) (hd : ∀ σ H, Pv xs.length σ H → D.nx σ H) :
    ∃ W : Nat → Nat → St → Hp → Prop, (∃ m, W 0 m σ H) ∧ ∀ i m σ H, W i m σ H →
      ((Itt K a).stop i H ∧ D.nx σ H) ∨ ((Itt K a).go i H ∧ ∃ N : St → Hp → Prop, (∀ σ' H', N σ' H' → ∃ m', m' < m ∧ W (i + 1) m' σ' H') ∧ ∀ x H', (Itt K a).yld i H x H' → g x σ H' fun σ2 H2 => tb { D with nx := N, ct := N, bk := D.nx } σ2 H2) := by
  refine ⟨fun i m σ H => m = xs.length - i ∧ i ≤ xs.length ∧ Pv i σ H, ⟨xs.length, by simp, Nat.zero_le _, h0⟩, ?_⟩
  rintro i m σ H ⟨rfl, hi, p⟩
  have q := hl i σ H hi p
  by_cases hlt : i < xs.length
  · refine .inr ⟨⟨xs, xs[i], q, by simp [hlt]⟩, Pv (i + 1), fun σ' H' p' => ⟨xs.length - (i + 1), by omega, rfl, hlt, p'⟩, fun x H' y => ?_⟩
    obtain ⟨e, y⟩ := y
    subst e
    exact hs i x σ _ (y xs q) p
  · have e : i = xs.length := by omega
    subst e
    exact .inl ⟨⟨xs, q, Nat.le_refl _⟩, hd σ H p⟩
theorem for_range {lo : Int} {n : Nat} {g : TG} {tb : TS} {D : Ends} {σ : St} {H : Hp} (Pv : Nat → St → Hp → Prop) (h0 : Pv 0 σ H)
    (hs : ∀ i σ H, i < n → Pv i σ H → g (.int (lo + i)) σ H fun σ2 H2 => tb { D with nx := Pv (i + 1), ct := Pv (i + 1), bk := D.nx } σ2 H2) (hd : ∀ σ H, Pv n σ H → D.nx σ H) :
    ∃ W : Nat → Nat → St → Hp → Prop, (∃ m, W 0 m σ H) ∧ ∀ i m σ H, W i m σ H →
      ((Itr lo n).stop i H ∧ D.nx σ H) ∨ ((Itr lo n).go i H ∧ ∃ N : St → Hp → Prop, (∀ σ' H', N σ' H' → ∃ m', m' < m ∧ W (i + 1) m' σ' H') ∧ ∀ x H', (Itr lo n).yld i H x H' → g x σ H' fun σ2 H2 => tb { D with nx := N, ct := N, bk := D.nx } σ2 H2) := by
  refine ⟨fun i m σ H => m = n - i ∧ i ≤ n ∧ Pv i σ H, ⟨n, by simp, Nat.zero_le _, h0⟩, ?_⟩
  rintro i m σ H ⟨rfl, hi, p⟩
  by_cases hlt : i < n
  · refine .inr ⟨hlt, Pv (i + 1), fun σ' H' p' => ⟨n - (i + 1), by omega, rfl, hlt, p'⟩, fun x H' y => ?_⟩
    obtain ⟨e, y⟩ := y
    subst e y
    exact hs i σ _ hlt p
  · have e : i = n := by omega
    subst e
    exact .inl ⟨Nat.le_refl _, hd σ H p⟩
end L2
namespace L2
open PySem PySem.Spec PyProof.Rows
abbrev R2 := V → V → Hp → VK → Prop
def OpR (X : Cx) (f : Value → Value → Sem Value) (r : R2) : Prop :=
  ∀ (pins : List (Addr × Obj)) (s : Shared) (σ : St) (H : Hp) (x y : V) (v u : Value) (Q : VK), Inv X pins σ H s → RelV x v → RelV y u → r x y H Q →
    wpAny (model X.prog X.w) X.A (f v u) (EP X pins σ Q) X.xe s
def CallR (X : Cx) (f : Value) (r : List V → Hp → VK → Prop) : Prop :=
  ∀ (pins : List (Addr × Obj)) (s : Shared) (σ : St) (H : Hp) (xs : List V) (us : List Value) (Q : VK), Inv X pins σ H s → Vals xs us → r xs H Q →
    wpAny (model X.prog X.w) X.A (call f us) (EP X pins σ Q) X.xe s
def tOp (r : R2) (ta tb : TE) : TE := fun σ H Q => ta σ H fun x H1 => tb σ H1 fun y H2 => r x y H2 Q
def rI (C : Int → Int → Prop) (g : Int → Int → V) : R2 := fun x y H Q => ∃ i j, x = .int i ∧ y = .int j ∧ C i j ∧ Q (g i j) H
def rI0 (g : Int → Int → V) : R2 := fun x y H Q => ∃ i j, x = .int i ∧ y = .int j ∧ Q (g i j) H
section
variable {X : Cx} {a b c : Expr} {ta tb tc : TE} {pos : Pos}
theorem binT (ha : PE X a ta) (hb : PE X b tb) {pins : List (Addr × Obj)} {s : Shared} {σ : St} {H : Hp} {R : V → V → Hp → Prop} (I : Inv X pins σ H s)
    (h : ta σ H fun x H1 => tb σ H1 fun y H2 => R x y H2) {Q : Value → Shared → Prop} {f : Value → Value → Sem Value}
    (hf : ∀ v u s2 x y H2, Inv X pins σ H2 s2 → RelV x v → RelV y u → R x y H2 → wpAny (model X.prog X.w) X.A (f v u) Q X.xe s2) :
    wpAny (model X.prog X.w) X.A (eval a X.env) (fun v s₁ => wpAny (model X.prog X.w) X.A (eval b X.env) (fun u s₂ => wpAny (model X.prog X.w) X.A (f v u) Q X.xe s₂) X.xe s₁) X.xe s := by
  refine thn (ha pins s σ H _ I h) fun v s1 ⟨x, H1, I1, r1, q1⟩ => ?_
  refine thn (hb pins s1 σ H1 _ I1 q1) fun u s2 ⟨y, H2, I2, r2, q2⟩ => ?_
  exact hf v u s2 x y H2 I2 r1 r2 q2
theorem pe_op {op : Operator} {r : R2} (ho : OpR X (binaryOp op) r) (ha : PE X a ta) (hb : PE X b tb) : PE X (.BinOp a op b pos) (tOp r ta tb) := by
  intro pins s σ H Q I h
  exact wpAny_BinOp (binT ha hb I h fun v u s2 x y H2 I2 rx ry q => ho pins s2 σ H2 x y v u Q I2 rx ry q)
theorem opI {f : Value → Value → Sem Value} {C : Int → Int → Prop} {g : Int → Int → Int}
    (rule : ∀ (i j : Int) (t u : Tok) (s : Shared) (Q : Value → Shared → Prop) (E : Value → Shared → Prop), C i j → Q (.int (g i j) s.toks) { s with toks := s.toks + 1 } → wpAny (model X.prog X.w) X.A (f (.int i t) (.int j u)) Q E s) :
    OpR X f (rI C fun i j => .int (g i j)) := by
  intro pins s σ H x y v u Q I rx ry h
  obtain ⟨i, j, rfl, rfl, hc, q⟩ := h
  obtain ⟨t, rfl⟩ := rx
  obtain ⟨t', rfl⟩ := ry
  exact rule i j t t' s _ _ hc ⟨.int (g i j), H, I.tok _, ⟨_, rfl⟩, q⟩
theorem opI0 {f : Value → Value → Sem Value} {g : Int → Int → Int}
    (rule : ∀ (i j : Int) (t u : Tok) (s : Shared) (Q : Value → Shared → Prop) (E : Value → Shared → Prop), Q (.int (g i j) s.toks) { s with toks := s.toks + 1 } → wpAny (model X.prog X.w) X.A (f (.int i t) (.int j u)) Q E s) :
    OpR X f (rI0 fun i j => .int (g i j)) := by
  intro pins s σ H x y v u Q I rx ry h
  obtain ⟨i, j, rfl, rfl, q⟩ := h
  obtain ⟨t, rfl⟩ := rx
  obtain ⟨t', rfl⟩ := ry
  exact rule i j t t' s _ _ ⟨.int (g i j), H, I.tok _, ⟨_, rfl⟩, q⟩
theorem opB0 {f : Value → Value → Sem Value} {g : Int → Int → Bool}
    (rule : ∀ (i j : Int) (t u : Tok) (s : Shared) (Q : Value → Shared → Prop) (E : Value → Shared → Prop), Q (.bool (g i j)) s → wpAny (model X.prog X.w) X.A (f (.int i t) (.int j u)) Q E s) :
    OpR X f (rI0 fun i j => .bl (g i j)) := by
  intro pins s σ H x y v u Q I rx ry h
  obtain ⟨i, j, rfl, rfl, q⟩ := h
  obtain ⟨t, rfl⟩ := rx
  obtain ⟨t', rfl⟩ := ry
  exact rule i j t t' s _ _ ⟨.bl (g i j), H, I, rfl, q⟩
def CDiv (i j : Int) : Prop := 0 < j ∧ j < 1073741824
def CMul (i j : Int) : Prop := (-(2 ^ 64) < i ∧ i < 2 ^ 64) ∨ (-(2 ^ 64) < j ∧ j < 2 ^ 64)
theorem CMul.ok {i j : Int} (h : CMul i j) : IntMulOk i j := by
  rcases h with ⟨h1, h2⟩ | ⟨h1, h2⟩
  · exact .of_left (intBits_le_64 h1 h2)
  · exact .of_right (intBits_le_64 h1 h2)
theorem op_add : OpR X (binaryOp .Add) (rI0 fun i j => .int (i + j)) := opI0 fun _ _ _ _ _ _ _ q => add_int q
theorem op_mul : OpR X (binaryOp .Mult) (rI CMul fun i j => .int (i * j)) := opI fun _ _ _ _ _ _ _ hc q => mul_int q hc.ok
theorem op_fdiv : OpR X (binaryOp .FloorDiv) (rI CDiv fun i j => .int (i / j)) := opI fun i j _ _ _ _ _ hc q => by
  have h1 : (0 : Int) < j := hc.1
  have h2 : j < 1073741824 := hc.2
  exact floordiv_int (by omega) (by rw [Int.fdiv_eq_ediv_of_nonneg i (by omega)]; exact q) (.inl (PyProof.noPylong_small (by omega)))
theorem op_mod : OpR X (binaryOp .Mod) (rI (fun _ j => 0 < j) fun i j => .int (i % j)) := opI fun i j _ _ _ _ _ hc q => by
  have h1 : (0 : Int) < j := hc
  exact mod_int' (by omega) (by rw [Int.fmod_eq_emod_of_nonneg i (by omega)]; exact q)
end
def scal : V → V → Bool
  | .non, .non => true | .non, .int _ => true | .int _, .non => true | .non, .bl _ => true | .bl _, .non => true | .non, .str _ => true | .str _, .non => true
  | .int _, .int _ => true | .bl _, .bl _ => true | .str _, .str _ => true | .byt _, .byt _ => true
  | .int _, .str _ => true | .str _, .int _ => true | .bl _, .str _ => true | .str _, .bl _ => true
  | _, _ => false
def rEq : R2 := fun x y H Q => scal x y = true ∧ Q (.bl (decide (x = y))) H
def rNe : R2 := fun x y H Q => scal x y = true ∧ Q (.bl (!decide (x = y))) H
theorem dec_int {i j : Int} : decide (V.int i = V.int j) = (i == j) := by
  rw [Bool.eq_iff_iff]
  simp
theorem dec_bl {i j : Bool} : decide (V.bl i = V.bl j) = (i == j) := by
  rw [Bool.eq_iff_iff]
  simp
theorem dec_str {i j : Str} : decide (V.str i = V.str j) = (i == j) := by
  rw [Bool.eq_iff_iff]
  simp
theorem dec_byt {i j : Array UInt8} : decide (V.byt i = V.byt j) = (i.toList == j.toList) := by
  rw [Bool.eq_iff_iff]
  cases i
  cases j
  simp
section
variable {X : Cx} {a b c : Expr} {ta tb tc : TE} {pos : Pos}
theorem fin_bl {pins : List (Addr × Obj)} {σ : St} {H : Hp} {s : Shared} {Q : VK} {k k' : Bool} (I : Inv X pins σ H s) (q : Q (.bl k) H) (e : k = k') : EP X pins σ Q (.bool k') s := by
  subst e
  exact ⟨.bl k, H, I, rfl, q⟩
theorem op_eq : OpR X (compareOp .Eq) rEq := by
  intro pins s σ H x y v u Q I rx ry h
  obtain ⟨hs, q⟩ := h
  cases x with
  | non =>
    cases rx
    cases y with
    | non => cases ry; exact PySem.EqNone.eq_none_none (fin_bl I q (by simp))
    | bl j => cases ry; exact PySem.EqNone.eq_none_bool (fin_bl I q (by simp))
    | int j => obtain ⟨t', rfl⟩ := ry; exact PySem.EqNone.eq_none_int (fin_bl I q (by simp))
    | str j => obtain ⟨t', rfl⟩ := ry; exact PySem.EqNone.eq_none_str (fin_bl I q (by simp))
    | _ => exact absurd (show false = true from hs) Bool.false_ne_true
  | bl i =>
    cases rx
    cases y with
    | non => cases ry; exact PySem.EqNone.eq_bool_none (fin_bl I q (by simp))
    | bl j => cases ry; exact eq_bool (fin_bl I q dec_bl)
    | str j => obtain ⟨t', rfl⟩ := ry; exact PySem.EqMixed.eq_bool_str (fin_bl I q (by simp))
    | _ => exact absurd (show false = true from hs) Bool.false_ne_true
  | int i =>
    obtain ⟨t, rfl⟩ := rx
    cases y with
    | non => cases ry; exact PySem.EqNone.eq_int_none (fin_bl I q (by simp))
    | int j => obtain ⟨t', rfl⟩ := ry; exact eq_int (fin_bl I q dec_int)
    | str j => obtain ⟨t', rfl⟩ := ry; exact PySem.EqMixed.eq_int_str (fin_bl I q (by simp))
    | _ => exact absurd (show false = true from hs) Bool.false_ne_true
  | str i =>
    obtain ⟨t, rfl⟩ := rx
    cases y with
    | non => cases ry; exact PySem.EqNone.eq_str_none (fin_bl I q (by simp))
    | bl j => cases ry; exact PySem.EqMixed.eq_str_bool (fin_bl I q (by simp))
    | int j => obtain ⟨t', rfl⟩ := ry; exact PySem.EqMixed.eq_str_int (fin_bl I q (by simp))
    | str j => obtain ⟨t', rfl⟩ := ry; exact eq_str (fin_bl I q dec_str)
    | _ => exact absurd (show false = true from hs) Bool.false_ne_true
  | byt i =>
    obtain ⟨t, rfl⟩ := rx
    cases y with
    | byt j => obtain ⟨t', rfl⟩ := ry; exact PySem.W.eq_bytes (fin_bl I q dec_byt)
    | _ => exact absurd (show false = true from hs) Bool.false_ne_true
  | _ => cases y <;> exact absurd (show false = true from hs) Bool.false_ne_true
theorem op_ne : OpR X (compareOp .NotEq) rNe := by
  intro pins s σ H x y v u Q I rx ry h
  obtain ⟨hs, q⟩ := h
  cases x with
  | non =>
    cases rx
    cases y with
    | non => cases ry; exact PySem.EqNone.ne_none_none (fin_bl I q (by simp))
    | bl j => cases ry; exact PySem.EqNone.ne_none_bool (fin_bl I q (by simp))
    | int j => obtain ⟨t', rfl⟩ := ry; exact PySem.EqNone.ne_none_int (fin_bl I q (by simp))
    | str j => obtain ⟨t', rfl⟩ := ry; exact PySem.EqNone.ne_none_str (fin_bl I q (by simp))
    | _ => exact absurd (show false = true from hs) Bool.false_ne_true
  | bl i =>
    cases rx
    cases y with
    | non => cases ry; exact PySem.EqNone.ne_bool_none (fin_bl I q (by simp))
    | bl j => cases ry; exact ne_bool (fin_bl I q (congrArg not dec_bl))
    | str j => obtain ⟨t', rfl⟩ := ry; exact PySem.EqMixed.ne_bool_str (fin_bl I q (by simp))
    | _ => exact absurd (show false = true from hs) Bool.false_ne_true
  | int i =>
    obtain ⟨t, rfl⟩ := rx
    cases y with
    | non => cases ry; exact PySem.EqNone.ne_int_none (fin_bl I q (by simp))
    | int j => obtain ⟨t', rfl⟩ := ry; exact ne_int (fin_bl I q (congrArg not dec_int))
    | str j => obtain ⟨t', rfl⟩ := ry; exact PySem.EqMixed.ne_int_str (fin_bl I q (by simp))
    | _ => exact absurd (show false = true from hs) Bool.false_ne_true
  | str i =>
    obtain ⟨t, rfl⟩ := rx
    cases y with
    | non => cases ry; exact PySem.EqNone.ne_str_none (fin_bl I q (by simp))
    | bl j => cases ry; exact PySem.EqMixed.ne_str_bool (fin_bl I q (by simp))
    | int j => obtain ⟨t', rfl⟩ := ry; exact PySem.EqMixed.ne_str_int (fin_bl I q (by simp))
    | str j => obtain ⟨t', rfl⟩ := ry; exact ne_str (fin_bl I q (congrArg not dec_str))
    | _ => exact absurd (show false = true from hs) Bool.false_ne_true
  | byt i =>
    obtain ⟨t, rfl⟩ := rx
    cases y with
    | byt j => obtain ⟨t', rfl⟩ := ry; exact PySem.W.ne_bytes (fin_bl I q (congrArg not dec_byt))
    | _ => exact absurd (show false = true from hs) Bool.false_ne_true
  | _ => cases y <;> exact absurd (show false = true from hs) Bool.false_ne_true
theorem op_lt : OpR X (compareOp .Lt) (rI0 fun i j => .bl (decide (i < j))) := opB0 fun _ _ _ _ _ _ _ q => lt_int q
theorem op_lt_str : OpR X (compareOp .Lt) (fun x y H Q => ∃ i j, x = .str i ∧ y = .str j ∧ Q (.bl (decide (i.cps.toList < j.cps.toList))) H) := by
  intro pins s σ H x y v u Q I rx ry h
  obtain ⟨i, j, rfl, rfl, q⟩ := h
  obtain ⟨t, rfl⟩ := rx
  obtain ⟨t', rfl⟩ := ry
  exact lt_str (fin_bl I q rfl)
theorem op_in_str : OpR X (compareOp .In) (fun x y H Q => ∃ i j, x = .str i ∧ y = .str j ∧ Q (.bl (!(Builtin.Str.occurrences j i 0 j.length 1).isEmpty)) H) := by
  intro pins s σ H x y v u Q I rx ry h
  obtain ⟨i, j, rfl, rfl, q⟩ := h
  obtain ⟨t, rfl⟩ := rx
  obtain ⟨t', rfl⟩ := ry
  exact in_str (fin_bl I q rfl)
theorem op_notin_str : OpR X (compareOp .NotIn) (fun x y H Q => ∃ i j, x = .str i ∧ y = .str j ∧ Q (.bl (!(!(Builtin.Str.occurrences j i 0 j.length 1).isEmpty))) H) := by
  intro pins s σ H x y v u Q I rx ry h
  obtain ⟨i, j, rfl, rfl, q⟩ := h
  obtain ⟨t, rfl⟩ := rx
  obtain ⟨t', rfl⟩ := ry
  exact notIn_str (fin_bl I q rfl)
theorem OpR.or {f : Value → Value → Sem Value} {r r' : R2} (h : OpR X f r) (h' : OpR X f r') : OpR X f (fun x y H Q => r x y H Q ∨ r' x y H Q) := by
  intro pins s σ H x y v u Q I rx ry q
  rcases q with q | q
  · exact h pins s σ H x y v u Q I rx ry q
  · exact h' pins s σ H x y v u Q I rx ry q
theorem nomark (b : Expr) {op : CmpOp} (h : op ≠ .In := by decide) (h2 : op ≠ .NotIn := by decide) : behindInMarks op b = false := by
  have e1 : (op == CmpOp.In) = false := by cases op <;> first | rfl | exact absurd rfl h
  have e2 : (op == CmpOp.NotIn) = false := by cases op <;> first | rfl | exact absurd rfl h2
  cases b <;> simp [behindInMarks, e1, e2]
theorem pe_cmpR {op : CmpOp} {r : R2} (ho : OpR X (compareOp op) r) (ha : PE X a ta) (hb : PE X b tb) (hm : behindInMarks op b = false) : PE X (.Compare a [op] [b] pos) (tOp r ta tb) := by
  intro pins s σ H Q I h
  exact wpAny_Compare1 (binT ha hb I h fun v u s2 x y H2 I2 rx ry q => ho pins s2 σ H2 x y v u Q I2 rx ry q) hm
def tTest (t : TE) : TT := fun σ H Q => t σ H fun x H' => ∃ k, x = .bl k ∧ Q k H'
theorem pt_cmpR {op : CmpOp} {r : R2} (ho : OpR X (compareOp op) r) (ha : PE X a ta) (hb : PE X b tb) (hm : behindInMarks op b = false) : PT X (.Compare a [op] [b] pos) (tTest (tOp r ta tb)) := by
  intro pins s σ H Q I h
  refine wpAny_isTrue_Compare1 (thn (ha pins s σ H _ I h) fun v s1 ⟨x, H1, I1, r1, q1⟩ => thn (hb pins s1 σ H1 _ I1 q1) fun u s2 ⟨y, H2, I2, r2, q2⟩ =>
    thn (ho pins s2 σ H2 x y v u _ I2 r1 r2 q2) fun c s3 ⟨z, H3, I3, r3, k, e, q3⟩ => ?_) hm
  subst e
  cases r3
  exact wpAny_truthy_bool ⟨H3, I3, q3⟩
theorem line63 : (sizeLine : Nat) < 2 ^ 63 := by rw [sizeLine_eq]; decide
theorem op_add_str : OpR X (binaryOp .Add) (fun x y H Q => ∃ i j, x = .str i ∧ y = .str j ∧ i.length + j.length ≤ sizeLine ∧ Q (.str (i ++ j)) H) := by
  intro pins s σ H x y v u Q I rx ry h
  obtain ⟨i, j, rfl, rfl, hz, q⟩ := h
  obtain ⟨t, rfl⟩ := rx
  obtain ⟨t', rfl⟩ := ry
  exact add_str (fun t' tk => ⟨.str (i ++ j), H, I.tok _, ⟨_, rfl⟩, q⟩) hz
theorem vals1 {x : V} {us : List Value} (r : Vals [x] us) : ∃ u, us = [u] ∧ RelV x u := by
  cases r with
  | cons r1 r2 => cases r2; exact ⟨_, rfl, r1⟩
theorem vals2 {x y : V} {us : List Value} (r : Vals [x, y] us) : ∃ u w', us = [u, w'] ∧ RelV x u ∧ RelV y w' := by
  cases r with
  | cons r1 r2 =>
    cases r2 with
    | cons r3 r4 => cases r4; exact ⟨_, _, rfl, r1, r3⟩
theorem call_str_int : CallR X (.type "str") (fun xs H Q => ∃ i, xs = [.int i] ∧ i.natAbs.log2 < 1920 ∧ Q (.str (toString i)) H) := by
  intro pins s σ H xs us Q I r h
  obtain ⟨i, rfl, hz, q⟩ := h
  obtain ⟨u, rfl, t, rfl⟩ := vals1 r
  exact PySem.P.str_of_int hz ⟨.str _, H, I.tok _, ⟨_, rfl⟩, q⟩
def LenV (K : PySem.W.Frag) (x : V) (H : Hp) (n : Nat) : Prop :=
  match x with
  | .str y => y.length ≤ sizeLine ∧ n = y.length
  | .byt y => y.size ≤ sizeLine ∧ n = y.size
  | .ref p => (∃ xs, SqL K H p xs ∧ n = xs.length) ∨ ∃ xs, SqT K H p xs ∧ n = xs.length
  | _ => False
theorem call_len : CallR X (.builtin "len") (fun xs H Q => ∃ x n, xs = [x] ∧ LenV X.K x H n ∧ Q (.int n) H) := by
  intro pins s σ H xs us Q I r h
  obtain ⟨x, n, rfl, e, q⟩ := h
  obtain ⟨u, rfl, rx⟩ := vals1 r
  have hl := line63
  have hs : sizeLine = 16777216 := sizeLine_eq
  cases x with
  | str y =>
    obtain ⟨t, rfl⟩ := rx
    obtain ⟨hy, e'⟩ : y.length ≤ sizeLine ∧ n = y.length := e
    subst e'
    exact len_str (by omega) ⟨.int _, H, I.tok _, ⟨_, rfl⟩, q⟩
  | byt y =>
    obtain ⟨t, rfl⟩ := rx
    obtain ⟨hy, e'⟩ : y.size ≤ sizeLine ∧ n = y.size := e
    subst e'
    exact PySem.W.len_bytes (by omega) ⟨.int _, H, I.tok _, ⟨_, rfl⟩, q⟩
  | ref p =>
    cases rx
    have e' : (∃ xs, SqL X.K H p xs ∧ n = xs.length) ∨ ∃ xs, SqT X.K H p xs ∧ n = xs.length := e
    rcases e' with ⟨xs, hx, e'⟩ | ⟨xs, hx, e'⟩
    · subst e'
      obtain ⟨its, r', pl, hz⟩ := I.list hx
      have hlen := r'.length
      exact Calls.call_len_list pl.isList (by simp only [List.size_toArray]; omega) ⟨.int xs.length, H, I.tok _, ⟨_, by simp only [List.size_toArray]; rw [hlen]⟩, q⟩
    · subst e'
      obtain ⟨its, r', pl, hz⟩ := I.tuple hx
      have hlen := r'.length
      exact len_tuple pl (by simp only [List.size_toArray]; omega) ⟨.int xs.length, H, I.tok _, ⟨_, by simp only [List.size_toArray]; rw [hlen]⟩, q⟩
  | _ => exact (show False from e).elim
end
end L2
namespace L2
open PySem PySem.Spec PyProof.Rows
structure ObjM (h : Heap) (x dx C : Addr) (mA : Str → Option Value) : Prop where
  obj : h.get? x = some (PySem.W.instObj C dx)
  ns : h.Ns1 dx mA
  ne : dx ≠ x
theorem lookIn_ns {h : Heap} {dx : Addr} {mA : Str → Option Value} (n : h.Ns1 dx mA) : ∃ od, h.get? dx = some od ∧ ∀ name, PySem.W.lookIn name od = some (mA name) := by
  obtain ⟨o, es, ep, ho, hd, hk, _, hm⟩ := n
  refine ⟨o, ho, fun name => ?_⟩
  have e := hm name
  unfold nsFind findBy at e
  rw [← Array.find?_toList] at e
  unfold PySem.W.lookIn
  rw [hd]
  dsimp only
  split
  · rename_i y q
    rw [q] at e
    exact congrArg some e
  · rename_i q
    rw [q] at e
    have a : es.toList.any (·.refKey) = false := by
      rw [List.any_eq_false]
      intro y hy
      obtain ⟨z, t, hkey⟩ := hk y (Array.mem_toList_iff.mp hy)
      simp [DictEntry.refKey, hkey]
    have a' : ¬ es.toList.any (·.refKey) = true := by rw [a]; exact Bool.false_ne_true
    rw [if_neg a']
    exact congrArg some e
theorem ObjM.look {h : Heap} {x dx C : Addr} {mA : Str → Option Value} (I : ObjM h x dx C mA) : ∃ od, PySem.W.InstAt h x (PySem.W.instObj C dx) C (some od) ∧ ∀ name, PySem.W.lookIn name od = some (mA name) :=
  let ⟨od, ho, hl⟩ := lookIn_ns I.ns
  ⟨od, ⟨I.obj, rfl, rfl, ho⟩, hl⟩
section
variable {prog : Program} {w : World} {A : Around} {E : Value → Shared → Prop} {s : Shared} {K : PySem.W.Frag} {x dx C f : Addr} {mA : Str → Option Value} {name : Str} {v : Value}
theorem get_map {expr : Bool} {Q : Value → Shared → Prop} (X : K.In s.heap) (I : ObjM s.heap x dx C mA) (hg : PySem.W.plainGet K C name = true) (hh : PySem.W.hasDictIn K C = true)
    (ha : PySem.W.findIn K (.ref C) name = some none) (hv : mA name = some v) (hv' : PySem.W.handedIn v = true) (h : Q v { s with toks := s.toks + 1 }) :
    wpAny (model prog w) A (getAttr (.ref x) name expr) Q E s := by
  obtain ⟨od, J, hl⟩ := I.look
  exact PySem.W.get_value X J (PySem.W.plainGet_of hg).1 (PySem.W.findObj_own hh ha rfl (by rw [hl, hv])) hv' h
theorem get_meth {pl : Sem Bool} {Q : Value × List Value → Shared → Prop} (X : K.In s.heap) (I : ObjM s.heap x dx C mA) (hg : PySem.W.plainGet K C name = true)
    (hf : PySem.W.findIn K (.ref C) name = some (some (.ref f))) (ht : PySem.W.isFn K (.ref f) = true) (hv : mA name = none) (h : Q (.ref f, [.ref x]) s) :
    wpAny (model prog w) A (getMethod (.ref x) name pl) Q E s := by
  obtain ⟨od, J, hl⟩ := I.look
  exact PySem.W.method_fn X J (PySem.W.plainGet_of hg).1 (PySem.W.plainGet_of hg).2 hf (beq_iff_eq.mp ht) (by show (PySem.W.lookIn name od).map (·.isSome) = some false; rw [hl, hv]; rfl) h
theorem set_map {ns : List Str} {Q : Unit → Shared → Prop} (X : K.In s.heap) (I : ObjM s.heap x dx C mA)
    (hs : PySem.W.findIn K (.ref C) "__setattr__" = some (some (.builtin "object.__setattr__"))) (hp : PySem.W.plainOver K C = true) (ht : PySem.W.takerIn K C name = some none) (hh : PySem.W.hasDictIn K C = true)
    (hw : PySem.Within mA ns) (hsz : ns.length ≤ sizeLine)
    (h : ∀ h', ObjM h' x dx C (fun y => if y = name then some v else mA y) → Heap.SameBut dx s.heap h' → Q () { s with heap := h', toks := s.toks + 2 }) :
    wpAny (model prog w) A (setAttr (.ref x) name v) Q E s := by
  obtain ⟨od, J, hl⟩ := I.look
  refine PySem.W.set_plain X J hs (PySem.W.osa_open (s := { s with toks := s.toks + 1 }) (r := none) X J hp ht fun b => ?_)
  obtain ⟨cd, hc, hd'⟩ := PySem.W.any_some hh
  have hx : s.heap.get? x = some ⟨.ref C, some dx, .plain, #[]⟩ := I.obj
  refine wpAny_bind (wpAny_pure (wpAny_bind (wpAny_bind (wpAny_loadPart hx (wpAny_bind (PySem.W.Looks.here (s := { s with toks := s.toks + 1 }) (PySem.W.looks_clsIn X hc) ?_))))))
  rw [hd']
  refine wpAny_pure (a := some dx) (wpAny_bind (wpAny_pure (wpAny_bind ?_)))
  refine wpAny_nsSet1 (s := { s with toks := s.toks + 1 }) I.ns fun h' hn2 hs2 => ?_
  obtain ⟨oD, esD, epD, hoD, hdD, hcD⟩ := hn2.count (PySem.Within.cons name v hw)
  refine wpAny_bind (wpAny_lookBehind hoD (by rw [hdD]; exact pastItsLine_dict (Nat.le_trans hcD (by rw [List.length_cons]; omega))) ?_)
  exact wpAny_pure (h _ ⟨(hs2.2 _ (Ne.symm I.ne)).trans I.obj, hn2, I.ne⟩ hs2)
theorem make_map {R : Result → Shared → Prop} {vs : List Value} {kw : List (Str × Value)} (X : K.In s.heap) (hm : PySem.W.makesIn K C = true)
    (hi : PySem.W.findIn K (.ref C) "__init__" = some (some (.ref f))) (hf : PySem.W.typeIn K (.ref f) = some (.type "function"))
    (h : codeAny (model prog w) (A.under (.builtin "type.__call__" ⟨.ref C :: vs, kw⟩)) (.call (.ref f) ⟨.ref (s.heap.objs.size + 1) :: vs, kw⟩) (PySem.W.InitBack (s.heap.objs.size + 1) R)
      { s with heap := (s.heap.push PySem.W.emptyDict).push (PySem.W.instObj C s.heap.objs.size) }) :
    codeAny (model prog w) A (.call (.ref C) ⟨vs, kw⟩) R s := by
  obtain ⟨hh, g, d, t, os⟩ := s
  exact PySem.W.make_core (PySem.W.makes_of X hm) (PySem.W.looks_findIn X hi) (fun self => PySem.W.bind_fn X self hf) (.inl rfl) h
end
def putF (f : Str) (v : V) : List (Str × V) → List (Str × V)
  | [] => [(f, v)]
  | (g, x) :: r => if g = f then (g, v) :: r else (g, x) :: putF f v r
theorem lookup_putF (f g : Str) (v : V) : ∀ fs : List (Str × V), (putF f v fs).lookup g = if g = f then some v else fs.lookup g
  | [] => by
    show List.lookup g [(f, v)] = _
    by_cases h : g = f
    · have hb : (g == f) = true := beq_iff_eq.mpr h
      simp only [List.lookup, hb, if_pos h]
    · have hb : (g == f) = false := beq_eq_false_iff_ne.mpr h
      simp only [List.lookup, hb, if_neg h]
  | (k, x) :: r => by
    have ih := lookup_putF f g v r
    rw [show putF f v ((k, x) :: r) = (if k = f then (k, v) :: r else (k, x) :: putF f v r) from rfl]
    by_cases hk : k = f
    · rw [if_pos hk]
      by_cases h : g = k
      · have hb : (g == k) = true := beq_iff_eq.mpr h
        simp only [List.lookup, hb, if_pos (h.trans hk)]
      · have hb : (g == k) = false := beq_eq_false_iff_ne.mpr h
        simp only [List.lookup, hb, if_neg (fun e : g = f => h (e.trans hk.symm))]
    · rw [if_neg hk]
      by_cases h : g = k
      · have hb : (g == k) = true := beq_iff_eq.mpr h
        simp only [List.lookup, hb, if_neg (fun e : g = f => hk (h.symm.trans e))]
      · have hb : (g == k) = false := beq_eq_false_iff_ne.mpr h
        simp only [List.lookup, hb]
        exact ih
theorem keys_putF (f : Str) (v : V) : ∀ fs : List (Str × V), f ∈ (putF f v fs).map (·.1) ∧ ∀ g, g ∈ fs.map (·.1) → g ∈ (putF f v fs).map (·.1)
  | [] => ⟨by simp [putF], fun g h => by simp at h⟩
  | (k, x) :: r => by
    obtain ⟨i1, i2⟩ := keys_putF f v r
    rw [show putF f v ((k, x) :: r) = (if k = f then (k, v) :: r else (k, x) :: putF f v r) from rfl]
    by_cases hk : k = f
    · rw [if_pos hk]
      subst hk
      exact ⟨by simp, fun g h => by simpa using h⟩
    · rw [if_neg hk]
      refine ⟨?_, fun g h => ?_⟩
      · rw [List.map_cons]
        exact List.mem_cons_of_mem _ i1
      · rw [List.map_cons] at h ⊢
        rcases List.mem_cons.mp h with e | e
        · exact List.mem_cons.mpr (.inl e)
        · exact List.mem_cons_of_mem _ (i2 g e)
theorem length_putF (f : Str) (v : V) : ∀ fs : List (Str × V), (putF f v fs).length ≤ fs.length + 1
  | [] => by simp [putF]
  | (k, x) :: r => by
    have ih := length_putF f v r
    rw [show putF f v ((k, x) :: r) = (if k = f then (k, v) :: r else (k, x) :: putF f v r) from rfl]
    by_cases hk : k = f
    · rw [if_pos hk, List.length_cons, List.length_cons]; omega
    · rw [if_neg hk, List.length_cons, List.length_cons]; omega
theorem RelO.some_of {v : V} {o : Option Value} (r : RelO (some v) o) : ∃ u, o = some u ∧ RelV v u := by
  cases o with
  | none => exact (show False from r).elim
  | some u => exact ⟨u, rfl, r⟩
theorem RelO.none_of {o : Option Value} (r : RelO none o) : o = none := by
  cases o with
  | none => rfl
  | some u => exact (show False from r).elim
theorem handed_of {v : V} {u : Value} (r : RelV v u) : PySem.W.handedIn u = true := by
  cases v with
  | non => cases (show u = Value.none from r); rfl
  | bl b => cases (show u = Value.bool b from r); rfl
  | int i => obtain ⟨t, e⟩ := (show ∃ t, u = Value.int i t from r); cases e; rfl
  | str x => obtain ⟨t, e⟩ := (show ∃ t, u = Value.str x t from r); cases e; rfl
  | byt b => obtain ⟨t, e⟩ := (show ∃ t, u = Value.bytes b t from r); cases e; rfl
  | flt b => obtain ⟨t, e⟩ := (show ∃ t, u = Value.float b t from r); cases e; rfl
  | ref a => cases (show u = Value.ref a from r); rfl
  | ty n => cases (show u = Value.type n from r); rfl
section
variable {P : Program} {w : World} {H H' : Hp} {h h' : Heap} {a C dx : Addr} {fs fs' : List (Str × V)}
theorem ins_get (hok : HOk P w H h) (e : H a = some (.ins C dx fs)) : ∃ mA, ObjM h a dx C mA ∧ (∀ f, RelO (fs.lookup f) (mA f)) ∧ PySem.Within mA (fs.map (·.1)) ∧ fs.length ≤ 1000 ∧ H dx = some (.own a) := by
  obtain ⟨d, z, ne, ob, mA, n, r, q⟩ := (show ObjOk P w H h a (.ins C dx fs) from hok a _ e)
  exact ⟨mA, ⟨ob, n, ne⟩, r, q, z, d⟩
end
structure Cls (K : PySem.W.Frag) (C : Addr) : Prop where
  pg : PySem.W.plainGet K C Str.empty = true
  hd : PySem.W.hasDictIn K C = true
  po : PySem.W.plainOver K C = true
  sa : PySem.W.findIn K (.ref C) "__setattr__" = some (some (.builtin "object.__setattr__"))
theorem Cls.get {K : PySem.W.Frag} {C : Addr} (c : Cls K C) (f : Str) : PySem.W.plainGet K C f = true := c.pg
def NoAttr (K : PySem.W.Frag) (C : Addr) (f : Str) : Prop := PySem.W.findIn K (.ref C) f = some none
theorem NoAttr.taker {K : PySem.W.Frag} {C : Addr} {f : Str} (n : NoAttr K C f) : PySem.W.takerIn K C f = some none := by
  unfold PySem.W.takerIn
  rw [show PySem.W.findIn K (.ref C) f = some none from n]
  rfl
structure Meth (K : PySem.W.Frag) (C : Addr) (m : Str) (f : Addr) : Prop where
  at_ : PySem.W.findIn K (.ref C) m = some (some (.ref f))
  fn : PySem.W.isFn K (.ref f) = true
  kp : PySem.W.keepIn K (.ref f) = true
section
variable {X : Cx} {pins : List (Addr × Obj)} {σ : St} {H : Hp} {s : Shared} {a C dx : Addr} {fs : List (Str × V)} {f : Str} {v : V} {A : Around} {E : Value → Shared → Prop}
theorem getattr_ok {b : Bool} {Q : Value → Shared → Prop} (I : Inv X pins σ H s) (e : H a = some (.ins C dx fs)) (c : Cls X.K C) (n : NoAttr X.K C f) (l : fs.lookup f = some v)
    (h : ∀ u s', Inv X pins σ H s' → RelV v u → Q u s') : wpAny (model X.prog X.w) A (getAttr (.ref a) f b) Q E s := by
  obtain ⟨mA, O, r, _, _, _⟩ := ins_get I.hok e
  obtain ⟨u, hu, ru⟩ := RelO.some_of (v := v) (o := mA f) (by rw [← l]; exact r f)
  exact get_map I.kIn O (c.get f) c.hd n hu (handed_of ru) (h u _ (I.tok _) ru)
theorem getmeth_ok {m : Str} {g : Addr} {pl : Sem Bool} {Q : Value × List Value → Shared → Prop} (I : Inv X pins σ H s) (e : H a = some (.ins C dx fs)) (c : Cls X.K C) (k : Meth X.K C m g) (l : fs.lookup m = none)
    (h : Q (.ref g, [.ref a]) s) : wpAny (model X.prog X.w) A (getMethod (.ref a) m pl) Q E s := by
  obtain ⟨mA, O, r, _, _, _⟩ := ins_get I.hok e
  have hn : mA m = none := RelO.none_of (by rw [← l]; exact r m)
  exact get_meth I.kIn O (c.get m) k.at_ k.fn hn h
theorem setattr_ok {y : V} {u : Value} {Q : Unit → Shared → Prop} (I : Inv X pins σ H s) (e : H a = some (.ins C dx fs)) (c : Cls X.K C) (n : NoAttr X.K C f) (hl : fs.length < 1000) (ry : RelV y u)
    (h : ∀ s', Inv X pins σ (upd H a (.ins C dx (putF f y fs))) s' → Q () s') : wpAny (model X.prog X.w) A (setAttr (.ref a) f u) Q E s := by
  obtain ⟨mA, O, r, wi, _, ho⟩ := ins_get I.hok e
  have hz : (fs.map (·.1)).length ≤ sizeLine := by rw [List.length_map, sizeLine_eq]; omega
  refine set_map I.kIn O c.sa c.po n.taker c.hd wi hz fun h' O' sb => h _ ?_
  have hd : ∃ o, h'.get? dx = some o := let ⟨o, _, _, e', _⟩ := O'.ns; ⟨o, e'⟩
  refine I.write (x := a) (e := dx) (by rw [e]; exact True.intro) (.inr ho) (fun b q hb z => (sb.2 b hb).trans z) hd ?_
  refine ⟨by rw [upd_ne O.ne]; exact ho, ?_, O.ne, O'.obj, _, O'.ns, fun g => ?_, fun g hg => ?_⟩
  · have := length_putF f y fs; omega
  · show RelO ((putF f y fs).lookup g) (if g = f then some u else mA g)
    rw [lookup_putF]
    by_cases q : g = f
    · rw [if_pos q, if_pos q]; exact ry
    · rw [if_neg q, if_neg q]; exact r g
  · by_cases q : g = f
    · rw [q]; exact (keys_putF f y fs).1
    · refine (keys_putF f y fs).2 g (wi g fun z => hg ?_)
      show (if g = f then some u else mA g) = none
      rw [if_neg q]; exact z
theorem Inv.made (I : Inv X pins σ H s) : Inv X pins σ (upd (upd H s.heap.objs.size (.own (s.heap.objs.size + 1))) (s.heap.objs.size + 1) (.ins C s.heap.objs.size []))
    { s with heap := (s.heap.push PySem.W.emptyDict).push (PySem.W.instObj C s.heap.objs.size) } := by
  have e1 : (s.heap.push PySem.W.emptyDict).get? s.heap.objs.size = some PySem.W.emptyDict := Heap.get?_push_size s.heap rfl
  have e2 : ((s.heap.push PySem.W.emptyDict).push (PySem.W.instObj C s.heap.objs.size)).get? (s.heap.objs.size + 1) = some (PySem.W.instObj C s.heap.objs.size) := by
    have := Heap.get?_push_size (s.heap.push PySem.W.emptyDict) (o := PySem.W.instObj C s.heap.objs.size) rfl
    rwa [Heap.size_push] at this
  have e3 : (s.heap.push PySem.W.emptyDict).Ns s.heap.objs.size (fun _ => none) := ⟨PySem.W.emptyDict, #[], _, e1, rfl, (fun e he => absurd he (by simp)), fun _ => rfl⟩
  have I1 := I.laid (a := s.heap.objs.size) (o := .own (s.heap.objs.size + 1)) (h' := s.heap.push PySem.W.emptyDict) (t' := s.toks) (fun b u q => Heap.get?_push_of_some _ q) (Nat.le_refl _) ⟨_, e1⟩
  refine I1.laid (a := s.heap.objs.size + 1) (o := .ins C s.heap.objs.size []) (t' := s.toks) (fun b u q => Heap.get?_push_of_some _ q) (Nat.le_of_eq (Heap.size_push _ _)) ?_
  have ne : s.heap.objs.size ≠ s.heap.objs.size + 1 := Nat.ne_of_lt (Nat.lt_succ_self _)
  refine ⟨by rw [upd_ne ne, upd_same], Nat.zero_le _, ne, e2, fun _ => none, (Heap.Ns1.of_empty e3).at fun o q => Heap.get?_push_of_some _ q, fun _ => True.intro, fun y hy => absurd rfl hy⟩
theorem attr_of {prog : Program} {w : World} {env : Env} {e : Expr} {f : Str} {pos : Pos} {s : Shared} {Q : Value → Shared → Prop} (hb : attributeBase e f env (eval e env) = eval e env)
    (h : wpAny (model prog w) A (eval e env) (fun o s₁ => wpAny (model prog w) A (getAttr o f true) Q E s₁) E s) : wpAny (model prog w) A (eval (.Attribute e f pos) env) Q E s :=
  Attribute_any_ h (by rw [arm_eval_Attribute, hb])
end
def tFld (K : PySem.W.Frag) (ta : TE) (f : Str) : TE := fun σ H Q => ta σ H fun x H1 => ∃ a C dx fs v, x = .ref a ∧ H1 a = some (.ins C dx fs) ∧ Cls K C ∧ NoAttr K C f ∧ fs.lookup f = some v ∧ Q v H1
def sFld (K : PySem.W.Frag) (ta tv : TE) (f : Str) : TS := fun D σ H => tv σ H fun y H1 => ta σ H1 fun x H2 => ∃ a C dx fs, x = .ref a ∧ H2 a = some (.ins C dx fs) ∧ Cls K C ∧ NoAttr K C f ∧ fs.length < 1000 ∧
  D.nx σ (upd H2 a (.ins C dx (putF f y fs)))
section
variable {X : Cx} {o e value : Expr} {f : Str} {pos pos' tpos : Pos} {ta tv : TE}
theorem pe_fld (he : PE X e ta) (hb : attributeBase e f X.env (eval e X.env) = eval e X.env) : PE X (.Attribute e f pos) (tFld X.K ta f) := by
  intro pins s σ H Q I h
  refine attr_of hb (thn (he pins s σ H _ I h) fun u s1 ⟨x, H1, I1, rx, a, C, dx, fs, v, ex, ea, c, n, l, q⟩ => ?_)
  subst ex
  obtain rfl : u = Value.ref a := rx
  exact getattr_ok I1 ea c n l fun u' s2 I2 ru => ⟨v, H1, I2, ru, q⟩
theorem ps_fld (ha : PE X o ta) (hv : PE X value tv) (hs : swapsWith value (some (.Attribute o f pos')) pos.line X.env = pure false) : PS X (.Assign [.Attribute o f pos'] value pos) (sFld X.K ta tv f) := by
  intro pins s σ H D I h
  refine plainObj_wpAny_Assign_Attribute (thn (hv pins s σ H _ I h) fun u s1 ⟨y, H1, I1, ry, q⟩ => thn (ha pins s1 σ H1 _ I1 q) fun ov s2 ⟨x, H2, I2, rx, a, C, dx, fs, ex, ea, c, n, l, q2⟩ => ?_) hs
  subst ex
  obtain rfl : ov = Value.ref a := rx
  exact setattr_ok I2 ea c n l ry fun s3 I3 => ⟨σ, _, I3, q2⟩
end
section
variable {X : Cx} {pins : List (Addr × Obj)} {σ : St} {H : Hp} {s : Shared} {A : Around} {E : Value → Shared → Prop} {Q : Value → Shared → Prop} {c : Value} {b : Bool}
inductive TyOf (K : PySem.W.Frag) (H : Hp) : V → Value → Prop where
  | non : TyOf K H .non (.type "NoneType")
  | bl (x : Bool) : TyOf K H (.bl x) (.type "bool")
  | int (i : Int) : TyOf K H (.int i) (.type "int")
  | str (x : Str) : TyOf K H (.str x) (.type "str")
  | flt (x : UInt64) : TyOf K H (.flt x) (.type "float")
  | lst {a : Addr} {xs : List V} (e : H a = some (.lst xs)) : TyOf K H (.ref a) (.type "list")
  | frz {a : Addr} {o : Obj} {xs : List V} (e : H a = some (.frz o (.lst xs))) : TyOf K H (.ref a) (.type "list")
  | tup {a : Addr} {xs : List V} (e : H a = some (.tup xs)) : TyOf K H (.ref a) (.type "tuple")
  | dK {a : Addr} {kvs : List (Key × V)} (e : H a = some (.dK kvs)) : TyOf K H (.ref a) (.type "dict")
  | dT {a : Addr} {kvs : List (List Key × V)} (e : H a = some (.dT kvs)) : TyOf K H (.ref a) (.type "dict")
  | ins {a C dx : Addr} {fs : List (Str × V)} (e : H a = some (.ins C dx fs)) (cl : Cls K C) (ha : PySem.W.findIn K (.ref C) "__class__" = some (some (.builtin "object.__class__")))
      (hn : PySem.W.specialIn K (.builtin "object.__class__") "__get__" = some (some (.builtin "getset_descriptor.__get__"))) (htk : PySem.W.takesIn K (.builtin "object.__class__") = some true)
      (hm : PySem.W.mroIn K C (.type "object") = some true) : TyOf K H (.ref a) (.ref C)
theorem isinst_ok {x : V} {u t : Value} (I : Inv X pins σ H s) (rx : RelV x u) (ty : TyOf X.K H x t) (e : PySem.W.kitOne X.K t c = some b) (h : ∀ tk, Q (.bool b) { s with toks := tk }) :
    wpAny (model X.prog X.w) A (call (.builtin "isinstance") [u, c]) Q E s := by
  cases ty with
  | non => cases (show u = Value.none from rx); exact PySem.W.kia_one PySem.W.kitx_none I.kIn True.intro e (fun z => nomatch z) h
  | bl y => cases (show u = Value.bool y from rx); exact PySem.W.kia_one PySem.W.kitx_bool I.kIn True.intro e (fun z => nomatch z) h
  | int i => obtain ⟨t, q⟩ := (show ∃ t, u = Value.int i t from rx); cases q; exact PySem.W.kia_one PySem.W.kitx_int I.kIn True.intro e (fun z => nomatch z) h
  | str y => obtain ⟨t, q⟩ := (show ∃ t, u = Value.str y t from rx); cases q; exact PySem.W.kia_one PySem.W.kitx_str I.kIn True.intro e (fun z => nomatch z) h
  | flt y => obtain ⟨t, q⟩ := (show ∃ t, u = Value.float y t from rx); cases q; exact PySem.W.kia_one PySem.W.kitx_float I.kIn True.intro e (fun z => nomatch z) h
  | @lst a xs ea =>
    cases (show u = Value.ref a from rx)
    obtain ⟨_, _, n, _, h1⟩ := (show ObjOk X.prog X.w H s.heap a (.lst xs) from I.hok a _ ea)
    exact PySem.W.kia_one PySem.W.kitx_list I.kIn ⟨_, h1, rfl⟩ e (fun z => nomatch z) h
  | @frz a ob xs ea =>
    cases (show u = Value.ref a from rx)
    obtain ⟨_, _, _, n, _, h1⟩ := (show ObjOk X.prog X.w H s.heap a (.frz ob (.lst xs)) from I.hok a _ ea)
    exact PySem.W.kia_one PySem.W.kitx_list I.kIn ⟨_, h1, rfl⟩ e (fun z => nomatch z) h
  | @tup a xs ea =>
    cases (show u = Value.ref a from rx)
    obtain ⟨_, _, _, p⟩ := (show ObjOk X.prog X.w H s.heap a (.tup xs) from I.hok a _ ea)
    obtain ⟨o, h1, h2, _⟩ := p
    exact PySem.W.kia_one PySem.W.kitx_tuple I.kIn ⟨o, h1, h2⟩ e (fun z => nomatch z) h
  | @dK a kvs ea =>
    cases (show u = Value.ref a from rx)
    obtain ⟨_, _, vs, _, p⟩ := (show ObjOk X.prog X.w H s.heap a (.dK kvs) from I.hok a _ ea)
    obtain ⟨o, es, ep, h1, h2, _⟩ := p
    exact PySem.W.kia_one PySem.W.kitx_dict I.kIn ⟨o, h1, h2.1⟩ e (fun z => nomatch z) h
  | @dT a kvs ea =>
    cases (show u = Value.ref a from rx)
    obtain ⟨_, _, xs, _, o, es, ep, h1, h2, _⟩ := (show ObjOk X.prog X.w H s.heap a (.dT kvs) from I.hok a _ ea)
    exact PySem.W.kia_one PySem.W.kitx_dict I.kIn ⟨o, h1, h2.1⟩ e (fun z => nomatch z) h
  | @ins a C dx fs ea cl ha hn htk hm =>
    cases (show u = Value.ref a from rx)
    obtain ⟨mA, O, _⟩ := ins_get I.hok ea
    obtain ⟨od, J, _⟩ := O.look
    exact PySem.W.kia_one (PySem.W.kitx_own (cl.get _) cl.hd ha hn htk hm) I.kIn J e (fun z => nomatch z) h
end
end L2
namespace L2
open PySem PySem.Spec PyProof.Rows
structure Room (k : Nat) (A : Around) : Prop where
  hd : A.handled = none
  dp : A.depth + 3 * k + 5 < recursionLimit
  un : A.units + 16 * k + 200 < cLine
theorem Room.mono {j k : Nat} {A : Around} (r : Room k A) (h : j ≤ k) : Room j A := ⟨r.hd, by have := r.dp; omega, by have := r.un; omega⟩
theorem Room.deeper {k : Nat} {A : Around} (r : Room (k + 1) A) (env : Env) : Room k (A.deeper env) :=
  ⟨r.hd, by have := r.dp; show A.depth + 1 + 3 * k + 5 < _; omega, by have := r.un; show A.units + 3 + 16 * k + 200 < _; omega⟩
theorem Room.in1 {k : Nat} {A : Around} (r : Room (k + 1) A) : Room k A.in1 :=
  ⟨r.hd, by have := r.dp; show A.depth + 3 * k + 5 < _; omega, by have := r.un; show A.units + 1 + 16 * k + 200 < _; omega⟩
theorem make_depth {A : Around} {C : Addr} {us : List Value} {kw : List (Str × Value)} : (A.under (.builtin "type.__call__" ⟨.ref C :: us, kw⟩)).depth = A.depth + 1 := by
  first | rfl | simp [Around.under, Code.weight, Code.isCreation, Code.isGuard, Code.isCaller, Code.frames, Code.isFrame, guardIds]
theorem make_units {A : Around} {C : Addr} {us : List Value} {kw : List (Str × Value)} : (A.under (.builtin "type.__call__" ⟨.ref C :: us, kw⟩)).units = A.units + 1 := by
  first | rfl | simp [Around.under, Code.cUnits, Code.frames, Code.isFrame]
theorem Room.make {k : Nat} {A : Around} (r : Room (k + 1) A) (C : Addr) (us : List Value) (kw : List (Str × Value)) : Room k (A.under (.builtin "type.__call__" ⟨.ref C :: us, kw⟩)) :=
  ⟨r.hd, by have := r.dp; rw [make_depth]; omega, by have := r.un; rw [make_units]; omega⟩
theorem Room.depth {k : Nat} {A : Around} (r : Room k A) : A.depth < recursionLimit := by have := r.dp; omega
theorem Room.units {k : Nat} {A : Around} (r : Room k A) : A.units + 64 < cLine := by have := r.un; omega
def tNil : TA := fun _ H Q => Q [] H
def tCons (ta : TE) (tr : TA) : TA := fun σ H Q => ta σ H fun x H1 => tr σ H1 fun xs H2 => Q (x :: xs) H2
section
variable {X : Cx} {e : Expr} {es : List Expr} {te : TE} {t : TA} {pos : Pos}
theorem pa_nil : PA X [] tNil := fun _ _ _ _ H Q I h => Calls.spliced_nil ⟨[], H, I, .nil, h⟩
theorem pa_cons (ha : PE X e te) (hr : PA X es t) (hs : starEach (e :: es) X.env = (false, eval e X.env) :: starEach es X.env := by rfl) : PA X (e :: es) (tCons te t) := by
  intro pos pins s σ H Q I h
  rw [hs]
  show wpAny _ _ (spliced ((false, eval e X.env) :: backTo pos (starEach es X.env))) _ _ s
  refine Calls.spliced_cons (thn (ha pins s σ H _ I h) fun u s1 ⟨x, H1, I1, r1, q1⟩ => ?_)
  exact thn (hr pos pins s1 σ H1 _ I1 q1) fun us s2 ⟨xs, H2, I2, r2, q2⟩ => ⟨x :: xs, H2, I2, .cons r1 r2, q2⟩
def tTup (t : TA) : TE := fun σ H Q => t σ H fun xs H1 => xs.length ≤ sizeLine ∧ ∀ p, H1 p = none → Q (.ref p) (upd H1 p (.tup xs))
def tLst (t : TA) : TE := fun σ H Q => t σ H fun xs H1 => xs.length ≤ sizeLine ∧ ∀ p, H1 p = none → Q (.ref p) (upd H1 p (.lst xs))
theorem pe_tup {x1} (h : PA X es t) : PE X (.Tuple es x1 pos) (tTup t) := by
  intro pins s σ H Q I hq
  refine wpAny_Tuple_spliced (thn (h pos pins s σ H _ I hq) fun us s1 ⟨xs, H1, I1, r, z, q⟩ => ⟨by rw [← r.length]; exact z, ?_⟩)
  have hf : H1 s1.heap.objs.size = none := I1.hok.fresh (Nat.le_refl _)
  refine ⟨.ref s1.heap.objs.size, upd H1 s1.heap.objs.size (.tup xs), I1.laid (t' := s1.toks) (fun b u e => Heap.get?_push_of_some _ e) (Nat.le_refl _) ?_, rfl, q _ hf⟩
  exact ⟨z, us, r, ⟨_, Heap.get?_push_size _ rfl, rfl, _, rfl⟩⟩
theorem pe_lst (h : PA X es t) : PE X (.List es pos) (tLst t) := by
  intro pins s σ H Q I hq
  refine wpAny_List_spliced (thn (h pos pins s σ H _ I hq) fun us s1 ⟨xs, H1, I1, r, z, q⟩ => ⟨by rw [← r.length]; exact z, ?_⟩)
  have hf : H1 s1.heap.objs.size = none := I1.hok.fresh (Nat.le_refl _)
  refine ⟨.ref s1.heap.objs.size, upd H1 s1.heap.objs.size (.lst xs), I1.laid (t' := s1.toks) (fun b u e => Heap.get?_push_of_some _ e) (Nat.le_refl _) ?_, rfl, q _ hf⟩
  exact ⟨z, us, 0, r, Heap.get?_push_size _ rfl⟩
end
abbrev Sp := List V → Hp → VK → XK → Prop
abbrev CXT := List Env → Hp → Shared → XK → Value → Shared → Prop
structure Env0 (P : Program) (w : World) (K : PySem.W.Frag) (mg : Str → Option Value) (base : Heap) (A : Around) (outer : List Env) (s : Shared) (H : Hp) : Prop where
  frames : A.frames = some outer
  mod : Mod K mg base
  bs : ∀ b o, base.get? b = some o → s.heap.get? b = some o ∧ H b = none
  bsz : base.objs.size ≤ s.heap.objs.size
  funs : s.heap.FunFrames base outer
  frf : ∀ b ∈ frs outer, H b = none
  hok : HOk P w H s.heap
  bare : AllBare s.gens
def CE (outer : List Env) (P : Program) (w : World) (H : Hp) (s : Shared) (Q : VK) (u : Value) (s' : Shared) : Prop :=
  ∃ v H', s'.os = s.os ∧ AllBare s'.gens ∧ Un (frs outer) [] H H' s.heap s'.heap ∧ HOk P w H' s'.heap ∧ RelV v u ∧ Q v H'
def CR (CX : CXT) (outer : List Env) (P : Program) (w : World) (H : Hp) (s : Shared) (Q : VK) (E : XK) (r : Result) (s' : Shared) : Prop :=
  match r with
  | .ok (.ret u) => CE outer P w H s Q u s'
  | .ok _ => False
  | .error e => CX outer H s E e s'
structure FnOk (P : Program) (w : World) (K : PySem.W.Frag) (mg : Str → Option Value) (base : Heap) (CX : CXT) (k : Nat) (f : Addr) (fd : FuncData) (ps : List Str) (sp : Sp) : Prop where
  len : ∀ vs H Q E, sp vs H Q E → vs.length = ps.length
  run : ∀ (A : Around) (outer : List Env) (s : Shared) (H : Hp) (args : Args) (us : List Value) (vs : List V) (Q : VK) (E : XK), Room k A → Env0 P w K mg base A outer s H → BindsTo s fd args (ps.zip us) → Vals vs us → sp vs H Q E →
    codeAny (model P w) A (.call (.ref f) args) (CR CX outer P w H s Q E) s
theorem FnOk.mono {P : Program} {w : World} {K : PySem.W.Frag} {mg : Str → Option Value} {base : Heap} {CX : CXT} {j k : Nat} {f : Addr} {fd : FuncData} {ps : List Str} {sp : Sp} (F : FnOk P w K mg base CX j f fd ps sp) (h : j ≤ k) :
    FnOk P w K mg base CX k f fd ps sp := ⟨F.len, fun A outer s H args us vs Q E hr => F.run A outer s H args us vs Q E (hr.mono h)⟩
theorem FnOk.imp {P : Program} {w : World} {K : PySem.W.Frag} {mg : Str → Option Value} {base : Heap} {CX : CXT} {k : Nat} {f : Addr} {fd : FuncData} {ps : List Str} {sp sp' : Sp} (F : FnOk P w K mg base CX k f fd ps sp)
    (h : ∀ vs H Q E, sp' vs H Q E → sp vs H Q E) : FnOk P w K mg base CX k f fd ps sp' :=
  ⟨fun vs H Q E q => F.len vs H Q E (h _ _ _ _ q), fun A outer s H args us vs Q E hr he hb hv hs => F.run A outer s H args us vs Q E hr he hb hv (h _ _ _ _ hs)⟩
theorem Env0.make {P : Program} {w : World} {K : PySem.W.Frag} {mg : Str → Option Value} {base : Heap} {A : Around} {outer : List Env} {s : Shared} {H : Hp} (e : Env0 P w K mg base A outer s H) (C : Addr) (us : List Value) (kw : List (Str × Value)) :
    Env0 P w K mg base (A.under (.builtin "type.__call__" ⟨.ref C :: us, kw⟩)) outer s H := ⟨by first | exact e.frames | (simpa [Around.under, Code.envs, Code.isFrame, pushEnvs] using e.frames), e.mod, e.bs, e.bsz, e.funs, e.frf, e.hok, e.bare⟩
theorem Env0.in1 {P : Program} {w : World} {K : PySem.W.Frag} {mg : Str → Option Value} {base : Heap} {A : Around} {outer : List Env} {s : Shared} {H : Hp} (e : Env0 P w K mg base A outer s H) :
    Env0 P w K mg base A.in1 outer s H := ⟨e.frames, e.mod, e.bs, e.bsz, e.funs, e.frf, e.hok, e.bare⟩
section
variable {X : Cx} {pins : List (Addr × Obj)} {σ : St} {H : Hp} {s s' : Shared}
theorem Inv.env0 (I : Inv X pins σ H s) : Env0 X.prog X.w X.K X.mg X.base X.A X.stack s H :=
  ⟨I.ok.frames, I.ok.mod, I.bs, Nat.le_trans I.ok.bsz I.sz, I.stack, I.stkFree, I.hok, I.bare⟩
theorem Inv.after {Q : VK} {u : Value} (I : Inv X pins σ H s) (h : CE X.stack X.prog X.w H s Q u s') : EP X pins σ Q u s' := by
  obtain ⟨v, H', os, bare, un, hok, r, q⟩ := h
  obtain ⟨hh, g, d, t, os'⟩ := s'
  obtain rfl : os' = s.os := os
  exact ⟨v, H', I.call (h' := hh) (g' := g) (d' := d) (t' := t) (ch := []) un hok bare (fun b z => absurd z (by simp)), r, q⟩
end
def tCall (sp : Sp) (dvs : List V) (E : XK) (t : TA) : TE := fun σ H Q => t σ H fun vs H1 => sp (vs ++ dvs) H1 Q E
def tMeth (C : Addr) (m : Str) (sp : Sp) (dvs : List V) (E : XK) (ta : TE) (t : TA) : TE := fun σ H Q => ta σ H fun x H1 => ∃ a dx fs, x = .ref a ∧ H1 a = some (.ins C dx fs) ∧ fs.lookup m = none ∧
  t σ H1 fun vs H2 => sp (x :: (vs ++ dvs)) H2 Q E
def tMake (C : Addr) (sp : Sp) (dvs : List V) (E : XK) (t : TA) : TE := fun σ H Q => t σ H fun vs H1 => ∀ x dx, H1 x = none → H1 dx = none → dx ≠ x →
  sp (.ref x :: (vs ++ dvs)) (upd (upd H1 dx (.own x)) x (.ins C dx [])) (fun v H2 => v = .non ∧ Q (.ref x) H2) E
def Binds (K : PySem.W.Frag) (fd : FuncData) (ps : List Str) (ds : List Value) : Prop :=
  ∀ (s : Shared) (us : List Value), K.In s.heap → (us ++ ds).length = ps.length → BindsTo s fd ⟨us, []⟩ (ps.zip (us ++ ds))
theorem Binds.all {K : PySem.W.Frag} {fd : FuncData} {ps : List Str} (h : ∀ us : List Value, us.length = ps.length → bindArgs fd ⟨us, []⟩ = pure (ps.zip us)) : Binds K fd ps [] := fun s us _ hl => by
  rw [List.append_nil] at hl ⊢
  exact .of_eq (h us hl)
def Passes (CX : CXT) (X : Cx) (E : XK) : Prop := ∀ (pins : List (Addr × Obj)) (σ : St) (H : Hp) (s : Shared) (e : Value) (s' : Shared), Inv X pins σ H s → CX X.stack H s E e s' → X.xe e s'
section
variable {X : Cx} {CX : CXT} {k : Nat} {f C : Addr} {fd : FuncData} {ps : List Str} {sp : Sp} {dvs : List V} {ds : List Value} {E : XK} {x m : Str} {p pos apos : Pos} {e o : Expr} {es : List Expr} {ta : TE} {t : TA}
theorem run_fn {pins : List (Addr × Obj)} {σ : St} {H : Hp} {s : Shared} {Q : VK} {us : List Value} {vs : List V} (F : FnOk X.prog X.w X.K X.mg X.base CX k f fd ps sp) (hr : Room k X.A) (hb : Binds X.K fd ps ds) (hd : Vals dvs ds) (hx : Passes CX X E)
    (I : Inv X pins σ H s) (r : Vals vs us) (h : sp (vs ++ dvs) H Q E) : wpAny (model X.prog X.w) X.A (call (.ref f) us) (EP X pins σ Q) X.xe s := by
  have r2 : Vals (vs ++ dvs) (us ++ ds) := r.append hd
  have hl : (us ++ ds).length = ps.length := by rw [← r2.length]; exact F.len _ _ _ _ h
  refine wpAny_call (codeAny_mono (F.run X.A X.stack s H ⟨us, []⟩ (us ++ ds) (vs ++ dvs) Q E hr I.env0 (hb s us I.kIn hl) r2 h) fun r s' hq => ?_)
  cases r with
  | error e => exact hx pins σ H s e s' I hq
  | ok fl =>
    cases fl with
    | ret u => exact I.after hq
    | next => exact False.elim hq
    | brk => exact False.elim hq
    | cont => exact False.elim hq
theorem pe_call (F : FnOk X.prog X.w X.K X.mg X.base CX k f fd ps sp) (hr : Room k X.A) (hg : Gl X x) (hm : X.mg x = some (.ref f)) (hk : PySem.W.keepIn X.K (.ref f) = true) (hb : Binds X.K fd ps ds) (hd : Vals dvs ds) (hx : Passes CX X E)
    (ha : PA X (e :: es) t) (hdb : (x == ("__debug__" : Str)) = false := by decide) (he : starEach (e :: es) X.env = (false, eval e X.env) :: starEach es X.env := by rfl) (hpl : (backTo pos (starEach es X.env)).any (·.1) = false := by rfl) :
    PE X (.Call (.Name x p) (e :: es) [] pos) (tCall sp dvs E t) := by
  intro pins s σ H Q I h
  refine wpAny_Call_Name_kw (ld_glob I hg hm ?_ hdb)
  refine PySem.W.callWith_K (h₀ := X.base) I.ok.mod.kin hk (thn (ha pos pins s σ H _ I h) fun us s1 ⟨vs, H1, I1, r, q⟩ => ⟨I1.kIn, ?_⟩) he hpl
  exact run_fn F hr hb hd hx I1 r q
theorem pe_meth {pl : Sem Bool} (he : PE X o ta) (c : Cls X.K C) (hm : Meth X.K C m f) (F : FnOk X.prog X.w X.K X.mg X.base CX k f fd ps sp) (hr : Room k X.A) (hb : Binds X.K fd ps ds) (hd : Vals dvs ds) (hx : Passes CX X E) (ha : PA X (e :: es) t)
    (hst : starEach (e :: es) X.env = (false, eval e X.env) :: starEach es X.env := by rfl) (hpl : (backTo pos (starEach es X.env)).any (·.1) = false := by rfl)
    (ht : eval (.Call (.Attribute o m apos) (e :: es) [] pos) X.env = (do
      let ov ← eval o X.env
      standAt apos.atName
      let (f, first) ← holding [ov] (getMethod ov m pl)
      callWith pos f first (backTo pos (starEach (e :: es) X.env)) (backToKw pos (keywordEach [] X.env))) := by rfl) :
    PE X (.Call (.Attribute o m apos) (e :: es) [] pos) (tMeth C m sp dvs E ta t) := by
  intro pins s σ H Q I h
  refine PySem.W.methodCall_KW (pl := pl) (thn (he pins s σ H _ I h) fun u s1 ⟨x, H1, I1, rx, a, dx, fs, ex, ea, l, q⟩ => ?_) ht
  subst ex
  obtain rfl : u = Value.ref a := rx
  refine getmeth_ok I1 ea c hm l ?_
  refine PySem.W.callWith_K (first := [.ref a]) (h₀ := X.base) I.ok.mod.kin hm.kp (thn (ha pos pins s1 σ H1 _ I1 q) fun us s2 ⟨vs, H2, I2, r, q2⟩ => ⟨I2.kIn, ?_⟩) hst hpl
  exact run_fn (us := .ref a :: us) (vs := .ref a :: vs) F hr hb hd hx I2 (.cons rfl r) q2
theorem pe_meth0 {pl : Sem Bool} (he : PE X o ta) (c : Cls X.K C) (hm : Meth X.K C m f) (F : FnOk X.prog X.w X.K X.mg X.base CX k f fd ps sp) (hr : Room k X.A) (hb : Binds X.K fd ps ds) (hd : Vals dvs ds) (hx : Passes CX X E)
    (ht : eval (.Call (.Attribute o m apos) [] [] pos) X.env = (do
      let ov ← eval o X.env
      standAt apos.atName
      let (f, first) ← holding [ov] (getMethod ov m pl)
      callWith pos f first (backTo pos (starEach [] X.env)) (backToKw pos (keywordEach [] X.env))) := by rfl) :
    PE X (.Call (.Attribute o m apos) [] [] pos) (tMeth C m sp dvs E ta tNil) := by
  intro pins s σ H Q I h
  refine PySem.W.methodCall_KW (pl := pl) (thn (he pins s σ H _ I h) fun u s1 ⟨x, H1, I1, rx, a, dx, fs, ex, ea, l, q⟩ => ?_) ht
  subst ex
  obtain rfl : u = Value.ref a := rx
  refine getmeth_ok I1 ea c hm l ?_
  exact PySem.W.callWith_K0 (first := [.ref a]) I1.kIn hm.kp (run_fn (us := [.ref a]) (vs := [.ref a]) F hr hb hd hx I1 (.cons rfl .nil) q)
structure Mk (K : PySem.W.Frag) (C f : Addr) : Prop where
  makes : PySem.W.makesIn K C = true
  init : PySem.W.findIn K (.ref C) "__init__" = some (some (.ref f))
  fn : PySem.W.isFn K (.ref f) = true
  kp : PySem.W.keepIn K (.ref C) = true
theorem run_make {pins : List (Addr × Obj)} {σ : St} {H : Hp} {s : Shared} {Q : VK} {us : List Value} {vs : List V} (M : Mk X.K C f) (F : FnOk X.prog X.w X.K X.mg X.base CX k f fd ps sp) (hr : Room (k + 1) X.A) (hb : Binds X.K fd ps ds) (hd : Vals dvs ds)
    (hx : Passes CX X E) (I : Inv X pins σ H s) (r : Vals vs us)
    (h : ∀ x dx, H x = none → H dx = none → dx ≠ x → sp (.ref x :: (vs ++ dvs)) (upd (upd H dx (.own x)) x (.ins C dx [])) (fun v H2 => v = .non ∧ Q (.ref x) H2) E) :
    wpAny (model X.prog X.w) X.A (call (.ref C) us) (EP X pins σ Q) X.xe s := by
  have hq := h (s.heap.objs.size + 1) s.heap.objs.size (I.hok.fresh (Nat.le_succ _)) (I.hok.fresh (Nat.le_refl _)) (Nat.ne_of_lt (Nat.lt_succ_self _))
  have I2 := Inv.made (C := C) I
  have r2 : Vals (V.ref (s.heap.objs.size + 1) :: (vs ++ dvs)) (Value.ref (s.heap.objs.size + 1) :: (us ++ ds)) := .cons rfl (r.append hd)
  have hl : (Value.ref (s.heap.objs.size + 1) :: us ++ ds).length = ps.length := by
    have e := r2.length
    rw [F.len _ _ _ _ hq] at e
    exact e.symm
  refine wpAny_call (make_map (f := f) I.kIn M.makes M.init (beq_iff_eq.mp M.fn) (codeAny_mono (F.run _ X.stack _ _ ⟨Value.ref (s.heap.objs.size + 1) :: us, []⟩ (Value.ref (s.heap.objs.size + 1) :: (us ++ ds)) _ _ E (hr.make C us [])
    (I2.env0.make C us []) (hb _ (Value.ref (s.heap.objs.size + 1) :: us) I2.kIn hl) r2 hq) fun r s' hq' => ?_))
  cases r with
  | error e => exact hx pins σ _ _ e s' I2 hq'
  | ok fl =>
    cases fl with
    | ret u =>
      obtain ⟨v, H', I3, rv, ev, q3⟩ := I2.after hq'
      subst ev
      exact ⟨rv, ⟨V.ref (s.heap.objs.size + 1), H', I3, rfl, q3⟩⟩
    | next => exact False.elim hq'
    | brk => exact False.elim hq'
    | cont => exact False.elim hq'
theorem pe_make (M : Mk X.K C f) (F : FnOk X.prog X.w X.K X.mg X.base CX k f fd ps sp) (hr : Room (k + 1) X.A) (hg : Gl X x) (hm : X.mg x = some (.ref C)) (hb : Binds X.K fd ps ds) (hd : Vals dvs ds) (hx : Passes CX X E)
    (ha : PA X (e :: es) t) (hdb : (x == ("__debug__" : Str)) = false := by decide) (he : starEach (e :: es) X.env = (false, eval e X.env) :: starEach es X.env := by rfl) (hpl : (backTo pos (starEach es X.env)).any (·.1) = false := by rfl) :
    PE X (.Call (.Name x p) (e :: es) [] pos) (tMake C sp dvs E t) := by
  intro pins s σ H Q I h
  refine wpAny_Call_Name_kw (ld_glob I hg hm ?_ hdb)
  refine PySem.W.callWith_K (h₀ := X.base) I.ok.mod.kin M.kp (thn (ha pos pins s σ H _ I h) fun us s1 ⟨vs, H1, I1, r, q⟩ => ⟨I1.kIn, ?_⟩) he hpl
  exact run_make M F hr hb hd hx I1 r q
end
section
variable {X : Cx} {CX : CXT} {k : Nat} {f C : Addr} {fd : FuncData} {ps ks : List Str} {sp : Sp} {E : XK} {x m : Str} {p pos apos kpos : Pos} {e o : Expr} {es : List Expr} {kws : List Keyword} {te ta : TE} {t tk : TA} {nm : Option Str}
variable {g : List Value → List Value → List Value} {gV : List V → List V → List V}
end
structure FnScope (N P : List Str) (sc : Scope) : Prop where
  kind : sc.kind = .function
  co : sc.isCoroutine = false
  gen : sc.isGenerator = false
  nd : N.Nodup
  pre : N.take P.length = P
  par : ∀ x ∈ P, sc.names.lookup x = some .local ∨ sc.names.lookup x = some .cell
  nofree : ∀ y ∈ sc.names, y.2 ≠ .free
theorem bindL_out {kindOf : Str → Option NameKind} {x : Str} : ∀ {binds : List (Str × Value)} {m : Str → Option Value}, (∀ v, (x, v) ∉ binds) → bindL kindOf binds m x = m x
  | [], _, _ => rfl
  | (n, v) :: r, m, h => by
    unfold bindL
    rw [bindL_out fun w hw => h w (List.mem_cons_of_mem _ hw)]
    split
    · have : x ≠ n := by rintro rfl; exact h v List.mem_cons_self
      simp [this]
    · rfl
theorem bindC_out {kindOf : Str → Option NameKind} {x : Str} : ∀ {binds : List (Str × Value)} {m : Str → Option Value}, (∀ v, (x, v) ∉ binds) → bindC kindOf binds m x = m x
  | [], _, _ => rfl
  | (n, v) :: r, m, h => by
    unfold bindC
    rw [bindC_out fun w hw => h w (List.mem_cons_of_mem _ hw)]
    split
    · rfl
    · have : x ≠ n := by rintro rfl; exact h v List.mem_cons_self
      simp [this]
theorem bindL_get {kindOf : Str → Option NameKind} {x : Str} {v : Value} : ∀ {P : List Str} {vs : List Value} {i : Nat} {m : Str → Option Value}, P.Nodup → P[i]? = some x → vs[i]? = some v → kindOf x = some .local →
    bindL kindOf (P.zip vs) m x = some v
  | [], _, _, _, _, h, _, _ => by simp at h
  | _ :: _, [], _, _, _, _, h, _ => by simp at h
  | p :: P, w :: vs, 0, m, nd, h1, h2, hk => by
    simp at h1 h2; subst h1; subst h2
    show bindL kindOf ((p, w) :: P.zip vs) m p = _
    unfold bindL
    rw [bindL_out fun v hv => (List.nodup_cons.mp nd).1 (List.of_mem_zip hv).1, if_pos hk]
    simp
  | p :: P, w :: vs, i + 1, m, nd, h1, h2, hk => by
    show bindL kindOf ((p, w) :: P.zip vs) m x = _
    unfold bindL
    exact bindL_get (i := i) (List.nodup_cons.mp nd).2 (by simpa using h1) (by simpa using h2) hk
theorem bindC_get {kindOf : Str → Option NameKind} {x : Str} {v : Value} : ∀ {P : List Str} {vs : List Value} {i : Nat} {m : Str → Option Value}, P.Nodup → P[i]? = some x → vs[i]? = some v → kindOf x ≠ some .local →
    bindC kindOf (P.zip vs) m x = some v
  | [], _, _, _, _, h, _, _ => by simp at h
  | _ :: _, [], _, _, _, _, h, _ => by simp at h
  | p :: P, w :: vs, 0, m, nd, h1, h2, hk => by
    simp at h1 h2; subst h1; subst h2
    show bindC kindOf ((p, w) :: P.zip vs) m p = _
    unfold bindC
    rw [bindC_out fun v hv => (List.nodup_cons.mp nd).1 (List.of_mem_zip hv).1, if_neg hk]
    simp
  | p :: P, w :: vs, i + 1, m, nd, h1, h2, hk => by
    show bindC kindOf ((p, w) :: P.zip vs) m x = _
    unfold bindC
    exact bindC_get (i := i) (List.nodup_cons.mp nd).2 (by simpa using h1) (by simpa using h2) hk
def start (N : List Str) (vs : List V) : St := vs.map some ++ List.replicate (N.length - vs.length) none
def cxOf (CX : CXT) (P : Program) (w : World) (K : PySem.W.Frag) (mg : Str → Option Value) (base : Heap) (N : List Str) (qual : Str) (scope : Scope) (f : Addr) (cd : Value) (A : Around) (outer : List Env) (s : Shared) (H : Hp) (E : XK) : Cx where
  prog := P
  w := w
  K := K
  mg := mg
  base := base
  A := A.deeper (envOfC qual scope s.heap.objs.size f cd)
  N := N
  s₀ := s
  H₀ := H
  env := envOfC qual scope s.heap.objs.size f cd
  outer := outer
  stack := envOfC qual scope s.heap.objs.size f cd :: outer
  ex := []
  calm := true
  fn := fun _ => true
  pn := []
  xe := fun e s' => wpAny (model P w) (A.deeper (envOfC qual scope s.heap.objs.size f cd)) (leaving (envOfC qual scope s.heap.objs.size f cd) e) (fun _ s'' => CX outer H s E e s'') (fun e' s'' => CX outer H s E e' s'') s'
theorem cell_has {sc : Scope} {n : Nat} {x : Str} (h : sc.names.lookup x = some .cell) : ∃ c, (cellsFrom n sc.names []).lookup x = some c := by
  have q := PySem.W.cellsFrom_some sc.names n [] (.inl h)
  exact Option.isSome_iff_exists.mp q
theorem inv_start {CX : CXT} {P : Program} {w : World} {K : PySem.W.Frag} {mg : Str → Option Value} {base : Heap} {N ps : List Str} {qual : Str} {scope : Scope} {f : Addr} {cd : Value} {A : Around} {outer : List Env} {s s1 : Shared} {H : Hp} {E : XK} {us : List Value} {vs : List V}
    (S : FnScope N ps scope) (hd : A.handled = none) (e0 : Env0 P w K mg base A outer s H) (hl : vs.length = ps.length) (r : Vals vs us)
    (x : InCallC s s.heap.objs.size (bindL (envOfC qual scope s.heap.objs.size f cd).kindOf (ps.zip us) fun _ => none) (cellsFrom (s.heap.objs.size + 1) scope.names []) (bindC (envOfC qual scope s.heap.objs.size f cd).kindOf (ps.zip us) fun _ => none) s1) :
    Inv (cxOf CX P w K mg base N qual scope f cd A outer s H E) [] (start N vs) H s1 := by
  have hpl : ps.length ≤ N.length := by have := congrArg List.length S.pre; rw [List.length_take] at this; omega
  obtain ⟨h1, tk, rfl, hk⟩ := x.done
  have noA : ∀ b : Addr, b ∉ (cxOf CX P w K mg base N qual scope f cd A outer s H E).ex := fun b z => absurd (show b ∈ ([] : List Addr) from z) (by simp)
  refine ⟨⟨e0.mod, S.kind, rfl, rfl, Nat.le_refl _, fun y z c h1 h2 => ?_, fun y hy => ?_, fun y c _ h => ?_, fun _ => hd, Around.frames_deeper e0.frames, .inr ⟨rfl, rfl⟩, fun b z => absurd z (noA b), e0.bs, e0.bsz, fun b _ _ => noA b, fun b z => absurd z (noA b), e0.funs, e0.frf⟩,
    rfl, e0.bare, Un.kept hk, ⟨_, x.toInCall.ns, fun i y v h1 h2 h3 => ?_⟩, fun y c h => ⟨_, x.cell y c h⟩, e0.hok.fresh (Nat.le_refl _), fun y c h => ?_, fun p hp => absurd (show p ∈ ([] : List (Addr × Obj)) from hp) (by simp), e0.hok.kept hk, ?_⟩
  · exact name_of_addr x.apart (PySem.mem_of_lookup h1) (PySem.mem_of_lookup h2)
  · have hy : scope.names.lookup y = some .cell ∨ scope.names.lookup y = some .free := hy
    rcases hy with hy | hy
    · exact cell_has hy
    · exact absurd rfl (S.nofree _ (PySem.mem_of_lookup hy))
  · exact Nat.le_of_lt (x.above y c (PySem.mem_of_lookup h))
  · have hi : i < vs.length := by
      unfold start at h2
      by_cases hi : i < vs.length
      · exact hi
      · rw [List.getElem?_append_right (by simpa using hi)] at h2
        rw [List.getElem?_replicate] at h2
        split at h2 <;> cases h2
    have ha : vs[i]? = some v := by
      unfold start at h2
      rw [List.getElem?_append_left (by simpa using hi), List.getElem?_map] at h2
      cases e : vs[i]? with
      | none => rw [e] at h2; cases h2
      | some a => rw [e] at h2; cases h2; rfl
    obtain ⟨u, hu, rv⟩ := r.get ha
    have hp : ps[i]? = some y := by
      rw [← S.pre, List.getElem?_take_of_lt (by omega)]; exact h1
    have ndP : ps.Nodup := by rw [← S.pre]; exact S.nd.sublist (List.take_sublist _ _)
    refine ⟨u, rv, ?_⟩
    rcases S.par y (List.mem_of_getElem? hp) with k | k
    · exact .inl ⟨k, bindL_get ndP hp hu k⟩
    · obtain ⟨c, e⟩ := cell_has (n := s.heap.objs.size + 1) k
      refine .inr ⟨.inl k, c, e, ?_⟩
      have q := x.cell y c e
      rw [bindC_get ndP hp hu (by show scope.names.lookup y ≠ _; rw [k]; decide)] at q
      exact q
  · exact e0.hok.fresh (Nat.le_of_lt (x.above y c (PySem.mem_of_lookup h)))
  · unfold start
    show _ = N.length
    rw [List.length_append, List.length_map, List.length_replicate]
    omega
theorem fn_of {CX : CXT} {P : Program} {w : World} {K : PySem.W.Frag} {mg : Str → Option Value} {base : Heap} {k : Nat} {f : Addr} {name qual : Str} {params : Arguments} {body : List Stmt} {scope : Scope} {dV kV doc pm cdv ct oc : Value} {an od : Option Addr}
    {osl : Array (Option Value)} {N ps : List Str} {sp : Sp} (lk : K.lookup f = some ⟨oc, od, .func (PySem.W.fnOf name qual params body scope dV kV doc pm an cdv ct), osl⟩) (hcd : PySem.W.codeIn K cdv qual = true) (S : FnScope N ps scope)
    (len : ∀ vs H Q E, sp vs H Q E → vs.length = ps.length)
    (hbody : ∀ (A : Around) (outer : List Env) (s : Shared) (H : Hp) (vs : List V) (Q : VK) (E : XK), Room k (A.deeper (envOfC qual scope s.heap.objs.size f cdv)) → sp vs H Q E →
      ∃ t, PSs (cxOf CX P w K mg base N qual scope f cdv A outer s H E) body t ∧ t { nx := fun _ H' => Q .non H', rt := Q } (start N vs) H) :
    FnOk P w K mg base CX (k + 1) f (PySem.W.fnOf name qual params body scope dV kV doc pm an cdv ct) ps sp := by
  refine ⟨len, fun A outer s H args us vs Q E hr e0 hb r hsp => ?_⟩
  have hl := len _ _ _ _ hsp
  have KX : K.In s.heap := e0.mod.kin.keeps fun b o e => (e0.bs b o e).1
  have lim : s.heap.NoLimit := e0.mod.nolimit.keeps fun b o e => (e0.bs b o e).1
  have hkind : ∀ y ∈ ps.zip us, scope.names.lookup y.1 = some .local ∨ (scope.names.lookup y.1 = some .cell ∧ ((cellsFrom (s.heap.objs.size + 1) scope.names []).lookup y.1).isSome = true) := fun ⟨n, v⟩ hy => by
    rcases S.par n (List.of_mem_zip hy).1 with q | q
    · exact .inl q
    · exact .inr ⟨q, PySem.W.cellsFrom_some _ _ _ (.inl q)⟩
  refine codeAny_call_function hr.depth (KX _ _ lk) rfl S.co S.gen rfl (PySem.W.codeRec_of KX hcd) (hb _ _ _ _ ?_)
  refine wpAny_newFunctionEnv_cells S.kind hkind fun env he s1 x => ?_
  subst he
  refine ⟨lim.keeps x.toInCall.keep, codeAny_func ?_⟩
  obtain ⟨t, ht, hq⟩ := hbody A outer s H vs Q E (hr.deeper _) hsp
  have I : Inv (cxOf CX P w K mg base N qual scope f cdv A outer s H E) [] (start N vs) H s1 := inv_start S hr.hd e0 hl r x
  refine wpAny_mono (ht [] s1 (start N vs) H _ I hq) (fun fl s' hs => ?_) fun e s' hs => hs
  have fin : ∀ {σ' : St} {H' : Hp} {v : V} {u : Value}, Inv (cxOf CX P w K mg base N qual scope f cdv A outer s H E) [] σ' H' s' → RelV v u → Q v H' → CE outer P w H s Q u s' :=
    fun {σ' H' v u} J rv q => ⟨v, H', J.os, J.bare, J.base, J.hok, rv, q⟩
  cases fl with
  | ret u =>
    obtain ⟨v, σ', H', J, rv, q⟩ := hs
    exact fin J rv q
  | next =>
    obtain ⟨σ', H', J, q⟩ := hs
    exact fin (v := V.non) (u := Value.none) J rfl q
  | brk =>
    obtain ⟨_, _, _, q⟩ := hs
    exact False.elim q
  | cont =>
    obtain ⟨_, _, _, q⟩ := hs
    exact False.elim q
end L2
namespace L2
open PySem PySem.Spec PyProof.Rows
section
variable {X : Cx} {x : Str} {p pos : Pos} {e : Expr} {es : List Expr} {t : TA} {id T : String} {r : List V → Hp → VK → Prop}
def tCB (r : List V → Hp → VK → Prop) (t : TA) : TE := fun σ H Q => t σ H fun vs H1 => r vs H1 Q
theorem pe_callB (hc : CallR X (.builtin id) r) (hg : Gl X x) (hm : X.mg x = none) (hv : bootBuiltins x = some (.builtin id)) (ha : PA X (e :: es) t) (hn : x ≠ "__name__" := by decide) (hdb : (x == ("__debug__" : Str)) = false := by decide)
    (he : starEach (e :: es) X.env = (false, eval e X.env) :: starEach es X.env := by rfl) (hpl : (backTo pos (starEach es X.env)).any (·.1) = false := by rfl) : PE X (.Call (.Name x p) (e :: es) [] pos) (tCB r t) := by
  intro pins s σ H Q I h
  refine wpAny_Call_Name_kw (ld_blt I hg hm hv ?_ hn hdb)
  exact PyProof.Rows.callWith_builtin1 (thn (ha pos pins s σ H _ I h) fun us s1 ⟨vs, H1, I1, r1, q1⟩ => hc pins s1 σ H1 vs us Q I1 r1 q1) he hpl
theorem pe_callTy (hc : CallR X (.type T) r) (hg : Gl X x) (hm : X.mg x = none) (hv : bootBuiltins x = some (.type T)) (ha : PA X (e :: es) t) (hn : x ≠ "__name__" := by decide) (hdb : (x == ("__debug__" : Str)) = false := by decide)
    (he : starEach (e :: es) X.env = (false, eval e X.env) :: starEach es X.env := by rfl) (hpl : (backTo pos (starEach es X.env)).any (·.1) = false := by rfl) : PE X (.Call (.Name x p) (e :: es) [] pos) (tCB r t) := by
  intro pins s σ H Q I h
  refine wpAny_Call_Name_kw (ld_blt I hg hm hv ?_ hn hdb)
  exact PyProof.Rows.callWith_type1 (thn (ha pos pins s σ H _ I h) fun us s1 ⟨vs, H1, I1, r1, q1⟩ => hc pins s1 σ H1 vs us Q I1 r1 q1) he hpl
end
end L2
namespace HT
open PySem PyProof.Rows
section
open PySem.SeqAt
open PySem.AutoSeq1 (wpAny_loadPart')
open PySem.MeetsSeq PySem.MeetsSeq2 PySem.MeetsSeq3
end
section
variable {prog : Program} {w : World} {A : Around} {E : Value → Shared → Prop} {s : Shared}
theorem cat_tup {t b : Addr} {vs ws : List Value} {Q : Value → Shared → Prop} (ht : IsTup s.heap t vs.toArray) (hb : IsTup s.heap b ws.toArray) (hv : vs ≠ [])
    (h1 : ws = [] → Q (.ref t) s) (h2 : ws ≠ [] → Q (.ref s.heap.objs.size) { s with heap := s.heap.push { cls := .type "tuple", data := .seq (vs ++ ws).toArray } })
    (hsz : vs.length + ws.length ≤ sizeLine) : wpAny (model prog w) A (binaryOp .Add (.ref t) (.ref b)) Q E s := by
  obtain ⟨⟨cls, dd, data, sl⟩, ho, hc, n, hd⟩ := id ht
  obtain ⟨⟨cls2, dd2, data2, sl2⟩, ho2, hc2, n2, hd2⟩ := id hb
  simp only at hc hd hc2 hd2
  subst hc hd hc2 hd2
  have e : vs.toArray ++ ws.toArray = (vs ++ ws).toArray := by simp
  by_cases hw : ws = []
  · exact concat_meets ⟨_, ho, rfl⟩ ⟨_, ho2, rfl⟩ noFill_tuple_add seq_tuple_add PySem.F.slot_tuple_add PySem.F.entry_tuple_add (PySem.F.args_tuple_add_2 _ _)
      (tuple_addW1 t b vs.toArray ws.toArray n n2 dd dd2 sl sl2 (by simpa using hv) (by simp [hw])) ⟨ho, ho2, h1 hw⟩
  · refine concat_meets ⟨_, ho, rfl⟩ ⟨_, ho2, rfl⟩ noFill_tuple_add seq_tuple_add PySem.F.slot_tuple_add PySem.F.entry_tuple_add (PySem.F.args_tuple_add_2 _ _)
      (tuple_addW2 t b vs.toArray ws.toArray n n2 dd dd2 sl sl2 (by simpa using hv) (by simpa using hw) (by rw [List.size_toArray, List.size_toArray]; exact hsz)) ⟨ho, ho2, ?_⟩
    rw [e]
    exact h2 hw
def sIx (n d : Nat) : Option Int → Nat
  | none => d
  | some v => if v < 0 then (v + (n : Int)).toNat else min v.toNat n
theorem sIx_nat (n d k : Nat) : sIx n d (some (k : Int)) = min k n := by
  show (if (k : Int) < 0 then ((k : Int) + (n : Int)).toNat else min (k : Int).toNat n) = min k n
  rw [if_neg (by omega), Int.toNat_natCast]
theorem sIx_le (n d : Nat) (hd : d ≤ n) (o : Option Int) : sIx n d o ≤ n := by
  cases o with
  | none => exact hd
  | some v =>
    show (if v < 0 then (v + (n : Int)).toNat else min v.toNat n) ≤ n
    by_cases hv : v < 0
    · rw [if_pos hv]; omega
    · rw [if_neg hv]; exact Nat.min_le_right _ _
theorem clip_eq (v : Int) (n d : Nat) : (if v < 0 then max (v + (n : Int)) 0 else min v (n : Int)) = ((sIx n d (some v) : Nat) : Int) := by
  show (if v < 0 then max (v + (n : Int)) 0 else min v (n : Int)) = (((if v < 0 then (v + (n : Int)).toNat else min v.toNat n) : Nat) : Int)
  by_cases hv : v < 0
  · simp only [if_pos hv]; omega
  · simp only [if_neg hv]; omega
theorem adjust_gen (lo hi : Option Int) (n : Nat) : Builtin.Slice.sliceAdjust lo hi 1 (n : Int) = (((sIx n 0 lo : Nat) : Int), ((sIx n n hi : Nat) : Int)) := by
  have h1 : ¬ ((1 : Int) < 0) := by omega
  unfold Builtin.Slice.sliceAdjust
  simp only [h1, if_false]
  refine Prod.ext ?_ ?_
  · cases lo with
    | none => rfl
    | some v => exact clip_eq v n 0
  · cases hi with
    | none => rfl
    | some v => exact clip_eq v n n
theorem places_gen (i j : Nat) : Builtin.Slice.slicePlaces (i : Int) (j : Int) 1 = j - i := by
  unfold Builtin.Slice.slicePlaces
  have h1 : (1 : Int) > 0 := by omega
  simp only [h1, if_true, Int.ediv_one]
  split <;> omega
theorem slicePart_ {v : Value} {o : Option Int} {Q : Option Int → Shared → Prop} (p : IsPart v o) (h : Q o s) : wpAny (model prog w) A (Builtin.Slice.slicePartIndex v) Q E s := by
  cases p with
  | none => exact slicePart_none h
  | int i t => exact slicePart_int h
theorem sliceApplied_gen {sl : Addr} {vl vu : Value} {lo hi : Option Int} {n : Nat} {Q : Int × Int × Nat → Shared → Prop} (hs : s.heap.IsSliceOf sl vl vu .none) (pl : IsPart vl lo) (pu : IsPart vu hi)
    (h : Q (((sIx n 0 lo : Nat) : Int), 1, sIx n n hi - sIx n 0 lo) s) : wpAny (model prog w) A (Builtin.Slice.sliceApplied (.ref sl) (pure (n : Int))) Q E s := by
  obtain ⟨os, hos, hcs, hds⟩ := id hs
  unfold Builtin.Slice.sliceApplied Builtin.Slice.sliceFields
  refine wpAny_bind (wpAny_bind (wpAny_field hos hds (x := vl) rfl (wpAny_bind (wpAny_field hos hds (x := vu) rfl (wpAny_bind (wpAny_field hos hds (x := .none) rfl (wpAny_pure ?_)))))))
  refine wpAny_bind (slicePart_none ?_)
  show wpAny _ _ (if ((1 : Int) == 0) = true then _ else _) _ _ s
  rw [if_neg (by decide)]
  refine wpAny_bind (slicePart_ pl (wpAny_bind (slicePart_ pu (wpAny_bind (wpAny_pure ?_)))))
  show wpAny _ _ (match Builtin.Slice.sliceAdjust lo hi 1 (n : Int) with | (lo, hi) => pure (lo, (1 : Int), Builtin.Slice.slicePlaces lo hi 1)) _ _ s
  rw [adjust_gen lo hi n]
  show wpAny _ _ (pure (((sIx n 0 lo : Nat) : Int), (1 : Int), Builtin.Slice.slicePlaces ((sIx n 0 lo : Nat) : Int) ((sIx n n hi : Nat) : Int) 1)) _ _ s
  rw [places_gen]
  exact wpAny_pure h
theorem pick_gen (xs : Array Value) (i k : Nat) : ((List.range k).filterMap fun (m : Nat) => xs[((i : Int) + (m : Int) * 1).toNat]?).toArray = ((xs.toList.drop i).take k).toArray := by
  have e : (fun (m : Nat) => xs[((i : Int) + (m : Int) * 1).toNat]?) = fun m => xs[i + m]? := by
    funext m
    have : ((i : Int) + (m : Int) * 1).toNat = i + m := by omega
    rw [this]
  rw [e]
  have := pick_run xs i k
  rw [List.filterMap_map] at this
  have e2 : ((fun x => xs[x]?) ∘ fun x => i + x) = fun m => xs[i + m]? := rfl
  rw [e2] at this
  rw [this]
theorem getItem_tuple_cut {t sl : Addr} {items : Array Value} {vl vu : Value} {lo hi : Option Int} {Q : Value → Shared → Prop} (ht : IsTup s.heap t items) (hs : s.heap.IsSliceOf sl vl vu .none) (pl : IsPart vl lo) (pu : IsPart vu hi)
    (hw : ¬ (sIx items.size 0 lo = 0 ∧ sIx items.size items.size hi = items.size))
    (h : Q (.ref s.heap.objs.size) { s with heap := s.heap.push { cls := .type "tuple", data := .seq ((items.toList.drop (sIx items.size 0 lo)).take (sIx items.size items.size hi - sIx items.size 0 lo)).toArray } })
    (hsz : items.size ≤ sizeLine) : wpAny (model prog w) A (getItem (.ref t) (.ref sl)) Q E s := by
  have htake : sizeOk (.seq ((items.toList.drop (sIx items.size 0 lo)).take (sIx items.size items.size hi - sIx items.size 0 lo)).toArray) := by
    show ((items.toList.drop (sIx items.size 0 lo)).take (sIx items.size items.size hi - sIx items.size 0 lo)).toArray.size ≤ sizeLine
    rw [List.size_toArray, List.length_take, List.length_drop, Array.length_toList]
    omega
  have hj : sIx items.size items.size hi ≤ items.size := sIx_le _ _ (Nat.le_refl _) hi
  obtain ⟨os, hos, hcs, hds⟩ := id hs
  have hTs : s.TypeIs (.ref sl) "slice" := ⟨os, hos, hcs⟩
  unfold getItem
  try with_reducible refine wpAny_holding ?_
  first | refine wpAny_bind (wpAny_pure ?_) | skip
  refine wpAny_bind (wpAny_sequenceKey ht.typeIs (by decide) ?_)
  refine wpAny_bind (wpAny_callSpecial?_slot (name := Str.ofString "__getitem__") ht.typeIs PyProof.Rows.slot_tuple_getitem
    (wpAny_call_entry PyProof.Rows.slot_tuple_getitem ht.typeIs entry_tuple_getitem ?_ (args_tuple_getitem _ _)))
  show wpAny _ _ (Builtin.Tuple.tupleItemsOf (.ref t) >>= _) _ _ s
  refine wpAny_bind (tupleItemsOf_ ht ?_)
  refine wpAny_bind (wpAny_typeOf hTs ?_)
  rw [if_pos (by decide)]
  refine wpAny_bind (sliceApplied_gen hs pl pu ?_)
  have hno : ¬ ((((sIx items.size 0 lo : Nat) : Int) == 0 && (1 : Int) == 1 && (sIx items.size items.size hi - sIx items.size 0 lo) == items.size) = true) := by
    intro q
    rw [Bool.and_eq_true, Bool.and_eq_true] at q
    have q1 : ((sIx items.size 0 lo : Nat) : Int) = 0 := eq_of_beq q.1.1
    have q2 : sIx items.size items.size hi - sIx items.size 0 lo = items.size := eq_of_beq q.2
    exact hw ⟨by omega, by omega⟩
  show wpAny _ _ (if (((sIx items.size 0 lo : Nat) : Int) == 0 && (1 : Int) == 1 && (sIx items.size items.size hi - sIx items.size 0 lo) == items.size) = true then _ else _) _ _ s
  rw [if_neg hno, pick_gen]
  first
    | exact wpAny_bind (m := Builtin.Tuple.tupleExact _) (wpAny_newObj_type (wpAny_pure ⟨_, rfl, wpAny_pure h⟩) htake)
    | exact wpAny_bind (m := Builtin.Tuple.tupleExact _) (wpAny_newObj_type (wpAny_bind (wpAny_pure (wpAny_pure ⟨_, rfl, wpAny_pure h⟩))) htake)
    | exact wpAny_bind (wpAny_bind (m := Builtin.Tuple.tupleExact _) (wpAny_newObj_type (wpAny_pure (wpAny_pure ⟨_, rfl, wpAny_pure h⟩)) htake))
    | exact wpAny_bind (wpAny_bind (m := Builtin.Tuple.tupleExact _) (wpAny_newObj_type (wpAny_pure ⟨_, rfl, wpAny_pure h⟩) htake))
end
end HT
namespace L2
open PySem PySem.Spec PyProof.Rows
abbrev TO := St → Hp → (Option Int → Hp → Prop) → Prop
def PO (X : Cx) (e : Option Expr) (t : TO) : Prop :=
  ∀ (pins : List (Addr × Obj)) (s : Shared) (σ : St) (H : Hp) (Q : Option Int → Hp → Prop), Inv X pins σ H s → t σ H Q →
    wpAny (model X.prog X.w) X.A (evalPart e X.env) (fun u s' => ∃ o H', Inv X pins σ H' s' ∧ IsPart u o ∧ Q o H') X.xe s
def tNoPart : TO := fun _ H Q => Q none H
def tPart (t : TE) : TO := fun σ H Q => t σ H fun x H1 => ∃ i, x = .int i ∧ Q (some i) H1
section
variable {X : Cx} {e : Expr} {te : TE} {lo hi : Option Expr} {tl th : TO} {pos p2 : Pos}
theorem po_none : PO X none tNoPart := by
  intro pins s σ H Q I h
  rw [evalPart_none]
  exact wpAny_pure ⟨none, H, I, .none, h⟩
theorem po_some (h : PE X e te) : PO X (some e) (tPart te) := by
  intro pins s σ H Q I hw
  rw [evalPart_some]
  refine thn (h pins s σ H _ I hw) fun u s1 ⟨x, H1, I1, r1, q1⟩ => ?_
  obtain ⟨i, rfl, q⟩ := q1
  obtain ⟨t, rfl⟩ := r1
  exact ⟨some i, H1, I1, .int i t, q⟩
def SlR (X : Cx) (r : V → Option Int → Option Int → Hp → VK → Prop) : Prop :=
  ∀ (pins : List (Addr × Obj)) (s : Shared) (σ : St) (H : Hp) (x : V) (v vl vu : Value) (lo hi : Option Int) (sl : Addr) (Q : VK), Inv X pins σ H s → RelV x v → s.heap.IsSliceOf sl vl vu .none → IsPart vl lo → IsPart vu hi → r x lo hi H Q →
    ∃ T id, typeLookup (.type T) "__getitem__" = pure (some (.builtin id)) ∧ s.TypeIs v T ∧ wpAny (model X.prog X.w) X.A (getItem v (.ref sl)) (EP X pins σ Q) X.xe s
theorem SlR.or {r r' : V → Option Int → Option Int → Hp → VK → Prop} (h : SlR X r) (h' : SlR X r') : SlR X (fun x lo hi H Q => r x lo hi H Q ∨ r' x lo hi H Q) := by
  intro pins s σ H x v vl vu lo hi sl Q I rx hs pl pu q
  rcases q with q | q
  · exact h pins s σ H x v vl vu lo hi sl Q I rx hs pl pu q
  · exact h' pins s σ H x v vl vu lo hi sl Q I rx hs pl pu q
def tSl (r : V → Option Int → Option Int → Hp → VK → Prop) (te : TE) (tl th : TO) : TE := fun σ H Q => te σ H fun x H1 => tl σ H1 fun l H2 => th σ H2 fun u H3 => r x l u H3 Q
theorem pe_slice {r : V → Option Int → Option Int → Hp → VK → Prop} (hr : SlR X r) (he : PE X e te) (hl : PO X lo tl) (hu : PO X hi th) : PE X (.Subscript e (.Slice lo hi none p2) pos) (tSl r te tl th) := by
  intro pins s σ H Q I h
  refine Subscript_ (thn (he pins s σ H _ I h) fun v s1 ⟨x, H1, I1, r1, q1⟩ => ?_)
  refine wpAny_Slice (thn (hl pins s1 σ H1 _ I1 q1) fun vl s2 ⟨l, H2, I2, pl, q2⟩ => thn (hu pins s2 σ H2 _ I2 q2) fun vu s3 ⟨u, H3, I3, pu, q3⟩ => ?_)
  rw [evalPart_none]
  refine wpAny_pure ?_
  have I4 : Inv X pins σ H3 { s3 with heap := s3.heap.push { cls := .type "slice", data := .fields #[vl, vu, .none] } } := I3.kept (t' := s3.toks) fun b ob q => Heap.get?_push_of_some _ q
  obtain ⟨T, id, hT, ht, hg⟩ := hr pins { s3 with heap := s3.heap.push { cls := .type "slice", data := .fields #[vl, vu, .none] } } σ H3 x v vl vu l u s3.heap.objs.size Q I4 r1 (Heap.IsSliceOf.new ..) pl pu q3
  show wpAny (model X.prog X.w) X.A (subscriptTail e (.Slice lo hi none p2) v (.ref s3.heap.objs.size)) (EP X pins σ Q) X.xe { s3 with heap := s3.heap.push { cls := .type "slice", data := .fields #[vl, vu, .none] } }
  exact tail_any (ops := [.ref s3.heap.objs.size, v]) ht hT hg (by with_unfolding_all rfl)
def cutV (xs : List V) (lo hi : Option Int) : List V := (xs.drop (HT.sIx xs.length 0 lo)).take (HT.sIx xs.length xs.length hi - HT.sIx xs.length 0 lo)
theorem cutV_length (xs : List V) (lo hi : Option Int) : (cutV xs lo hi).length ≤ xs.length := by
  unfold cutV
  rw [List.length_take, List.length_drop]
  omega
def rSlT (K : PySem.W.Frag) : V → Option Int → Option Int → Hp → VK → Prop := fun x lo hi H Q => ∃ a xs, x = .ref a ∧ SqT K H a xs ∧
  ¬ (HT.sIx xs.length 0 lo = 0 ∧ HT.sIx xs.length xs.length hi = xs.length) ∧ ∀ p, H p = none → Q (.ref p) (upd H p (.tup (cutV xs lo hi)))
theorem sl_tup : SlR X (rSlT X.K) := by
  intro pins s σ H x v vl vu lo hi sl Q I rx hs pl pu h
  obtain ⟨a, xs, rfl, hx, hw, q⟩ := h
  cases rx
  obtain ⟨its, r, ht, hz⟩ := I.tuple hx
  have hlen : its.toArray.size = xs.length := by rw [List.size_toArray]; exact r.length.symm
  refine ⟨"tuple", _, PyProof.Rows.slot_tuple_getitem.lookup, ht.typeIs, ?_⟩
  refine HT.getItem_tuple_cut ht hs pl pu (by rw [hlen]; exact hw) ?_ (by rw [hlen]; exact hz)
  rw [hlen]
  refine ⟨.ref s.heap.objs.size, _, I.laid (t' := s.toks) (o := .tup (cutV xs lo hi)) (fun b ob q => Heap.get?_push_of_some _ q) (Nat.le_refl _) ?_, rfl, q _ (I.hok.fresh (Nat.le_refl _))⟩
  exact ⟨Nat.le_trans (cutV_length xs lo hi) hz, _, (r.drop (HT.sIx xs.length 0 lo)).take (HT.sIx xs.length xs.length hi - HT.sIx xs.length 0 lo), IsTup.new _ _⟩
def rCatT (K : PySem.W.Frag) : R2 := fun x y H Q => ∃ a b xs ys, x = .ref a ∧ y = .ref b ∧ SqT K H a xs ∧ SqT K H b ys ∧ xs ≠ [] ∧ xs.length + ys.length ≤ sizeLine ∧
  (ys = [] → Q (.ref a) H) ∧ (ys ≠ [] → ∀ p, H p = none → Q (.ref p) (upd H p (.tup (xs ++ ys))))
theorem Vals.nil_iff {xs : List V} {us : List Value} (r : Vals xs us) : us = [] ↔ xs = [] := by
  cases r with
  | nil => simp
  | cons _ _ => simp
theorem op_catT : OpR X (binaryOp .Add) (rCatT X.K) := by
  intro pins s σ H x y v u Q I rx ry h
  obtain ⟨a, b, xs, ys, rfl, rfl, ha, hb, hx, hz, q1, q2⟩ := h
  cases rx
  cases ry
  obtain ⟨its, r1, p1, _⟩ := I.tuple ha
  obtain ⟨its2, r2, p2, _⟩ := I.tuple hb
  refine HT.cat_tup p1 p2 (fun z => hx (r1.nil_iff.mp z)) (fun z => ⟨.ref a, H, I, rfl, q1 (r2.nil_iff.mp z)⟩) (fun z => ?_) (by rw [← r1.length, ← r2.length]; exact hz)
  refine ⟨.ref s.heap.objs.size, _, I.laid (t' := s.toks) (o := .tup (xs ++ ys)) (fun b ob q => Heap.get?_push_of_some _ q) (Nat.le_refl _) ?_, rfl, q2 (fun w => z (r2.nil_iff.mpr w)) _ (I.hok.fresh (Nat.le_refl _))⟩
  exact ⟨by rw [List.length_append]; exact hz, _, r1.append r2, IsTup.new _ _⟩
end
end L2
namespace L2
open PySem PySem.Spec PyProof.Rows
def ixN (n : Nat) (i : Int) : Option Nat := if 0 ≤ i then (if i < n then some i.toNat else none) else if -(n : Int) ≤ i then some (i + n).toNat else none
def atI {α : Type} (xs : List α) (i : Int) : Option α := (ixN xs.length i).bind fun j => xs[j]?
theorem ixN_seq {n : Nat} {i : Int} {j : Nat} (h : ixN n i = some j) : seqIndex? i n = some j ∧ j < n ∧ -(n : Int) ≤ i ∧ i < n := by
  unfold ixN at h
  by_cases h0 : 0 ≤ i
  · rw [if_pos h0] at h
    by_cases h1 : i < n
    · rw [if_pos h1] at h
      have e : i.toNat = j := Option.some.inj h
      exact ⟨by rw [seqIndex_of h0 h1, e], by omega, by omega, h1⟩
    · rw [if_neg h1] at h; cases h
  · rw [if_neg h0] at h
    by_cases h1 : -(n : Int) ≤ i
    · rw [if_pos h1] at h
      have e : (i + n).toNat = j := Option.some.inj h
      exact ⟨by rw [seqIndex_neg (by omega) h1, e], by omega, h1, by omega⟩
    · rw [if_neg h1] at h; cases h
theorem atI_get {α : Type} {xs : List α} {i : Int} {v : α} (h : atI xs i = some v) : ∃ j, seqIndex? i xs.length = some j ∧ xs[j]? = some v ∧ j < xs.length ∧ -(xs.length : Int) ≤ i ∧ i < xs.length := by
  unfold atI at h
  cases e : ixN xs.length i with
  | none => rw [e] at h; cases h
  | some j =>
    rw [e] at h
    obtain ⟨h1, h2, h3, h4⟩ := ixN_seq e
    exact ⟨j, h1, h, h2, h3, h4⟩
def PlainIx (b : Expr) : Prop := ∀ o i, subscripted b false o i = operate [o, i] (getItem o i)
def IxR (X : Cx) (r : R2) : Prop :=
  ∀ (value slice : Expr) (pins : List (Addr × Obj)) (s : Shared) (σ : St) (H : Hp) (x y : V) (v u : Value) (Q : VK), Inv X pins σ H s → RelV x v → RelV y u → r x y H Q →
    subscripted slice false v u = operate [v, u] (getItem v u) → wpAny (model X.prog X.w) X.A (subscriptTail value slice v u) (EP X pins σ Q) X.xe s
def MtR (X : Cx) (id : String) (r : V → List V → Hp → VK → Prop) : Prop :=
  ∀ (pins : List (Addr × Obj)) (s : Shared) (σ : St) (H : Hp) (x : V) (xs : List V) (v : Value) (us : List Value) (Q : VK), Inv X pins σ H s → RelV x v → Vals xs us → r x xs H Q →
    wpAny (model X.prog X.w) X.A (call (.builtin id) (v :: us)) (EP X pins σ Q) X.xe s
section
variable {X : Cx} {a b : Expr} {ta tb : TE} {pos : Pos}
theorem IxR.or {r r' : R2} (h : IxR X r) (h' : IxR X r') : IxR X (fun x y H Q => r x y H Q ∨ r' x y H Q) := by
  intro value slice pins s σ H x y v u Q I rx ry q hs
  rcases q with q | q
  · exact h value slice pins s σ H x y v u Q I rx ry q hs
  · exact h' value slice pins s σ H x y v u Q I rx ry q hs
theorem MtR.or {id : String} {r r' : V → List V → Hp → VK → Prop} (h : MtR X id r) (h' : MtR X id r') : MtR X id (fun x xs H Q => r x xs H Q ∨ r' x xs H Q) := by
  intro pins s σ H x xs v us Q I rx rs q
  rcases q with q | q
  · exact h pins s σ H x xs v us Q I rx rs q
  · exact h' pins s σ H x xs v us Q I rx rs q
theorem pe_ix {r : R2} (hr : IxR X r) (ha : PE X a ta) (hb : PE X b tb) (hs : PlainIx b) : PE X (.Subscript a b pos) (tOp r ta tb) := by
  intro pins s σ H Q I h
  exact Subscript_ (binT ha hb I h fun v u s2 x y H2 I2 rx ry q => hr a b pins s2 σ H2 x y v u Q I2 rx ry q (hs _ _))
def rIxL (K : PySem.W.Frag) : R2 := fun x y H Q => ∃ p xs i v, x = .ref p ∧ y = .int i ∧ SqL K H p xs ∧ atI xs i = some v ∧ Q v H
def rIxT (K : PySem.W.Frag) : R2 := fun x y H Q => ∃ p xs i v, x = .ref p ∧ y = .int i ∧ SqT K H p xs ∧ atI xs i = some v ∧ Q v H
def rIxS : R2 := fun x y H Q => ∃ z i c, x = .str z ∧ y = .int i ∧ z.length ≤ sizeLine ∧ atI z.cps.toList i = some c ∧ Q (.str ⟨#[c]⟩) H
theorem ix_list : IxR X (rIxL X.K) := by
  intro value slice pins s σ H x y v u Q I rx ry h hs
  obtain ⟨p, xs, i, z, rfl, rfl, hq, he, q⟩ := h
  cases rx
  obtain ⟨t, rfl⟩ := ry
  obtain ⟨its, r, pl, hz⟩ := I.list hq
  obtain ⟨j, h1, h2, h3, h4, h5⟩ := atI_get he
  obtain ⟨w, ew, rw'⟩ := r.get h2
  have hl := r.length
  have hn := line63
  have fin : EP X pins σ Q w s := ⟨z, H, I, rw', q⟩
  by_cases h0 : 0 ≤ i
  · have hj : i.toNat = j := by
      rw [seqIndex_of h0 h5] at h1
      exact Option.some.inj h1
    exact item_listR pl.isList h0 (by omega) (by rw [hj]; simpa using ew) fin hs
  · have hj : (i + (its.toArray.size : Int)).toNat = j := by
      rw [seqIndex_neg (by omega) h4] at h1
      rw [List.size_toArray, ← hl]
      exact Option.some.inj h1
    exact subscriptTail_builtinR (x := w) pl.isList.typeIs slot_list_getitem.lookup
      (wpAny_getItem_list_neg (Q := fun r s' => r = w ∧ EP X pins σ Q r s') pl.isList (by omega) (by rw [List.size_toArray] <;> omega) (by omega) (by rw [hj]; simpa using ew) ⟨rfl, fin⟩) hs
theorem ix_tup : IxR X (rIxT X.K) := by
  intro value slice pins s σ H x y v u Q I rx ry h hs
  obtain ⟨p, xs, i, z, rfl, rfl, hq, he, q⟩ := h
  cases rx
  obtain ⟨t, rfl⟩ := ry
  obtain ⟨its, r, pl, hz⟩ := I.tuple hq
  obtain ⟨j, h1, h2, h3, h4, h5⟩ := atI_get he
  obtain ⟨w, ew, rw'⟩ := r.get h2
  have hl := r.length
  have hn := line63
  have fin : EP X pins σ Q w s := ⟨z, H, I, rw', q⟩
  exact subscriptTail_builtinR (x := w) pl.typeIs slot_tuple_getitem.lookup
    (getItem_tuple (j := j) (Q := fun r s' => r = w ∧ EP X pins σ Q r s') pl (by omega) (by omega) (by rw [List.size_toArray, ← hl]; exact h1) (by simpa using ew) ⟨rfl, fin⟩) hs
theorem ix_str : IxR X rIxS := by
  intro value slice pins s σ H x y v u Q I rx ry h hs
  obtain ⟨z, i, c, rfl, rfl, hz, he, q⟩ := h
  obtain ⟨t, rfl⟩ := rx
  obtain ⟨t', rfl⟩ := ry
  obtain ⟨j, h1, h2, h3, h4, h5⟩ := atI_get he
  have hl : z.cps.toList.length = z.length := by simp [Str.length]
  rw [hl] at h1 h4 h5
  have hn := line63
  exact tail_any (typeIs_str s z t) slot_str_getitem.lookup (getItem_str (c := c) (by
    have e1 : decide (i < -(2 ^ 63 : Int)) = false := decide_eq_false (by omega)
    have e2 : decide (i ≥ 2 ^ 63) = false := decide_eq_false (by omega)
    rw [e1, e2, Bool.or_false]) (by rw [h1]; simpa using h2) ⟨.str ⟨#[c]⟩, H, I.tok _, ⟨_, rfl⟩, q⟩) hs
def rIx (K : PySem.W.Frag) : R2 := fun x y H Q => rIxL K x y H Q ∨ rIxT K x y H Q ∨ rIxS x y H Q
theorem ix_seq : IxR X (rIx X.K) := ix_list.or (ix_tup.or ix_str)
theorem mapSeq_set (its : List Value) (n j : Nat) (u : Value) : Obj.mapSeq (·.setIfInBounds j u) { cls := .type "list", data := .seq its.toArray n } = { cls := .type "list", data := .seq (its.set j u).toArray n } := by
  simp [Obj.mapSeq]
theorem Inv.lst {pins : List (Addr × Obj)} {σ : St} {H : Hp} {s : Shared} {p : Addr} {xs : List V} (I : Inv X pins σ H s) (h : H p = some (.lst xs)) :
    ∃ (its : List Value) (n : Nat), Vals xs its ∧ s.heap.get? p = some { cls := .type "list", data := .seq its.toArray n } ∧ xs.length ≤ sizeLine := by
  obtain ⟨z, its, n, r, e⟩ := I.hok p _ h
  exact ⟨its, n, r, e, z⟩
theorem Inv.lstUpd {pins : List (Addr × Obj)} {σ : St} {H : Hp} {s : Shared} {p : Addr} {xs ys : List V} {its its' : List Value} {n n' : Nat} {f : Obj → Obj} (I : Inv X pins σ H s) (h : H p = some (.lst xs))
    (ho : s.heap.get? p = some { cls := .type "list", data := .seq its.toArray n }) (hf : f { cls := .type "list", data := .seq its.toArray n } = { cls := .type "list", data := .seq its'.toArray n' }) (r : Vals ys its') (hz : ys.length ≤ sizeLine) (t : Nat) :
    Inv X pins σ (upd H p (.lst ys)) { s with heap := s.heap.update p f, toks := t } := by
  have e : (s.heap.update p f).get? p = some { cls := .type "list", data := .seq its'.toArray n' } := by
    rw [Heap.get?_update_self f ho (by rw [hf] <;> rfl), hf]
  refine I.write (x := p) (e := p) (by rw [h]; trivial) (.inl rfl) (fun b u hb q => (Heap.get?_update_other _ _ (Ne.symm hb)).trans q) ⟨_, e⟩ ?_
  exact ⟨hz, its', n', r, e⟩
def rSetL : V → V → V → Hp → (Hp → Prop) → Prop := fun o i v H Q => ∃ p xs k j, o = .ref p ∧ i = .int k ∧ H p = some (.lst xs) ∧ ixN xs.length k = some j ∧ Q (upd H p (.lst (xs.set j v)))
theorem set_list : PSet X rSetL := by
  intro pins s σ H o i v ov iv u Q I ro ri rv h
  obtain ⟨p, xs, k, j, rfl, rfl, hp, hj, q⟩ := h
  cases ro
  obtain ⟨t, rfl⟩ := ri
  obtain ⟨its, n, r, ho, hz⟩ := I.lst hp
  obtain ⟨h1, h2, h3, h4⟩ := ixN_seq hj
  have hl := r.length
  have hn := line63
  have I' : Inv X pins σ (upd H p (.lst (xs.set j v))) { s with heap := s.heap.update p (Obj.mapSeq (·.setIfInBounds j u)) } :=
    I.lstUpd hp ho (mapSeq_set its n j u) (r.set rv j) (by rw [List.length_set]; exact hz) s.toks
  by_cases h0 : 0 ≤ k
  · have hk : k.toNat = j := by
      rw [seqIndex_of h0 h4] at h1
      exact Option.some.inj h1
    exact PySem.W.ki_setAt ho h0 (by omega) (by rw [List.size_toArray, ← hl]; exact h4) (by rw [hk]; exact ⟨_, I', q⟩)
  · have hk : (k + (its.toArray.size : Int)).toNat = j := by
      rw [seqIndex_neg (by omega) h3] at h1
      rw [List.size_toArray, ← hl]
      exact Option.some.inj h1
    exact PySem.W.ki_setBack ho (by omega) (by rw [List.size_toArray, ← hl]; exact h3) (by omega) (by rw [hk]; exact ⟨_, I', q⟩)
theorem slice_bounds (lo hi : Option Int) (n : Nat) : (sliceBounds lo hi none n).1 = ((HT.sIx n 0 lo : Nat) : Int) ∧ (sliceBounds lo hi none n).2.1 = ((HT.sIx n n hi : Nat) : Int) ∧ (sliceBounds lo hi none n).2.2 = 1 := by
  refine ⟨?_, ?_, rfl⟩
  · cases lo with
    | none => simp [sliceBounds, HT.sIx]
    | some i =>
      simp only [sliceBounds, HT.sIx, Option.getD_none, show (1 : Int) > 0 by decide, if_true]
      by_cases h : i < 0
      · simp only [h, if_true] <;> omega
      · simp only [h, if_false] <;> omega
  · cases hi with
    | none => simp [sliceBounds, HT.sIx]
    | some i =>
      simp only [sliceBounds, HT.sIx, Option.getD_none, show (1 : Int) > 0 by decide, if_true]
      by_cases h : i < 0
      · simp only [h, if_true] <;> omega
      · simp only [h, if_false] <;> omega
theorem slicePick_cut (its : List Value) (lo hi : Option Int) : slicePick its.toArray lo hi none = ((its.drop (HT.sIx its.length 0 lo)).take (HT.sIx its.length its.length hi - HT.sIx its.length 0 lo)).toArray := by
  obtain ⟨h1, h2, h3⟩ := slice_bounds lo hi its.toArray.size
  unfold slicePick
  rw [h1, h2, h3]
  simp only [sliceRange_one, pick_run, List.size_toArray] <;> rfl
def rSlL (K : PySem.W.Frag) : V → Option Int → Option Int → Hp → VK → Prop := fun x lo hi H Q => ∃ a xs, x = .ref a ∧ SqL K H a xs ∧ ∀ p, H p = none → Q (.ref p) (upd H p (.lst (cutV xs lo hi)))
theorem sl_list : SlR X (rSlL X.K) := by
  intro pins s σ H x v vl vu lo hi sl Q I rx hs pl pu h
  obtain ⟨a, xs, rfl, hx, q⟩ := h
  cases rx
  obtain ⟨its, r, ht, hz⟩ := I.list hx
  have hlen := r.length
  refine ⟨"list", _, slot_list_getitem.lookup, ht.isList.typeIs, ?_⟩
  refine wpAny_getItem_list_slice ht.isList hs pl pu .none (by simp) ?_ (by rw [List.size_toArray] <;> omega)
  rw [slicePick_cut, ← hlen]
  refine ⟨.ref s.heap.objs.size, _, I.laid (t' := s.toks) (o := .lst (cutV xs lo hi)) (fun b ob q => Heap.get?_push_of_some _ q) (Nat.le_refl _) ?_, rfl, q _ (I.hok.fresh (Nat.le_refl _))⟩
  exact ⟨Nat.le_trans (cutV_length xs lo hi) hz, _, 0, (r.drop (HT.sIx xs.length 0 lo)).take (HT.sIx xs.length xs.length hi - HT.sIx xs.length 0 lo), Heap.get?_push_size _ rfl⟩
def flatV : V → Bool
  | .non => true
  | .bl _ => true
  | .int _ => true
  | .str _ => true
  | _ => false
def eqV : V → V → Bool
  | .non, .non => true
  | .bl a, .bl b => a == b
  | .bl a, .int b => (if a then 1 else 0) == b
  | .int a, .bl b => a == (if b then 1 else 0)
  | .int a, .int b => a == b
  | .str a, .str b => a == b
  | _, _ => false
theorem eqAt_V {A : Around} {s : Shared} {y x : V} {u v : Value} (ry : RelV y u) (rx : RelV x v) (fy : flatV y = true) (fx : flatV x = true) : SeqAt.EqAt A s u v (eqV y x) := by
  cases y with
  | non =>
    cases ry
    cases x with
    | non => cases rx; exact SeqAt.EqAt.same _
    | bl b => cases rx; exact SeqAt.EqAt.none_bool b
    | int b => obtain ⟨t, rfl⟩ := rx; exact SeqAt.EqAt.none_int b t
    | str b => obtain ⟨t, rfl⟩ := rx; exact SeqAt.EqAt.none_str b t
    | _ => exact absurd (show false = true from fx) Bool.false_ne_true
  | bl a =>
    cases ry
    cases x with
    | non => cases rx; exact SeqAt.EqAt.bool_none a
    | bl b => cases rx; exact SeqAt.EqAt.bool_bool a b
    | int b => obtain ⟨t, rfl⟩ := rx; exact SeqAt.EqAt.bool_int a b t
    | str b => obtain ⟨t, rfl⟩ := rx; exact SeqAt.EqAt.bool_str a b t
    | _ => exact absurd (show false = true from fx) Bool.false_ne_true
  | int a =>
    obtain ⟨t', rfl⟩ := ry
    cases x with
    | non => cases rx; exact SeqAt.EqAt.int_none a t'
    | bl b => cases rx; exact SeqAt.EqAt.int_bool a t' b
    | int b => obtain ⟨t, rfl⟩ := rx; exact SeqAt.EqAt.int_int a t' b t
    | str b => obtain ⟨t, rfl⟩ := rx; exact SeqAt.EqAt.int_str a t' b t
    | _ => exact absurd (show false = true from fx) Bool.false_ne_true
  | str a =>
    obtain ⟨t', rfl⟩ := ry
    cases x with
    | non => cases rx; exact SeqAt.EqAt.str_none a t'
    | bl b => cases rx; exact SeqAt.EqAt.str_bool a t' b
    | int b => obtain ⟨t, rfl⟩ := rx; exact SeqAt.EqAt.str_int a t' b t
    | str b => obtain ⟨t, rfl⟩ := rx; exact SeqAt.EqAt.str_str a t' b t
    | _ => exact absurd (show false = true from fx) Bool.false_ne_true
  | _ => exact absurd (show false = true from fy) Bool.false_ne_true
def eqU (x : V) (u : Value) : Bool := match u with
  | .none => eqV .non x
  | .bool b => eqV (.bl b) x
  | .int i _ => eqV (.int i) x
  | .str z _ => eqV (.str z) x
  | _ => false
theorem eqU_of {x y : V} {u : Value} (r : RelV y u) (f : flatV y = true) : eqU x u = eqV y x := by
  cases y with
  | non => cases r; rfl
  | bl b => cases r; rfl
  | int i => obtain ⟨t, rfl⟩ := r; rfl
  | str z => obtain ⟨t, rfl⟩ := r; rfl
  | _ => exact absurd (show false = true from f) Bool.false_ne_true
theorem any_eqU {x : V} : ∀ {xs : List V} {us : List Value}, Vals xs us → xs.all flatV = true → us.any (eqU x) = xs.any fun y => eqV y x
  | _, _, .nil, _ => rfl
  | y :: xs, u :: us, .cons r t, f => by
    rw [List.all_cons, Bool.and_eq_true] at f
    rw [List.any_cons, List.any_cons, eqU_of r f.1, any_eqU t f.2]
theorem mem_eqAt {A : Around} {s : Shared} {x : V} {v : Value} (rx : RelV x v) (fx : flatV x = true) : ∀ {xs : List V} {us : List Value}, Vals xs us → xs.all flatV = true → ∀ u ∈ us, SeqAt.EqAt A s u v (eqU x u)
  | _, _, .nil, _ => fun u hu => by cases hu
  | y :: xs, u :: us, .cons r t, f => fun u' hu => by
    rw [List.all_cons, Bool.and_eq_true] at f
    rcases List.mem_cons.mp hu with rfl | hu
    · rw [eqU_of r f.1]; exact eqAt_V r rx f.1 fx
    · exact mem_eqAt rx fx t f.2 u' hu
def inV (x : V) (xs : List V) : Bool := xs.any fun y => eqV y x
def rIn (K : PySem.W.Frag) (neg : Bool) : R2 := fun x y H Q => ∃ p xs, y = .ref p ∧ (SqL K H p xs ∨ SqT K H p xs) ∧ flatV x = true ∧ xs.all flatV = true ∧ Q (.bl (if neg then !inV x xs else inV x xs)) H
theorem op_in_seq : OpR X (compareOp .In) (rIn X.K false) := by
  intro pins s σ H x y v u Q I rx ry h
  obtain ⟨p, xs, rfl, hq, fx, fs, q⟩ := h
  cases ry
  rcases hq with hq | hq
  · obtain ⟨its, r, pl, hz⟩ := I.list hq
    refine SeqAt.in_listAt (eqU x) pl.isList (fun w hw => mem_eqAt rx fx r fs w (by simpa using hw)) ⟨.bl _, H, I, rfl, ?_⟩
    rw [show its.toArray.any (eqU x) = its.any (eqU x) by simp, any_eqU r fs]
    exact q
  · obtain ⟨its, r, pl, hz⟩ := I.tuple hq
    refine SeqAt.in_tupleAt (eqU x) pl (fun w hw => mem_eqAt rx fx r fs w (by simpa using hw)) ⟨.bl _, H, I, rfl, ?_⟩
    rw [show its.toArray.any (eqU x) = its.any (eqU x) by simp, any_eqU r fs]
    exact q
theorem op_notIn_seq : OpR X (compareOp .NotIn) (rIn X.K true) := by
  intro pins s σ H x y v u Q I rx ry h
  obtain ⟨p, xs, rfl, hq, fx, fs, q⟩ := h
  cases ry
  rcases hq with hq | hq
  · obtain ⟨its, r, pl, hz⟩ := I.list hq
    refine SeqAt.notIn_listAt (eqU x) pl.isList (fun w hw => mem_eqAt rx fx r fs w (by simpa using hw)) ⟨.bl _, H, I, rfl, ?_⟩
    rw [show its.toArray.any (eqU x) = its.any (eqU x) by simp, any_eqU r fs]
    exact q
  · obtain ⟨its, r, pl, hz⟩ := I.tuple hq
    refine SeqAt.notIn_tupleAt (eqU x) pl (fun w hw => mem_eqAt rx fx r fs w (by simpa using hw)) ⟨.bl _, H, I, rfl, ?_⟩
    rw [show its.toArray.any (eqU x) = its.any (eqU x) by simp, any_eqU r fs]
    exact q
theorem CallR.or {f : Value} {r r' : List V → Hp → VK → Prop} (h : CallR X f r) (h' : CallR X f r') : CallR X f (fun xs H Q => r xs H Q ∨ r' xs H Q) := by
  intro pins s σ H xs us Q I rs q
  rcases q with q | q
  · exact h pins s σ H xs us Q I rs q
  · exact h' pins s σ H xs us Q I rs q
theorem call_list_of : CallR X (.type "list") (fun xs H Q => ∃ p ys, xs = [.ref p] ∧ (SqL X.K H p ys ∨ SqT X.K H p ys) ∧ ∀ l, H l = none → Q (.ref l) (upd H l (.lst ys))) := by
  intro pins s σ H xs us Q I r h
  obtain ⟨p, ys, rfl, hq, q⟩ := h
  obtain ⟨u, rfl, rx⟩ := vals1 r
  cases rx
  have fin : ∀ (its : List Value), Vals ys its → ys.length ≤ sizeLine → ∀ (h' : Heap) (c' : Nat), (∀ b o', s.heap.get? b = some o' → h'.get? b = some o') →
      h'.get? s.heap.objs.size = some { cls := .type "list", dict := none, data := .seq its.toArray c', slots := #[] } → EP X pins σ Q (.ref s.heap.objs.size) { s with heap := h' } := fun its r' hz h' c' kp e =>
    ⟨.ref s.heap.objs.size, _, I.laid (t' := s.toks) kp (Nat.le_refl _) (show ObjOk X.prog X.w _ h' _ (.lst ys) from ⟨hz, its, c', r', e⟩), rfl, q _ (I.hok.fresh (Nat.le_refl _))⟩
  rcases hq with hq | hq
  · obtain ⟨its, r', pl, hz⟩ := I.list hq
    have hlen := r'.length
    obtain ⟨o, ho, hc, n, hd⟩ := pl.isList
    exact call_list_seq p (.inl rfl) ho hc hd (fun h' c' kp e => fin its r' hz h' c' kp e) (by simp only [List.size_toArray] <;> omega)
  · obtain ⟨its, r', pl, hz⟩ := I.tuple hq
    have hlen := r'.length
    obtain ⟨o, ho, hc, n, hd⟩ := pl
    exact call_list_seq p (.inr rfl) ho hc hd (fun h' c' kp e => fin its r' hz h' c' kp e) (by simp only [List.size_toArray] <;> omega)
theorem call_tuple_of : CallR X (.type "tuple") (fun xs H Q => ∃ p ys, xs = [.ref p] ∧ ((SqL X.K H p ys ∧ ∀ l, H l = none → Q (.ref l) (upd H l (.tup ys))) ∨ (SqT X.K H p ys ∧ Q (.ref p) H))) := by
  intro pins s σ H xs us Q I r h
  obtain ⟨p, ys, rfl, h⟩ := h
  obtain ⟨u, rfl, rx⟩ := vals1 r
  cases rx
  rcases h with ⟨hq, q⟩ | ⟨hq, q⟩
  · obtain ⟨its, r', pl, hz⟩ := I.list hq
    have hlen := r'.length
    refine call_tuple_list pl.isList (fun h' kp => ?_) (by simp only [List.size_toArray] <;> omega)
    have I1 : Inv X pins σ H { s with heap := h' } := I.kept (t' := s.toks) kp
    have I2 : Inv X pins σ (upd H h'.objs.size (.tup ys)) { s with heap := h'.push { cls := .type "tuple", data := .seq its.toArray } } :=
      I1.laid (t' := s.toks) (fun b o e => Heap.get?_push_of_some _ e) (Nat.le_refl _) (show ObjOk X.prog X.w _ _ _ (.tup ys) from ⟨hz, its, r', IsTup.new _ _⟩)
    exact ⟨.ref h'.objs.size, _, I2, rfl, q _ (I1.hok.fresh (Nat.le_refl _))⟩
  · obtain ⟨its, r', pl, hz⟩ := I.tuple hq
    exact call_tuple_same pl ⟨.ref p, H, I, rfl, q⟩
def tyV (K : PySem.W.Frag) (T : String) (x : V) (H : Hp) : Prop := match x with
  | .str _ => T = "str"
  | .int _ => T = "int"
  | .ref p => (T = "list" ∧ ∃ xs, SqL K H p xs) ∨ (T = "tuple" ∧ ∃ o, K.lookup p = some o ∧ o.cls = .type "tuple" ∧ o.dict = none) ∨
      (T = "dict" ∧ ((∃ kvs, H p = some (.dK kvs)) ∨ ∃ kvs, H p = some (.dT kvs))) ∨ (T = "set" ∧ ∃ S n, H p = some (.set S n))
  | _ => False
theorem tyV_is {pins : List (Addr × Obj)} {σ : St} {H : Hp} {s : Shared} {T : String} {x : V} {v : Value} (I : Inv X pins σ H s) (r : RelV x v) (ty : tyV X.K T x H) :
    s.TypeIs v T ∧ ∀ a, v = .ref a → ∃ ob, s.heap.get? a = some ob ∧ ob.dict = none := by
  cases x with
  | str z =>
    obtain ⟨t, rfl⟩ := r
    cases (show T = "str" from ty)
    exact ⟨typeIs_str s z t, fun _ e => nomatch e⟩
  | int i =>
    obtain ⟨t, rfl⟩ := r
    cases (show T = "int" from ty)
    exact ⟨typeIs_int s i t, fun _ e => nomatch e⟩
  | ref p =>
    cases r
    rcases ty with ⟨rfl, xs, hq⟩ | ⟨rfl, o, hk, hc, hd⟩ | ⟨rfl, hk⟩ | ⟨rfl, S, n, hk⟩
    · obtain ⟨its, _, pl, _⟩ := I.list hq
      refine ⟨pl.isList.typeIs, fun a e => ?_⟩
      cases e
      obtain ⟨o, n, e, c, hd, _⟩ := pl
      exact ⟨o, e, hd⟩
    · refine ⟨⟨o, I.kIn p o hk, hc⟩, fun a e => ?_⟩
      cases e
      exact ⟨o, I.kIn _ o hk, hd⟩
    · have z : ∃ o, s.heap.get? p = some o ∧ o.ExactDict := by
        rcases hk with ⟨kvs, hk⟩ | ⟨kvs, hk⟩
        · obtain ⟨_, _, _, _, o, _, _, e, ex, _⟩ := I.hok p _ hk
          exact ⟨o, e, ex⟩
        · obtain ⟨_, _, _, _, o, _, _, e, ex, _⟩ := I.hok p _ hk
          exact ⟨o, e, ex⟩
      obtain ⟨o, e, ex⟩ := z
      refine ⟨⟨o, e, ex.1⟩, fun a e2 => ?_⟩
      cases e2
      exact ⟨o, e, ex.2.1⟩
    · obtain ⟨o, _, _, _, e, ex, _⟩ := I.hok p _ hk
      refine ⟨⟨o, e, ex.1⟩, fun a e2 => ?_⟩
      cases e2
      exact ⟨o, e, ex.2.1⟩
  | _ => exact False.elim ty
def tBM (K : PySem.W.Frag) (T : String) (r : V → List V → Hp → VK → Prop) (to : TE) (t : TA) : TE := fun σ H Q => to σ H fun x H1 => tyV K T x H1 ∧ t σ H1 fun xs H2 => r x xs H2 Q
variable {o e : Expr} {es : List Expr} {to : TE} {t : TA} {name : Str} {apos cpos : Pos} {T id : String} {r : V → List V → Hp → VK → Prop}
theorem pe_bm (pa : PlainAttrs T) (slot : Slot T name id) (hty : typeOf (.builtin id) = pure (.type "method_descriptor")) (hm : MtR X id r) (ho : PE X o to) (ha : PA X (e :: es) t)
    (hbase : attributeBase o name X.env (eval o X.env) = eval o X.env := by rfl)
    (hfew : ((backTo cpos (starEach (e :: es) X.env)).all (fun x => !x.1) && (backToKw cpos (keywordEach [] X.env)).all (fun x => x.1.isSome)
      && decide ((e :: es).length + ([] : List Keyword).length + (if ([] : List Keyword).isEmpty then 0 else 1) < 30)) = true := by rfl)
    (hline : (apos.endLine == cpos.line) = true := by rfl) (hs : starEach (e :: es) X.env = (false, eval e X.env) :: starEach es X.env := by rfl) (hplain : (backTo cpos (starEach es X.env)).any (·.1) = false := by rfl) :
    PE X (.Call (.Attribute o name apos) (e :: es) [] cpos) (tBM X.K T r to t) := by
  intro pins s σ H Q I h
  refine wpAny_Call_method_late hbase hfew hline rfl (thn (ho pins s σ H _ I h) fun v s1 ⟨x, H1, I1, r1, ty, q1⟩ => ?_)
  obtain ⟨h1, h2⟩ := tyV_is I1 r1 ty
  refine ⟨T, id, pa, slot, hty, h1, h2, ?_⟩
  have hA := ha cpos pins s1 σ H1 _ I1 q1
  rw [hs] at hA ⊢
  refine Calls.callWith_builtin (by show (false || (backTo cpos (starEach es X.env)).any (·.1)) = false; rw [hplain] <;> rfl) (Calls.evalArgs_plain ?_)
  exact thn hA fun us s2 ⟨vs, H2, I2, r2, q2⟩ => hm pins s2 σ H2 x vs v us Q I2 r1 r2 q2
end
end L2
namespace L2
open PySem PySem.Spec PyProof.Rows
def MtM (X : Cx) (id : String) (r : V → List V → Hp → VK → Prop) : Prop :=
  ∀ (pins : List (Addr × Obj)) (s : Shared) (σ : St) (H : Hp) (x : V) (xs : List V) (v : Value) (us : List Value) (Q : VK), Inv X pins σ H s → RelV x v → Vals xs us → r x xs H Q →
    wpAny (model X.prog X.w) X.A (call (.builtin id) (v :: us)) (EP X pins σ Q) X.xe s
theorem Vals.one : ∀ {x : V} {us : List Value}, Vals [x] us → ∃ u, us = [u] ∧ RelV x u
  | _, _, .cons r .nil => ⟨_, rfl, r⟩
theorem Vals.reverse {xs : List V} {us : List Value} (h : Vals xs us) : Vals xs.reverse us.reverse := by
  induction h with
  | nil => exact .nil
  | cons r t ih => rw [List.reverse_cons, List.reverse_cons]; exact Vals.append ih (.cons r .nil)
section
variable {X : Cx} {pins : List (Addr × Obj)} {σ : St} {H : Hp} {s : Shared} {l b : Addr} {xs ys zs : List V}
theorem Inv.lset {its its' : List Value} {n : Nat} {f : Array Value → Array Value} {t' : Nat} (I : Inv X pins σ H s) (hH : H l = some (.lst xs))
    (e : s.heap.get? l = some { cls := .type "list", data := .seq its.toArray n }) (hf : f its.toArray = its'.toArray) (hv : Vals ys its') (hz : ys.length ≤ sizeLine) :
    Inv X pins σ (upd H l (.lst ys)) { s with heap := s.heap.update l (Obj.mapSeq f), toks := t' } := by
  have q := PySem.IsL.update e f
  rw [hf] at q
  refine I.write (x := l) (e := l) (by rw [hH]; exact trivial) (.inl rfl) (fun b' u hb hu => (Heap.get?_update_other s.heap (Obj.mapSeq f) (Ne.symm hb)).trans hu) ⟨_, q⟩ ?_
  exact ⟨hz, its', _, hv, q⟩
theorem Inv.lnew {its : List Value} {t' : Nat} (I : Inv X pins σ H s) (hv : Vals ys its) (hz : ys.length ≤ sizeLine) :
    Inv X pins σ (upd H s.heap.objs.size (.lst ys)) { s with heap := s.heap.push { cls := .type "list", data := .seq its.toArray }, toks := t' } :=
  I.laid (fun _ _ q => Heap.get?_push_of_some _ q) (Nat.le_refl _) ⟨hz, its, 0, hv, Heap.get?_push_size _ rfl⟩
theorem Inv.fresh (I : Inv X pins σ H s) : H s.heap.objs.size = none := I.hok.fresh (Nat.le_refl _)
theorem Inv.lstM (I : Inv X pins σ H s) (hH : H l = some (.lst xs)) : xs.length ≤ sizeLine ∧ ∃ (its : List Value) (n : Nat), Vals xs its ∧ xs.length = its.length ∧ s.heap.get? l = some { cls := .type "list", data := .seq its.toArray n } := by
  obtain ⟨z, its, n, r, e⟩ := I.hok l _ hH
  exact ⟨z, its, n, r, r.length, e⟩
theorem notLongL {n : Nat} (h : n ≤ sizeLine) : Builtin.List.listTooLong n = false := by
  unfold Builtin.List.listTooLong
  exact decide_eq_false (by omega)
end
section
variable {X : Cx}
def rAppend : V → List V → Hp → VK → Prop := fun x vs H Q => ∃ l xs y, x = .ref l ∧ vs = [y] ∧ H l = some (.lst xs) ∧ xs.length < sizeLine ∧ Q .non (upd H l (.lst (xs ++ [y])))
theorem mt_append : MtM X "list.append" rAppend := by
  intro pins s σ H x vs v us Q I rx rv h
  obtain ⟨l, xs, y, rfl, rfl, hH, hz, q⟩ := h
  cases rx
  obtain ⟨u, rfl, ru⟩ := rv.one
  obtain ⟨z, its, n, r, hl, e⟩ := I.lstM hH
  refine call_meets F.slot_list_append ⟨_, e, rfl⟩ F.entry_list_append (F.args_list_append_2 _ _) (PySem.list_append l its.toArray n u (by rw [List.size_toArray]; omega)) ⟨e, ?_⟩
  refine ⟨.non, _, I.lset (its' := its ++ [u]) hH e (by simp) (r.append (.cons ru .nil)) ?_, rfl, q⟩
  rw [List.length_append, List.length_singleton]
  omega
def rExtend : V → List V → Hp → VK → Prop := fun x vs H Q => ∃ l b xs zs, x = .ref l ∧ vs = [.ref b] ∧ H l = some (.lst xs) ∧ H b = some (.lst zs) ∧ xs.length + zs.length ≤ sizeLine ∧ Q .non (upd H l (.lst (xs ++ zs)))
theorem mt_extend : MtM X "list.extend" rExtend := by
  intro pins s σ H x vs v us Q I rx rv h
  obtain ⟨l, b, xs, zs, rfl, rfl, hH, hB, hz, q⟩ := h
  cases rx
  obtain ⟨u, rfl, ru⟩ := rv.one
  cases ru
  obtain ⟨z, its, n, r, hl, e⟩ := I.lstM hH
  obtain ⟨z2, its2, n2, r2, hl2, e2⟩ := I.lstM hB
  have hsz : its.toArray.size + its2.toArray.size ≤ sizeLine := by rw [List.size_toArray, List.size_toArray]; omega
  have hlong : ¬ (!its.toArray.isEmpty && Builtin.List.listTooLong (its.toArray.size + its2.toArray.size)) = true := by
    rw [notLongL hsz, Bool.and_false]
    exact Bool.false_ne_true
  refine call_meets F.slot_list_extend ⟨_, e, rfl⟩ F.entry_list_extend (F.args_list_extend_2 _ _)
    (AutoSeq1.list_extend_list_list_0 l its.toArray n b its2.toArray n2 hlong (by rw [List.size_toArray]; omega) (by omega)) ⟨e, e2, ?_⟩
  refine ⟨.non, _, I.lset (its' := its ++ its2) hH e (by simp) (r.append r2) ?_, rfl, q⟩
  rw [List.length_append]
  omega
def rCat : R2 := fun x y H Q => ∃ l b xs zs, x = .ref l ∧ y = .ref b ∧ H l = some (.lst xs) ∧ H b = some (.lst zs) ∧ xs.length + zs.length ≤ sizeLine ∧ ∀ p, H p = none → Q (.ref p) (upd H p (.lst (xs ++ zs)))
theorem op_cat : OpR X (binaryOp .Add) rCat := by
  intro pins s σ H x y v u Q I rx ry h
  obtain ⟨l, b, xs, zs, rfl, rfl, hH, hB, hz, q⟩ := h
  cases rx
  cases ry
  obtain ⟨z, its, n, r, hl, e⟩ := I.lstM hH
  obtain ⟨z2, its2, n2, r2, hl2, e2⟩ := I.lstM hB
  refine PySem.P.add_list e e2 ?_ (by rw [List.size_toArray, List.size_toArray]; omega)
  have ea : its.toArray ++ its2.toArray = (its ++ its2).toArray := by simp
  rw [ea]
  exact ⟨.ref _, _, I.lnew (t' := s.toks) (r.append r2) (by rw [List.length_append]; omega), rfl, q _ I.fresh⟩
end
section
variable {prog : Program} {w : World} {A : Around} {E : Value → Shared → Prop} {s : Shared}
set_option maxRecDepth 100000 in
end
section
variable {X : Cx}
end
end L2
namespace L2
open PySem PySem.Spec PyProof.Rows
section
variable {κ : Type} [DecidableEq κ]
def valV (kvs : List (κ × V)) (k : κ) : Option V := (kvs.find? fun kv => decide (kv.1 = k)).map (·.2)
def putK (kvs : List (κ × V)) (k : κ) (v : V) : List (κ × V) :=
  if (kvs.any fun kv => decide (kv.1 = k)) = true then kvs.map (fun kv => if kv.1 = k then (kv.1, v) else kv) else kvs ++ [(k, v)]
def dropK (kvs : List (κ × V)) (k : κ) : List (κ × V) := kvs.filter fun kv => decide (kv.1 ≠ k)
theorem valV_pos {p : κ × V} {r : List (κ × V)} {k : κ} (e : p.1 = k) : valV (p :: r) k = some p.2 := by simp [valV, List.find?_cons, e]
theorem valV_neg {p : κ × V} {r : List (κ × V)} {k : κ} (e : ¬ p.1 = k) : valV (p :: r) k = valV r k := by simp [valV, List.find?_cons, e]
theorem valV_any (k : κ) : ∀ kvs : List (κ × V), (kvs.any fun kv => decide (kv.1 = k)) = (valV kvs k).isSome
  | [] => rfl
  | p :: r => by
    rw [List.any_cons]
    by_cases e : p.1 = k
    · simp only [valV_pos e, decide_eq_true e, Bool.true_or, Option.isSome_some]
    · rw [valV_neg e, decide_eq_false e, Bool.false_or]; exact valV_any k r
theorem valV_map (k j : κ) (y : V) : ∀ kvs : List (κ × V), valV (kvs.map fun kv => if kv.1 = k then (kv.1, y) else kv) j = (valV kvs j).map fun x => if j = k then y else x
  | [] => rfl
  | p :: r => by
    have ih := valV_map k j y r
    rw [List.map_cons]
    by_cases h : p.1 = k
    · rw [if_pos h]
      by_cases e : p.1 = j
      · rw [valV_pos (p := (p.1, y)) e, valV_pos e, Option.map_some, if_pos (e.symm.trans h)]
      · rw [valV_neg (p := (p.1, y)) e, valV_neg e, ih]
    · rw [if_neg h]
      by_cases e : p.1 = j
      · rw [valV_pos (p := p) e, valV_pos e, Option.map_some, if_neg (fun z => h (e.trans z))]
      · rw [valV_neg (p := p) e, valV_neg e, ih]
theorem valV_snoc (k j : κ) (y : V) : ∀ kvs : List (κ × V), valV kvs k = none → valV (kvs ++ [(k, y)]) j = if j = k then some y else valV kvs j
  | [], _ => by
    by_cases e : k = j
    · rw [if_pos e.symm]; exact valV_pos (p := (k, y)) e
    · rw [if_neg (fun z => e z.symm)]; exact valV_neg (p := (k, y)) e
  | p :: r, hn => by
    rw [List.cons_append]
    have hk : ¬ p.1 = k := fun z => by rw [valV_pos z] at hn; cases hn
    rw [valV_neg hk] at hn
    have ih := valV_snoc k j y r hn
    by_cases e : p.1 = j
    · rw [valV_pos e, valV_pos e, if_neg (fun z => hk (e.trans z))]
    · rw [valV_neg e, valV_neg e, ih]
theorem valV_put (kvs : List (κ × V)) (k j : κ) (y : V) : valV (putK kvs k y) j = if j = k then some y else valV kvs j := by
  unfold putK
  by_cases a : (kvs.any fun kv => decide (kv.1 = k)) = true
  · rw [if_pos a, valV_map]
    rw [valV_any] at a
    by_cases e : j = k
    · obtain ⟨x, hx⟩ := Option.isSome_iff_exists.mp a
      rw [if_pos e, e, hx, Option.map_some, if_pos rfl]
    · rw [if_neg e]
      cases valV kvs j with
      | none => rfl
      | some x => rw [Option.map_some, if_neg e]
  · rw [if_neg a]
    refine valV_snoc k j y kvs ?_
    rw [valV_any] at a
    cases q : valV kvs k with
    | none => rfl
    | some x => rw [q] at a; exact (a rfl).elim
theorem length_putK (kvs : List (κ × V)) (k : κ) (v : V) : (putK kvs k v).length ≤ kvs.length + 1 := by
  unfold putK
  split
  · rw [List.length_map]; omega
  · rw [List.length_append, List.length_cons, List.length_nil]; omega
theorem RelO.isSome_eq {o : Option V} {u : Option Value} (r : RelO o u) : o.isSome = u.isSome := by
  cases o with
  | none => cases u with
    | none => rfl
    | some _ => exact (show False from r).elim
  | some _ => cases u with
    | none => exact (show False from r).elim
    | some _ => rfl
theorem RelO.getD {o : Option V} {u : Option Value} {d : V} {d' : Value} (r : RelO o u) (rd : RelV d d') : RelV (o.getD d) (u.getD d') := by
  cases o with
  | none => cases u with
    | none => exact rd
    | some _ => exact (show False from r).elim
  | some _ => cases u with
    | none => exact (show False from r).elim
    | some _ => exact r
theorem KV.val {kvs : List (κ × V)} {vs : List (κ × Value)} (r : KV kvs vs) (k : κ) : RelO (valV kvs k) (valueAt vs k) := by
  unfold KV at r
  induction r with
  | nil => exact True.intro
  | @cons p q ps qs h t ih =>
    obtain ⟨h1, h2⟩ := h
    by_cases e : p.1 = k
    · have e' : q.1 = k := h1.symm.trans e
      have b : valueAt (q :: qs) k = some q.2 := by simp [valueAt, List.find?_cons, e']
      rw [valV_pos e, b]; exact h2
    · have e' : ¬ q.1 = k := fun z => e (h1.trans z)
      have b : valueAt (q :: qs) k = valueAt qs k := by simp [valueAt, List.find?_cons, e']
      rw [valV_neg e, b]; exact ih
theorem KV.any {kvs : List (κ × V)} {vs : List (κ × Value)} (r : KV kvs vs) (k : κ) : (kvs.any fun kv => decide (kv.1 = k)) = vs.any fun kv => decide (kv.1 = k) := by
  unfold KV at r
  induction r with
  | nil => rfl
  | cons h t ih => rw [List.any_cons, List.any_cons, ih, h.1]
theorem KV.repl {kvs : List (κ × V)} {vs : List (κ × Value)} (r : KV kvs vs) (k : κ) {y : V} {u : Value} (ry : RelV y u) :
    KV (kvs.map fun kv => if kv.1 = k then (kv.1, y) else kv) (vs.map fun kv => if kv.1 = k then (kv.1, u) else kv) := by
  unfold KV at r ⊢
  induction r with
  | nil => exact .nil
  | @cons p q ps qs h t ih =>
    rw [List.map_cons, List.map_cons]
    refine .cons ?_ ih
    obtain ⟨h1, h2⟩ := h
    by_cases e : p.1 = k
    · rw [if_pos e, if_pos (h1.symm.trans e)]; exact ⟨h1, ry⟩
    · rw [if_neg e, if_neg (fun z => e (h1.trans z))]; exact ⟨h1, h2⟩
theorem KV.put {kvs : List (κ × V)} {vs : List (κ × Value)} (r : KV kvs vs) (k : κ) {y : V} {u : Value} (ry : RelV y u) : KV (putK kvs k y) (stored vs k u) := by
  unfold putK stored
  rw [r.any k]
  by_cases e : (vs.any fun kv => decide (kv.1 = k)) = true
  · rw [if_pos e, if_pos e]; exact r.repl k ry
  · rw [if_neg e, if_neg e]; exact Paired.snoc r ⟨rfl, ry⟩
theorem KV.drop {kvs : List (κ × V)} {vs : List (κ × Value)} (r : KV kvs vs) (k : κ) : KV (dropK kvs k) (without vs k) := by
  unfold KV at r ⊢
  unfold dropK without
  induction r with
  | nil => exact .nil
  | @cons p q ps qs h t ih =>
    obtain ⟨h1, h2⟩ := h
    rw [List.filter_cons, List.filter_cons]
    by_cases e : p.1 = k
    · have a : ¬ decide (p.1 ≠ k) = true := by simp [e]
      have b : ¬ decide (q.1 ≠ k) = true := by simp [h1.symm.trans e]
      rw [if_neg a, if_neg b]; exact ih
    · have e' : ¬ q.1 = k := fun z => e (h1.trans z)
      have a : decide (p.1 ≠ k) = true := by simp [e]
      have b : decide (q.1 ≠ k) = true := by simp [e']
      rw [if_pos a, if_pos b]; exact .cons ⟨h1, h2⟩ ih
theorem KV.length {kvs : List (κ × V)} {vs : List (κ × Value)} (r : KV kvs vs) : kvs.length = vs.length := Paired.length r
end
theorem kV_is {P : Program} {w : World} {k : Key} {u : Value} (r : RelV (kV k) u) : (mixKind P w).is k u = true := by
  cases k with
  | inl i => obtain ⟨t, e⟩ := (show ∃ t, u = Value.int i t from r); subst e; exact mixKind_int P w i t
  | inr x => obtain ⟨t, e⟩ := (show ∃ t, u = Value.str x t from r); subst e; exact mixKind_str P w x t
theorem items_are {P : Program} {w : World} : ∀ {ks : List Key} {us : List Value}, Vals (ks.map kV) us → ItemsAre (mixKind P w) ks us
  | [], _, r => by rw [List.map_nil] at r; cases r; exact .nil
  | k :: ks, _, r => by
    rw [List.map_cons] at r
    cases r with
    | cons h t => exact .cons (kV_is h) (items_are t)
abbrev KT (H : Hp) : List (List Key × V) → List (List Key × Addr × Value) → Prop := Paired fun p q => p.1 = q.1 ∧ H q.2.1 = some (.tup (p.1.map kV)) ∧ RelV p.2 q.2.2
theorem KT.val {H : Hp} {kvs : List (List Key × V)} {xs : List (List Key × Addr × Value)} (r : KT H kvs xs) (k : List Key) : RelO (valV kvs k) ((atKey xs k).map (·.2)) := by
  induction r with
  | nil => exact True.intro
  | @cons p q ps qs h t ih =>
    obtain ⟨h1, _, h2⟩ := h
    by_cases e : p.1 = k
    · have e' : q.1 = k := h1.symm.trans e
      have b : atKey (q :: qs) k = some q.2 := by simp [atKey, List.find?_cons, e']
      rw [valV_pos e, b]; exact h2
    · have e' : ¬ q.1 = k := fun z => e (h1.trans z)
      have b : atKey (q :: qs) k = atKey qs k := by simp [atKey, List.find?_cons, e']
      rw [valV_neg e, b]; exact ih
theorem KT.repl {H : Hp} {kvs : List (List Key × V)} {xs : List (List Key × Addr × Value)} (r : KT H kvs xs) (k : List Key) {y : V} {u : Value} (ry : RelV y u) :
    KT H (kvs.map fun kv => if kv.1 = k then (kv.1, y) else kv) (xs.map (putAt k u)) := by
  induction r with
  | nil => exact .nil
  | @cons p q ps qs h t ih =>
    rw [List.map_cons, List.map_cons]
    refine .cons ?_ ih
    obtain ⟨h1, h2, h3⟩ := h
    unfold putAt
    by_cases e : p.1 = k
    · rw [if_pos e, if_pos (h1.symm.trans e)]; exact ⟨h1, h2, ry⟩
    · rw [if_neg e, if_neg (fun z => e (h1.trans z))]; exact ⟨h1, h2, h3⟩
theorem KT.put {H : Hp} {kvs : List (List Key × V)} {xs : List (List Key × Addr × Value)} (r : KT H kvs xs) (k : List Key) {b : Addr} {y : V} {u : Value} (hb : H b = some (.tup (k.map kV))) (ry : RelV y u) :
    KT H (putK kvs k y) (storedH xs k b u) := by
  have e : (kvs.any fun kv => decide (kv.1 = k)) = (atKey xs k).isSome := by
    rw [valV_any, (r.val k).isSome_eq, Option.isSome_map]
  unfold putK storedH
  rw [e]
  by_cases q : (atKey xs k).isSome = true
  · rw [if_pos q, if_pos q]; exact r.repl k ry
  · rw [if_neg q, if_neg q]; exact Paired.snoc r ⟨rfl, hb, ry⟩
theorem KT.keeps {H H' : Hp} {kvs : List (List Key × V)} {xs : List (List Key × Addr × Value)} (r : KT H kvs xs) (ht : ∀ b ys, H b = some (.tup ys) → H' b = some (.tup ys)) : KT H' kvs xs :=
  Paired.mapP r fun _ _ z => ⟨z.1, ht _ _ z.2.1, z.2.2⟩
section
variable {P : Program} {w : World} {H : Hp} {h : Heap} {a : Addr}
theorem rd_of {u : HO} (ok : HOk P w H h) (e : Rd H a u) : ObjOk P w H h a u := e.ok ok
theorem dk_rd {kvs : List (Key × V)} (ok : HOk P w H h) (e : Rd H a (.dK kvs)) : kvs.length ≤ sizeLine ∧ (a == sysModules) = false ∧ ∃ vs, KV kvs vs ∧ h.DictOf (mixKind P w) a vs :=
  show ObjOk P w H h a (.dK kvs) from rd_of ok e
theorem dk_of {kvs : List (Key × V)} (ok : HOk P w H h) (e : H a = some (.dK kvs)) : kvs.length ≤ sizeLine ∧ (a == sysModules) = false ∧ ∃ vs, KV kvs vs ∧ h.DictOf (mixKind P w) a vs := dk_rd ok (.inl e)
theorem key_of {ks : List Key} (ok : HOk P w H h) (e : H a = some (.tup (ks.map kV))) : (tupleKind (mixKind P w)).is h ks a := by
  obtain ⟨_, its, r, o, h1, h2, n, h3⟩ := (show ObjOk P w H h a (.tup (ks.map kV)) from ok a _ e)
  exact ⟨o, its.toArray, n, h1, h2, h3, by simpa using items_are r⟩
theorem dt_rd {kvs : List (List Key × V)} (ok : HOk P w H h) (e : Rd H a (.dT kvs)) : kvs.length ≤ sizeLine ∧ (a == sysModules) = false ∧
    ∃ xs, KT H kvs xs ∧ h.DictOfH (tupleKind (mixKind P w)) a xs := by
  obtain ⟨z, y, xs, r, o, es, ep, h1, h2, h3, h4, h5⟩ := (show ObjOk P w H h a (.dT kvs) from rd_of ok e)
  refine ⟨z, y, xs, r, o, es, ep, h1, h2, h3, h4, fun x hx => ?_, h5⟩
  have all : ∀ {l : List (List Key × V)} {m : List (List Key × Addr × Value)}, KT H l m → ∀ x ∈ m, (tupleKind (mixKind P w)).is h x.1 x.2.1 := by
    intro l m q
    induction q with
    | nil => intro x hx; exact nomatch hx
    | @cons p q ps qs hq t ih =>
      intro x hx
      rcases List.mem_cons.mp hx with e | hx
      · subst e
        exact key_of ok (by rw [← hq.1]; exact hq.2.1)
      · exact ih x hx
  exact all r x hx
theorem dt_of {kvs : List (List Key × V)} (ok : HOk P w H h) (e : H a = some (.dT kvs)) : kvs.length ≤ sizeLine ∧ (a == sysModules) = false ∧
    ∃ xs, KT H kvs xs ∧ h.DictOfH (tupleKind (mixKind P w)) a xs := dt_rd ok (.inl e)
end
def DGet (H : Hp) (a : Addr) (y : V) (r : Option V) : Prop :=
  (∃ kvs k, Rd H a (.dK kvs) ∧ y = kV k ∧ r = valV kvs k) ∨ ∃ kvs k b, Rd H a (.dT kvs) ∧ y = .ref b ∧ H b = some (.tup (k.map kV)) ∧ r = valV kvs k
def DPut (H : Hp) (a : Addr) (y v : V) (H' : Hp) : Prop :=
  (∃ kvs k, H a = some (.dK kvs) ∧ y = kV k ∧ kvs.length < sizeLine ∧ H' = upd H a (.dK (putK kvs k v))) ∨
  ∃ kvs k b, H a = some (.dT kvs) ∧ y = .ref b ∧ H b = some (.tup (k.map kV)) ∧ kvs.length < sizeLine ∧ H' = upd H a (.dT (putK kvs k v))
theorem DGet.k {H : Hp} {a : Addr} {kvs : List (Key × V)} {k : Key} (e : H a = some (.dK kvs)) : DGet H a (kV k) (valV kvs k) := .inl ⟨kvs, k, .inl e, rfl, rfl⟩
theorem DGet.t {H : Hp} {a b : Addr} {kvs : List (List Key × V)} {k : List Key} (e : H a = some (.dT kvs)) (eb : H b = some (.tup (k.map kV))) : DGet H a (.ref b) (valV kvs k) := .inr ⟨kvs, k, b, .inl e, rfl, eb, rfl⟩
theorem DPut.k {H : Hp} {a : Addr} {kvs : List (Key × V)} {k : Key} {v : V} (e : H a = some (.dK kvs)) (hl : kvs.length < sizeLine) : DPut H a (kV k) v (upd H a (.dK (putK kvs k v))) := .inl ⟨kvs, k, e, rfl, hl, rfl⟩
theorem DPut.t {H : Hp} {a b : Addr} {kvs : List (List Key × V)} {k : List Key} {v : V} (e : H a = some (.dT kvs)) (eb : H b = some (.tup (k.map kV))) (hl : kvs.length < sizeLine) :
    DPut H a (.ref b) v (upd H a (.dT (putK kvs k v))) := .inr ⟨kvs, k, b, e, rfl, eb, hl, rfl⟩
section
variable {X : Cx} {pins : List (Addr × Obj)} {σ : St} {H : Hp} {s : Shared} {a : Addr} {y v : V} {u r : Value} {o : Option V} {A : Around} {E : Value → Shared → Prop}
theorem Inv.big (I : Inv X pins σ H s) : sysModules < s.heap.objs.size := by
  have h : mainGlobals < s.heap.objs.size := (I.mod.glob.keeps I.bk).lt
  exact Nat.lt_trans (by decide) h
theorem d_in {Q : Value → Shared → Prop} (hu : A.units + 1 < cLine) (I : Inv X pins σ H s) (g : DGet H a y o) (ry : RelV y u) (h : ∀ s', Inv X pins σ H s' → Q (.bool o.isSome) s') :
    wpAny (model X.prog X.w) A (compareOp .In u (.ref a)) Q E s := by
  rcases g with ⟨kvs, k, e, ey, l⟩ | ⟨kvs, k, b, e, ey, eb, l⟩
  · subst ey
    obtain ⟨z, hd, vs, rel, dd⟩ := dk_rd I.hok e
    refine wpAny_in_of (kV_is ry) hd dd.mapOf ?_
    rw [← (rel.val k).isSome_eq, ← l]
    exact h _ (I.tok _)
  · subst ey
    cases (show u = Value.ref b from ry)
    obtain ⟨z, hd, xs, rel, dd⟩ := dt_rd I.hok e
    refine wpAny_in_heap (tupleKind_room_in1 hu) (key_of I.hok eb) hd dd ?_
    have q := (rel.val k).isSome_eq
    rw [Option.isSome_map] at q
    rw [← q, ← l]
    exact h _ (I.tok _)
theorem d_write {h' : Heap} {t' : Nat} {ob : HO} (I : Inv X pins σ H s) (mu : Mut (H a)) (hs : Heap.SameBut a s.heap h') (he : ∃ q, h'.get? a = some q) (new : ObjOk X.prog X.w (upd H a ob) h' a ob) :
    Inv X pins σ (upd H a ob) { s with heap := h', toks := t' } :=
  I.write (x := a) (e := a) mu (.inl rfl) (fun b q hb z => (hs.2 b hb).trans z) he new
theorem dk_new {P : Program} {w : World} {H' : Hp} {h' : Heap} {kvs : List (Key × V)} {vs : List (Key × Value)} (z : kvs.length ≤ sizeLine) (hd : (a == sysModules) = false) (rel : KV kvs vs) (dd : h'.DictOf (mixKind P w) a vs) :
    ObjOk P w H' h' a (.dK kvs) := ⟨z, hd, vs, rel, dd⟩
theorem d_setItem {H' : Hp} {Q : Unit → Shared → Prop} (hu : A.units + 1 < cLine) (I : Inv X pins σ H s) (g : DPut H a y v H') (ry : RelV y u) (rv : RelV v r) (h : ∀ s', Inv X pins σ H' s' → Q () s') :
    wpAny (model X.prog X.w) A (setItem (.ref a) u r) Q E s := by
  rcases g with ⟨kvs, k, e, ey, l, eH⟩ | ⟨kvs, k, b, e, ey, eb, l, eH⟩
  · subst ey eH
    obtain ⟨z, hd, vs, rel, dd⟩ := dk_of I.hok e
    have hz : vs.length ≤ sizeLine := by rw [← rel.length]; exact z
    have hl : (putK kvs k v).length ≤ sizeLine := by have := length_putK kvs k v; omega
    refine wpAny_setItem_pairs (hsz := hz) (kV_is ry) dd fun h' dd' hs => h _ ?_
    have he : ∃ q, h'.get? a = some q := let ⟨q, _, _, hq, _⟩ := dd'; ⟨q, hq⟩
    exact d_write I (by rw [e]; exact True.intro) hs he (dk_new hl hd (rel.put k rv) dd')
  · subst ey eH
    cases (show u = Value.ref b from ry)
    obtain ⟨z, hd, xs, rel, dd⟩ := dt_of I.hok e
    have hz : xs.length ≤ sizeLine := by rw [← Paired.length rel]; exact z
    have hl : (putK kvs k v).length ≤ sizeLine := by have := length_putK kvs k v; omega
    refine wpAny_setItem_heap (hsz := hz) (tupleKind_room_in1 hu) (key_of I.hok eb) dd fun h' dd' hs => h _ ?_
    obtain ⟨q, es, ep, hq, h2, h3, h4, _, h5⟩ := dd'
    refine d_write I (by rw [e]; exact True.intro) hs ⟨q, hq⟩ ⟨hl, hd, _, (rel.put k eb rv).keeps fun c ys ec => ?_, q, es, ep, hq, h2, h3, h4, h5⟩
    rw [upd_ne (ne_of ec e (fun z => nomatch z))]
    exact ec
end
section
variable {X : Cx} {pins : List (Addr × Obj)} {σ : St} {H : Hp} {s : Shared} {a : Addr} {kvs : List (Key × V)} {k : Key} {u : Value} {A : Around} {E : Value → Shared → Prop}
theorem d_len {Q : Value → Shared → Prop} (I : Inv X pins σ H s) (e : Rd H a (.dK kvs)) (h : ∀ t s', Inv X pins σ H s' → Q (.int kvs.length t) s') : wpAny (model X.prog X.w) A (call (.builtin "len") [.ref a]) Q E s := by
  obtain ⟨z, hd, vs, rel, dd⟩ := dk_rd I.hok e
  refine call_len_dict hd dd (by rw [← rel.length]; rw [sizeLine_eq] at z; omega) ?_
  rw [← rel.length]
  exact h _ _ (I.tok _)
end
def tDIn (ty td : TE) : TE := fun σ H Q => ty σ H fun y H1 => td σ H1 fun x H2 => ∃ a o, x = .ref a ∧ DGet H2 a y o ∧ Q (.bl o.isSome) H2
def sDPut (td ty tv : TE) : TS := fun D σ H => tv σ H fun v H1 => td σ H1 fun x H2 => ty σ H2 fun y H3 => ∃ a H4, x = .ref a ∧ DPut H3 a y v H4 ∧ D.nx σ H4
section
variable {X : Cx} {o i e value : Expr} {pos pos' tpos : Pos} {td ty tv : TE}
theorem pc_din (hu : X.A.units + 1 < cLine) (hi : PE X i ty) (ho : PE X o td) : PC X .In i o (tDIn ty td) := by
  intro pins s σ H Q I h
  refine thn (hi pins s σ H _ I h) fun iv s1 ⟨y, H1, I1, ry, q1⟩ => thn (ho pins s1 σ H1 _ I1 q1) fun u s2 ⟨x, H2, I2, rx, a, ov, ex, g, q2⟩ => ?_
  subst ex
  obtain rfl : u = Value.ref a := rx
  exact d_in hu I2 g ry fun s3 I3 => ⟨.bl ov.isSome, H2, I3, rfl, q2⟩
theorem ps_dput (hu : X.A.units + 1 < cLine) (ho : PE X o td) (hi : PE X i ty) (hv : PE X value tv) (hs : swapsWith value (some (.Subscript o i pos')) pos.line X.env = pure false) :
    PS X (.Assign [.Subscript o i pos'] value pos) (sDPut td ty tv) := by
  intro pins s σ H D I h
  refine wpAny_Assign_Subscript (thn (hv pins s σ H _ I h) fun r s1 ⟨v, H1, I1, rv, q1⟩ => thn (ho pins s1 σ H1 _ I1 q1) fun u s2 ⟨x, H2, I2, rx, q2⟩ => thn (hi pins s2 σ H2 _ I2 q2) fun iv s3 ⟨y, H3, I3, ry, a, H4, ex, g, q3⟩ => ?_) hs
  subst ex
  obtain rfl : u = Value.ref a := rx
  exact d_setItem hu I3 g ry rv fun s4 I4 => ⟨σ, H4, I4, q3⟩
end
theorem dk_empty {P : Program} {w : World} {H : Hp} (h : Heap) (hb : sysModules < h.objs.size) : ObjOk P w H (h.push { cls := .type "dict", data := .dict #[] }) h.objs.size (.dK []) :=
  ⟨Nat.zero_le _, beq_eq_false_iff_ne.mpr (Ne.symm (Nat.ne_of_lt hb)), [], .nil, Heap.DictOf.new h⟩
theorem dt_empty {P : Program} {w : World} {H : Hp} (h : Heap) (hb : sysModules < h.objs.size) : ObjOk P w H (h.push { cls := .type "dict", data := .dict #[] }) h.objs.size (.dT []) :=
  ⟨Nat.zero_le _, beq_eq_false_iff_ne.mpr (Ne.symm (Nat.ne_of_lt hb)), [], .nil, _, #[], 0, Heap.get?_push_size _ rfl, ⟨rfl, rfl, rfl⟩, rfl, rfl, List.nodup_nil⟩
def tDNewK : TE := fun _ H Q => ∀ p, H p = none → Q (.ref p) (upd H p (.dK []))
def tDNewT : TE := fun _ H Q => ∀ p, H p = none → Q (.ref p) (upd H p (.dT []))
section
variable {X : Cx} {pos : Pos}
theorem pe_dnewK : PE X (.Dict [] [] pos) tDNewK := fun pins s σ H Q I h =>
  wpAny_Dict_empty ⟨.ref s.heap.objs.size, _, I.laid (a := s.heap.objs.size) (o := .dK []) (t' := s.toks) (fun _ _ q => Heap.get?_push_of_some _ q) (Nat.le_refl _) (dk_empty s.heap I.big), rfl, h _ (I.hok.fresh (Nat.le_refl _))⟩
theorem pe_dnewT : PE X (.Dict [] [] pos) tDNewT := fun pins s σ H Q I h =>
  wpAny_Dict_empty ⟨.ref s.heap.objs.size, _, I.laid (a := s.heap.objs.size) (o := .dT []) (t' := s.toks) (fun _ _ q => Heap.get?_push_of_some _ q) (Nat.le_refl _) (dt_empty s.heap I.big), rfl, h _ (I.hok.fresh (Nat.le_refl _))⟩
end
structure M2 (X : Cx) (o : Expr) (m : Str) (apos : Pos) (e f : Expr) (cpos : Pos) : Prop where
  base : attributeBase o m X.env (eval o X.env) = eval o X.env
  few : ((backTo cpos (starEach [e, f] X.env)).all (fun x => !x.1) && (backToKw cpos (keywordEach [] X.env)).all (fun x => x.1.isSome)
    && decide (([e, f] : List Expr).length + ([] : List Keyword).length + (if ([] : List Keyword).isEmpty then 0 else 1) < 30)) = true
  line : (apos.endLine == cpos.line) = true
  trees : backTo cpos (starEach [e, f] X.env) = [(false, eval e X.env), (false, eval f X.env)]
def IsD (H : Hp) (a : Addr) : Prop := (∃ kvs, Rd H a (.dK kvs)) ∨ ∃ kvs, Rd H a (.dT kvs)
theorem isD_at {X : Cx} {pins : List (Addr × Obj)} {σ : St} {H : Hp} {s : Shared} {a : Addr} (I : Inv X pins σ H s) (d : IsD H a) :
    s.TypeIs (.ref a) "dict" ∧ (∀ b, Value.ref a = .ref b → ∃ ob, s.heap.get? b = some ob ∧ ob.dict = none) ∧ (a == sysModules) = false := by
  rcases d with ⟨kvs, e⟩ | ⟨kvs, e⟩
  · obtain ⟨_, hd, vs, _, dd⟩ := dk_rd I.hok e
    refine ⟨dd.typeIs, fun b q => ?_, hd⟩
    cases q
    obtain ⟨ob, _, _, h1, h2, _⟩ := dd
    exact ⟨ob, h1, h2.2.1⟩
  · obtain ⟨_, hd, xs, _, dd⟩ := dt_rd I.hok e
    refine ⟨dd.typeIs, fun b q => ?_, hd⟩
    cases q
    obtain ⟨ob, _, _, h1, h2, _⟩ := dd
    exact ⟨ob, h1, h2.2.1⟩
section
variable {X : Cx} {pins : List (Addr × Obj)} {σ : St} {H : Hp} {s : Shared} {a : Addr} {y d : V} {u r : Value} {o : Option V} {A : Around} {E : Value → Shared → Prop}
theorem d_get2 {Q : Value → Shared → Prop} (hu : A.units + 1 < cLine) (I : Inv X pins σ H s) (g : DGet H a y o) (ry : RelV y u) (rd : RelV d r) (h : ∀ w' s', Inv X pins σ H s' → RelV (o.getD d) w' → Q w' s') :
    wpAny (model X.prog X.w) A (call (.builtin "dict.get") [.ref a, u, r]) Q E s := by
  rcases g with ⟨kvs, k, e, ey, l⟩ | ⟨kvs, k, b, e, ey, eb, l⟩
  · subst ey
    obtain ⟨z, hd, vs, rel, dd⟩ := dk_rd I.hok e
    refine call_meetsIn PySem.F.slot_dict_get dd.typeIs PySem.F.entry_dict_get (PySem.F.args_dict_get_3 _ _ _) (meets_dict_get_default (mixKind X.prog X.w) a (kV_is ry) hd r) ⟨_, dd.mapOf, h _ _ (I.tok _) ?_⟩
    rw [l]
    exact (rel.val k).getD rd
  · subst ey
    cases (show u = Value.ref b from ry)
    obtain ⟨z, hd, xs, rel, dd⟩ := dt_rd I.hok e
    refine call_meetsIn PySem.F.slot_dict_get dd.typeIs PySem.F.entry_dict_get (PySem.F.args_dict_get_3 _ _ _) (meetsH_dict_get_default (tupleKind (mixKind X.prog X.w)) a b hd r) ⟨tupleKind_room_in1 hu, k, xs, key_of I.hok eb, dd, h _ _ (I.tok _) ?_⟩
    rw [l]
    exact (rel.val k).getD rd
end
def tDGet2 (td ty tx : TE) : TE := fun σ H Q => td σ H fun x H1 => ∃ a, x = .ref a ∧ IsD H1 a ∧ ty σ H1 fun y H2 => tx σ H2 fun z H3 => ∃ o, DGet H3 a y o ∧ Q (o.getD z) H3
section
variable {X : Cx} {o e f : Expr} {apos cpos : Pos} {td ty tx : TE}
theorem pe_dget2 (hu : X.A.units + 1 < cLine) (ho : PE X o td) (he : PE X e ty) (hf : PE X f tx) (m : M2 X o "get" apos e f cpos) : PE X (.Call (.Attribute o "get" apos) [e, f] [] cpos) (tDGet2 td ty tx) := by
  intro pins s σ H Q I h
  refine wpAny_Call_method m.base m.few m.line PySem.F.plainAttrs_dict PySem.F.slot_dict_get PySem.F.type_dict_get (thn (ho pins s σ H _ I h) fun u s1 ⟨x, H1, I1, rx, a, ex, d, q1⟩ => ?_)
  subst ex
  obtain rfl : u = Value.ref a := rx
  obtain ⟨t1, t2, _⟩ := isD_at I1 d
  refine ⟨t1, t2, ?_⟩
  rw [m.trees]
  refine Calls.callWith_builtin rfl (Calls.evalArgs_plain (Calls.spliced_cons (thn (he pins s1 σ H1 _ I1 q1) fun iv s2 ⟨y, H2, I2, ry, q2⟩ =>
    Calls.spliced_cons (thn (hf pins s2 σ H2 _ I2 q2) fun fv s3 ⟨z, H3, I3, rz, ov, g, q3⟩ => Calls.spliced_nil ?_))))
  exact d_get2 hu I3 g ry rz fun w' s4 I4 rw' => ⟨_, H3, I4, rw', q3⟩
end
section
variable {X : Cx} {pins : List (Addr × Obj)} {σ : St} {H : Hp} {s : Shared} {a : Addr} {kvs : List (Key × V)} {A : Around} {E : Value → Shared → Prop}
end
section
variable {X : Cx} {pins : List (Addr × Obj)} {σ : St} {H : Hp} {s : Shared} {a : Addr} {y : V} {u : Value} {A : Around} {E : Value → Shared → Prop}
end
end L2
namespace Att
open PySem PySem.W PySem.Calls PyProof.Rows
theorem ints_of_wellAll {P : Params} {h : Heap} : ∀ (ns : List Int) (vs : List Value), WellAll P h vs (ns.map WData.int) → IntsAre vs ns := by
  intro ns
  induction ns with
  | nil =>
    intro vs w
    rw [List.map_nil] at w
    cases w
    exact .nil
  | cons n ns ih =>
    intro vs w
    rw [List.map_cons] at w
    cases w with
    | cons a b =>
      cases a
      exact .cons _ _ (ih _ b)
theorem script_of {l : OpenLaw} {n : Nat} (hn : l.most = some n) {P : Params} {h : Heap} {args : List WData} {vals : List Value}
    (hpre : l.row.toRowW.claim.pre args = true) (hwl : WellAll P h vals args) :
    ∃ a vs ns, vals = [Value.ref a] ∧ args = [WData.list (ns.map WData.int)] ∧ h.get? a = some { cls := .type "list", data := .seq vs.toArray } ∧ IntsAre vs ns ∧ ns.length ≤ n := by
  have hsh : WShape.hasAll [] args [.list .int] = true := (pre_splitW hpre).1
  have hc : l.pre.holds [] { args := args } = true := (pre_splitW hpre).2
  obtain ⟨d, r, rfl, h1, h2⟩ := hasAllW_cons hsh
  obtain rfl := hasAllW_nil h2
  obtain ⟨xs, rfl, h3⟩ := hasW_list h1
  obtain ⟨ns, rfl⟩ := items_int h3
  have hlen : ns.length ≤ n := by
    unfold OpenLaw.pre at hc
    have h4 : (WTm.not (.lt (.lit (.int (n : Int))) (.len (.arg 0)))).holds [] { args := [.list (ns.map .int)] } = true := by
      have h4 := (holds_andW hc).1
      rw [hn] at h4
      exact h4
    have h5 := condW_of h4 (w_not (w_lt w_lit (w_len_list (w_arg rfl))))
    rw [List.length_map] at h5
    refine Nat.le_of_not_lt fun q => ?_
    have q' : (n : Int) < ((ns.length : Nat) : Int) := by omega
    first
      | (rw [decide_eq_true q'] at h5; exact absurd h5 (by decide))
      | (simp at h5; omega)
  cases hwl with
  | cons w1 w2 =>
    cases w2
    cases w1 with
    | list ho hall => exact ⟨_, _, ns, rfl, rfl, ho, ints_of_wellAll ns _ hall, hlen⟩
theorem post_true (l : OpenLaw) (args : List WData) : l.row.toRowW.claim.post args (.bool true) args = true :=
  postW_of (r := l.row.toRowW) (X := (true == true))
    (show WShape.has [] (.bool true) .bool = true by first | rfl | decide | simp [WShape.has, WShape.arms, WShape.armsAll])
    (show (WTm.eq .res (.lit (.bool true))).value [] { args := args, res := some (.bool true), after := args } = some (.bool (true == true)) from w_eq_bool (w_res rfl) w_lit) rfl
theorem attach_call {l : OpenLaw} {n : Nat} {q : Program} {loose : List Str} {XP : (Str → Option Value) → Heap → Prop} {YP : World → Heap → Prop} {d : DefRec}
    (hn : l.most = some n) (hdf : d.params.defaults = [])
    (call : ∀ (w : World) (s₀ s₁ : Shared) (mg mb : Str → Option Value) (fa : Addr) (o : Obj) (pm cd doc : Value) (a : Addr) (vs : List Value) (ns : List Int),
      Ground q loose [] XP w s₀ mg mb s₁.heap → YP w s₁.heap →
      s₁.heap.get? fa = some o → o.data = .func (docDef d.name d.params d.body d.scope pm cd doc) → s₁.heap.CodeRec cd d.name → mg d.name = some (.ref fa) →
      s₁.heap.get? a = some { cls := .type "list", data := .seq vs.toArray } → IntsAre vs ns → ns.length ≤ n → s₁.gens = #[] →
      codeAny (model l.prog w) callerA (.call (.ref fa) ⟨[.ref a], []⟩) (fun r s' => r = .ok (.ret (.bool true)) ∧ OldK s₁.heap s'.heap ∧ s'.os = s₁.os ∧ AllBare s'.gens) s₁) :
    WalkO q loose XP YP l.row.toRowW d [] (fun f vs => PySem.call f vs) := by
  intro w s₀ s₁ mg mb G Y fa o pm cd doc dV kV ho hd hcd hD hmg hg args vals as hpre hlay hrd hwl hlo
  obtain rfl : dV = .none := Dflts.none hD hdf
  obtain rfl : kV = .none := Dflts.noKw hD
  obtain ⟨a, vs, ns, rfl, rfl, hobj, hints, hlen⟩ := script_of hn hpre hwl
  refine enter_call (codeAny_mono (call w s₀ s₁ mg mb fa o pm cd doc a vs ns G Y ho (fd_plain hd) hcd hmg hobj hints hlen hg) fun r s' hq => ?_)
  obtain ⟨rfl, h2, h3, h4⟩ := hq
  exact ⟨.inl ⟨.bool true, .bool true, [], rfl, fun _ => rfl, .bool true, post_true l _, fun _ => ⟨List.Pairwise.nil, fun _ hm => (nomatch hm)⟩⟩, h2, h3, h4⟩
section
variable {prog : Program} {w : World} {A : Around} {E : Value → Shared → Prop} {s : Shared} {K : Frag}
end
end Att
namespace L2
open PySem PySem.Spec PyProof.Rows
theorem vals_ints : ∀ {vs : List Value} {ns : List Int}, IntsAre vs ns → Vals (ns.map V.int) vs
  | _, _, .nil => .nil
  | _, _, .cons n t h => .cons ⟨t, rfl⟩ (vals_ints h)
def Only (H : Hp) : Prop := ∀ b, H b = none ∨ ∃ o xs, H b = some (.frz o (.lst xs))
theorem law_call {P : Program} {w : World} {K : PySem.W.Frag} {mg mb : Str → Option Value} {CX : CXT} {k : Nat} {fa a : Addr} {fd : FuncData} {x : Str} {sp : Sp} {s₁ : Shared} {vs : List Value} {ns : List Int}
    (KX : K.In s₁.heap) (hns : s₁.heap.Ns mainGlobals mg) (hb : s₁.heap.Ns builtinsNs mb) (hbb : ∀ x : Str, x ≠ "__name__" → mb x = bootBuiltins x) (hlim : s₁.heap.NoLimit) (hg : s₁.gens = #[])
    (ha : s₁.heap.get? a = some { cls := .type "list", data := .seq vs.toArray }) (hi : IntsAre vs ns) (hl : ns.length ≤ sizeLine) (hr : Room k callerA)
    (F : ∀ base : Heap, K.In base → base.Ns mainGlobals mg → FnOk P w K mg base CX k fa fd [x] sp) (hbind : ∀ (s : Shared) (u : Value), BindsTo s fd ⟨[u], []⟩ [(x, u)])
    (hsp : ∀ H : Hp, Only H → SqL K H a (ns.map V.int) → sp [.ref a] H (fun v _ => v = .bl true) fun _ _ _ => False)
    (hCX : ∀ H e s', CX [] H s₁ (fun _ _ _ => False) e s' → False) :
    codeAny (model P w) callerA (.call (.ref fa) ⟨[.ref a], []⟩) (fun r s' => r = .ok (.ret (.bool true)) ∧ OldK s₁.heap s'.heap ∧ s'.os = s₁.os ∧ AllBare s'.gens) s₁ := by
  have rv := vals_ints hi
  have lenV := hi.length
  have core : ∀ H : Hp, Only H → SqL K H a (ns.map V.int) → HOk P w H s₁.heap → (∀ b, H b ≠ none → b = a) → (H a ≠ none → K.lookup a = none) →
      codeAny (model P w) callerA (.call (.ref fa) ⟨[.ref a], []⟩) (fun r s' => r = .ok (.ret (.bool true)) ∧ OldK s₁.heap s'.heap ∧ s'.os = s₁.os ∧ AllBare s'.gens) s₁ := by
    intro H hO hS hok hA hK
    have base_of : ∀ {b : Addr} {o : Obj}, s₁.heap.get? b = some o → H b = none → (hidT s₁.heap H).get? b = some o := fun e n => hidT_get e n
    have noA : ∀ {b : Addr} {o : Obj} {es : Array DictEntry} {ep : Nat}, s₁.heap.get? b = some o → o.data = .dict es ep → H b = none := fun {b o es ep} e d => by
      cases q : H b with
      | none => rfl
      | some u =>
        have e' : b = a := hA b (by rw [q]; simp)
        subst e'
        rw [ha] at e; cases e
        have d' : Data.seq vs.toArray _ = Data.dict es ep := d
        cases d'
    have nsK : ∀ {b : Addr} {m : Str → Option Value}, s₁.heap.Ns b m → (hidT s₁.heap H).Ns b m := fun {b m} ⟨o, es, ep, e, d, r⟩ => ⟨o, es, ep, base_of e (noA e d), d, r⟩
    have hKb : K.In (hidT s₁.heap H) := fun b o e => base_of (KX b o e) (by
      cases q : H b with
      | none => rfl
      | some u =>
        have e' : b = a := hA b (by rw [q]; simp)
        subst e'
        rw [hK (by rw [q]; simp)] at e; cases e)
    have hM : Mod K mg (hidT s₁.heap H) := ⟨hKb, nsK hns, ⟨mb, nsK hb, hbb⟩, let ⟨mc, h1, h2⟩ := hlim; ⟨mc, nsK h1, h2⟩⟩
    have e0 : Env0 P w K mg (hidT s₁.heap H) callerA [] s₁ H := ⟨rfl, hM, fun b o e => of_hidT e, Nat.le_of_eq (hidT_size _ _), trivial, fun b hb => absurd (show b ∈ ([] : List Addr) from hb) (by simp), hok, .of_eq hg⟩
    refine codeAny_mono ((F _ hKb (nsK hns)).run callerA [] s₁ H ⟨[.ref a], []⟩ [.ref a] [.ref a] _ _ hr e0 (hbind s₁ (.ref a)) (.cons rfl .nil) (hsp H hO hS)) fun r s' h => ?_
    cases r with
    | error e => exact (hCX H e s' h).elim
    | ok fl =>
      cases fl with
      | next => exact False.elim h
      | brk => exact False.elim h
      | cont => exact False.elim h
      | ret u =>
        obtain ⟨v, H', os, bare, un, hok', r', q⟩ := h
        have q' : v = .bl true := q
        subst q'
        obtain rfl : u = Value.bool true := r'
        refine ⟨rfl, OldK.of_keep fun b o e => ?_, os, bare⟩
        cases q : H b with
        | none => exact un.keep b o e q (by intro z; exact absurd (show b ∈ ([] : List Addr) from z) (by simp)) (by simp)
        | some u =>
          rcases hO b with z | ⟨ob, xs, z⟩
          · rw [q] at z; cases z
          · have z2 := un.frzs b ob _ z
            obtain ⟨e1, _⟩ := hok b _ z
            obtain ⟨e2, _⟩ := hok' b _ z2
            rw [e] at e1; cases e1
            exact e2
  cases hk : K.lookup a with
  | some o =>
    have e := KX a o hk
    rw [ha] at e
    cases e
    refine core (fun _ => none) (fun _ => .inl rfl) (.inr ⟨_, vs.toArray, _, hk, rfl, rfl, rfl, by rw [List.size_toArray, lenV]; exact hl, by simpa using rv⟩) (fun b u z => by have z' : (none : Option HO) = some u := z; cases z') (fun b z => absurd rfl z) fun z => absurd rfl z
  | none =>
    refine core (fun b => if b = a then some (.frz { cls := .type "list", data := .seq vs.toArray } (.lst (ns.map V.int))) else none) (fun b => ?_) (.inl (.inr ⟨{ cls := .type "list", data := .seq vs.toArray }, if_pos rfl⟩)) (fun b u z => ?_) (fun b z => ?_) fun _ => hk
    · by_cases hb : b = a
      · exact .inr ⟨_, _, if_pos hb⟩
      · exact .inl (if_neg hb)
    · by_cases hb : b = a
      · have z' := (if_pos hb).symm.trans z
        cases z'
        subst hb
        exact ⟨ha, by rw [List.length_map]; exact hl, vs, _, rv, ha⟩
      · have z' := (if_neg hb).symm.trans z
        cases z'
    · by_cases hb : b = a
      · exact hb
      · exact absurd (if_neg hb) z
end L2
namespace L2
open PySem PySem.Spec PyProof.Rows
abbrev KOf {K : PySem.W.Frag} {h : Heap} (_ : K.In h) : PySem.W.Frag := K
theorem walk_of {l : PySem.W.OpenLaw} {n k : Nat} {q : Program} {loose : List Str} {XP : (Str → Option Value) → Heap → Prop} {YP : World → Heap → Prop} {d : DefRec} {K : Params → PySem.W.Frag} {CX : World → CXT} {sp : World → Sp} {x : Str}
    (hn : l.most = some n) (hn2 : n ≤ sizeLine) (hdf : d.params.defaults = []) (hr : Room k callerA)
    (hY : ∀ (w : World) (h : Heap), YP w h → (K w.params).In h)
    (F : ∀ (w : World) (mg : Str → Option Value) (fa : Addr) (h : Heap), (K w.params).In h → h.Ns mainGlobals mg → mg d.name = some (.ref fa) →
      ∃ fd : FuncData, (∀ (s : Shared) (u : Value), BindsTo s fd ⟨[u], []⟩ [(x, u)]) ∧
        ∀ base : Heap, (K w.params).In base → base.Ns mainGlobals mg → FnOk l.prog w (K w.params) mg base (CX w) k fa fd [x] (sp w))
    (hsp : ∀ (w : World) (H : Hp) (a : Addr) (ns : List Int), ns.length ≤ n → Only H → SqL (K w.params) H a (ns.map V.int) → sp w [.ref a] H (fun v _ => v = .bl true) fun _ _ _ => False)
    (hCX : ∀ (w : World) (H : Hp) (s : Shared) (e : Value) (s' : Shared), CX w [] H s (fun _ _ _ => False) e s' → False) :
    PySem.W.WalkO q loose XP YP l.row.toRowW d [] (fun f vs => PySem.call f vs) := by
  refine Att.attach_call hn hdf fun w s₀ s₁ mg mb fa o pm cd doc a vs ns G Y ho hd hcd hmg hobj hints hlen hg => ?_
  have KX := hY w _ Y
  obtain ⟨fd, hb, hF⟩ := F w mg fa _ KX G.T.g hmg
  exact law_call KX G.T.g G.T.b G.T.builtins G.T.nolimit hg hobj hints (Nat.le_trans hlen hn2) hr hF hb (fun H hO hS => hsp w H a ns hlen hO hS) fun H e s' => hCX w H s₁ e s'
theorem walk_ofK {l : PySem.W.OpenLaw} {n k : Nat} {q : Program} {loose : List Str} {XP : (Str → Option Value) → Heap → Prop} {YP : World → Heap → Prop} {d : DefRec} {K : Params → PySem.W.Frag} {CX : CXT} {sp : PySem.W.Frag → Sp} {x : Str}
    (hn : l.most = some n) (hn2 : n ≤ sizeLine) (hdf : d.params.defaults = []) (hr : Room k callerA)
    (hY : ∀ (w : World) (h : Heap), YP w h → (K w.params).In h)
    (F : ∀ (w : World) (mg : Str → Option Value) (fa : Addr) (h : Heap), (K w.params).In h → h.Ns mainGlobals mg → mg d.name = some (.ref fa) →
      ∃ fd : FuncData, (∀ (s : Shared) (u : Value), BindsTo s fd ⟨[u], []⟩ [(x, u)]) ∧
        ∀ base : Heap, (K w.params).In base → base.Ns mainGlobals mg → FnOk l.prog w (K w.params) mg base CX k fa fd [x] (sp (K w.params)))
    (hsp : ∀ (K : PySem.W.Frag) (H : Hp) (a : Addr) (ns : List Int), ns.length ≤ n → Only H → SqL K H a (ns.map V.int) → sp K [.ref a] H (fun v _ => v = .bl true) fun _ _ _ => False)
    (hCX : ∀ (H : Hp) (s : Shared) (e : Value) (s' : Shared), CX [] H s (fun _ _ _ => False) e s' → False) :
    PySem.W.WalkO q loose XP YP l.row.toRowW d [] (fun f vs => PySem.call f vs) :=
  walk_of (K := K) (CX := fun _ => CX) (sp := fun w => sp (K w.params)) hn hn2 hdf hr hY F (fun w H a ns h1 h2 h3 => hsp (K w.params) H a ns h1 h2 h3) fun _ H s e s' => hCX H s e s'
end L2
namespace L2
open PySem PySem.Spec PyProof.Rows
def inClass (s : Stmt) (j : Nat) : Stmt := match s with
  | .ClassDef _ _ _ body _ _ _ _ _ _ _ => body.getD j (.Pass ⟨0, 0, 0, 0⟩)
  | _ => .Pass ⟨0, 0, 0, 0⟩
def defArgs (s : Stmt) : Arguments := match s with
  | .FunctionDef _ a _ _ _ _ _ _ _ _ => a
  | _ => { posonlyargs := [], args := [], vararg := none, kwonlyargs := [], kw_defaults := [], kwarg := none, defaults := [] }
def defBody (s : Stmt) : List Stmt := match s with
  | .FunctionDef _ _ b _ _ _ _ _ _ _ => b
  | _ => []
def defScope (s : Stmt) : Scope := match s with
  | .FunctionDef _ _ _ _ _ _ sc _ _ _ => sc
  | _ => { kind := .function, names := [], isGenerator := false, isCoroutine := false }
abbrev CX0 : CXT := fun _ _ _ _ _ _ => False
abbrev E0 : XK := fun _ _ _ => False
theorem pass0 {X : Cx} : Passes CX0 X E0 := fun _ _ _ _ _ _ _ h => h.elim
structure Fun (K : PySem.W.Frag) (x qual : Str) (st : Stmt) (f : Addr) (fd : FuncData) : Prop where
  ex : ∃ (oc : Value) (od : Option Addr) (kV doc pm : Value) (an : Option Addr) (cdv ct : Value) (osl : Array (Option Value)),
    fd = PySem.W.fnOf x qual (defArgs st) (defBody st) (defScope st) .none kV doc pm an cdv ct ∧ K.lookup f = some ⟨oc, od, .func fd, osl⟩ ∧ PySem.W.codeIn K cdv qual = true
  kp : PySem.W.keepIn K (.ref f) = true
section
variable {P : Program} {w : World} {K : PySem.W.Frag} {mg : Str → Option Value} {base : Heap}
theorem Fun.ok {x qual : Str} {st : Stmt} {f : Addr} {fd : FuncData} {N ps : List Str} {k : Nat} {sp : Sp} (F : Fun K x qual st f fd) (S : FnScope N ps (defScope st)) (len : ∀ vs H Q E, sp vs H Q E → vs.length = ps.length)
    (hbody : ∀ (cdv : Value) (A : Around) (outer : List Env) (s : Shared) (H : Hp) (vs : List V) (Q : VK) (E : XK), Room k (A.deeper (envOfC qual (defScope st) s.heap.objs.size f cdv)) → sp vs H Q E →
      ∃ t, PSs (cxOf CX0 P w K mg base N qual (defScope st) f cdv A outer s H E).nox (defBody st) t ∧ t { nx := fun _ H' => Q .non H', rt := Q } (start N vs) H) : FnOk P w K mg base CX0 (k + 1) f fd ps sp := by
  obtain ⟨oc, od, kV, doc, pm, an, cdv, ct, osl, rfl, lk, hcd⟩ := F.ex
  refine fn_of lk hcd S len fun A outer s H vs Q E hr hsp => ?_
  obtain ⟨t, h, q⟩ := hbody cdv A outer s H vs Q E hr hsp
  exact ⟨t, h.nox, q⟩
theorem Fun.binds {x qual : Str} {st : Stmt} {f : Addr} {fd : FuncData} {ps : List Str} (F : Fun K x qual st f fd)
    (h : ∀ (kV doc pm : Value) (an : Option Addr) (cdv ct : Value) (us : List Value), us.length = ps.length → bindArgs (PySem.W.fnOf x qual (defArgs st) (defBody st) (defScope st) .none kV doc pm an cdv ct) ⟨us, []⟩ = pure (ps.zip us)) : Binds K fd ps [] := by
  obtain ⟨oc, od, kV, doc, pm, an, cdv, ct, osl, rfl, lk, hcd⟩ := F.ex
  exact .all (h kV doc pm an cdv ct)
theorem fun_mk {x qual : Str} {st : Stmt} {f : Addr} {oc : Value} {od an : Option Addr} {osl : Array (Option Value)} {kV doc pm cdv ct : Value} (l : K.lookup f = some ⟨oc, od, .func (PySem.W.fnOf x qual (defArgs st) (defBody st) (defScope st) .none kV doc pm an cdv ct), osl⟩)
    (c : PySem.W.codeIn K cdv qual = true) (k : PySem.W.keepIn K (.ref f) = true) : Fun K x qual st f (PySem.W.fnOf x qual (defArgs st) (defBody st) (defScope st) .none kV doc pm an cdv ct) := ⟨⟨oc, od, kV, doc, pm, an, cdv, ct, osl, rfl, l, c⟩, k⟩
end
theorem hu_of {A : Around} {k : Nat} (hr : Room k A) : A.units + 1 < cLine := Nat.lt_of_le_of_lt (Nat.add_le_add_left (by decide : 1 ≤ 64) _) hr.units
section
variable {X : Cx}
theorem pv (i : Nat) {x : Str} {pos : Pos} (hN : X.N[i]? = some x := by rfl) (hv : Vis X.env.scope x := by first | exact Or.inl rfl | exact Or.inr (Or.inl rfl) | exact Or.inr (Or.inr rfl)) (hd : (x == ("__debug__" : Str)) = false := by decide)
    (hcd : (x == ("__classdict__" : Str)) = false := by decide) : PE X (.Name x pos) (tVar i) := pe_var hN hv hd hcd
end
theorem ite2 {c A B : Prop} [Decidable c] (h1 : c → A) (h2 : ¬ c → B) : if c then A else B := by
  by_cases h : c
  · rw [if_pos h]
    exact h1 h
  · rw [if_neg h]
    exact h2 h
def Same (H H' : Hp) : Prop := ∀ b o, H b = some o → H' b = some o
theorem Same.refl (H : Hp) : Same H H := fun _ _ h => h
theorem Same.trans {H H1 H2 : Hp} (a : Same H H1) (b : Same H1 H2) : Same H H2 := fun c o h => b c o (a c o h)
theorem Same.free {H H' : Hp} (e : Same H H') {l : Addr} (h : H' l = Option.none) : H l = Option.none := by
  cases q : H l with
  | none => rfl
  | some o =>
    rw [e l o q] at h
    cases h
theorem Same.seq {K : PySem.W.Frag} {H H' : Hp} {a : Addr} {xs : List V} (e : Same H H') (h : SqL K H a xs) : SqL K H' a xs := by
  rcases h with (h | ⟨o, h⟩) | h
  · exact .inl (.inl (e _ _ h))
  · exact .inl (.inr ⟨o, e _ _ h⟩)
  · exact .inr h
section
variable {X : Cx}
theorem call_lenD : CallR X (.builtin "len") (fun xs H Q => ∃ a kvs, xs = [V.ref a] ∧ H a = some (.dK kvs) ∧ Q (.int kvs.length) H) := by
  intro pins s σ H xs us Q I r h
  obtain ⟨a, kvs, rfl, ha, q⟩ := h
  obtain ⟨u, rfl, ru⟩ := vals1 r
  cases ru
  exact d_len I (.inl ha) fun t s' I' => ⟨.int kvs.length, H, I', ⟨t, rfl⟩, q⟩
end
section
variable {κ : Type} [DecidableEq κ]
end
end L2
namespace Tx
open PySem PySem.Builtin PySem.Builtin.Str PySem.StrLaws PyProof.Rows
abbrev mk (l : List Nat) : Str := ⟨l.toArray⟩
theorem mk_len (l : List Nat) : (mk l).length = l.length := by show l.toArray.size = _; simp
theorem mk_app (a b : List Nat) : mk a ++ mk b = mk (a ++ b) := by
  show (⟨a.toArray ++ b.toArray⟩ : Str) = _
  simp
theorem subAt_one (l : List Nat) (c i : Nat) : subAt (mk l) (mk [c]) i = decide (l[i]? = some c) := by
  rw [subAt_eq]
  show ((l.drop i).take 1 == [c]) = _
  cases e : l[i]? with
  | none =>
    have : l.drop i = [] := List.drop_eq_nil_of_le (by simpa using e)
    rw [this]; simp
  | some d =>
    have hi := (List.getElem?_eq_some_iff.mp e)
    obtain ⟨h1, h2⟩ := hi
    rw [List.drop_eq_getElem_cons h1, h2]
    show (d == c && true) = decide (some d = some c)
    by_cases z : d = c
    · subst z; simp
    · simp [z]
theorem starts_one (c : Nat) (l : List Nat) : Txt.startswith (mk l) (mk [c]) = decide (l[0]? = some c) := by
  unfold Txt.startswith
  rw [subAt_one, mk_len, mk_len]
  cases l with
  | nil => rfl
  | cons d r => simp
end Tx
namespace L2
open PySem PySem.Spec PyProof.Rows
abbrev NoE : Value → Shared → Prop := fun _ _ => False
section
variable {prog : Program} {w : World} {A : Around} {R : Result → Shared → Prop} {s : Shared}
theorem compLoop_any {elt target iter : Expr} {ifs : List Expr} {scope : Scope} {pos : Pos} {it acc : Value} {env : Env} (I : Nat → Shared → Prop)
    (turn : ∀ n s, I n s → wpAny (model prog w) A (pyNext it) (fun r s₁ => match r with
      | none => R (.ok .next) s₁
      | some v => wpAny (model prog w) A (letOwnedTupleGo target it v) (fun _ s₂ => wpAny (model prog w) A (assign target env v) (fun _ s₃ =>
          wpAny (model prog w) A (forIn ifs true fun c r => if r = true then do let ok ← isTrue c env (eval c env); pure (ForInStep.yield ok) else pure (ForInStep.yield r)) (fun ok s₄ =>
            if ok = true then wpAny (model prog w) A (eval elt env) (fun x s₅ => wpAny (model prog w) A (call (.builtin "list.append") [acc, x]) (fun _ s₆ => ∃ m, m < n ∧ I m s₆) NoE s₅) NoE s₄
            else ∃ m, m < n ∧ I m s₄) NoE s₃) NoE s₂) NoE s₁) NoE s)
    (n : Nat) (h : I n s) : codeAny (model prog w) A (.compLoop (.ListComp elt [⟨target, iter, ifs, 0⟩] scope pos) 0 it acc env) R s := by
  refine codeAny_loop rfl I (fun n s hI => ?_) n h
  show wpAny _ A ((compTurn (.ListComp elt [⟨target, iter, ifs, 0⟩] scope pos) 0 it acc env).onRaise (fun x => do noteFrame x env; theTreesLotGoes x)) _ _ s
  refine wpAny_noted ?_
  rw [compTurn_list]
  refine wpAny_noRaise ?_
  refine wpAny_bind (wpAny_standAt (wpAny_bind (wpAny_mono (turn n s hI) (fun r s₁ h₁ => ?_) fun _ _ h' => h')))
  cases r with
  | none => exact wpAny_pure h₁
  | some v =>
    refine wpAny_bind (wpAny_mono h₁ (fun _ s₂ h₂ => wpAny_bind (wpAny_mono h₂ (fun _ s₃ h₃ => wpAny_bind (wpAny_mono h₃ (fun ok s₄ h₄ => ?_) fun _ _ h' => h')) fun _ _ h' => h')) fun _ _ h' => h')
    cases ok with
    | false => exact wpAny_pure ⟨rfl, h₄⟩
    | true => exact wpAny_bind (wpAny_bind (wpAny_mono h₄ (fun x s₅ h₅ => wpAny_bind (wpAny_mono h₅ (fun _ s₆ h₆ => wpAny_pure (wpAny_pure ⟨rfl, h₆⟩)) fun _ _ h' => h')) fun _ _ h' => h'))
end
def clos (env : Env) : List (Str × NameKind) → List (Str × Addr) → List (Str × Addr)
  | [], cs => cs
  | (n, k) :: r, cs => clos env r (if (k == NameKind.free) = true then (n, (env.cells.lookup n).getD 0) :: cs else cs)
theorem closureFor_clos {scope : Scope} {env : Env} (h : ∀ y ∈ scope.names, y.2 = NameKind.free → ∃ c, env.cells.lookup y.1 = some c) : closureFor scope env = pure (clos env scope.names []) := by
  have all : ∀ (l : List (Str × NameKind)) (cs : List (Str × Addr)), (∀ y ∈ l, y.2 = NameKind.free → ∃ c, env.cells.lookup y.1 = some c) →
      (forIn l cs fun (x : Str × NameKind) (cs : List (Str × Addr)) => (if (x.2 == NameKind.free) = true then do let a ← cellOf env x.1; pure (ForInStep.yield ((x.1, a) :: cs)) else pure (ForInStep.yield cs) : Sem (ForInStep (List (Str × Addr))))) = pure (clos env l cs) := by
    intro l
    induction l with
    | nil => intro cs _; rfl
    | cons y l ih =>
      intro cs hy
      obtain ⟨n, k⟩ := y
      rw [List.forIn_cons]
      by_cases hk : (k == NameKind.free) = true
      · obtain ⟨c, hc⟩ := hy (n, k) List.mem_cons_self (by simpa using hk)
        have e1 : cellOf env n = pure c := by unfold cellOf; rw [hc]
        have e2 : clos env ((n, k) :: l) cs = clos env l ((n, c) :: cs) := by
          show clos env l (if (k == NameKind.free) = true then (n, (env.cells.lookup n).getD 0) :: cs else cs) = _
          rw [if_pos hk, hc]; rfl
        rw [e2, ← ih ((n, c) :: cs) fun z hz => hy z (List.mem_cons_of_mem _ hz)]
        simp only [hk, if_true, e1, pure_bind]
      · have e2 : clos env ((n, k) :: l) cs = clos env l cs := by
          show clos env l (if (k == NameKind.free) = true then (n, (env.cells.lookup n).getD 0) :: cs else cs) = _
          rw [if_neg hk]
        rw [e2, ← ih cs fun z hz => hy z (List.mem_cons_of_mem _ hz)]
        have hk' : (k == NameKind.free) = false := by simpa using hk
        simp only [hk', Bool.false_eq_true, if_false, pure_bind]
  have e := all scope.names [] h
  unfold closureFor
  first
    | (rw [show (pure (clos env scope.names []) : Sem (List (Str × Addr))) = (pure (clos env scope.names []) >>= fun cs => pure cs) from rfl, ← e]; rfl)
    | (simp only [bind_pure]; exact e)
    | (simpa using e)
theorem clos_look {env : Env} {x : Str} {c : Addr} : ∀ {l : List (Str × NameKind)} {cs : List (Str × Addr)}, (∀ y ∈ l, y.2 = NameKind.free → ∃ c, env.cells.lookup y.1 = some c) →
    (∀ y d, cs.lookup y = some d → env.cells.lookup y = some d) → (clos env l cs).lookup x = some c → env.cells.lookup x = some c
  | [], _, _, hc, h => hc x c h
  | (n, k) :: r, cs, hy, hc, h => by
    refine clos_look (l := r) (cs := if (k == NameKind.free) = true then (n, (env.cells.lookup n).getD 0) :: cs else cs) (fun z hz => hy z (List.mem_cons_of_mem _ hz)) (fun y d q => ?_) h
    by_cases hk : (k == NameKind.free) = true
    · rw [if_pos hk] at q
      obtain ⟨c', hc'⟩ := hy (n, k) List.mem_cons_self (by simpa using hk)
      rw [hc', List.lookup_cons] at q
      by_cases e : (y == n) = true
      · rw [e] at q
        have e' : y = n := by simpa using e
        rw [e', hc']; exact q
      · have e' : (y == n) = false := by simpa using e
        rw [e'] at q
        exact hc y d q
    · rw [if_neg hk] at q
      exact hc y d q
theorem clos_has {env : Env} {x : Str} : ∀ {l : List (Str × NameKind)} {cs : List (Str × Addr)}, ((x, NameKind.free) ∈ l ∨ ∃ c, cs.lookup x = some c) → ∃ c, (clos env l cs).lookup x = some c
  | [], _, h => by
    rcases h with h | h
    · cases h
    · exact h
  | (n, k) :: r, cs, h => by
    refine clos_has (l := r) (cs := if (k == NameKind.free) = true then (n, (env.cells.lookup n).getD 0) :: cs else cs) ?_
    rcases h with h | ⟨c, h⟩
    · rcases List.mem_cons.mp h with e | e
      · cases e
        refine .inr ?_
        rw [if_pos (by rfl), List.lookup_cons, beq_self_eq_true]
        exact ⟨_, rfl⟩
      · exact .inl e
    · refine .inr ?_
      by_cases hk : (k == NameKind.free) = true
      · rw [if_pos hk, List.lookup_cons]
        by_cases e : (x == n) = true
        · rw [e]; exact ⟨_, rfl⟩
        · have e' : (x == n) = false := by simpa using e
          rw [e']; exact ⟨c, h⟩
      · rw [if_neg hk]; exact ⟨c, h⟩
theorem lookup_relabel_free {env : Env} : ∀ {names : List (Str × NameKind)} {x : Str}, names.lookup x = some .free →
    (names.map fun (n, k) => if (k == NameKind.free && env.scope.kind == .function && env.kindOf n == some .cell) then (n, NameKind.cell) else (n, k)).lookup x = some .cell ∨
    (names.map fun (n, k) => if (k == NameKind.free && env.scope.kind == .function && env.kindOf n == some .cell) then (n, NameKind.cell) else (n, k)).lookup x = some .free
  | [], _, h => by simp at h
  | (n, k) :: r, x, h => by
    have ih := @lookup_relabel_free env r x
    rw [List.map_cons]
    show List.lookup x ((if (k == NameKind.free && env.scope.kind == .function && env.kindOf n == some .cell) = true then (n, NameKind.cell) else (n, k)) :: _) = _ ∨ List.lookup x ((if (k == NameKind.free && env.scope.kind == .function && env.kindOf n == some .cell) = true then (n, NameKind.cell) else (n, k)) :: _) = _
    cases hx : x == n with
    | true =>
      simp only [List.lookup_cons, hx] at h
      cases h
      by_cases hc : (NameKind.free == NameKind.free && env.scope.kind == .function && env.kindOf n == some .cell) = true
      · rw [if_pos hc]; exact .inl (by simp only [List.lookup_cons, hx])
      · rw [if_neg hc]; exact .inr (by simp only [List.lookup_cons, hx])
    | false =>
      simp only [List.lookup_cons, hx] at h
      by_cases hc : (k == NameKind.free && env.scope.kind == .function && env.kindOf n == some .cell) = true
      · rw [if_pos hc]; simp only [List.lookup_cons, hx]; exact ih h
      · rw [if_neg hc]; simp only [List.lookup_cons, hx]; exact ih h
theorem relabel_cf {env : Env} : ∀ {names : List (Str × NameKind)} {x : Str}, (∀ y ∈ names, y.2 ≠ NameKind.cell) →
    ((names.map fun (n, k) => if (k == NameKind.free && env.scope.kind == .function && env.kindOf n == some .cell) then (n, NameKind.cell) else (n, k)).lookup x = some .cell ∨
    (names.map fun (n, k) => if (k == NameKind.free && env.scope.kind == .function && env.kindOf n == some .cell) then (n, NameKind.cell) else (n, k)).lookup x = some .free) → (x, NameKind.free) ∈ names
  | [], _, _, h => by rcases h with h | h <;> simp at h
  | (n, k) :: r, x, hn, h => by
    have ih := @relabel_cf env r x fun y hy => hn y (List.mem_cons_of_mem _ hy)
    have hk := hn (n, k) List.mem_cons_self
    rw [List.map_cons] at h
    by_cases hc : (k == NameKind.free && env.scope.kind == .function && env.kindOf n == some .cell) = true
    · have hk1 : k = NameKind.free := by
        rw [Bool.and_eq_true, Bool.and_eq_true] at hc
        simpa using hc.1.1
      simp only [hc, if_true, List.lookup_cons] at h
      cases hx : x == n with
      | true => have e : x = n := by simpa using hx
                rw [e, hk1]; exact List.mem_cons_self
      | false => rw [hx] at h; exact List.mem_cons_of_mem _ (ih h)
    · have hc' : (k == NameKind.free && env.scope.kind == .function && env.kindOf n == some .cell) = false := by simpa using hc
      simp only [hc', Bool.false_eq_true, if_false, List.lookup_cons] at h
      cases hx : x == n with
      | true =>
        rw [hx] at h
        have e : x = n := by simpa using hx
        rcases h with h | h
        · exact absurd (Option.some.inj h) hk
        · rw [e, Option.some.inj h]; exact List.mem_cons_self
      | false => rw [hx] at h; exact List.mem_cons_of_mem _ (ih h)
def cxComp (X : Cx) (Nc : List Str) (scope : Scope) (cl : List (Str × Addr)) (C : Addr) (s : Shared) (H : Hp) (ex : List Addr) : Cx where
  prog := X.prog
  w := X.w
  K := X.K
  mg := X.mg
  base := X.base
  A := X.A
  N := Nc
  s₀ := s
  H₀ := H
  env := compEnvC scope cl C X.env
  outer := X.stack
  stack := X.stack
  ex := ex
  fn := fun _ => false
  calm := X.calm
  pn := []
  xe := NoE
def pickS (js : List (Option Nat)) (σ : St) : St := js.map fun o => match o with
  | none => none
  | some j => (σ[j]?).getD none
structure CompOk (X : Cx) (Nc : List Str) (js : List (Option Nat)) (scope : Scope) : Prop where
  kind : scope.kind = .function
  nocell : ∀ y ∈ scope.names, y.2 ≠ NameKind.cell
  names : ∀ y ∈ scope.names, y.2 = NameKind.local → scope.names.lookup y.1 = some NameKind.local
  free : ∀ y ∈ scope.names, y.2 = NameKind.free → X.env.kindOf y.1 = some NameKind.cell ∨ X.env.kindOf y.1 = some NameKind.free
  len : js.length = Nc.length
  map : ∀ (i : Nat) (y : Str) (j : Nat), Nc[i]? = some y → js[i]? = some (some j) → X.N[j]? = some y ∧ scope.names.lookup y = some NameKind.free
def compB (sc : Scope) (N Nc : List Str) (js : List (Option Nat)) (scope : Scope) : Bool :=
  scope.kind == .function && scope.names.all (fun y => y.2 != NameKind.cell) && scope.names.all (fun y => y.2 != NameKind.local || scope.names.lookup y.1 == some NameKind.local) &&
  scope.names.all (fun y => y.2 != NameKind.free || sc.names.lookup y.1 == some NameKind.cell || sc.names.lookup y.1 == some NameKind.free) && js.length == Nc.length &&
  (Nc.zip js).all (fun p => match p.2 with | none => true | some j => N[j]? == some p.1 && scope.names.lookup p.1 == some NameKind.free)
theorem compOk_of {X : Cx} {sc : Scope} {N Nc : List Str} {js : List (Option Nat)} {scope : Scope} (hsc : X.env.scope = sc) (hN : X.N = N) (h : compB sc N Nc js scope = true) : CompOk X Nc js scope := by
  unfold compB at h
  rw [Bool.and_eq_true, Bool.and_eq_true, Bool.and_eq_true, Bool.and_eq_true, Bool.and_eq_true] at h
  obtain ⟨⟨⟨⟨⟨h1, h2⟩, h3⟩, h4⟩, h5⟩, h6⟩ := h
  rw [List.all_eq_true] at h2 h3 h4 h6
  have h5' : js.length = Nc.length := by simpa using h5
  refine ⟨by simpa using h1, fun y hy => by simpa using h2 y hy, fun y hy e => ?_, fun y hy e => ?_, h5', fun i y j e1 e2 => ?_⟩
  · have q := h3 y hy
    rw [e] at q
    simpa using q
  · have q := h4 y hy
    rw [e] at q
    show X.env.scope.names.lookup y.1 = _ ∨ X.env.scope.names.lookup y.1 = _
    rw [hsc]
    simpa using q
  · have hm : (y, some j) ∈ Nc.zip js := by
      refine List.mem_of_getElem? (i := i) ?_
      rw [List.getElem?_zip_eq_some]
      exact ⟨e1, e2⟩
    have q := h6 _ hm
    simp only [Bool.and_eq_true, beq_iff_eq] at q
    rw [hN]
    exact q
def PTs (X : Cx) (ifs : List Expr) (t : TT) : Prop :=
  ∀ (pins : List (Addr × Obj)) (s : Shared) (σ : St) (H : Hp) (Q : Bool → Hp → Prop), Inv X pins σ H s → t σ H Q →
    wpAny (model X.prog X.w) X.A (forIn ifs true fun c r => if r = true then do let ok ← isTrue c X.env (eval c X.env); pure (ForInStep.yield ok) else pure (ForInStep.yield r)) (TP X pins σ Q) X.xe s
def tYes : TT := fun _ H Q => Q true H
theorem pts_nil {X : Cx} : PTs X [] tYes := fun pins s σ H Q I h => wpAny_tests_nil ⟨H, I, h⟩
theorem pts_one {X : Cx} {c : Expr} {t : TT} (hc : PT X c t) : PTs X [c] t := fun pins s σ H Q I h => wpAny_tests_one (hc pins s σ H Q I h)
def tComp (js : List (Option Nat)) (wi : TI) (g : TG) (tt : TT) (te : TE) : TE := fun σ H Q => wi σ H fun J H1 => ∀ D, H1 D = none → ∃ W : Nat → Nat → St → Hp → List V → Prop, (∃ m, W 0 m (pickS js σ) (upd H1 D (.lst [])) []) ∧
  ∀ i m σ' H' ys, W i m σ' H' ys → H' D = some (.lst ys) ∧ ((J.stop i H' ∧ Q (.ref D) H') ∨ (J.go i H' ∧ ys.length < sizeLine ∧ ∀ x H2, J.yld i H' x H2 → g x σ' H2 fun σ2 H3 => tt σ2 H3 fun b H4 =>
    if b = true then te σ2 H4 fun v H5 => H5 D = some (.lst ys) ∧ ∃ m', m' < m ∧ W (i + 1) m' σ2 (upd H5 D (.lst (ys ++ [v]))) (ys ++ [v]) else ∃ m', m' < m ∧ W (i + 1) m' σ2 H4 ys))
section
variable {X : Cx} {elt target iter : Expr} {ifs : List Expr} {scope : Scope} {pos : Pos} {Nc : List Str} {js : List (Option Nat)} {wi : TI} {g : TG} {tt : TT} {te : TE}
theorem comp_block {pins : List (Addr × Obj)} {σ : St} {H2 : Hp} {s₂ : Shared} {E : Value → Shared → Prop} {it : Addr} {fp : List Addr} {tn : Nat → Heap → Prop} {J : It} {Q : VK} {RR : Value → Addr → Result → Shared → Prop} (ok : CompOk X Nc js scope) (hc : X.calm = true)
    (hg : ∀ C cl s H ex, PG (cxComp X Nc scope cl C s H ex) target g) (ht : ∀ C cl s H ex, PTs (cxComp X Nc scope cl C s H ex) ifs tt) (he : ∀ C cl s H ex, PE (cxComp X Nc scope cl C s H ex) elt te)
    (I2 : Inv X pins σ H2 s₂) (T : Turn X.prog X.w X.K target J fp it tn) (st2 : tn 0 s₂.heap) (f2 : ∀ b ∈ fp, FpOk X pins H2 b)
    (h : ∀ D, H2 D = none → ∃ W : Nat → Nat → St → Hp → List V → Prop, (∃ m, W 0 m (pickS js σ) (upd H2 D (.lst [])) []) ∧
      ∀ i m σ' H' ys, W i m σ' H' ys → H' D = some (.lst ys) ∧ ((J.stop i H' ∧ Q (.ref D) H') ∨ (J.go i H' ∧ ys.length < sizeLine ∧ ∀ x H2, J.yld i H' x H2 → g x σ' H2 fun σ2 H3 => tt σ2 H3 fun b H4 =>
        if b = true then te σ2 H4 fun v H5 => H5 D = some (.lst ys) ∧ ∃ m', m' < m ∧ W (i + 1) m' σ2 (upd H5 D (.lst (ys ++ [v]))) (ys ++ [v]) else ∃ m', m' < m ∧ W (i + 1) m' σ2 H4 ys)))
    (hRR : ∀ (D C : Addr) (s' : Shared) (H' : Hp) (m : Str → Option Value), Inv X pins σ H' s' → s'.heap.Ns C m → FpOk X pins H' C → Q (.ref D) H' → RR (.ref D) C (.ok .next) s') :
    wpAny (model X.prog X.w) X.A (newList []) (fun acc s₃ => wpAny (model X.prog X.w) X.A (newFunctionEnv scope X.env.globals (clos X.env scope.names []) [] X.env.qual none .none (some X.env)) (fun cenv s₄ =>
      codeAny (model X.prog X.w) X.A (.compStart (.ListComp elt [⟨target, iter, ifs, 0⟩] scope pos) 0 (.ref it) acc { cenv with scope := relabel scope X.env }) (RR acc cenv.locals) s₄) E s₃) E s₂ := by
  have hfr : ∀ y ∈ scope.names, y.2 = NameKind.free → ∃ c, X.env.cells.lookup y.1 = some c := fun y hy e => I2.ok.has y.1 (ok.free y hy e)
  refine wpAny_newObj_type (wpAny_newFunctionEnv ok.nocell (by intro y hy; simp at hy) (fun h₁ hns₁ hsb₁ => ?_) ok.kind)
  dsimp only at hns₁ hsb₁ ⊢
  generalize hHL : s₂.heap.push { cls := .type "list", dict := none, data := .seq ([] : List Value).toArray } = HL at hns₁ hsb₁ ⊢
  have hC : HL.objs.size = s₂.heap.objs.size + 1 := by rw [← hHL, Heap.size_push]
  have hCle : s₂.heap.objs.size ≤ HL.objs.size := by rw [hC]; exact Nat.le_succ _
  have hDC : s₂.heap.objs.size ≠ HL.objs.size := by rw [hC]; exact Nat.ne_of_lt (Nat.lt_succ_self _)
  have old : ∀ b o, s₂.heap.get? b = some o → h₁.get? b = some o := fun b o e => hsb₁.extBut b o (Nat.ne_of_lt (Nat.lt_of_lt_of_le (Heap.lt_size e) hCle)) (Heap.get?_push_of_some _ (hHL ▸ Heap.get?_push_of_some _ e))
  have hacc : h₁.get? s₂.heap.objs.size = some { cls := .type "list", dict := none, data := .seq ([] : List Value).toArray } := hsb₁.extBut _ _ hDC (Heap.get?_push_of_some _ (hHL ▸ Heap.get?_push_size _ rfl))
  have hD0 : H2 s₂.heap.objs.size = none := I2.hok.fresh (Nat.le_refl _)
  have hC0 : H2 HL.objs.size = none := I2.hok.fresh hCle
  obtain ⟨W, ⟨m0, w0⟩, turn⟩ := h _ hD0
  have hlook : ∀ x c, (clos X.env scope.names []).lookup x = some c → X.env.cells.lookup x = some c := fun x c e => clos_look hfr (fun y d q => by simp at q) e
  have hlt : ∀ b ∈ fp, b < s₂.heap.objs.size := fun b hb => let ⟨o, e, _⟩ := T.obj 0 _ st2 b hb; Heap.lt_size e
  have okc : (cxComp X Nc scope (clos X.env scope.names []) HL.objs.size s₂ H2 fp).Ok := by
    refine ⟨I2.ok.mod, by show scope.kind = _; exact ok.kind, I2.ok.glob, I2.ok.blt, hCle, fun x y c e1 e2 => I2.ok.inj x y c (hlook x c e1) (hlook y c e2), fun x hx => ?_, fun x c z _ => absurd z Bool.false_ne_true, I2.ok.hd, I2.ok.frames, .inl rfl, fun b hb => ⟨?_, fun x c e => (f2 b hb).2.2.2.2.1 x c (hlook x c e)⟩,
      I2.bs, Nat.le_trans I2.ok.bsz I2.sz, fun b o e hb => ?_, fun b hb z => ?_, I2.stack, I2.stkFree⟩
    · exact clos_has (.inl (relabel_cf ok.nocell hx))
    · exact Nat.ne_of_lt (Nat.lt_of_lt_of_le (hlt b hb) hCle)
    · rcases (f2 b hb).2.2.2.1 with z | z
      · exact I2.ok.noex b o e z
      · exact absurd (Nat.lt_of_lt_of_le (Heap.lt_size e) (Nat.le_trans I2.ok.bsz z)) (Nat.lt_irrefl _)
    · rcases List.mem_cons.mp (I2.stkSub b z) with e | e
      · exact (f2 b hb).2.1 e
      · exact (f2 b hb).2.2.1 e
  have fpc : ∀ {H' : Hp}, (∀ b ∈ fp, H' b = none) → ∀ b ∈ fp, FpOk (cxComp X Nc scope (clos X.env scope.names []) HL.objs.size s₂ H2 fp) [] H' b := fun {H'} hn b hb =>
    ⟨hn b hb, (okc.exf b hb).1, okc.exfs b hb, .inl hb, (okc.exf b hb).2, fun p hp => absurd (show p ∈ ([] : List (Addr × Obj)) from hp) (by simp)⟩
  have Ic : Inv (cxComp X Nc scope (clos X.env scope.names []) HL.objs.size s₂ H2 fp) [] (pickS js σ) (upd H2 s₂.heap.objs.size (.lst [])) { s₂ with heap := h₁, toks := s₂.toks + ([] : List (Str × Value)).length } := by
    refine ⟨okc, rfl, I2.bare, Un.laid old (Nat.le_refl _) hD0, ⟨_, hns₁, fun i x v e1 e2 e3 => ?_⟩, fun x c e => ?_, ?_, fun x c e => ?_, fun p hp => absurd (show p ∈ ([] : List (Addr × Obj)) from hp) (by simp), ?_, ?_⟩
    · have e1' : Nc[i]? = some x := e1
      unfold pickS at e2
      rw [List.getElem?_map] at e2
      cases ej : js[i]? with
      | none => rw [ej] at e2; simp at e2
      | some oj =>
        rw [ej] at e2
        cases oj with
        | none => simp at e2
        | some j =>
          have e2' : (σ[j]?).getD none = some v := by simpa using e2
          have e2'' : σ[j]? = some (some v) := by
            cases q : σ[j]? with
            | none => rw [q] at e2'; simp at e2'
            | some z => rw [q] at e2'; simp at e2'; rw [e2']
          obtain ⟨hN, hF⟩ := ok.map i x j e1' ej
          have hmem : (x, NameKind.free) ∈ scope.names := PySem.mem_of_lookup hF
          have hkX := ok.free _ hmem rfl
          obtain ⟨m, hn, hl⟩ := I2.loc
          have hvis : Vis X.env.scope x := by
            rcases hkX with z | z
            · exact .inr (.inl z)
            · exact .inr (.inr z)
          obtain ⟨u, ru, lk⟩ := hl j x v hN e2'' hvis
          refine ⟨u, ru, .inr ?_⟩
          rcases lk with ⟨k1, _⟩ | ⟨_, c, ec, ic⟩
          · have k1' : X.env.kindOf x = some NameKind.local := k1
            rcases hkX with z | z
            · rw [z] at k1'; cases k1'
            · rw [z] at k1'; cases k1'
          · obtain ⟨c', hc'⟩ := clos_has (env := X.env) (l := scope.names) (cs := []) (x := x) (.inl hmem)
            have e' := hlook x c' hc'
            rw [ec] at e'
            cases e'
            exact ⟨lookup_relabel_free hF, c, hc', ic.keeps old⟩
    · obtain ⟨v, q⟩ := I2.cell x c (hlook x c e)
      exact ⟨v, q.keeps old⟩
    · show upd H2 s₂.heap.objs.size (.lst []) HL.objs.size = none
      rw [upd_ne (Ne.symm hDC)]; exact hC0
    · obtain ⟨v, q⟩ := I2.cell x c (hlook x c e)
      rw [upd_ne (Nat.ne_of_lt q.lt)]
      exact I2.freeC x c (hlook x c e)
    · exact I2.hok.laid old (Nat.le_refl _) ⟨Nat.zero_le _, [], _, .nil, hacc⟩
    · show (pickS js σ).length = Nc.length
      unfold pickS
      rw [List.length_map]; exact ok.len
  have back : ∀ {σ' : St} {H' : Hp} {s' : Shared}, Inv (cxComp X Nc scope (clos X.env scope.names []) HL.objs.size s₂ H2 fp) [] σ' H' s' → Inv X pins σ H' s' := fun {σ' H' s'} I4 =>
    I2.call' (ch := fp) I4.os I4.base I4.hok I4.bare fun b hb => ⟨(f2 b hb).2.2.2.1, (f2 b hb).2.1, (f2 b hb).2.2.2.2.1, (f2 b hb).2.2.2.2.2⟩
  have st1 : tn 0 h₁ := T.keep 0 _ _ st2 fun b _ o e => old b o e
  have loop : ∀ s₃ : Shared, s₃ = { s₂ with heap := h₁, toks := s₂.toks + ([] : List (Str × Value)).length } →
      codeAny (model X.prog X.w) X.A (.compLoop (.ListComp elt [⟨target, iter, ifs, 0⟩] scope pos) 0 (.ref it) (.ref s₂.heap.objs.size) (compEnvC scope (clos X.env scope.names []) HL.objs.size X.env))
        (RR (.ref s₂.heap.objs.size) HL.objs.size) s₃ := by
    rintro s₃ rfl
    refine compLoop_any (fun n s' => ∃ i σ' H' ys, Inv (cxComp X Nc scope (clos X.env scope.names []) HL.objs.size s₂ H2 fp) [] σ' H' s' ∧ tn i s'.heap ∧ (∀ b ∈ fp, H' b = none) ∧ W i n σ' H' ys) ?_ m0
      ⟨0, pickS js σ, _, [], Ic, st1, fun b hb => by rw [upd_ne (Nat.ne_of_lt (hlt b hb))]; exact (f2 b hb).1, w0⟩
    rintro n s3 ⟨i, σ3, H3, ys, I3, st3, fr3, w3⟩
    obtain ⟨hD3, tn3⟩ := turn i n σ3 H3 ys w3
    rcases tn3 with ⟨stop, q⟩ | ⟨go, hys, step⟩
    · refine thn (T.done (cxComp X Nc scope (clos X.env scope.names []) HL.objs.size s₂ H2 fp) rfl rfl rfl hc i [] s3 σ3 H3 NoE I3 (fpc fr3) st3 stop) fun r s4 ⟨hr, I4⟩ => ?_
      subst hr
      obtain ⟨m4, n4, _⟩ := I4.loc
      exact hRR _ _ s4 H3 m4 (back I4) n4 (I2.fpOk hCle I4.free) q
    · refine thn (T.item (cxComp X Nc scope (clos X.env scope.names []) HL.objs.size s₂ H2 fp) rfl rfl rfl hc i [] s3 σ3 H3 NoE I3 (fpc fr3) st3 go) fun r s4 ⟨u, hr, h4⟩ => ?_
      subst hr
      refine thn h4 fun _ s5 ⟨x, H5, I5, r5, y5, st5, fr5⟩ => ?_
      have I5' := I5.pinned (fpc fr5) (T.obj _ _ st5)
      have fin : ∀ {σ7 : St} {H7 : Hp} {s7 : Shared} {zs : List V} {m' : Nat}, Inv (cxComp X Nc scope (clos X.env scope.names []) HL.objs.size s₂ H2 fp) ([] ++ pinsAt fp s5.heap) σ7 H7 s7 → m' < n → W (i + 1) m' σ7 H7 zs →
          ∃ m, m < n ∧ ∃ i σ' H' ys, Inv (cxComp X Nc scope (clos X.env scope.names []) HL.objs.size s₂ H2 fp) [] σ' H' s7 ∧ tn i s7.heap ∧ (∀ b ∈ fp, H' b = none) ∧ W i m σ' H' ys := fun {σ7 H7 s7 zs m'} I7 hm w7 => by
        refine ⟨m', hm, i + 1, σ7, H7, zs, I7.unpinned, T.keep _ _ _ st5 fun b hb o e => (I7.pin (b, o) (List.mem_append_right _ (List.mem_append_right _ (mem_pinsAt hb e)))).1, fun b hb => ?_, w7⟩
        obtain ⟨o, e, d⟩ := T.obj _ _ st5 b hb
        exact (I7.pin (b, o) (List.mem_append_right _ (List.mem_append_right _ (mem_pinsAt hb e)))).2.1
      refine thn (hg _ _ _ _ _ _ s5 σ3 H5 x u _ I5' r5 (step x H5 y5)) fun _ s6 ⟨σ6, H6, I6, q6⟩ => ?_
      refine thn (ht _ _ _ _ _ _ s6 σ6 H6 _ I6 q6) fun b s7 ⟨H7, I7, q7⟩ => ?_
      cases b with
      | false =>
        obtain ⟨m', hm, w7⟩ := q7
        exact fin I7 hm w7
      | true =>
        refine thn (he _ _ _ _ _ _ s7 σ6 H7 _ I7 q7) fun v s8 ⟨y, H8, I8, r8, hD8, m', hm, w8⟩ => ?_
        refine thn (mt_append _ s8 σ6 H8 (.ref s₂.heap.objs.size) [y] (.ref s₂.heap.objs.size) [v] (fun _ H9 => H9 = upd H8 s₂.heap.objs.size (.lst (ys ++ [y]))) I8 rfl (.cons r8 .nil) ⟨_, ys, y, rfl, rfl, hD8, hys, rfl⟩) fun v9 s9 ⟨_, H9, I9, _, e9⟩ => ?_
        subst e9
        exact fin I9 hm w8
  exact codeAny_compStart_list (loop _ rfl) (T.self X.A 0 _ _ _ st1 (loop _ rfl))
theorem pe_comp (ok : CompOk X Nc js scope) (hc : X.calm = true) (hi : PI X target iter wi)
    (hg : ∀ C cl s H ex, PG (cxComp X Nc scope cl C s H ex) target g) (ht : ∀ C cl s H ex, PTs (cxComp X Nc scope cl C s H ex) ifs tt) (he : ∀ C cl s H ex, PE (cxComp X Nc scope cl C s H ex) elt te)
    (hs : ∀ x, foldedSetIterable iter X.env x = pure x := by intro _; rfl) : PE X (.ListComp elt [⟨target, iter, ifs, 0⟩] scope pos) (tComp js wi g tt te) := by
  intro pins s σ H Q I h
  have hfr : ∀ y ∈ scope.names, y.2 = NameKind.free → ∃ c, X.env.cells.lookup y.1 = some c := fun y hy e => I.ok.has y.1 (ok.free y hy e)
  rw [eval_ListComp]
  refine wpAny_comprehension_free (use := none) rfl hs (closureFor_clos hfr) ok.kind ok.names (thn (hi pins s σ H _ I h) fun v s1 h1 => thn h1 fun itv s2 h2 => ?_)
  obtain ⟨it, fp, tn, J, H2, e, I2, T, st2, f2, h⟩ := h2
  subst e
  refine comp_block (RR := fun acc C => compPost (model X.prog X.w) X.A X.xe none (EP X pins σ Q) acc C) (Q := Q) ok hc hg ht he I2 T st2 f2 h ?_
  intro D C s' H' m I' n' fC q
  refine ⟨m, n', fun h' sb => ⟨.ref D, H', ?_, rfl, q⟩⟩
  exact I'.turned (t' := s'.toks) (fun b o hb e => (sb.2 b hb).trans e) fC.1 fC.2.1 fC.2.2.2.1 fC.2.2.2.2.1 fC.2.2.2.2.2
theorem ps_setComp {i : Nat} {y : Str} {py spos : Pos} (ok : CompOk X Nc js scope) (hc : X.calm = true) (hi : PI X target iter wi)
    (hg : ∀ C cl s H ex, PG (cxComp X Nc scope cl C s H ex) target g) (ht : ∀ C cl s H ex, PTs (cxComp X Nc scope cl C s H ex) ifs tt) (he : ∀ C cl s H ex, PE (cxComp X Nc scope cl C s H ex) elt te)
    (hN : X.N.Nodup) (hy : X.N[i]? = some y) (hx : Loc X.env.scope y) (hsw : swapsWith (.ListComp elt [⟨target, iter, ifs, 0⟩] scope pos) (some (.Name y py)) spos.line X.env = pure true)
    (hs : ∀ x, foldedSetIterable iter X.env x = pure x := by intro _; rfl) (hf : X.fn y = true ∨ X.env.scope.names.lookup y = some .local := by first | exact .inl rfl | exact .inr rfl | assumption) :
    PS X (.Assign [.Name y py] (.ListComp elt [⟨target, iter, ifs, 0⟩] scope pos) spos) (fun D σ H => tComp js wi g tt te σ H fun v H' => D.nx (σ.set i (some v)) H') := by
  intro pins s σ H D I h
  have hfr : ∀ y ∈ scope.names, y.2 = NameKind.free → ∃ c, X.env.cells.lookup y.1 = some c := fun y hy e => I.ok.has y.1 (ok.free y hy e)
  rw [exec_Assign_Name_used _ _ _ _ hsw]
  refine wpAny_bind (wpAny_standAt (wpAny_bind ?_))
  show wpAny _ X.A (do let _ ← comprehension (.ListComp elt [⟨target, iter, ifs, 0⟩] scope pos) scope X.env _ (newList []) false (eval iter X.env) (some (assign (.Name y py) X.env))) _ _ s
  refine wpAny_bind (thn (wpAny_comprehension_free (use := some (assign (.Name y py) X.env)) (Q := fun _ s' => SP X pins D .next s') rfl hs (closureFor_clos hfr) ok.kind ok.names
    (thn (hi pins s σ H _ I h) fun v s1 h1 => thn h1 fun itv s2 h2 => ?_)) fun _ s' hq => wpAny_pure (wpAny_pure hq))
  obtain ⟨it, fp, tn, J, H2, e, I2, T, st2, f2, h⟩ := h2
  subst e
  refine comp_block (RR := fun acc C => compPost (model X.prog X.w) X.A X.xe (some (assign (.Name y py) X.env)) (fun _ s' => SP X pins D .next s') acc C) (Q := fun v H' => D.nx (σ.set i (some v)) H') ok hc hg ht he I2 T st2 f2 h ?_
  intro Da C s' H' m I' n' fC q
  show wpAny _ X.A (assign (.Name y py) X.env (.ref Da)) _ _ _
  refine wpAny_assign_Name (store_ok2 I' hN hy hx (show RelV (.ref Da) (.ref Da) from rfl) (fun s'' I'' hsb => ?_) hf)
  obtain ⟨a, sb, ha⟩ := hsb
  have hCa : C ≠ a := by
    rcases ha with e | e
    · rw [e]; exact fC.2.1
    · exact fun z => fC.2.2.2.2.1 y a e z.symm
  refine ⟨m, n'.sameBut sb hCa, fun h' sb' => ⟨σ.set i (some (.ref Da)), H', ?_, q⟩⟩
  exact I''.turned (t' := s''.toks) (fun b o hb e => (sb'.2 b hb).trans e) fC.1 fC.2.1 fC.2.2.2.1 fC.2.2.2.2.1 fC.2.2.2.2.2
end
section
variable {js : List (Option Nat)} {g : TG} {tt : TT} {te : TE} {σ : St} {H : Hp} {Q : VK}
def CompW (J : It) (js : List (Option Nat)) (g : TG) (tt : TT) (te : TE) (σ : St) (H : Hp) (Q : VK) : Prop :=
  ∀ D, H D = none → ∃ W : Nat → Nat → St → Hp → List V → Prop, (∃ m, W 0 m (pickS js σ) (upd H D (.lst [])) []) ∧
  ∀ i m σ' H' ys, W i m σ' H' ys → H' D = some (.lst ys) ∧ ((J.stop i H' ∧ Q (.ref D) H') ∨ (J.go i H' ∧ ys.length < sizeLine ∧ ∀ x H2, J.yld i H' x H2 → g x σ' H2 fun σ2 H3 => tt σ2 H3 fun b H4 =>
    if b = true then te σ2 H4 fun v H5 => H5 D = some (.lst ys) ∧ ∃ m', m' < m ∧ W (i + 1) m' σ2 (upd H5 D (.lst (ys ++ [v]))) (ys ++ [v]) else ∃ m', m' < m ∧ W (i + 1) m' σ2 H4 ys))
structure Src (J : It) (n : Nat) (f : Nat → V) (Ok : Hp → Prop) : Prop where
  go : ∀ i H, i < n → Ok H → J.go i H
  yld : ∀ i H x H', i < n → Ok H → J.yld i H x H' → H' = H ∧ x = f i
  stop : ∀ H, Ok H → J.stop n H
theorem src_list {K : PySem.W.Frag} {a : Addr} {xs : List V} : Src (Itl K a) xs.length (fun i => (xs[i]?).getD .non) (fun H => SqL K H a xs) :=
  ⟨fun i H hi h => ⟨xs, xs[i], h, by simp [hi]⟩, fun i H x H' hi h y => ⟨y.1, by rw [y.2 xs h]; rfl⟩, fun H h => ⟨xs, h, Nat.le_refl _⟩⟩
theorem src_tup {K : PySem.W.Frag} {a : Addr} {xs : List V} : Src (Itt K a) xs.length (fun i => (xs[i]?).getD .non) (fun H => SqT K H a xs) :=
  ⟨fun i H hi h => ⟨xs, xs[i], h, by simp [hi]⟩, fun i H x H' hi h y => ⟨y.1, by rw [y.2 xs h]; rfl⟩, fun H h => ⟨xs, h, Nat.le_refl _⟩⟩
theorem src_range {lo : Int} {n : Nat} : Src (Itr lo n) n (fun i => .int (lo + i)) (fun _ => True) :=
  ⟨fun i H hi _ => hi, fun i H x H' hi _ y => y, fun H _ => Nat.le_refl _⟩
theorem comp_by {J : It} {n : Nat} {f : Nat → V} {Ok : Hp → Prop} (S : Src J n f Ok) (hn : n ≤ sizeLine) (Pv : Addr → Nat → St → Hp → List V → Prop) (h0 : ∀ D, H D = none → Pv D 0 (pickS js σ) (upd H D (.lst [])) [])
    (hk : ∀ D i σ' H' ys, H D = none → i ≤ n → Pv D i σ' H' ys → Ok H' ∧ H' D = some (.lst ys) ∧ ys.length ≤ i)
    (hs : ∀ D i σ' H' ys (R : St → Hp → List V → Prop), H D = none → i < n → Pv D i σ' H' ys → (∀ a b c, Pv D (i + 1) a b c → R a b c) → g (f i) σ' H' fun σ2 H3 => tt σ2 H3 fun b H4 =>
      if b = true then te σ2 H4 fun v H5 => H5 D = some (.lst ys) ∧ R σ2 (upd H5 D (.lst (ys ++ [v]))) (ys ++ [v]) else R σ2 H4 ys)
    (hd : ∀ D σ' H' ys, H D = none → Pv D n σ' H' ys → Q (.ref D) H') : CompW J js g tt te σ H Q := by
  intro D hD
  refine ⟨fun i m σ' H' ys => m = n - i ∧ i ≤ n ∧ Pv D i σ' H' ys, ⟨n, by simp, Nat.zero_le _, h0 D hD⟩, ?_⟩
  rintro i m σ' H' ys ⟨rfl, hi, p⟩
  obtain ⟨q1, q2, q3⟩ := hk D i σ' H' ys hD hi p
  refine ⟨q2, ?_⟩
  by_cases hlt : i < n
  · refine .inr ⟨S.go i H' hlt q1, by omega, fun x H2 y => ?_⟩
    obtain ⟨rfl, rfl⟩ := S.yld i H' x H2 hlt q1 y
    exact hs D i σ' _ ys (fun σ2 H3 ys' => ∃ m', m' < n - i ∧ (m' = n - (i + 1) ∧ i + 1 ≤ n ∧ Pv D (i + 1) σ2 H3 ys')) hD hlt p fun a b c r => ⟨n - (i + 1), by omega, rfl, hlt, r⟩
  · have e : i = n := by omega
    subst e
    exact .inl ⟨S.stop H' q1, hd D σ' H' ys hD p⟩
end
end L2
namespace L2
open PySem PySem.Spec PyProof.Rows
section
variable {X : Cx} {tg : Expr}
end
section
variable {X : Cx}
def clsV : V → Option Value
  | .ty n => some (.type n)
  | .ref a => some (.ref a)
  | _ => none
theorem clsV_rel {c : V} {u v : Value} (h : clsV c = some u) (r : RelV c v) : v = u := by
  cases c with
  | ty n => cases h; exact r
  | ref a => cases h; exact r
  | _ => cases h
def rIsi (K : PySem.W.Frag) : List V → Hp → VK → Prop := fun xs H Q => ∃ x c u t b, xs = [x, c] ∧ clsV c = some u ∧ TyOf K H x t ∧ PySem.W.kitOne K t u = some b ∧ Q (.bl b) H
theorem call_isinst : CallR X (.builtin "isinstance") (rIsi X.K) := by
  intro pins s σ H xs us Q I r h
  obtain ⟨x, c, u, t, b, rfl, hu, ty, e, q⟩ := h
  obtain ⟨v, u', rfl, rv, ru'⟩ := vals2 r
  cases clsV_rel hu ru'
  exact isinst_ok I rv ty e fun tk => ⟨.bl b, H, I.tok _, rfl, q⟩
theorem bools_at {bs : List Bool} {its : List Value} (r : Vals (bs.map V.bl) its) {i : Nat} {v : Value} (h : its[i]? = some v) : ∃ b, bs[i]? = some b ∧ v = .bool b := by
  have hi : i < its.length := (List.getElem?_eq_some_iff.mp h).1
  have hl := r.length
  rw [List.length_map] at hl
  have hb : bs[i]? = some bs[i] := List.getElem?_eq_getElem (by omega)
  obtain ⟨u, hu, ru⟩ := r.get (i := i) (x := V.bl bs[i]) (by rw [List.getElem?_map, hb]; rfl)
  rw [h] at hu; cases hu
  exact ⟨_, hb, ru⟩
theorem call_all_bools (hc : X.calm = true) : CallR X (.builtin "all") (fun xs H Q => ∃ (p : Addr) (bs : List Bool), xs = [.ref p] ∧ SqL X.K H p (bs.map V.bl) ∧ Q (.bl (bs.all id)) H) := by
  intro pins s σ H xs us Q I r h
  obtain ⟨p, bs, rfl, hq, q⟩ := h
  obtain ⟨u, rfl, ru⟩ := vals1 r
  cases ru
  obtain ⟨its, rv, pl, hz⟩ := I.list hq
  have hl := pl.isList
  have hlt : p < s.heap.objs.size := by obtain ⟨_, e, _⟩ := hl; exact Heap.lt_size e
  refine call_all_walk (wpAny_pyIter_list hl ?_)
  refine ⟨s.heap.objs.size, [s.heap.objs.size, p], [s.heap.objs.size], its.toArray.size, _, _, fun i => (bs[i]?).getD true, rfl, Walks.list (A := X.A.in1) (I.ok.hd hc) _ p (Nat.ne_of_lt hlt) its.toArray,
    ⟨⟨_, Heap.get?_push_size _ rfl, rfl, rfl⟩, hl.push _⟩, fun i v s' Q' E' hP hQ => ?_, fun h' tk hk => ?_⟩
  · obtain ⟨b, e, rfl⟩ := bools_at rv (i := i) (v := v) (by simpa using hP)
    simp only [e, Option.getD_some] at hQ
    exact wpAny_truthy_bool hQ
  · have e : ((List.range its.toArray.size).all fun i => (bs[i]?).getD true) = bs.all id := by
      have hb := rv.length
      rw [List.length_map] at hb
      rw [List.size_toArray, ← hb]; exact LSm.range_all bs
    rw [e]
    exact ⟨.bl (bs.all id), H, I.kept (t' := tk) (LSm.kept_iter hk), rfl, q⟩
theorem call_any_bools (hc : X.calm = true) : CallR X (.builtin "any") (fun xs H Q => ∃ (p : Addr) (bs : List Bool), xs = [.ref p] ∧ SqL X.K H p (bs.map V.bl) ∧ Q (.bl (bs.any id)) H) := by
  intro pins s σ H xs us Q I r h
  obtain ⟨p, bs, rfl, hq, q⟩ := h
  obtain ⟨u, rfl, ru⟩ := vals1 r
  cases ru
  obtain ⟨its, rv, pl, hz⟩ := I.list hq
  have hl := pl.isList
  have hlt : p < s.heap.objs.size := by obtain ⟨_, e, _⟩ := hl; exact Heap.lt_size e
  refine call_any_walk (wpAny_pyIter_list hl ?_)
  refine ⟨s.heap.objs.size, [s.heap.objs.size, p], [s.heap.objs.size], its.toArray.size, _, _, fun i => (bs[i]?).getD false, rfl, Walks.list (A := X.A.in1) (I.ok.hd hc) _ p (Nat.ne_of_lt hlt) its.toArray,
    ⟨⟨_, Heap.get?_push_size _ rfl, rfl, rfl⟩, hl.push _⟩, fun i v s' Q' E' hP hQ => ?_, fun h' tk hk => ?_⟩
  · obtain ⟨b, e, rfl⟩ := bools_at rv (i := i) (v := v) (by simpa using hP)
    simp only [e, Option.getD_some] at hQ
    exact wpAny_truthy_bool hQ
  · have e : ((List.range its.toArray.size).any fun i => (bs[i]?).getD false) = bs.any id := by
      have hb := rv.length
      rw [List.length_map] at hb
      rw [List.size_toArray, ← hb]; exact LSm.range_any bs
    rw [e]
    exact ⟨.bl (bs.any id), H, I.kept (t' := tk) (LSm.kept_iter hk), rfl, q⟩
def rSlS : V → Option Int → Option Int → Hp → VK → Prop := fun x lo hi H Q => ∃ z, x = .str z ∧ z.length ≤ sizeLine ∧ Q (.str (Txt.slice z lo hi)) H
theorem sl_str : SlR X rSlS := by
  intro pins s σ H x v vl vu lo hi sl Q I rx hs pl pu h
  obtain ⟨z, rfl, hz, q⟩ := h
  obtain ⟨t, rfl⟩ := rx
  obtain ⟨o, ho, hc, hd⟩ := hs
  refine ⟨"str", _, PySem.F.slot_str_getitem.lookup, typeIs_str _ _ _, ?_⟩
  have fin : ∀ (l u : Option Int) (t' : Tok) (k : Nat), Q (.str (Txt.slice z l u)) H → EP X pins σ Q (.str (Txt.slice z l u) t') { s with toks := k } := fun l u t' k q => ⟨.str _, H, I.tok _, ⟨_, rfl⟩, q⟩
  cases pl with
  | none =>
    cases pu with
    | none => exact wpAny_getItem_str_slice (l := none) (u := none) (st := none) ⟨o, ho, hc, hd⟩ rfl (post_val_or_str ⟨Nat.le_trans (Txt.slice_le z _ _) hz, fun t' k => fin _ _ t' k q⟩)
    | int j uj => exact wpAny_getItem_str_slice (l := none) (u := some (j, uj)) (st := none) ⟨o, ho, hc, hd⟩ rfl (post_val_or_str ⟨Nat.le_trans (Txt.slice_le z _ _) hz, fun t' k => fin _ _ t' k q⟩)
  | int i ui =>
    cases pu with
    | none => exact wpAny_getItem_str_slice (l := some (i, ui)) (u := none) (st := none) ⟨o, ho, hc, hd⟩ rfl (post_val_or_str ⟨Nat.le_trans (Txt.slice_le z _ _) hz, fun t' k => fin _ _ t' k q⟩)
    | int j uj => exact wpAny_getItem_str_slice (l := some (i, ui)) (u := some (j, uj)) (st := none) ⟨o, ho, hc, hd⟩ rfl (post_val_or_str ⟨Nat.le_trans (Txt.slice_le z _ _) hz, fun t' k => fin _ _ t' k q⟩)
theorem mt_startswith : MtR X "str.startswith" (fun x xs H Q => ∃ a b, x = .str a ∧ xs = [.str b] ∧ Q (.bl (Txt.startswith a b)) H) := by
  intro pins s σ H x xs v us Q I rx rs h
  obtain ⟨a, b, rfl, rfl, q⟩ := h
  obtain ⟨t, rfl⟩ := rx
  obtain ⟨u, rfl, t', rfl⟩ := vals1 rs
  exact SC.startswith ⟨.bl _, H, I, rfl, q⟩
end
end L2
namespace L2
open PySem PySem.Spec PyProof.Rows
theorem boot_lenT : bootBuiltins "len" = some (.builtin "len") := by decide +kernel
theorem boot_isinstanceT : bootBuiltins "isinstance" = some (.builtin "isinstance") := by decide +kernel
theorem boot_allT : bootBuiltins "all" = some (.builtin "all") := by decide +kernel
theorem boot_anyT : bootBuiltins "any" = some (.builtin "any") := by decide +kernel
theorem boot_strT : bootBuiltins "str" = some (.type "str") := by decide +kernel
theorem boot_boolT : bootBuiltins "bool" = some (.type "bool") := by decide +kernel
theorem boot_listT : bootBuiltins "list" = some (.type "list") := by decide +kernel
theorem boot_tupleT : bootBuiltins "tuple" = some (.type "tuple") := by decide +kernel
section
variable {X : Cx}
def rAddS : R2 := fun x y H Q => ∃ i j, x = .str i ∧ y = .str j ∧ i.length + j.length ≤ sizeLine ∧ Q (.str (i ++ j)) H
def rAddI : R2 := rI0 fun i j => .int (i + j)
def rAddA (K : PySem.W.Frag) : R2 := fun x y H Q => rAddI x y H Q ∨ rAddS x y H Q ∨ rCat x y H Q ∨ rCatT K x y H Q
theorem op_addA : OpR X (binaryOp .Add) (rAddA X.K) := op_add.or (op_add_str.or (op_cat.or op_catT))
theorem rAddA_int {K : PySem.W.Frag} {i j : Int} {H : Hp} {Q : VK} : rAddA K (.int i) (.int j) H Q ↔ Q (.int (i + j)) H := by
  constructor
  · rintro (⟨a, b, e1, e2, q⟩ | ⟨a, b, e1, _⟩ | ⟨a, b, _, _, e1, _⟩ | ⟨a, b, _, _, e1, _⟩)
    · cases e1; cases e2; exact q
    · cases e1
    · cases e1
    · cases e1
  · exact fun q => .inl ⟨i, j, rfl, rfl, q⟩
theorem rAddA_str {K : PySem.W.Frag} {i j : Str} {H : Hp} {Q : VK} : rAddA K (.str i) (.str j) H Q ↔ (i.length + j.length ≤ sizeLine ∧ Q (.str (i ++ j)) H) := by
  constructor
  · rintro (⟨a, b, e1, _⟩ | ⟨a, b, e1, e2, q⟩ | ⟨a, b, _, _, e1, _⟩ | ⟨a, b, _, _, e1, _⟩)
    · cases e1
    · cases e1; cases e2; exact q
    · cases e1
    · cases e1
  · exact fun q => .inr (.inl ⟨i, j, rfl, rfl, q⟩)
theorem rEq_int {i j : Int} {H : Hp} {Q : VK} : rEq (.int i) (.int j) H Q ↔ Q (.bl (decide (i = j))) H := by
  unfold rEq
  have e : decide (V.int i = V.int j) = decide (i = j) := by
    by_cases h : i = j
    · subst h; simp
    · simp [h]
  rw [e]
  exact ⟨fun h => h.2, fun h => ⟨rfl, h⟩⟩
theorem rEq_str {i j : Str} {H : Hp} {Q : VK} : rEq (.str i) (.str j) H Q ↔ Q (.bl (decide (i = j))) H := by
  unfold rEq
  have e : decide (V.str i = V.str j) = decide (i = j) := by
    by_cases h : i = j
    · subst h; simp
    · simp [h]
  rw [e]
  exact ⟨fun h => h.2, fun h => ⟨rfl, h⟩⟩
def inS (c s : Str) : Bool := !(Builtin.Str.occurrences s c 0 s.length 1).isEmpty
def rInS : R2 := fun x y H Q => ∃ i j, x = .str i ∧ y = .str j ∧ Q (.bl (inS i j)) H
def rNotInS : R2 := fun x y H Q => ∃ i j, x = .str i ∧ y = .str j ∧ Q (.bl (!inS i j)) H
def rInA (K : PySem.W.Frag) : R2 := fun x y H Q => rInS x y H Q ∨ rIn K false x y H Q
def rNotInA (K : PySem.W.Frag) : R2 := fun x y H Q => rNotInS x y H Q ∨ rIn K true x y H Q
theorem op_inS : OpR X (compareOp .In) rInS := op_in_str
theorem op_notinS : OpR X (compareOp .NotIn) rNotInS := op_notin_str
theorem op_inA : OpR X (compareOp .In) (rInA X.K) := op_inS.or op_in_seq
theorem op_notinA : OpR X (compareOp .NotIn) (rNotInA X.K) := op_notinS.or op_notIn_seq
def rLenA (K : PySem.W.Frag) : List V → Hp → VK → Prop := fun xs H Q => (∃ x n, xs = [x] ∧ LenV K x H n ∧ Q (.int n) H) ∨ ∃ a kvs, xs = [V.ref a] ∧ H a = some (.dK kvs) ∧ Q (.int kvs.length) H
theorem call_lenA : CallR X (.builtin "len") (rLenA X.K) := call_len.or call_lenD
theorem rLenA_str {K : PySem.W.Frag} {z : Str} {H : Hp} {Q : VK} : rLenA K [.str z] H Q ↔ (z.length ≤ sizeLine ∧ Q (.int z.length) H) := by
  constructor
  · rintro (⟨x, n, e1, e2, q⟩ | ⟨a, kvs, e1, _⟩)
    · cases e1
      obtain ⟨h1, rfl⟩ : z.length ≤ sizeLine ∧ n = z.length := e2
      exact ⟨h1, q⟩
    · cases e1
  · exact fun q => .inl ⟨.str z, z.length, rfl, ⟨q.1, rfl⟩, q.2⟩
theorem rLenA_lst {K : PySem.W.Frag} {a : Addr} {xs : List V} {H : Hp} {Q : VK} (h : SqL K H a xs) (q : Q (.int xs.length) H) : rLenA K [.ref a] H Q := .inl ⟨.ref a, xs.length, rfl, .inl ⟨xs, h, rfl⟩, q⟩
def rSlA (K : PySem.W.Frag) : V → Option Int → Option Int → Hp → VK → Prop := fun x lo hi H Q => rSlS x lo hi H Q ∨ rSlL K x lo hi H Q ∨ rSlT K x lo hi H Q
theorem sl_any : SlR X (rSlA X.K) := sl_str.or (sl_list.or sl_tup)
theorem rSlA_str {K : PySem.W.Frag} {z : Str} {lo hi : Option Int} {H : Hp} {Q : VK} : rSlA K (.str z) lo hi H Q ↔ (z.length ≤ sizeLine ∧ Q (.str (Txt.slice z lo hi)) H) := by
  constructor
  · rintro (⟨x, e1, q⟩ | ⟨a, xs, e1, _⟩ | ⟨a, xs, e1, _⟩)
    · cases e1; exact q
    · cases e1
    · cases e1
  · exact fun q => .inl ⟨z, rfl, q⟩
theorem rIx_str {K : PySem.W.Frag} {z : Str} {i : Int} {H : Hp} {Q : VK} : rIx K (.str z) (.int i) H Q ↔ (z.length ≤ sizeLine ∧ ∃ c, atI z.cps.toList i = some c ∧ Q (.str ⟨#[c]⟩) H) := by
  constructor
  · rintro (⟨p, xs, j, v, e1, _⟩ | ⟨p, xs, j, v, e1, _⟩ | ⟨y, j, c, e1, e2, h1, h2, q⟩)
    · cases e1
    · cases e1
    · cases e1; cases e2; exact ⟨h1, c, h2, q⟩
  · rintro ⟨h1, c, h2, q⟩
    exact .inr (.inr ⟨z, i, c, rfl, rfl, h1, h2, q⟩)
theorem rIx_lst {K : PySem.W.Frag} {a : Addr} {xs : List V} {i : Int} {v : V} {H : Hp} {Q : VK} (h : SqL K H a xs) (e : atI xs i = some v) (q : Q v H) : rIx K (.ref a) (.int i) H Q := .inl ⟨a, xs, i, v, rfl, rfl, h, e, q⟩
theorem rIx_tup {K : PySem.W.Frag} {a : Addr} {xs : List V} {i : Int} {v : V} {H : Hp} {Q : VK} (h : SqT K H a xs) (e : atI xs i = some v) (q : Q v H) : rIx K (.ref a) (.int i) H Q := .inr (.inl ⟨a, xs, i, v, rfl, rfl, h, e, q⟩)
theorem rI_int {C : Int → Int → Prop} {g : Int → Int → V} {i j : Int} {H : Hp} {Q : VK} : rI C g (.int i) (.int j) H Q ↔ (C i j ∧ Q (g i j) H) := by
  constructor
  · rintro ⟨a, b, e1, e2, q⟩; cases e1; cases e2; exact q
  · exact fun q => ⟨i, j, rfl, rfl, q⟩
theorem exBl {k : Bool} {P : Bool → Prop} : (∃ c, V.bl k = V.bl c ∧ P c) ↔ P k := by
  constructor
  · rintro ⟨c, e, q⟩; cases e; exact q
  · exact fun q => ⟨k, rfl, q⟩
theorem exInt {k : Int} {P : Int → Prop} : (∃ c, V.int k = V.int c ∧ P c) ↔ P k := by
  constructor
  · rintro ⟨c, e, q⟩; cases e; exact q
  · exact fun q => ⟨k, rfl, q⟩
theorem exSlot {v : V} {P : V → Prop} : (∃ x, some (some v) = some (some x) ∧ P x) ↔ P v := by
  constructor
  · rintro ⟨c, e, q⟩; cases e; exact q
  · exact fun q => ⟨v, rfl, q⟩
end
theorem Same.upd {H : Hp} {a : Addr} {o : HO} (h : H a = none) : Same H (upd H a o) := fun b u e => by rw [upd_ne (ne_of_none e h)]; exact e
theorem Same.up {H H' : Hp} {a : Addr} {o : HO} (s : Same H H') (h : H' a = none) : Same H (L2.upd H' a o) := s.trans (Same.upd h)
theorem Same.tup {K : PySem.W.Frag} {H H' : Hp} {a : Addr} {xs : List V} (e : Same H H') (h : SqT K H a xs) : SqT K H' a xs := by
  rcases h with (h | ⟨o, h⟩) | h
  · exact .inl (.inl (e _ _ h))
  · exact .inl (.inr ⟨o, e _ _ h⟩)
  · exact .inr h
theorem TyOf.same {K : PySem.W.Frag} {H H' : Hp} {x : V} {t : Value} (s : Same H H') (h : TyOf K H x t) : TyOf K H' x t := by
  cases h with
  | non => exact .non
  | bl b => exact .bl b
  | int i => exact .int i
  | str z => exact .str z
  | flt z => exact .flt z
  | lst e => exact .lst (s _ _ e)
  | frz e => exact .frz (s _ _ e)
  | tup e => exact .tup (s _ _ e)
  | dK e => exact .dK (s _ _ e)
  | dT e => exact .dT (s _ _ e)
  | ins e cl ha hn htk hm => exact .ins (s _ _ e) cl ha hn htk hm
section
variable {X : Cx} {st : Stmt} {rest : List Stmt} {t u : TS}
def tMid (t u : TS) : TS := fun D σ H => ∃ M : St → Hp → Prop, t { D with nx := M } σ H ∧ ∀ σ' H', M σ' H' → u D σ' H'
theorem pss_mid (h1 : PS X st t) (h2 : PSs X rest u) : PSs X (st :: rest) (tMid t u) := by
  intro pins s σ H D I h
  obtain ⟨M, q1, q2⟩ := h
  refine wpAny_execs_cons (thn (h1 pins s σ H { D with nx := M } I q1) fun f s1 q => ?_)
  cases f with
  | next =>
    obtain ⟨σ', H', I', q⟩ := q
    exact h2 pins s1 σ' H' D I' (q2 σ' H' q)
  | ret v => exact q
  | brk => exact q
  | cont => exact q
end
theorem kit_bool_bool {K : PySem.W.Frag} : PySem.W.kitOne K (.type "bool") (.type "bool") = some true := by kernel_rfl
end L2
namespace L2
open PySem PySem.Spec PyProof.Rows
theorem exRef {k : Addr} {P : Addr → Prop} : (∃ c, V.ref k = V.ref c ∧ P c) ↔ P k := by
  constructor
  · rintro ⟨c, e, q⟩; cases e; exact q
  · exact fun q => ⟨k, rfl, q⟩
theorem rNe_str {i j : Str} {H : Hp} {Q : VK} : rNe (.str i) (.str j) H Q ↔ Q (.bl (!decide (i = j))) H := by
  unfold rNe
  have e : decide (V.str i = V.str j) = decide (i = j) := by
    by_cases h : i = j
    · subst h; simp
    · simp [h]
  rw [e]
  exact ⟨fun h => h.2, fun h => ⟨rfl, h⟩⟩
theorem atI_in {α : Type} {xs : List α} {i : Int} (h0 : 0 ≤ i) (h1 : i < xs.length) : ∃ v, atI xs i = some v ∧ v ∈ xs ∧ xs[i.toNat]? = some v := by
  have hk : i.toNat < xs.length := by omega
  refine ⟨xs[i.toNat], ?_, List.getElem_mem hk, List.getElem?_eq_getElem hk⟩
  unfold atI ixN
  rw [if_pos h0, if_pos h1]
  exact List.getElem?_eq_getElem hk
theorem mod_lt' {i j : Int} (h : 0 < j) : 0 ≤ i % j ∧ i % j < j := ⟨Int.emod_nonneg _ (by omega), Int.emod_lt_of_pos _ h⟩
theorem ite_ft {A B : Prop} : (if false = true then A else B) = B := if_neg Bool.false_ne_true
theorem ite_tf {A B : Prop} : (if true = false then A else B) = B := if_neg (by decide)
theorem newO {H : Hp} {p : Addr} (hp : H p = none) (o : HO) : ∃ H', upd H p o = H' ∧ Same H H' ∧ H' p = some o := ⟨_, rfl, Same.upd hp, upd_same⟩
def ForW (J : It) (g : TG) (tb : TS) (D : Ends) (σ : St) (H : Hp) : Prop := ∃ W : Nat → Nat → St → Hp → Prop, (∃ m, W 0 m σ H) ∧ ∀ i m σ H, W i m σ H →
  (J.stop i H ∧ D.nx σ H) ∨ (J.go i H ∧ ∃ N : St → Hp → Prop, (∀ σ' H', N σ' H' → ∃ m', m' < m ∧ W (i + 1) m' σ' H') ∧ ∀ x H', J.yld i H x H' → g x σ H' fun σ2 H2 => tb { D with nx := N, ct := N, bk := D.nx } σ2 H2)
theorem tFor_eq {wi : TI} {g : TG} {tb : TS} {D : Ends} {σ : St} {H : Hp} : tFor wi g tb D σ H = wi σ H fun J H1 => ForW J g tb D σ H1 := rfl
theorem tComp_eq {js : List (Option Nat)} {wi : TI} {g : TG} {tt : TT} {te : TE} {σ : St} {H : Hp} {Q : VK} : tComp js wi g tt te σ H Q = wi σ H fun J H1 => CompW J js g tt te σ H1 Q := rfl
theorem comp_1 {J : It} {n : Nat} {f : Nat → V} {Ok : Hp → Prop} {js : List (Option Nat)} {te : TE} {σ : St} {H : Hp} {Q : VK} (S : Src J n f Ok) (hn : n ≤ sizeLine) (σr : St) (hσ : pickS js σ = none :: σr) (Pr : Nat → V → Prop)
    (hOk : ∀ H', Same H H' → Ok H') (hs : ∀ i H' (R : V → Hp → Prop), i < n → Same H H' → (∀ v H'', Same H' H'' → Pr i v → R v H'') → te (some (f i) :: σr) H' R)
    (hd : ∀ D H' ys, H D = none → Same H H' → H' D = some (.lst ys) → ys.length = n → (∀ i v, ys[i]? = some v → Pr i v) → Q (.ref D) H') : CompW J js (gName 0) tYes te σ H Q := by
  refine comp_by S hn (fun D i σ' H' ys => (∃ a, σ' = a :: σr) ∧ Same H H' ∧ H' D = some (.lst ys) ∧ ys.length = i ∧ ∀ j v, ys[j]? = some v → Pr j v) ?_ ?_ ?_ ?_
  · intro D hD
    exact ⟨⟨none, hσ⟩, Same.upd hD, upd_same, rfl, fun j v e => by simp at e⟩
  · rintro D i σ' H' ys hD hi ⟨_, s, h, hl, _⟩
    exact ⟨hOk _ s, h, Nat.le_of_eq hl⟩
  · rintro D i σ' H' ys R hD hi ⟨⟨a, rfl⟩, s, h, hl, hp⟩ hR
    show te (some (f i) :: σr) H' _
    refine hs i H' _ hi s fun v H'' s2 pv => ⟨s2 _ _ h, hR _ _ _ ⟨⟨_, rfl⟩, ?_, upd_same, by simp [hl], fun j v' e => ?_⟩⟩
    · intro b o e
      rw [upd_ne (ne_of_none e hD)]
      exact s2 b o (s b o e)
    · rw [List.getElem?_append] at e
      split at e
      · exact hp j v' e
      · rename_i hj
        have e1 : j = ys.length := by
          have := (List.getElem?_eq_some_iff.mp e).1
          simp at this; omega
        subst e1
        simp at e
        subst e
        rw [hl]; exact pv
  · rintro D σ' H' ys hD ⟨_, s, h, hl, hp⟩
    exact hd D H' ys hD s h hl hp
section
variable {K : PySem.W.Frag} {H : Hp} {Q : VK}
theorem rIsi_bl_bool {z : Bool} : rIsi K [.bl z, .ty "bool"] H Q ↔ Q (.bl true) H := by
  constructor
  · rintro ⟨x, c, u, t, b, e1, hu, ty, e, q⟩
    cases e1; cases hu; cases ty
    rw [kit_bool_bool] at e; cases e; exact q
  · exact fun q => ⟨_, _, _, _, _, rfl, rfl, .bl z, kit_bool_bool, q⟩
def NotStr (K : PySem.W.Frag) (H : Hp) (x : V) : Prop := ∃ t, TyOf K H x t ∧ PySem.W.kitOne K t (.type "str") = some false
theorem NotStr.same {H' : Hp} {x : V} (s : Same H H') (h : NotStr K H x) : NotStr K H' x := let ⟨t, a, b⟩ := h; ⟨t, a.same s, b⟩
end
end L2
namespace L2
open PySem PySem.Spec PyProof.Rows
section
variable {K : PySem.W.Frag} {H : Hp} {Q : VK}
def rStarts : V → List V → Hp → VK → Prop := fun x xs H Q => ∃ a b, x = .str a ∧ xs = [.str b] ∧ Q (.bl (Txt.startswith a b)) H
def rJoin (K : PySem.W.Frag) : V → List V → Hp → VK → Prop := fun x xs H Q => ∃ z p ys, x = .str z ∧ xs = [.ref p] ∧ (SqL K H p (ys.map V.str) ∨ SqT K H p (ys.map V.str)) ∧ (ys.map (·.length)).sum + ys.length * z.length ≤ 16777216 ∧ Q (.str (Txt.join z ys)) H
theorem rStarts_at {a b : Str} : rStarts (.str a) [.str b] H Q ↔ Q (.bl (Txt.startswith a b)) H := ⟨by rintro ⟨_, _, e1, e2, q⟩; cases e1; cases e2; exact q, fun q => ⟨_, _, rfl, rfl, q⟩⟩
theorem rJoin_of {z : Str} {p : Addr} {ys : List Str} (h : SqL K H p (ys.map V.str) ∨ SqT K H p (ys.map V.str)) (hl : (ys.map (·.length)).sum + ys.length * z.length ≤ 16777216) (q : Q (.str (Txt.join z ys)) H) : rJoin K (.str z) [.ref p] H Q := ⟨z, p, ys, rfl, rfl, h, hl, q⟩
theorem tyV_str {z : Str} {P : Prop} : (tyV K "str" (.str z) H ∧ P) ↔ P := ⟨fun h => h.2, fun h => ⟨rfl, h⟩⟩
def rTupOf (K : PySem.W.Frag) : List V → Hp → VK → Prop := fun xs H Q => ∃ p ys, xs = [.ref p] ∧ ((SqL K H p ys ∧ ∀ l, H l = none → Q (.ref l) (upd H l (.tup ys))) ∨ SqT K H p ys ∧ Q (.ref p) H)
def rListOf (K : PySem.W.Frag) : List V → Hp → VK → Prop := fun xs H Q => ∃ p ys, xs = [.ref p] ∧ (SqL K H p ys ∨ SqT K H p ys) ∧ ∀ l, H l = none → Q (.ref l) (upd H l (.lst ys))
end
section
variable {H : Hp} {Q : VK}
end
mutual
inductive Den (K : PySem.W.Frag) (H : Hp) : V → PyData → Prop
  | non : Den K H .non .none
  | bl (b : Bool) : Den K H (.bl b) (.bool b)
  | int (i : Int) : Den K H (.int i) (.int i)
  | str (x : Str) : Den K H (.str x) (.str x)
  | lst {a : Addr} {xs : List V} {ds : List PyData} : SqL K H a xs → DenAll K H xs ds → Den K H (.ref a) (.list ds)
  | tup {a : Addr} {xs : List V} {ds : List PyData} : SqT K H a xs → DenAll K H xs ds → Den K H (.ref a) (.tuple ds)
inductive DenAll (K : PySem.W.Frag) (H : Hp) : List V → List PyData → Prop
  | nil : DenAll K H [] []
  | cons {x : V} {xs : List V} {d : PyData} {ds : List PyData} : Den K H x d → DenAll K H xs ds → DenAll K H (x :: xs) (d :: ds)
end
def rEqD (K : PySem.W.Frag) : R2 := fun x y H Q => ∃ d e, Den K H x d ∧ Den K H y e ∧ SeqAt.shaped d = true ∧ SeqAt.shaped e = true ∧ Q (.bl (PyData.eqv d e)) H
def rNeD (K : PySem.W.Frag) : R2 := fun x y H Q => ∃ d e, Den K H x d ∧ Den K H y e ∧ SeqAt.shaped d = true ∧ SeqAt.shaped e = true ∧ Q (.bl (!PyData.eqv d e)) H
def rEqH (K : PySem.W.Frag) : R2 := fun x y H Q => rEq x y H Q ∨ rEqD K x y H Q
def rNeH (K : PySem.W.Frag) : R2 := fun x y H Q => rNe x y H Q ∨ rNeD K x y H Q
section
variable {K : PySem.W.Frag} {H : Hp} {Q : VK}
theorem rEqH_str {i j : Str} : rEqH K (.str i) (.str j) H Q ↔ Q (.bl (decide (i = j))) H := by
  constructor
  · rintro (h | ⟨d, e, h1, h2, _, _, q⟩)
    · exact rEq_str.mp h
    · cases h1; cases h2
      rw [show decide (i = j) = PyData.eqv (.str i) (.str j) from by simp only [PyData.eqv]; by_cases z : i = j <;> simp [z]]; exact q
  · exact fun q => .inl (rEq_str.mpr q)
theorem rEqH_int {i j : Int} : rEqH K (.int i) (.int j) H Q ↔ Q (.bl (decide (i = j))) H := by
  constructor
  · rintro (h | ⟨d, e, h1, h2, _, _, q⟩)
    · exact rEq_int.mp h
    · cases h1; cases h2
      rw [show decide (i = j) = PyData.eqv (.int i) (.int j) from by simp only [PyData.eqv]; by_cases z : i = j <;> simp [z]]; exact q
  · exact fun q => .inl (rEq_int.mpr q)
theorem rNeH_str {i j : Str} : rNeH K (.str i) (.str j) H Q ↔ Q (.bl (!decide (i = j))) H := by
  constructor
  · rintro (h | ⟨d, e, h1, h2, _, _, q⟩)
    · exact rNe_str.mp h
    · cases h1; cases h2
      rw [show decide (i = j) = PyData.eqv (.str i) (.str j) from by simp only [PyData.eqv]; by_cases z : i = j <;> simp [z]]; exact q
  · exact fun q => .inl (rNe_str.mpr q)
mutual
theorem eqv_self : ∀ d : PyData, SeqAt.shaped d = true → PyData.eqv d d = true
  | .none, _ => rfl
  | .bool b, _ => by simp [PyData.eqv]
  | .int i, _ => by simp [PyData.eqv]
  | .str x, _ => by simp [PyData.eqv]
  | .list xs, h => by
    simp only [PyData.eqv]
    exact eqvAll_self xs (by unfold SeqAt.shaped at h; simpa [PyData.canLay0] using (Bool.and_eq_true_iff.mp h).1)
  | .tuple xs, h => by
    simp only [PyData.eqv]
    exact eqvAll_self xs (by unfold SeqAt.shaped at h; simpa [PyData.canLay0] using (Bool.and_eq_true_iff.mp h).1)
  | .dict _, h => by unfold SeqAt.shaped at h; simp [PyData.canLay0] at h
theorem eqvAll_self : ∀ ds : List PyData, PyData.canLayAll0 ds = true → PyData.eqvAll ds ds = true
  | [], _ => rfl
  | d :: ds, h => by
    simp only [PyData.canLayAll0, Bool.and_eq_true] at h
    simp only [PyData.eqvAll, Bool.and_eq_true]
    exact ⟨eqv_self' d h.1, eqvAll_self ds h.2⟩
theorem eqv_self' : ∀ d : PyData, PyData.canLay0 d = true → PyData.eqv d d = true
  | .none, _ => rfl
  | .bool b, _ => by simp [PyData.eqv]
  | .int i, _ => by simp [PyData.eqv]
  | .str x, _ => by simp [PyData.eqv]
  | .list xs, h => by
    simp only [PyData.eqv]
    exact eqvAll_self xs (by simpa [PyData.canLay0] using h)
  | .tuple xs, h => by
    simp only [PyData.eqv]
    exact eqvAll_self xs (by simpa [PyData.canLay0] using h)
  | .dict _, h => by simp [PyData.canLay0] at h
end
theorem rEqD_same {x y : V} {d : PyData} (h1 : Den K H x d) (h2 : Den K H y d) (hs : SeqAt.shaped d = true) (q : Q (.bl true) H) : rEqH K x y H Q := .inr ⟨d, d, h1, h2, hs, hs, by rw [eqv_self d hs]; exact q⟩
end
section
variable {X : Cx}
theorem mt_starts : MtR X "str.startswith" rStarts := mt_startswith
theorem strs_are : ∀ {ys : List Str} {us : List Value}, Vals (ys.map V.str) us → StrsAre us ys
  | [], _, r => by rw [List.map_nil] at r; cases r; exact .nil
  | y :: ys, _, r => by
    rw [List.map_cons] at r
    cases r with
    | cons h t => obtain ⟨tk, rfl⟩ := h; exact .cons y tk (strs_are t)
theorem mt_join : MtR X "str.join" (rJoin X.K) := by
  intro pins s σ H x xs v us Q I rx rs h
  obtain ⟨z, p, ys, rfl, rfl, hq, hl, q⟩ := h
  obtain ⟨t, rfl⟩ := rx
  obtain ⟨u, rfl, ru⟩ := vals1 rs
  cases ru
  rcases hq with hq | hq
  · obtain ⟨its, r, pl, _⟩ := I.list hq
    exact join_list pl.isList (by simpa using strs_are r) hl fun t' k => ⟨.str _, H, I.tok _, ⟨_, rfl⟩, q⟩
  · obtain ⟨its, r, pl, _⟩ := I.tuple hq
    exact join_tuple pl (by simpa using strs_are r) hl fun t' k => ⟨.str _, H, I.tok _, ⟨_, rfl⟩, q⟩
theorem call_tupOf : CallR X (.type "tuple") (rTupOf X.K) := by
  intro pins s σ H xs us Q I r h
  obtain ⟨p, ys, e, h⟩ := h
  exact call_tuple_of pins s σ H xs us Q I r ⟨p, ys, e, h⟩
theorem call_listOf : CallR X (.type "list") (rListOf X.K) := call_list_of
mutual
theorem Den.reads {pins : List (Addr × Obj)} {σ : St} {H : Hp} {s : Shared} (I : Inv X pins σ H s) : ∀ {x : V} {d : PyData} {u : Value}, Den X.K H x d → RelV x u → ∃ as, Reads s.heap u d as
  | _, _, _, .non, r => by cases r; exact ⟨_, .none⟩
  | _, _, _, .bl b, r => by cases r; exact ⟨_, .bool b⟩
  | _, _, _, .int i, r => by obtain ⟨t, rfl⟩ := r; exact ⟨_, .int i t⟩
  | _, _, _, .str x, r => by obtain ⟨t, rfl⟩ := r; exact ⟨_, .str x t⟩
  | _, _, _, .lst h hs, r => by
    cases r
    obtain ⟨its, rv, pl, _⟩ := I.list h
    obtain ⟨o, ho, hc, n, hd⟩ := pl.isList
    obtain ⟨as, ra⟩ := DenAll.reads I hs rv
    exact ⟨_, .list ho hc hd (by simpa using ra)⟩
  | _, _, _, .tup h hs, r => by
    cases r
    obtain ⟨its, rv, pl, _⟩ := I.tuple h
    obtain ⟨o, ho, hc, n, hd⟩ := pl
    obtain ⟨as, ra⟩ := DenAll.reads I hs rv
    exact ⟨_, .tuple ho hc hd (by simpa using ra)⟩
theorem DenAll.reads {pins : List (Addr × Obj)} {σ : St} {H : Hp} {s : Shared} (I : Inv X pins σ H s) : ∀ {xs : List V} {ds : List PyData} {us : List Value}, DenAll X.K H xs ds → Vals xs us → ∃ as, ReadsAll s.heap us ds as
  | _, _, _, .nil, r => by cases r; exact ⟨_, .nil⟩
  | _, _, _, .cons h hs, r => by
    cases r with
    | cons r1 r2 =>
      obtain ⟨as, ra⟩ := Den.reads I h r1
      obtain ⟨bs, rb⟩ := DenAll.reads I hs r2
      exact ⟨_, .cons ra rb⟩
end
theorem op_eqD (hu : X.A.units + 64 < cLine) : OpR X (compareOp .Eq) (rEqD X.K) := by
  intro pins s σ H x y v u Q I rx ry h
  obtain ⟨d, e, h1, h2, s1, s2, q⟩ := h
  obtain ⟨as, ra⟩ := h1.reads I rx
  obtain ⟨bs, rb⟩ := h2.reads I ry
  exact eq_dataH ra rb s1 s2 hu ⟨.bl _, H, I, rfl, q⟩
theorem op_neD (hu : X.A.units + 64 < cLine) : OpR X (compareOp .NotEq) (rNeD X.K) := by
  intro pins s σ H x y v u Q I rx ry h
  obtain ⟨d, e, h1, h2, s1, s2, q⟩ := h
  obtain ⟨as, ra⟩ := h1.reads I rx
  obtain ⟨bs, rb⟩ := h2.reads I ry
  exact ne_dataH ra rb s1 s2 hu ⟨.bl _, H, I, rfl, q⟩
theorem op_eqH (hu : X.A.units + 64 < cLine) : OpR X (compareOp .Eq) (rEqH X.K) := op_eq.or (op_eqD hu)
theorem op_neH (hu : X.A.units + 64 < cLine) : OpR X (compareOp .NotEq) (rNeH X.K) := op_ne.or (op_neD hu)
variable {K : PySem.W.Frag}
theorem op_addK (h : X.K = K) : OpR X (binaryOp .Add) (rAddA K) := h ▸ op_addA
theorem op_inK (h : X.K = K) : OpR X (compareOp .In) (rInA K) := h ▸ op_inA
theorem op_eqK (hu : X.A.units + 64 < cLine) (h : X.K = K) : OpR X (compareOp .Eq) (rEqH K) := h ▸ op_eqH hu
theorem op_neK (hu : X.A.units + 64 < cLine) (h : X.K = K) : OpR X (compareOp .NotEq) (rNeH K) := h ▸ op_neH hu
theorem ix_seqK (h : X.K = K) : IxR X (rIx K) := h ▸ ix_seq
end
end L2
namespace L2
open PySem PySem.Spec PyProof.Rows PySem.W
section
variable {H : Hp} {Q : VK}
end
section
variable {X : Cx}
end
end L2
namespace L2
open PySem PySem.Spec PyProof.Rows
theorem comp_1d {J : It} {n : Nat} {f : Nat → V} {Ok : Hp → Prop} {js : List (Option Nat)} {te : TE} {σ : St} {H : Hp} {Q : VK} (S : Src J n f Ok) (hn : n ≤ sizeLine) (σr : St) (hσ : pickS js σ = none :: σr) (Pr : Addr → Nat → V → Hp → Prop)
    (mono : ∀ D i v (H1 H2 : Hp), (∀ b o, b ≠ D → H1 b = some o → H2 b = some o) → Pr D i v H1 → Pr D i v H2)
    (hOk : ∀ H', Same H H' → Ok H') (hs : ∀ D i H' (R : V → Hp → Prop), i < n → H D = none → Same H H' → (∃ ys, H' D = some (.lst ys)) → (∀ v H'', Same H' H'' → Pr D i v H'' → R v H'') → te (some (f i) :: σr) H' R)
    (hd : ∀ D H' ys, H D = none → Same H H' → H' D = some (.lst ys) → ys.length = n → (∀ i v, ys[i]? = some v → Pr D i v H') → Q (.ref D) H') : CompW J js (gName 0) tYes te σ H Q := by
  refine comp_by S hn (fun D i σ' H' ys => (∃ a, σ' = a :: σr) ∧ Same H H' ∧ H' D = some (.lst ys) ∧ ys.length = i ∧ ∀ j v, ys[j]? = some v → Pr D j v H') ?_ ?_ ?_ ?_
  · intro D hD
    exact ⟨⟨none, hσ⟩, Same.upd hD, upd_same, rfl, fun j v e => by simp at e⟩
  · rintro D i σ' H' ys hD hi ⟨_, s, h, hl, _⟩
    exact ⟨hOk _ s, h, Nat.le_of_eq hl⟩
  · rintro D i σ' H' ys R hD hi ⟨⟨a, rfl⟩, s, h, hl, hp⟩ hR
    show te (some (f i) :: σr) H' _
    refine hs D i H' _ hi hD s ⟨_, h⟩ fun v H'' s2 pv => ⟨s2 _ _ h, hR _ _ _ ⟨⟨_, rfl⟩, ?_, upd_same, by simp [hl], fun j v' e => ?_⟩⟩
    · intro b o e
      rw [upd_ne (ne_of_none e hD)]
      exact s2 b o (s b o e)
    · have up : ∀ b o, b ≠ D → H'' b = some o → upd H'' D (.lst (ys ++ [v])) b = some o := fun b o hb e => by rw [upd_ne hb]; exact e
      rw [List.getElem?_append] at e
      split at e
      · exact mono _ _ _ _ _ (fun b o hb e => up b o hb (s2 b o e)) (hp j v' e)
      · have e1 : j = ys.length := by
          have := (List.getElem?_eq_some_iff.mp e).1
          simp at this; omega
        subst e1
        simp at e
        subst e
        rw [hl]; exact mono _ _ _ _ _ up pv
  · rintro D σ' H' ys hD ⟨_, s, h, hl, hp⟩
    exact hd D H' ys hD s h hl hp
theorem comp_f {J : It} {n : Nat} {f : Nat → V} {Ok : Hp → Prop} {js : List (Option Nat)} {tt : TT} {te : TE} {σ : St} {H : Hp} {Q : VK} (S : Src J n f Ok) (hn : n ≤ sizeLine) (σr : St) (hσ : pickS js σ = none :: σr) (keep : Nat → Bool) (val : Nat → V)
    (hOk : ∀ H', Same H H' → Ok H') (hs : ∀ i H' (R : Bool → Hp → Prop), i < n → Same H H' → (∀ H'', Same H' H'' → R (keep i) H'') → tt (some (f i) :: σr) H' R)
    (he : ∀ i H' (R : V → Hp → Prop), i < n → Same H H' → (∀ H'', Same H' H'' → R (val i) H'') → te (some (f i) :: σr) H' R)
    (hd : ∀ D H', H D = none → Same H H' → H' D = some (.lst (((List.range n).filter keep).map val)) → Q (.ref D) H') : CompW J js (gName 0) tt te σ H Q := by
  refine comp_by S hn (fun D i σ' H' ys => (∃ a, σ' = a :: σr) ∧ Same H H' ∧ H' D = some (.lst ys) ∧ ys = ((List.range i).filter keep).map val) ?_ ?_ ?_ ?_
  · intro D hD
    exact ⟨⟨none, hσ⟩, Same.upd hD, upd_same, rfl⟩
  · rintro D i σ' H' ys hD hi ⟨_, s, h, rfl⟩
    refine ⟨hOk _ s, h, ?_⟩
    rw [List.length_map]
    exact Nat.le_trans (List.length_filter_le _ _) (by simp)
  · rintro D i σ' H' ys R hD hi ⟨⟨a, rfl⟩, s, h, rfl⟩ hR
    show tt (some (f i) :: σr) H' _
    refine hs i H' _ hi s fun H2 s2 => ?_
    cases hk : keep i with
    | false =>
      rw [if_neg Bool.false_ne_true]
      refine hR _ _ _ ⟨⟨_, rfl⟩, s.trans s2, s2 _ _ h, ?_⟩
      rw [List.range_succ, List.filter_append, List.filter_cons, hk]; simp
    | true =>
      rw [if_pos rfl]
      refine he i H2 _ hi (s.trans s2) fun H3 s3 => ⟨s3 _ _ (s2 _ _ h), hR _ _ _ ⟨⟨_, rfl⟩, ?_, upd_same, ?_⟩⟩
      · intro b o e
        rw [upd_ne (ne_of_none e hD)]
        exact s3 b o (s2 b o (s b o e))
      · rw [List.range_succ, List.filter_append, List.filter_cons, hk]; simp
  · rintro D σ' H' ys hD ⟨_, s, h, rfl⟩
    exact hd D H' hD s h
structure CMeth (K : PySem.W.Frag) (C : Addr) (m : Str) (f : Addr) : Prop where
  ga : PySem.W.specialIn K (.ref C) "__getattribute__" = some (some (.builtin "type.__getattribute__"))
  rd : PySem.W.readsIn K C (.type "type") = true
  at_ : PySem.W.findCls K (.ref C) (.type "type") m = some (.val (.ref f))
  kp : PySem.W.keepIn K (.ref f) = true
structure TyI (K : PySem.W.Frag) (C : Addr) : Prop where
  ha : PySem.W.findIn K (.ref C) "__class__" = some (some (.builtin "object.__class__"))
  hn : PySem.W.specialIn K (.builtin "object.__class__") "__get__" = some (some (.builtin "getset_descriptor.__get__"))
  htk : PySem.W.takesIn K (.builtin "object.__class__") = some true
  hm : PySem.W.mroIn K C (.type "object") = some true
theorem kit_mk {K : PySem.W.Frag} {C D : Addr} {cd : ClassData} {b : Bool} (hc : PySem.W.clsIn K D = some cd) (ht : PySem.W.typeIn K (.ref D) = some (.type "type")) (hs : PySem.W.subIn K (.ref C) (.ref D) = some b) (ho : PySem.W.subIn K (.ref C) (.ref C) = some true) :
    PySem.W.kitOne K (.ref C) (.ref D) = some b := by
  unfold PySem.W.kitOne
  by_cases e : (Value.ref C == Value.ref D) = true
  · rw [if_pos e]
    have e' : C = D := by
      have := eq_of_beq e
      injection this
    rw [← e', ho] at hs
    exact hs
  · rw [if_neg e]
    show (if ((PySem.W.clsIn K D).isSome && PySem.W.typeIn K (.ref D) == some (.type "type")) = true then PySem.W.subIn K (.ref C) (.ref D) else none) = _
    rw [hc, ht, if_pos (by simp), hs]
section
variable {X : Cx}
def rLtS : R2 := fun x y H Q => ∃ i j, x = .str i ∧ y = .str j ∧ Q (.bl (decide (i.cps.toList < j.cps.toList))) H
def rLtA : R2 := fun x y H Q => rI0 (fun i j => .bl (decide (i < j))) x y H Q ∨ rLtS x y H Q
theorem op_ltA : OpR X (compareOp .Lt) rLtA := op_lt.or op_lt_str
theorem rLtA_int {i j : Int} {H : Hp} {Q : VK} : rLtA (.int i) (.int j) H Q ↔ Q (.bl (decide (i < j))) H := by
  constructor
  · rintro (⟨a, b, e1, e2, q⟩ | ⟨a, b, e1, _⟩)
    · cases e1; cases e2; exact q
    · cases e1
  · exact fun q => .inl ⟨i, j, rfl, rfl, q⟩
end
section
variable {X : Cx} {o e : Expr} {es : List Expr} {apos pos : Pos} {m : Str} {C f : Addr} {fd : FuncData} {ps : List Str} {sp : Sp} {CX : CXT} {k : Nat} {E : XK} {dvs : List V} {ds : List Value} {ta : TE} {t : TA}
def tAlt (t u : TE) : TE := fun σ H Q => t σ H Q ∨ u σ H Q
theorem pe_alt {t u : TE} (h1 : PE X e t) (h2 : PE X e u) : PE X e (tAlt t u) := fun pins s σ H Q I h => h.elim (h1 pins s σ H Q I) (h2 pins s σ H Q I)
def tCMeth (C : Addr) (sp : Sp) (dvs : List V) (E : XK) (ta : TE) (t : TA) : TE := fun σ H Q => ta σ H fun x H1 => x = .ref C ∧ t σ H1 fun vs H2 => sp (vs ++ dvs) H2 Q E
theorem pe_cmeth {pl : Sem Bool} (he : PE X o ta) (hm : CMeth X.K C m f) (F : FnOk X.prog X.w X.K X.mg X.base CX k f fd ps sp) (hr : Room k X.A) (hb : Binds X.K fd ps ds) (hd : Vals dvs ds) (hx : Passes CX X E) (ha : PA X (e :: es) t)
    (hst : starEach (e :: es) X.env = (false, eval e X.env) :: starEach es X.env := by rfl) (hpl : (backTo pos (starEach es X.env)).any (·.1) = false := by rfl)
    (ht : eval (.Call (.Attribute o m apos) (e :: es) [] pos) X.env = (do
      let ov ← eval o X.env
      standAt apos.atName
      let (f, first) ← holding [ov] (getMethod ov m pl)
      callWith pos f first (backTo pos (starEach (e :: es) X.env)) (backToKw pos (keywordEach [] X.env))) := by rfl) :
    PE X (.Call (.Attribute o m apos) (e :: es) [] pos) (tCMeth C sp dvs E ta t) := by
  intro pins s σ H Q I h
  refine PySem.W.methodCall_KW (pl := pl) (thn (he pins s σ H _ I h) fun u s1 ⟨x, H1, I1, rx, ex, q⟩ => ?_) ht
  subst ex
  obtain rfl : u = Value.ref C := rx
  refine PySem.W.method_cls I1.kIn hm.ga (PySem.W.cls_value I1.kIn hm.rd hm.at_ rfl ?_)
  refine PySem.W.callWith_K (first := []) (h₀ := X.base) I.ok.mod.kin hm.kp (thn (ha pos pins _ σ H1 _ (I1.tok _) q) fun us s2 ⟨vs, H2, I2, r, q2⟩ => ⟨I2.kIn, ?_⟩) hst hpl
  exact run_fn (us := us) (vs := vs) F hr hb hd hx I2 r q2
end
end L2
namespace L2
open PySem PySem.Spec PyProof.Rows
theorem comp_g {J : It} {n : Nat} {f : Nat → V} {Ok : Hp → Prop} {js : List (Option Nat)} {g : TG} {tt : TT} {te : TE} {σ : St} {H : Hp} {Q : VK} (S : Src J n f Ok) (hn : n ≤ sizeLine) (pre : St → Prop) (st : Nat → St) (h0 : pre (pickS js σ)) (h1 : ∀ i, i < n → pre (st i)) (keep : Nat → Bool) (val : Nat → V)
    (hOk : ∀ H', Same H H' → Ok H') (hg : ∀ i σ' H' (R : St → Hp → Prop), i < n → Same H H' → pre σ' → R (st i) H' → g (f i) σ' H' R)
    (hs : ∀ i H' (R : Bool → Hp → Prop), i < n → Same H H' → (∀ H'', Same H' H'' → R (keep i) H'') → tt (st i) H' R)
    (he : ∀ i H' (R : V → Hp → Prop), i < n → Same H H' → (∀ H'', Same H' H'' → R (val i) H'') → te (st i) H' R)
    (hd : ∀ D H', H D = none → Same H H' → H' D = some (.lst (((List.range n).filter keep).map val)) → Q (.ref D) H') : CompW J js g tt te σ H Q := by
  refine comp_by S hn (fun D i σ' H' ys => pre σ' ∧ Same H H' ∧ H' D = some (.lst ys) ∧ ys = ((List.range i).filter keep).map val) ?_ ?_ ?_ ?_
  · intro D hD
    exact ⟨h0, Same.upd hD, upd_same, rfl⟩
  · rintro D i σ' H' ys hD hi ⟨_, s, h, rfl⟩
    refine ⟨hOk _ s, h, ?_⟩
    rw [List.length_map]
    exact Nat.le_trans (List.length_filter_le _ _) (by simp)
  · rintro D i σ' H' ys R hD hi ⟨hp, s, h, rfl⟩ hR
    refine hg i σ' H' _ hi s hp ?_
    refine hs i H' _ hi s fun H2 s2 => ?_
    cases hk : keep i with
    | false =>
      rw [if_neg Bool.false_ne_true]
      refine hR _ _ _ ⟨h1 i hi, s.trans s2, s2 _ _ h, ?_⟩
      rw [List.range_succ, List.filter_append, List.filter_cons, hk]; simp
    | true =>
      rw [if_pos rfl]
      refine he i H2 _ hi (s.trans s2) fun H3 s3 => ⟨s3 _ _ (s2 _ _ h), hR _ _ _ ⟨h1 i hi, ?_, upd_same, ?_⟩⟩
      · intro b o e
        rw [upd_ne (ne_of_none e hD)]
        exact s3 b o (s2 b o (s b o e))
      · rw [List.range_succ, List.filter_append, List.filter_cons, hk]; simp
  · rintro D σ' H' ys hD ⟨_, s, h, rfl⟩
    exact hd D H' hD s h
theorem range_filter {α β : Type} (d : α) (P : α → Bool) (g : α → β) : ∀ ps : List α, ((List.range ps.length).filter fun i => P ((ps[i]?).getD d)).map (fun i => g ((ps[i]?).getD d)) = (ps.filter P).map g := by
  intro ps
  have h : (List.range ps.length).map (fun i => (ps[i]?).getD d) = ps := by
    refine List.ext_getElem? fun i => ?_
    rw [List.getElem?_map]
    by_cases hi : i < ps.length
    · rw [List.getElem?_range hi, List.getElem?_eq_getElem hi, Option.map_some, List.getElem?_eq_getElem hi]; rfl
    · rw [List.getElem?_eq_none (by simp; omega), List.getElem?_eq_none (by omega)]; rfl
  conv => rhs; rw [← h]
  rw [List.filter_map, List.map_map]; rfl
theorem inV_str (z : Str) (r : List Str) : inV (.str z) (r.map V.str) = decide (z ∈ r) := by
  unfold inV
  rw [Bool.eq_iff_iff, List.any_eq_true, decide_eq_true_eq]
  constructor
  · rintro ⟨v, hv, e⟩
    obtain ⟨l, hl, rfl⟩ := List.mem_map.mp hv
    have e' : (l == z) = true := e
    rw [← eq_of_beq e']; exact hl
  · intro h
    exact ⟨.str z, List.mem_map.mpr ⟨z, h, rfl⟩, (beq_self_eq_true z : (z == z) = true)⟩
theorem flat_strs (qs : List Str) : (qs.map V.str).all flatV = true := by
  rw [List.all_eq_true]; intro v hv
  obtain ⟨l, _, rfl⟩ := List.mem_map.mp hv; rfl
theorem rIn_lst {K : PySem.W.Frag} {H : Hp} {Q : VK} {z : Str} {a : Addr} {r : List Str} (h : SqL K H a (r.map V.str)) (q : Q (.bl (decide (z ∈ r))) H) : rInA K (.str z) (.ref a) H Q :=
  .inr ⟨a, _, rfl, .inl h, rfl, flat_strs _, by rw [if_neg Bool.false_ne_true, inV_str]; exact q⟩
theorem rNotIn_lst {K : PySem.W.Frag} {H : Hp} {Q : VK} {z : Str} {a : Addr} {r : List Str} (h : SqL K H a (r.map V.str)) (q : Q (.bl (!decide (z ∈ r))) H) : rNotInA K (.str z) (.ref a) H Q :=
  .inr ⟨a, _, rfl, .inl h, rfl, flat_strs _, by rw [if_pos rfl, inV_str]; exact q⟩
theorem none_of {H H' : Hp} (s : Same H H') {p : Addr} (h : H' p = none) : H p = none := by
  cases e : H p with
  | none => rfl
  | some o => rw [s _ _ e] at h; cases h
section
variable {X : Cx}
theorem pg_tupK {K : PySem.W.Frag} {pos : Pos} {es : List Expr} {k : Nat} {t : TGs} {n : Nat} (hK : X.K = K) (hc : X.calm = true) (h : PGs X es t)
    (hn : (assignEach es X.env).length = n := by rfl) (hst : (assignEach es X.env).findIdx? (·.1) = none := by rfl) : PG X (.Tuple es k pos) (gTup K n t) := hK ▸ pg_tup hc h hn hst
end
end L2
namespace L2
open PySem PySem.Spec PyProof.Rows PySem.W
def tListRev (K : PySem.W.Frag) (te : TE) : TE := fun σ H Q => te σ H fun x H1 => ∃ a xs, x = .ref a ∧ SqL K H1 a xs ∧ ∀ p, H1 p = none → Q (.ref p) (upd H1 p (.lst xs.reverse))
section
variable {X : Cx} {pins : List (Addr × Obj)} {σ : St} {H : Hp} {s : Shared} {h' : Heap} {tg : Expr}
theorem pe_fldK {K : PySem.W.Frag} {e : Expr} {ta : TE} {f : Str} {pos : Pos} (hK : X.K = K) (he : PE X e ta) (hb : attributeBase e f X.env (eval e X.env) = eval e X.env) : PE X (.Attribute e f pos) (tFld K ta f) := hK ▸ pe_fld he hb
end
end L2
namespace L2
open PySem PySem.Spec PyProof.Rows PySem.W
section
variable {prog : Program} {w : World} {A : Around} {E : Value → Shared → Prop} {s : Shared}
theorem nolen_lri : typeLookup (.type "list_reverseiterator") "__len__" = pure none := by rw [typeLookup_type, builtinLookup_eq_fast]; kernel_rfl
theorem hint_lri : typeLookup (.type "list_reverseiterator") "__length_hint__" = pure (some (.builtin "list_reverseiterator.__length_hint__")) := by rw [typeLookup_type, builtinLookup_eq_fast]; kernel_rfl
theorem wpAny_hint_rev {I l : Addr} {i : Int} {Q : Bool → Shared → Prop} (hit : s.heap.IsRevIter I l i) (h : Q false s) : wpAny (model prog w) A (Builtin.List.listLengthHint (.ref I)) Q E s := by
  unfold Builtin.List.listLengthHint
  refine wpAny_bind (wpAny_specialOf hit.typeIs nolen_lri ?_)
  show wpAny _ A (specialOf (Value.ref I) (Str.ofString "__length_hint__") >>= _) _ _ _
  refine wpAny_bind (wpAny_specialOf hit.typeIs hint_lri ?_)
  generalize hid : ("list_reverseiterator.__length_hint__" : String) = id0
  wp_delta
  rw [show splitId id0 = some ("list_reverseiterator", "__length_hint__") from by subst hid; decide +kernel]
  subst hid
  refine wpAny_bind (wpAny_isInstance (b := true) hit.typeIs (by rw [isSubtype_type]; kernel_rfl) ?_)
  exact wpAny_pure h
theorem wpAny_extend_rev {R : Result → Shared → Prop} {I l : Addr} {items : Array Value} (hh : A.handled = none) (hit : s.heap.IsRevIter I l ((items.size : Int) - 1)) (hl : s.heap.IsList l items) (hlI : l ≠ I) (hsz : items.size ≤ sizeLine) (S : Addr) (res : Value) (c₀ : Nat)
    (hS : s.heap.get? S = some { cls := .type "list", data := .seq #[] c₀ }) (hSI : S ≠ I) (hSl : S ≠ l)
    (hR : ∀ h' tk acc' c', (∀ b o, b ≠ S → b ≠ I → s.heap.get? b = some o → h'.get? b = some o) → h'.get? S = some { cls := .type "list", dict := none, data := .seq acc' c', slots := #[] } →
      ItemsOf (fun i v => items[items.size - 1 - i]? = some v) acc' items.size → R (.ok (.ret res)) { s with heap := h', toks := tk }) :
    wpAny (model prog w) A.in1 (Builtin.List.listExtendWith (.ref S) (.ref I) res)
      (fun fin s' => match fin with | .done f => R (.ok f) s' | .again c' => c'.quiet = true ∧ codeAny (model prog w) A c' R s') (fun e s' => R (.error e) s') s := by
  have W := (Walks.listRev (prog := prog) (w := w) (A := A.in1) hh I l hlI items).toS
  have hSf : S ∉ [I, l] := fun hm => by
    rcases List.mem_cons.mp hm with z | z
    · exact hSI z
    · exact hSl (List.mem_singleton.mp z)
  unfold Builtin.List.listExtendWith
  refine wpAny_bind (wpAny_typeOf hit.typeIs ?_)
  have h1 : Builtin.List.listSameRef (.ref S) (.ref I) = false := by simp [Builtin.List.listSameRef, hSI]
  have h2 : (Value.type "list_reverseiterator" == Value.type "list") = false := by decide
  have h3 : (Value.type "list_reverseiterator" == Value.type "tuple") = false := by decide
  simp only [h1, h2, h3, Bool.or_false, Bool.false_eq_true, if_false]
  refine wpAny_bind (wpAny_pyIter_revIter hit ?_)
  refine wpAny_bind (wpAny_holding (wpAny_hint_rev hit ?_))
  refine wpAny_ite_split (fun hab => absurd hab (by decide)) (fun _ => wpAny_pure ⟨plainId_quiet F.plain_extend_loop _, codeAny_extend_loopS W hsz S hSf res items.size 0 _ #[] c₀ rfl (Nat.zero_le _) ⟨Nat.zero_le _, by simpa using hit, hl⟩ hS (ItemsOf.nil _) fun s' acc' c' hm hS' hacc => ?_⟩)
  rw [Moved.eq_with hm]
  refine hR s'.heap s'.toks acc' c' (fun b o hb hbI e => hm.heap b o (fun hmem => ?_) e) hS' hacc
  rcases List.mem_cons.mp hmem with e' | hmem
  · exact hb e'
  · exact hbI (List.mem_singleton.mp hmem)
theorem call_list_rev {Q : Value → Shared → Prop} {I l : Addr} {items : Array Value} (hh : A.handled = none) (hit : s.heap.IsRevIter I l ((items.size : Int) - 1)) (hl : s.heap.IsList l items) (hlI : l ≠ I) (hsz : items.size ≤ sizeLine)
    (hQ : ∀ h' tk acc' c', (∀ b o, b ≠ I → s.heap.get? b = some o → h'.get? b = some o) →
      h'.get? s.heap.objs.size = some { cls := .type "list", dict := none, data := .seq acc' c', slots := #[] } → ItemsOf (fun i v => items[items.size - 1 - i]? = some v) acc' items.size → Q (.ref s.heap.objs.size) { s with heap := h', toks := tk }) :
    wpAny (model prog w) A (call (.type "list") [.ref I]) Q E s := by
  refine callType_codes (Q₁ := fun obj s₁ => obj = .ref s.heap.objs.size ∧ s₁ = { s with heap := s.heap.push { cls := .type "list", data := .seq #[] } }) F.called_list (F.typeCall_list_1 _) F.entry_list_init
    (code_list_new _ ⟨rfl, rfl⟩) fun obj s₁ h₁ => ?_
  obtain ⟨rfl, rfl⟩ := h₁
  have hS : (s.heap.push { cls := .type "list", data := .seq #[] }).get? s.heap.objs.size = some { cls := .type "list", data := .seq #[] } := Heap.get?_push_size _ rfl
  have hIlt : I < s.heap.objs.size := by obtain ⟨_, z, _⟩ := hit; exact Heap.lt_size z
  have hllt : l < s.heap.objs.size := by obtain ⟨_, z, _⟩ := hl; exact Heap.lt_size z
  refine ⟨⟨_, hS, rfl⟩, F.args_list_init_2 _ _, ?_⟩
  show wpAny _ _ (do let old ← Builtin.List.listItems (.ref s.heap.objs.size); Builtin.List.listUpdate (.ref s.heap.objs.size) (fun _ => #[]); letGo old.toList.reverse; Builtin.List.listExtendWith (.ref s.heap.objs.size) (.ref I) .none) _ _ _
  refine wpAny_bind ?_
  unfold Builtin.List.listItems
  refine wpAny_bind (wpAny_seqItems hS rfl (wpAny_pure ?_))
  show wpAny _ _ (updateSeq s.heap.objs.size (fun _ => #[]) >>= fun _ => letGo (#[] : Array Value).toList.reverse >>= fun _ => Builtin.List.listExtendWith (.ref s.heap.objs.size) (.ref I) .none) _ _ _
  refine wpAny_bind (wpAny_updateSeq hS rfl ?_)
  have hS₂ := Heap.get?_update_self (Obj.mapSeq (fun _ => (#[] : Array Value))) hS rfl
  have oth : ∀ b o, b ≠ s.heap.objs.size → s.heap.get? b = some o → ((s.heap.push { cls := .type "list", data := .seq #[] }).update s.heap.objs.size (Obj.mapSeq (fun _ => (#[] : Array Value)))).get? b = some o :=
    fun b o hb e => (Heap.get?_update_other _ _ (Ne.symm hb)).trans (Heap.get?_push_of_some _ e)
  refine wpAny_bind (wpAny_letGo ?_)
  refine wpAny_extend_rev (A := A.in1) hh (hit.at fun o e => oth I o (Nat.ne_of_lt hIlt) e) (hl.at fun o e => oth l o (Nat.ne_of_lt hllt) e) hlI hsz s.heap.objs.size .none _ hS₂ (Nat.ne_of_gt hIlt) (Nat.ne_of_gt hllt) fun h' tk acc' c' hk hS' hacc => ?_
  exact ⟨rfl, hQ h' tk acc' c' (fun b o hb e => hk b o (Nat.ne_of_lt (Heap.lt_size e)) hb (oth b o (Nat.ne_of_lt (Heap.lt_size e)) e)) hS' hacc⟩
end
section
variable {X : Cx}
theorem boot_reversedT : bootBuiltins "reversed" = some (.type "reversed") := by decide +kernel
theorem rev_items {its : List Value} {acc : Array Value} (h : ItemsOf (fun i v => its.toArray[its.toArray.size - 1 - i]? = some v) acc its.toArray.size) : acc.toList = its.reverse := by
  obtain ⟨h1, h2⟩ := h
  have h1' : acc.size = its.length := by simpa using h1
  refine List.ext_getElem? fun i => ?_
  by_cases hi : i < its.length
  · have hi' : i < acc.size := by omega
    have e : its[its.length - 1 - i]? = some acc[i] := by simpa using h2 i acc[i] (Array.getElem?_eq_getElem hi')
    rw [List.getElem?_reverse hi, e]
    simp [hi']
  · rw [List.getElem?_eq_none (by simp; omega), List.getElem?_eq_none (by simp; omega)]
theorem pe_listRev {e : Expr} {te : TE} {p1 p2 q1 q2 : Pos} (hc : X.calm = true) (hg1 : Gl X "list") (hm1 : X.mg "list" = none) (hg2 : Gl X "reversed") (hm2 : X.mg "reversed" = none) (he : PE X e te)
    (hs1 : starEach [Expr.Call (.Name "reversed" p2) [e] [] q2] X.env = [(false, eval (.Call (.Name "reversed" p2) [e] [] q2) X.env)] := by rfl) (hs2 : starEach [e] X.env = [(false, eval e X.env)] := by rfl) :
    PE X (.Call (.Name "list" p1) [.Call (.Name "reversed" p2) [e] [] q2] [] q1) (tListRev X.K te) := by
  intro pins s σ H Q I h
  refine Call_ (ld_blt I hg1 hm1 boot_listT (PyProof.Rows.callWith_type1 ?_ hs1 rfl))
  rw [hs1]
  show wpAny _ _ (spliced ((false, eval (.Call (.Name "reversed" p2) [e] [] q2) X.env) :: [])) _ _ s
  refine Calls.spliced_cons ?_
  refine Call_ (ld_blt I hg2 hm2 boot_reversedT (PyProof.Rows.callWith_type1 ?_ hs2 rfl))
  rw [hs2]
  show wpAny _ _ (spliced ((false, eval e X.env) :: [])) _ _ s
  refine Calls.spliced_cons (thn (he pins s σ H _ I h) fun u s1 ⟨x, H1, I1, r1, q1⟩ => ?_)
  refine Calls.spliced_nil ?_
  obtain ⟨a, xs, rfl, hq, q⟩ := q1
  cases r1
  obtain ⟨its, rv, pl, hz⟩ := I1.list hq
  have hl := pl.isList
  have hlt : a < s1.heap.objs.size := by obtain ⟨_, z, _⟩ := hl; exact Heap.lt_size z
  refine call_reversed_list hl ?_
  refine Calls.spliced_nil ?_
  have hlen := rv.length
  refine call_list_rev (I := s1.heap.objs.size) (l := a) (items := its.toArray) (I1.ok.hd hc) ⟨_, Heap.get?_push_size _ rfl, rfl, rfl⟩ (hl.push _) (Nat.ne_of_lt hlt) (by rw [List.size_toArray, ← hlen]; exact hz) fun h' tk acc' c' hk hS' hacc => ?_
  have hp : (s1.heap.push (revObj a ((its.toArray.size : Int) - 1))).objs.size = s1.heap.objs.size + 1 := Heap.size_push ..
  have keep : ∀ b u, s1.heap.get? b = some u → h'.get? b = some u := fun b u z => hk b u (Nat.ne_of_lt (Heap.lt_size z)) (Heap.get?_push_of_some _ z)
  have hfr : H1 (s1.heap.objs.size + 1) = none := I1.hok.fresh (Nat.le_succ _)
  have hS2 : h'.get? (s1.heap.objs.size + 1) = some { cls := .type "list", dict := none, data := .seq acc' c', slots := #[] } := by rw [← hp]; exact hS'
  have ea : acc' = its.reverse.toArray := by rw [← rev_items hacc]
  refine ⟨.ref (s1.heap.objs.size + 1), upd H1 (s1.heap.objs.size + 1) (.lst xs.reverse), I1.laid (t' := tk) keep (Nat.le_succ _) ⟨by rw [List.length_reverse]; exact hz, its.reverse, c', rv.reverse, by rw [hS2, ea]⟩, ?_, q _ hfr⟩
  show Value.ref _ = Value.ref _
  rw [← hp]
end
section
variable {X : Cx} {pins : List (Addr × Obj)} {σ : St} {H : Hp} {s : Shared} {a : Addr} {kvs : List (Key × V)} {tg : Expr}
end
structure FunD (K : PySem.W.Frag) (x qual : Str) (st : Stmt) (f : Addr) (fd : FuncData) (T : Addr) (ds : List Value) : Prop where
  ex : ∃ (oc : Value) (od : Option Addr) (kV doc pm : Value) (an : Option Addr) (cdv ct : Value) (osl : Array (Option Value)) (oT : Obj) (nT : Nat),
    fd = PySem.W.fnOf x qual (defArgs st) (defBody st) (defScope st) (.ref T) kV doc pm an cdv ct ∧ K.lookup f = some ⟨oc, od, .func fd, osl⟩ ∧ PySem.W.codeIn K cdv qual = true ∧ K.lookup T = some oT ∧ oT.data = .seq ds.toArray nT
  kp : PySem.W.keepIn K (.ref f) = true
section
variable {P : Program} {w : World} {K : PySem.W.Frag} {mg : Str → Option Value} {base : Heap}
theorem FunD.ok {x qual : Str} {st : Stmt} {f : Addr} {fd : FuncData} {T : Addr} {ds : List Value} {N ps : List Str} {k : Nat} {sp : Sp} (F : FunD K x qual st f fd T ds) (S : FnScope N ps (defScope st)) (len : ∀ vs H Q E, sp vs H Q E → vs.length = ps.length)
    (hbody : ∀ (cdv : Value) (A : Around) (outer : List Env) (s : Shared) (H : Hp) (vs : List V) (Q : VK) (E : XK), Room k (A.deeper (envOfC qual (defScope st) s.heap.objs.size f cdv)) → sp vs H Q E →
      ∃ t, PSs (cxOf CX0 P w K mg base N qual (defScope st) f cdv A outer s H E).nox (defBody st) t ∧ t { nx := fun _ H' => Q .non H', rt := Q } (start N vs) H) : FnOk P w K mg base CX0 (k + 1) f fd ps sp := by
  obtain ⟨oc, od, kV, doc, pm, an, cdv, ct, osl, oT, nT, rfl, lk, hcd, _⟩ := F.ex
  refine fn_of lk hcd S len fun A outer s H vs Q E hr hsp => ?_
  obtain ⟨t, h, q⟩ := hbody cdv A outer s H vs Q E hr hsp
  exact ⟨t, h.nox, q⟩
theorem FunD.binds {x qual : Str} {st : Stmt} {f : Addr} {fd : FuncData} {T : Addr} {ds : List Value} {ps : List Str} (es : List Value) (F : FunD K x qual st f fd T ds)
    (h : ∀ (kV doc pm : Value) (an : Option Addr) (cdv ct : Value) (us : List Value), (us ++ es).length = ps.length → ∃ k, bindArgs (PySem.W.fnOf x qual (defArgs st) (defBody st) (defScope st) (.ref T) kV doc pm an cdv ct) ⟨us, []⟩ = seqItems? (.ref T) >>= k ∧ k (some ds.toArray) = pure (ps.zip (us ++ es))) : Binds K fd ps es := by
  obtain ⟨oc, od, kV, doc, pm, an, cdv, ct, osl, oT, nT, rfl, lk, hcd, lT, hT⟩ := F.ex
  intro s us X hl
  obtain ⟨k, h1, h2⟩ := h kV doc pm an cdv ct us hl
  exact PySem.W.binds_K X rfl lT hT h1 h2
end
end L2
namespace L2
open PySem PySem.Spec PyProof.Rows PySem.W
section
variable {X : Cx} {pins : List (Addr × Obj)} {σ : St} {H : Hp} {s : Shared} {h' : Heap} {tg : Expr}
end
end L2
namespace L2
open PySem PySem.Spec PyProof.Rows PySem.W
section
variable {X : Cx} {pins : List (Addr × Obj)} {σ : St} {H : Hp} {s : Shared} {a : Addr} {kvs : List (Key × V)} {k : Key} {u : Value} {A : Around} {E : Value → Shared → Prop}
theorem d_setd {z : V} {r : Value} {Q : Value → Shared → Prop} (I : Inv X pins σ H s) (e : H a = some (.dK kvs)) (ry : RelV (kV k) u) (rz : RelV z r) (hz : kvs.length < sizeLine)
    (h1 : ∀ v w' s', valV kvs k = some v → Inv X pins σ H s' → RelV v w' → Q w' s') (h2 : valV kvs k = none → ∀ s', Inv X pins σ (upd H a (.dK (putK kvs k z))) s' → Q r s') :
    wpAny (model X.prog X.w) A (call (.builtin "dict.setdefault") [.ref a, u, r]) Q E s := by
  obtain ⟨z0, hd, vs, rel, dd⟩ := dk_of I.hok e
  refine call_meetsIn PySem.F.slot_dict_setdefault dd.typeIs PySem.F.entry_dict_setdefault (PySem.F.args_dict_setdefault_3 _ _ _) (kt_meets_setdefault (mixKind X.prog X.w) a (kV_is ry) hd r) ⟨vs, dd, by rw [← rel.length]; exact z0, fun v hv => ?_, fun hn h' dd' hs => ?_⟩
  · cases l : valV kvs k with
    | none =>
      have := RelO.none_of (o := valueAt vs k) (by rw [← l]; exact rel.val k)
      rw [this] at hv; cases hv
    | some x =>
      obtain ⟨w', hw, rw'⟩ := RelO.some_of (v := x) (o := valueAt vs k) (by rw [← l]; exact rel.val k)
      rw [hw] at hv; cases hv
      exact h1 x _ _ l (I.tok _) rw'
  · have l : valV kvs k = none := by
      cases l : valV kvs k with
      | none => rfl
      | some x =>
        obtain ⟨w', hw, _⟩ := RelO.some_of (v := x) (o := valueAt vs k) (by rw [← l]; exact rel.val k)
        rw [hw] at hn; cases hn
    refine h2 l _ ?_
    have he : ∃ q, h'.get? a = some q := let ⟨q, _, _, hq, _⟩ := dd'; ⟨q, hq⟩
    exact d_write I (by rw [e]; exact True.intro) hs he (dk_new (by have := length_putK kvs k z; omega) hd (rel.put k rz) dd')
end
def tDSetd (td ty tx : TE) : TE := fun σ H Q => td σ H fun x H1 => ∃ a, x = .ref a ∧ IsD H1 a ∧ ty σ H1 fun y H2 => tx σ H2 fun z H3 => ∃ kvs k, H3 a = some (.dK kvs) ∧ y = kV k ∧ kvs.length < sizeLine ∧
  (∀ v, valV kvs k = some v → Q v H3) ∧ (valV kvs k = none → Q z (upd H3 a (.dK (putK kvs k z))))
section
variable {X : Cx} {o e f : Expr} {apos cpos : Pos} {td ty tx : TE}
theorem pe_dsetd (ho : PE X o td) (he : PE X e ty) (hf : PE X f tx) (m : M2 X o "setdefault" apos e f cpos) : PE X (.Call (.Attribute o "setdefault" apos) [e, f] [] cpos) (tDSetd td ty tx) := by
  intro pins s σ H Q I h
  refine wpAny_Call_method m.base m.few m.line PySem.F.plainAttrs_dict PySem.F.slot_dict_setdefault PySem.F.type_dict_setdefault (thn (ho pins s σ H _ I h) fun u s1 ⟨x, H1, I1, rx, a, ex, d, q1⟩ => ?_)
  subst ex
  obtain rfl : u = Value.ref a := rx
  obtain ⟨t1, t2, _⟩ := isD_at I1 d
  refine ⟨t1, t2, ?_⟩
  rw [m.trees]
  refine Calls.callWith_builtin rfl (Calls.evalArgs_plain (Calls.spliced_cons (thn (he pins s1 σ H1 _ I1 q1) fun iv s2 ⟨y, H2, I2, ry, q2⟩ =>
    Calls.spliced_cons (thn (hf pins s2 σ H2 _ I2 q2) fun fv s3 ⟨z, H3, I3, rz, kvs, k, hH, ey, hz, q3, q4⟩ => Calls.spliced_nil ?_))))
  subst ey
  exact d_setd I3 hH ry rz hz (fun v w' s' l I' r' => ⟨v, H3, I', r', q3 v l⟩) (fun l s' I' => ⟨z, _, I', rz, q4 l⟩)
end
section
variable {α β : Type}
def TOk (n : Nat) (P : α → Prop) : KasT α → Prop
  | .ret a => P a
  | .ask i j k => i < n ∧ j < n ∧ ∀ b, TOk n P (k b)
def kRun (lt : Nat → Nat → Bool) : KasT α → α
  | .ret a => a
  | .ask i j k => kRun lt (k (lt i j))
theorem TOk.run {n : Nat} {P : α → Prop} {lt : Nat → Nat → Bool} : ∀ {t : KasT α}, TOk n P t → P (kRun lt t)
  | .ret _, h => h
  | .ask i j k, h => show P (kRun lt (k (lt i j))) from TOk.run (h.2.2 (lt i j))
theorem TOk.bind {n : Nat} {P : α → Prop} {R : β → Prop} {f : α → KasT β} (hf : ∀ a, P a → TOk n R (f a)) : ∀ {t : KasT α}, TOk n P t → TOk n R (t.bind f)
  | .ret _, h => hf _ h
  | .ask i j k, h => ⟨h.1, h.2.1, fun b => TOk.bind hf (h.2.2 b)⟩
end
def PermN (n : Nat) (p : Array Nat) : Prop := p.Perm (List.toArray (List.range n))
theorem PermN.list {n : Nat} {p : Array Nat} (h : PermN n p) : p.toList.Perm (List.range n) := Array.perm_iff_toList_perm.mp h
theorem PermN.lt {n : Nat} {p : Array Nat} (h : PermN n p) (hn : 0 < n) (i : Nat) : p.getD i 0 < n := by
  by_cases hi : i < p.size
  · have h1 : p[i] ∈ List.range n := h.list.mem_iff.mp (by simp)
    have e : p.getD i 0 = p[i] := by simp [Array.getD, hi]
    rw [e]; exact List.mem_range.mp h1
  · have e : p.getD i 0 = 0 := by simp [Array.getD, hi]
    rw [e]; exact hn
theorem PermN.rev {n : Nat} {p : Array Nat} (h : PermN n p) (i j : Nat) : PermN n (kas_rev p i j) := (mirror_perm _ _ _ _).trans h
section
variable {n : Nat} (hn : 0 < n)
include hn
end
section
variable {prog : Program} {w : World} {A : Around} {E : Value → Shared → Prop} {s : Shared}
end
section
variable {X : Cx}
end
section
variable {X : Cx}
end
section
variable {X : Cx} {K : PySem.W.Frag} {tg e : Expr} {te : TE}
end
end L2
namespace L2
open PySem PySem.Spec PyProof.Rows PySem.W
def PrsAt (H : Hp) (xs : List V) (pl : List (Str × Str)) : Prop := ∃ as : List Addr, xs = as.map V.ref ∧ as.length = pl.length ∧ ∀ (i : Nat) (a : Addr) (p : Str × Str), as[i]? = some a → pl[i]? = some p → H a = some (.tup [.str p.1, .str p.2])
def prOf (H : Hp) (a : Addr) : Option (Str × Str) := match H a with
  | some (.tup [.str x, .str y]) => some (x, y)
  | _ => none
def rInP (K : PySem.W.Frag) : R2 := fun x y H Q => ∃ (q l : Addr) (a b : Str) (xs : List V) (pl : List (Str × Str)), x = .ref q ∧ y = .ref l ∧ H q = some (.tup [.str a, .str b]) ∧ SqL K H l xs ∧ PrsAt H xs pl ∧ (PyData.strOk a = true ∧ PyData.strOk b = true) ∧ (∀ p ∈ pl, PyData.strOk p.1 = true ∧ PyData.strOk p.2 = true) ∧ Q (.bl (decide ((a, b) ∈ pl))) H
section
variable {X : Cx} {pos : Pos}
theorem den_pair {K : PySem.W.Frag} {H : Hp} {a : Addr} {x y : Str} (h : H a = some (.tup [.str x, .str y])) : Den K H (.ref a) (.tuple [.str x, .str y]) := .tup (SqT.of h) (.cons (.str x) (.cons (.str y) .nil))
theorem pair_can {x y : Str} (h1 : PyData.strOk x = true) (h2 : PyData.strOk y = true) : PyData.canLay0 (.tuple [.str x, .str y]) = true := by
  show (PyData.canLay0 (.str x) && (PyData.canLay0 (.str y) && true)) = true
  rw [show PyData.canLay0 (.str x) = true from h1, show PyData.canLay0 (.str y) = true from h2]; rfl
theorem pair_eqv (x y a b : Str) : PyData.eqv (.tuple [.str x, .str y]) (.tuple [.str a, .str b]) = decide ((x, y) = (a, b)) := by
  have e : PyData.eqv (.tuple [.str x, .str y]) (.tuple [.str a, .str b]) = (decide (x = a) && (decide (y = b) && true)) := by first | rfl | simp [PyData.eqv, PyData.eqvAll]
  rw [e]
  by_cases h1 : x = a <;> by_cases h2 : y = b <;> simp [h1, h2]
theorem op_inP (hu : X.A.units + 64 < cLine) : OpR X (compareOp .In) (rInP X.K) := by
  intro pins s σ H x y v u Q I rx ry h
  obtain ⟨q, l, a, b, xs, pl, rfl, rfl, hq, hl, ⟨as, rfl, hal, hat⟩, hab, hpo, qq⟩ := h
  cases rx
  cases ry
  obtain ⟨its, rv, p1, hz⟩ := I.list hl
  have hits : its = as.map Value.ref := by
    have : ∀ {as : List Addr} {its : List Value}, Vals (as.map V.ref) its → its = as.map Value.ref := by
      intro as
      induction as with
      | nil => intro its r; cases r; rfl
      | cons a as ih =>
        intro its r
        cases r with
        | cons h t => cases h; rw [ih t]; rfl
    exact this rv
  subst hits
  have hpr : ∀ c ∈ as, ∃ p ∈ pl, H c = some (.tup [.str p.1, .str p.2]) := fun c hc => by
    obtain ⟨i, hi, rfl⟩ := List.getElem_of_mem hc
    have hi' : i < pl.length := by omega
    exact ⟨pl[i], List.getElem_mem hi', hat i _ _ (List.getElem?_eq_getElem hi) (List.getElem?_eq_getElem hi')⟩
  obtain ⟨bs, rb⟩ := (den_pair (K := X.K) hq).reads I (show RelV (V.ref q) (Value.ref q) from rfl)
  refine SeqAt.in_listAt (fun w => match w with | .ref c => decide (prOf H c = some (a, b)) | _ => false) p1.isList (fun w hw => ?_) ⟨.bl _, H, I, rfl, ?_⟩
  · obtain ⟨c, hc, rfl⟩ := List.mem_map.mp (show w ∈ as.map Value.ref by simpa using hw)
    obtain ⟨p, hp, hc2⟩ := hpr c hc
    obtain ⟨cs, rc⟩ := (den_pair (K := X.K) hc2).reads I (show RelV (V.ref c) (Value.ref c) from rfl)
    have e0 := SeqAt.eqAt_reads _ _ X.A.in1 s _ _ _ _ rc rb (pair_can (hpo p hp).1 (hpo p hp).2) (pair_can hab.1 hab.2) (by
      have h1 : min (PyData.depth (.tuple [.str p.1, .str p.2])) (PyData.depth (.tuple [.str a, .str b])) ≤ 1 := Nat.le_trans (Nat.min_le_left _ _) (by simp [PyData.depth, PyData.depthAll])
      have h2 : X.A.in1.units ≤ X.A.units + 1 := by first | exact Nat.le_refl _ | exact Nat.le_succ _ | (simp [Around.in1])
      omega)
    rw [pair_eqv] at e0
    have e1 : (match Value.ref c with | .ref c => decide (prOf H c = some (a, b)) | _ => false) = decide ((p.1, p.2) = (a, b)) := by
      show decide (prOf H c = some (a, b)) = _
      have : prOf H c = some (p.1, p.2) := by unfold prOf; rw [hc2]
      rw [this, Bool.eq_iff_iff, decide_eq_true_eq, decide_eq_true_eq, Option.some.injEq]
    rw [e1]; exact e0
  · have e2 : (List.toArray (as.map Value.ref)).any (fun w => match w with | .ref c => decide (prOf H c = some (a, b)) | _ => false) = decide ((a, b) ∈ pl) := by
      rw [List.any_toArray, List.any_map, Bool.eq_iff_iff, List.any_eq_true, decide_eq_true_eq]
      constructor
      · rintro ⟨c, hc, e⟩
        obtain ⟨p, hp, hc2⟩ := hpr c hc
        have e' : prOf H c = some (a, b) := of_decide_eq_true e
        have : prOf H c = some (p.1, p.2) := by unfold prOf; rw [hc2]
        rw [this] at e'
        have e3 : p = (a, b) := Option.some.inj e'
        rw [← e3]; exact hp
      · intro hm
        obtain ⟨i, hi, e⟩ := List.getElem_of_mem hm
        have hi' : i < as.length := by omega
        have h1 := hat i _ _ (List.getElem?_eq_getElem hi') (List.getElem?_eq_getElem hi)
        refine ⟨as[i], List.getElem_mem hi', decide_eq_true ?_⟩
        unfold prOf; rw [h1, e]
    rw [e2]; exact qq
end
def tAltT (t u : TT) : TT := fun σ H Q => t σ H Q ∨ u σ H Q
theorem pt_alt {X : Cx} {e : Expr} {t u : TT} (h1 : PT X e t) (h2 : PT X e u) : PT X e (tAltT t u) := fun pins s σ H Q I h => h.elim (h1 pins s σ H Q I) (h2 pins s σ H Q I)
end L2
namespace L2
open PySem PySem.Spec PyProof.Rows PySem.W
def rEqN (K : PySem.W.Frag) : R2 := fun x y H Q => ∃ (a b : Addr) (xs : List V), x = .ref a ∧ y = .ref b ∧ SqL K H a xs ∧ SqL K H b [] ∧ Q (.bl (decide (xs = []))) H
section
variable {X : Cx}
theorem op_eqN (hu : X.A.units + 64 < cLine) : OpR X (compareOp .Eq) (rEqN X.K) := by
  intro pins s σ H x y v u Q I rx ry h
  obtain ⟨a, b, xs, rfl, rfl, ha, hb, q⟩ := h
  cases rx
  cases ry
  obtain ⟨its, rv, p1, _⟩ := I.list ha
  obtain ⟨its2, rv2, p2, _⟩ := I.list hb
  have hl := rv.length
  have hl2 := rv2.length
  cases rv2
  by_cases hx : xs = []
  · subst hx
    cases rv
    rw [decide_eq_true rfl] at q
    exact SeqAt.eq_listAt (e := fun _ => true) p1.isList p2.isList rfl (by omega) (fun j h1 _ => absurd h1 (by simp)) ⟨.bl _, H, I, rfl, q⟩
  · rw [decide_eq_false hx] at q
    refine SeqAt.eq_list_lengthsAt p1.isList p2.isList ?_ (by omega) ⟨.bl _, H, I, rfl, q⟩
    have : its.length ≠ 0 := fun z => hx (List.length_eq_zero_iff.mp (by omega))
    simp [this]
end
end L2
namespace L2
open PySem
theorem vis0 {a b c : Prop} (h : a) : a ∨ b ∨ c := Or.inl h
theorem vis1 {a b c : Prop} (h : b) : a ∨ b ∨ c := Or.inr (Or.inl h)
theorem vis2 {a b c : Prop} (h : c) : a ∨ b ∨ c := Or.inr (Or.inr h)
end L2
namespace K51
open PySem L2 Tx
def top (i : Nat) : Stmt := PySem.Challenge.pw_mostwise_k51_what_follows.main.body.getD i (.Pass ⟨0, 0, 0, 0⟩)
abbrev s_d_keyed : Stmt := top 2
abbrev n_d_keyed : List Str := ["some", "told", "statement"]
theorem sc_d_keyed : FnScope n_d_keyed ["some"] (defScope s_d_keyed) := ⟨rfl, rfl, rfl, by decide +kernel, rfl, by decide +kernel, by decide +kernel⟩
abbrev s_d_all_among : Stmt := top 3
abbrev n_d_all_among : List Str := ["statements", "some"]
theorem sc_d_all_among : FnScope n_d_all_among ["statements", "some"] (defScope s_d_all_among) := ⟨rfl, rfl, rfl, by decide +kernel, rfl, by decide +kernel, by decide +kernel⟩
abbrev s_d_any_among : Stmt := top 4
abbrev n_d_any_among : List Str := ["statements", "some"]
theorem sc_d_any_among : FnScope n_d_any_among ["statements", "some"] (defScope s_d_any_among) := ⟨rfl, rfl, rfl, by decide +kernel, rfl, by decide +kernel, by decide +kernel⟩
abbrev s_d_opposite : Stmt := top 6
abbrev n_d_opposite : List Str := ["statement"]
theorem sc_d_opposite : FnScope n_d_opposite ["statement"] (defScope s_d_opposite) := ⟨rfl, rfl, rfl, by decide +kernel, rfl, by decide +kernel, by decide +kernel⟩
abbrev s_d_is_beaten : Stmt := top 10
abbrev n_d_is_beaten : List Str := ["ground", "rule", "beaters"]
theorem sc_d_is_beaten : FnScope n_d_is_beaten ["ground", "rule", "beaters"] (defScope s_d_is_beaten) := ⟨rfl, rfl, rfl, by decide +kernel, rfl, by decide +kernel, by decide +kernel⟩
abbrev s_d_holds_by : Stmt := top 11
abbrev n_d_holds_by : List Str := ["ground", "sures", "held", "refused", "q", "standing"]
theorem sc_d_holds_by : FnScope n_d_holds_by ["ground", "sures", "held", "refused", "q"] (defScope s_d_holds_by) := ⟨rfl, rfl, rfl, by decide +kernel, rfl, by decide +kernel, by decide +kernel⟩
abbrev s_d_refused_by : Stmt := top 12
abbrev n_d_refused_by : List Str := ["ground", "sures", "held", "refused", "q", "unfallen"]
theorem sc_d_refused_by : FnScope n_d_refused_by ["ground", "sures", "held", "refused", "q"] (defScope s_d_refused_by) := ⟨rfl, rfl, rfl, by decide +kernel, rfl, by decide +kernel, by decide +kernel⟩
abbrev s_d_with_word : Stmt := top 14
abbrev n_d_with_word : List Str := ["rows", "word"]
theorem sc_d_with_word : FnScope n_d_with_word ["rows", "word"] (defScope s_d_with_word) := ⟨rfl, rfl, rfl, by decide +kernel, rfl, by decide +kernel, by decide +kernel⟩
abbrev s_d_follows : Stmt := top 15
abbrev n_d_follows : List Str := ["ground", "sures", "rows", "claim", "held", "refused"]
theorem sc_d_follows : FnScope n_d_follows ["ground", "sures", "rows", "claim"] (defScope s_d_follows) := ⟨rfl, rfl, rfl, by decide +kernel, rfl, by decide +kernel, by decide +kernel⟩
abbrev s_c_Rule_init : Stmt := inClass (top 17) 0
abbrev n_c_Rule_init : List Str := ["self", "label", "head", "body"]
theorem sc_c_Rule_init : FnScope n_c_Rule_init ["self", "label", "head", "body"] (defScope s_c_Rule_init) := ⟨rfl, rfl, rfl, by decide +kernel, rfl, by decide +kernel, by decide +kernel⟩
abbrev s_c_Rule_speaks : Stmt := inClass (top 17) 2
abbrev n_c_Rule_speaks : List Str := ["self"]
theorem sc_c_Rule_speaks : FnScope n_c_Rule_speaks ["self"] (defScope s_c_Rule_speaks) := ⟨rfl, rfl, rfl, by decide +kernel, rfl, by decide +kernel, by decide +kernel⟩
abbrev s_c_Fact_init : Stmt := inClass (top 18) 0
abbrev n_c_Fact_init : List Str := ["self", "head"]
theorem sc_c_Fact_init : FnScope n_c_Fact_init ["self", "head"] (defScope s_c_Fact_init) := ⟨rfl, rfl, rfl, by decide +kernel, rfl, by decide +kernel, by decide +kernel⟩
abbrev s_c_Fact_word : Stmt := inClass (top 18) 1
abbrev n_c_Fact_word : List Str := ["self"]
theorem sc_c_Fact_word : FnScope n_c_Fact_word ["self"] (defScope s_c_Fact_word) := ⟨rfl, rfl, rfl, by decide +kernel, rfl, by decide +kernel, by decide +kernel⟩
abbrev s_c_Sure_word : Stmt := inClass (top 19) 0
abbrev n_c_Sure_word : List Str := ["self"]
theorem sc_c_Sure_word : FnScope n_c_Sure_word ["self"] (defScope s_c_Sure_word) := ⟨rfl, rfl, rfl, by decide +kernel, rfl, by decide +kernel, by decide +kernel⟩
abbrev s_c_Most_word : Stmt := inClass (top 20) 0
abbrev n_c_Most_word : List Str := ["self"]
theorem sc_c_Most_word : FnScope n_c_Most_word ["self"] (defScope s_c_Most_word) := ⟨rfl, rfl, rfl, by decide +kernel, rfl, by decide +kernel, by decide +kernel⟩
abbrev s_c_Block_word : Stmt := inClass (top 21) 0
abbrev n_c_Block_word : List Str := ["self"]
theorem sc_c_Block_word : FnScope n_c_Block_word ["self"] (defScope s_c_Block_word) := ⟨rfl, rfl, rfl, by decide +kernel, rfl, by decide +kernel, by decide +kernel⟩
abbrev s_c_Block_speaks : Stmt := inClass (top 21) 1
abbrev n_c_Block_speaks : List Str := ["self"]
theorem sc_c_Block_speaks : FnScope n_c_Block_speaks ["self"] (defScope s_c_Block_speaks) := ⟨rfl, rfl, rfl, by decide +kernel, rfl, by decide +kernel, by decide +kernel⟩
abbrev s_c_Ground_init : Stmt := inClass (top 23) 0
abbrev n_c_Ground_init : List Str := ["self", "rules", "pairs", "rule", "pair"]
theorem sc_c_Ground_init : FnScope n_c_Ground_init ["self", "rules", "pairs"] (defScope s_c_Ground_init) := ⟨rfl, rfl, rfl, by decide +kernel, rfl, by decide +kernel, by decide +kernel⟩
abbrev s_c_Ground_ruling : Stmt := inClass (top 23) 2
abbrev n_c_Ground_ruling : List Str := ["self", "statement"]
theorem sc_c_Ground_ruling : FnScope n_c_Ground_ruling ["self", "statement"] (defScope s_c_Ground_ruling) := ⟨rfl, rfl, rfl, by decide +kernel, rfl, by decide +kernel, by decide +kernel⟩
abbrev s_c_Ground_speaking : Stmt := inClass (top 23) 3
abbrev n_c_Ground_speaking : List Str := ["self", "statement"]
theorem sc_c_Ground_speaking : FnScope n_c_Ground_speaking ["self", "statement"] (defScope s_c_Ground_speaking) := ⟨rfl, rfl, rfl, by decide +kernel, rfl, by decide +kernel, by decide +kernel⟩
abbrev s_c_Ground_against : Stmt := inClass (top 23) 4
abbrev n_c_Ground_against : List Str := ["self", "statement"]
theorem sc_c_Ground_against : FnScope n_c_Ground_against ["self", "statement"] (defScope s_c_Ground_against) := ⟨rfl, rfl, rfl, by decide +kernel, rfl, by decide +kernel, by decide +kernel⟩
abbrev s_c_Ground_beats : Stmt := inClass (top 23) 5
abbrev n_c_Ground_beats : List Str := ["self", "one", "other"]
theorem sc_c_Ground_beats : FnScope n_c_Ground_beats ["self", "one", "other"] (defScope s_c_Ground_beats) := ⟨rfl, rfl, rfl, by decide +kernel, rfl, by decide +kernel, by decide +kernel⟩
abbrev s_d_l_cell_at : Stmt := top 25
abbrev n_d_l_cell_at : List Str := ["_law_script", "_law_k"]
theorem sc_d_l_cell_at : FnScope n_d_l_cell_at ["_law_script", "_law_k"] (defScope s_d_l_cell_at) := ⟨rfl, rfl, rfl, by decide +kernel, rfl, by decide +kernel, by decide +kernel⟩
abbrev s_d_l_mix : Stmt := top 26
abbrev n_d_l_mix : List Str := ["_law_cell", "_law_k", "_law_number"]
theorem sc_d_l_mix : FnScope n_d_l_mix ["_law_cell", "_law_k"] (defScope s_d_l_mix) := ⟨rfl, rfl, rfl, by decide +kernel, rfl, by decide +kernel, by decide +kernel⟩
abbrev s_d_l_words : Stmt := top 27
abbrev n_d_l_words : List Str := ["_law_cell", "_law_many", "_law_signs", "_law_base", "_law_size", "_law_at", "_law_found", "_law_k", "_law_other"]
theorem sc_d_l_words : FnScope n_d_l_words ["_law_cell", "_law_many"] (defScope s_d_l_words) := ⟨rfl, rfl, rfl, by decide +kernel, rfl, by decide +kernel, by decide +kernel⟩
abbrev s_d_l_opposed : Stmt := top 28
abbrev n_d_l_opposed : List Str := ["_law_text"]
theorem sc_d_l_opposed : FnScope n_d_l_opposed ["_law_text"] (defScope s_d_l_opposed) := ⟨rfl, rfl, rfl, by decide +kernel, rfl, by decide +kernel, by decide +kernel⟩
abbrev s_d_l_pool : Stmt := top 29
abbrev n_d_l_pool : List Str := ["_law_script", "_law_names", "_law_things", "_law_some"]
theorem sc_d_l_pool : FnScope n_d_l_pool ["_law_script"] (defScope s_d_l_pool) := ⟨rfl, rfl, rfl, by decide +kernel, rfl, by decide +kernel, by decide +kernel⟩
abbrev s_d_l_drawn : Stmt := top 30
abbrev n_d_l_drawn : List Str := ["_law_pool_here", "_law_number", "_law_text"]
theorem sc_d_l_drawn : FnScope n_d_l_drawn ["_law_pool_here", "_law_number"] (defScope s_d_l_drawn) := ⟨rfl, rfl, rfl, by decide +kernel, rfl, by decide +kernel, by decide +kernel⟩
abbrev s_d_l_numbers : Stmt := top 31
abbrev n_d_l_numbers : List Str := ["_law_cell", "_law_many", "_law_size", "_law_plain", "_law_found", "_law_rest", "_law_j"]
theorem sc_d_l_numbers : FnScope n_d_l_numbers ["_law_cell", "_law_many", "_law_size", "_law_plain"] (defScope s_d_l_numbers) := ⟨rfl, rfl, rfl, by decide +kernel, rfl, by decide +kernel, by decide +kernel⟩
abbrev s_d_l_rule : Stmt := top 32
abbrev n_d_l_rule : List Str := ["_law_pool_here", "_law_cell", "_law_k", "_law_plain", "_law_many", "_law_texts", "_law_way", "_law_label"]
theorem sc_d_l_rule : FnScope n_d_l_rule ["_law_pool_here", "_law_cell", "_law_k", "_law_plain"] (defScope s_d_l_rule) := ⟨rfl, rfl, rfl, by decide +kernel, rfl, by decide +kernel, by decide +kernel⟩
abbrev s_d_l_pairs : Stmt := top 33
abbrev n_d_l_pairs : List Str := ["_law_rules", "_law_cell", "_law_pairs_here", "_law_k", "_law_j", "_law_way"]
theorem sc_d_l_pairs : FnScope n_d_l_pairs ["_law_rules", "_law_cell"] (defScope s_d_l_pairs) := ⟨rfl, rfl, rfl, by decide +kernel, rfl, by decide +kernel, by decide +kernel⟩
abbrev s_d_l_turned : Stmt := top 34
abbrev n_d_l_turned : List Str := ["_law_rules", "_law_cell"]
theorem sc_d_l_turned : FnScope n_d_l_turned ["_law_rules", "_law_cell"] (defScope s_d_l_turned) := ⟨rfl, rfl, rfl, by decide +kernel, rfl, by decide +kernel, by decide +kernel⟩
abbrev s_d_l_scene : Stmt := top 35
abbrev n_d_l_scene : List Str := ["_law_script", "_law_many", "_law_pool_here", "_law_cells", "_law_plain", "_law_rules", "_law_pairs_here", "_law_every", "_law_text"]
theorem sc_d_l_scene : FnScope n_d_l_scene ["_law_script", "_law_many"] (defScope s_d_l_scene) := ⟨rfl, rfl, rfl, by decide +kernel, rfl, by decide +kernel, by decide +kernel⟩
abbrev s_d_l_stands : Stmt := top 37
abbrev n_d_l_stands : List Str := ["_law_rule_here", "_law_held", "_law_text"]
theorem sc_d_l_stands : FnScope n_d_l_stands ["_law_rule_here", "_law_held"] (defScope s_d_l_stands) := ⟨rfl, rfl, rfl, by decide +kernel, rfl, by decide +kernel, by decide +kernel⟩
abbrev s_d_l_falls : Stmt := top 38
abbrev n_d_l_falls : List Str := ["_law_rule_here", "_law_refused", "_law_text"]
theorem sc_d_l_falls : FnScope n_d_l_falls ["_law_rule_here", "_law_refused"] (defScope s_d_l_falls) := ⟨rfl, rfl, rfl, by decide +kernel, rfl, by decide +kernel, by decide +kernel⟩
abbrev s_d_l_speaking : Stmt := top 39
abbrev n_d_l_speaking : List Str := ["_law_scene_here", "_law_text"]
theorem sc_d_l_speaking : FnScope n_d_l_speaking ["_law_scene_here", "_law_text"] (defScope s_d_l_speaking) := ⟨rfl, rfl, rfl, by decide +kernel, rfl, by decide +kernel, by decide +kernel⟩
abbrev s_d_l_against : Stmt := top 40
abbrev n_d_l_against : List Str := ["_law_scene_here", "_law_text"]
theorem sc_d_l_against : FnScope n_d_l_against ["_law_scene_here", "_law_text"] (defScope s_d_l_against) := ⟨rfl, rfl, rfl, by decide +kernel, rfl, by decide +kernel, by decide +kernel⟩
abbrev s_d_l_beaten : Stmt := top 41
abbrev n_d_l_beaten : List Str := ["_law_scene_here", "_law_rule_here", "_law_others", "_law_other"]
theorem sc_d_l_beaten : FnScope n_d_l_beaten ["_law_scene_here", "_law_rule_here", "_law_others"] (defScope s_d_l_beaten) := ⟨rfl, rfl, rfl, by decide +kernel, rfl, by decide +kernel, by decide +kernel⟩
abbrev s_d_l_may_hold : Stmt := top 42
abbrev n_d_l_may_hold : List Str := ["_law_scene_here", "_law_sures", "_law_held", "_law_refused", "_law_text", "_law_standing", "_law_rule_here"]
theorem sc_d_l_may_hold : FnScope n_d_l_may_hold ["_law_scene_here", "_law_sures", "_law_held", "_law_refused", "_law_text"] (defScope s_d_l_may_hold) := ⟨rfl, rfl, rfl, by decide +kernel, rfl, by decide +kernel, by decide +kernel⟩
abbrev s_d_l_may_refuse : Stmt := top 43
abbrev n_d_l_may_refuse : List Str := ["_law_scene_here", "_law_sures", "_law_held", "_law_refused", "_law_text", "_law_left", "_law_rule_here"]
theorem sc_d_l_may_refuse : FnScope n_d_l_may_refuse ["_law_scene_here", "_law_sures", "_law_held", "_law_refused", "_law_text"] (defScope s_d_l_may_refuse) := ⟨rfl, rfl, rfl, by decide +kernel, rfl, by decide +kernel, by decide +kernel⟩
abbrev s_d_l_good : Stmt := top 44
abbrev n_d_l_good : List Str := ["_law_ground", "_law_scene_here", "_law_sures", "_law_rows", "_law_held", "_law_refused", "_law_text", "_law_found"]
theorem sc_d_l_good : FnScope n_d_l_good ["_law_ground", "_law_scene_here", "_law_sures", "_law_rows"] (defScope s_d_l_good) := ⟨rfl, rfl, rfl, by decide +kernel, rfl, by decide +kernel, by decide +kernel⟩
abbrev s_d_law : Stmt := top 45
abbrev n_d_law : List Str := ["_law_script", "_law_scene_here", "_law_ground", "_law_cell", "_law_sures", "_law_text", "_law_rows", "_law_k", "_law_number", "_law_handed"]
theorem sc_d_law : FnScope n_d_law ["_law_script"] (defScope s_d_law) := ⟨rfl, rfl, rfl, by decide +kernel, rfl, by decide +kernel, by decide +kernel⟩
structure Adr where
  f_d_keyed : Addr
  fd_d_keyed : FuncData
  f_d_all_among : Addr
  fd_d_all_among : FuncData
  f_d_any_among : Addr
  fd_d_any_among : FuncData
  f_d_opposite : Addr
  fd_d_opposite : FuncData
  f_d_is_beaten : Addr
  fd_d_is_beaten : FuncData
  f_d_holds_by : Addr
  fd_d_holds_by : FuncData
  f_d_refused_by : Addr
  fd_d_refused_by : FuncData
  f_d_with_word : Addr
  fd_d_with_word : FuncData
  f_d_follows : Addr
  fd_d_follows : FuncData
  f_c_Rule_init : Addr
  fd_c_Rule_init : FuncData
  f_c_Rule_speaks : Addr
  fd_c_Rule_speaks : FuncData
  f_c_Fact_init : Addr
  fd_c_Fact_init : FuncData
  f_c_Fact_word : Addr
  fd_c_Fact_word : FuncData
  f_c_Sure_word : Addr
  fd_c_Sure_word : FuncData
  f_c_Most_word : Addr
  fd_c_Most_word : FuncData
  f_c_Block_word : Addr
  fd_c_Block_word : FuncData
  f_c_Block_speaks : Addr
  fd_c_Block_speaks : FuncData
  f_c_Ground_init : Addr
  fd_c_Ground_init : FuncData
  f_c_Ground_ruling : Addr
  fd_c_Ground_ruling : FuncData
  f_c_Ground_speaking : Addr
  fd_c_Ground_speaking : FuncData
  f_c_Ground_against : Addr
  fd_c_Ground_against : FuncData
  f_c_Ground_beats : Addr
  fd_c_Ground_beats : FuncData
  f_d_l_cell_at : Addr
  fd_d_l_cell_at : FuncData
  f_d_l_mix : Addr
  fd_d_l_mix : FuncData
  f_d_l_words : Addr
  fd_d_l_words : FuncData
  f_d_l_opposed : Addr
  fd_d_l_opposed : FuncData
  f_d_l_pool : Addr
  fd_d_l_pool : FuncData
  f_d_l_drawn : Addr
  fd_d_l_drawn : FuncData
  f_d_l_numbers : Addr
  fd_d_l_numbers : FuncData
  f_d_l_rule : Addr
  fd_d_l_rule : FuncData
  f_d_l_pairs : Addr
  fd_d_l_pairs : FuncData
  f_d_l_turned : Addr
  fd_d_l_turned : FuncData
  f_d_l_scene : Addr
  fd_d_l_scene : FuncData
  f_d_l_stands : Addr
  fd_d_l_stands : FuncData
  f_d_l_falls : Addr
  fd_d_l_falls : FuncData
  f_d_l_speaking : Addr
  fd_d_l_speaking : FuncData
  f_d_l_against : Addr
  fd_d_l_against : FuncData
  f_d_l_beaten : Addr
  fd_d_l_beaten : FuncData
  f_d_l_may_hold : Addr
  fd_d_l_may_hold : FuncData
  f_d_l_may_refuse : Addr
  fd_d_l_may_refuse : FuncData
  f_d_l_good : Addr
  fd_d_l_good : FuncData
  f_d_law : Addr
  fd_d_law : FuncData
  C_Rule : Addr
  C_Fact : Addr
  C_Sure : Addr
  C_Most : Addr
  C_Block : Addr
  C_Ground : Addr
structure Txt (K : PySem.W.Frag) (mg : Str → Option Value) (t : Adr) : Prop where
  F_d_keyed : Fun K "keyed" "keyed" s_d_keyed t.f_d_keyed t.fd_d_keyed
  b_d_keyed : Binds K t.fd_d_keyed ["some"] []
  g_d_keyed : mg "keyed" = some (.ref t.f_d_keyed)
  F_d_all_among : Fun K "all_among" "all_among" s_d_all_among t.f_d_all_among t.fd_d_all_among
  b_d_all_among : Binds K t.fd_d_all_among ["statements", "some"] []
  g_d_all_among : mg "all_among" = some (.ref t.f_d_all_among)
  F_d_any_among : Fun K "any_among" "any_among" s_d_any_among t.f_d_any_among t.fd_d_any_among
  b_d_any_among : Binds K t.fd_d_any_among ["statements", "some"] []
  g_d_any_among : mg "any_among" = some (.ref t.f_d_any_among)
  F_d_opposite : Fun K "opposite" "opposite" s_d_opposite t.f_d_opposite t.fd_d_opposite
  b_d_opposite : Binds K t.fd_d_opposite ["statement"] []
  g_d_opposite : mg "opposite" = some (.ref t.f_d_opposite)
  F_d_is_beaten : Fun K "is_beaten" "is_beaten" s_d_is_beaten t.f_d_is_beaten t.fd_d_is_beaten
  b_d_is_beaten : Binds K t.fd_d_is_beaten ["ground", "rule", "beaters"] []
  g_d_is_beaten : mg "is_beaten" = some (.ref t.f_d_is_beaten)
  F_d_holds_by : Fun K "holds_by" "holds_by" s_d_holds_by t.f_d_holds_by t.fd_d_holds_by
  b_d_holds_by : Binds K t.fd_d_holds_by ["ground", "sures", "held", "refused", "q"] []
  g_d_holds_by : mg "holds_by" = some (.ref t.f_d_holds_by)
  F_d_refused_by : Fun K "refused_by" "refused_by" s_d_refused_by t.f_d_refused_by t.fd_d_refused_by
  b_d_refused_by : Binds K t.fd_d_refused_by ["ground", "sures", "held", "refused", "q"] []
  g_d_refused_by : mg "refused_by" = some (.ref t.f_d_refused_by)
  F_d_with_word : Fun K "with_word" "with_word" s_d_with_word t.f_d_with_word t.fd_d_with_word
  b_d_with_word : Binds K t.fd_d_with_word ["rows", "word"] []
  g_d_with_word : mg "with_word" = some (.ref t.f_d_with_word)
  F_d_follows : Fun K "follows" "follows" s_d_follows t.f_d_follows t.fd_d_follows
  b_d_follows : Binds K t.fd_d_follows ["ground", "sures", "rows", "claim"] []
  g_d_follows : mg "follows" = some (.ref t.f_d_follows)
  F_c_Rule_init : Fun K "__init__" "Rule.__init__" s_c_Rule_init t.f_c_Rule_init t.fd_c_Rule_init
  b_c_Rule_init : Binds K t.fd_c_Rule_init ["self", "label", "head", "body"] []
  F_c_Rule_speaks : Fun K "speaks" "Rule.speaks" s_c_Rule_speaks t.f_c_Rule_speaks t.fd_c_Rule_speaks
  b_c_Rule_speaks : Binds K t.fd_c_Rule_speaks ["self"] []
  F_c_Fact_init : Fun K "__init__" "Fact.__init__" s_c_Fact_init t.f_c_Fact_init t.fd_c_Fact_init
  b_c_Fact_init : Binds K t.fd_c_Fact_init ["self", "head"] []
  F_c_Fact_word : Fun K "word" "Fact.word" s_c_Fact_word t.f_c_Fact_word t.fd_c_Fact_word
  b_c_Fact_word : Binds K t.fd_c_Fact_word ["self"] []
  F_c_Sure_word : Fun K "word" "Sure.word" s_c_Sure_word t.f_c_Sure_word t.fd_c_Sure_word
  b_c_Sure_word : Binds K t.fd_c_Sure_word ["self"] []
  F_c_Most_word : Fun K "word" "Most.word" s_c_Most_word t.f_c_Most_word t.fd_c_Most_word
  b_c_Most_word : Binds K t.fd_c_Most_word ["self"] []
  F_c_Block_word : Fun K "word" "Block.word" s_c_Block_word t.f_c_Block_word t.fd_c_Block_word
  b_c_Block_word : Binds K t.fd_c_Block_word ["self"] []
  F_c_Block_speaks : Fun K "speaks" "Block.speaks" s_c_Block_speaks t.f_c_Block_speaks t.fd_c_Block_speaks
  b_c_Block_speaks : Binds K t.fd_c_Block_speaks ["self"] []
  F_c_Ground_init : Fun K "__init__" "Ground.__init__" s_c_Ground_init t.f_c_Ground_init t.fd_c_Ground_init
  b_c_Ground_init : Binds K t.fd_c_Ground_init ["self", "rules", "pairs"] []
  F_c_Ground_ruling : Fun K "ruling" "Ground.ruling" s_c_Ground_ruling t.f_c_Ground_ruling t.fd_c_Ground_ruling
  b_c_Ground_ruling : Binds K t.fd_c_Ground_ruling ["self", "statement"] []
  F_c_Ground_speaking : Fun K "speaking" "Ground.speaking" s_c_Ground_speaking t.f_c_Ground_speaking t.fd_c_Ground_speaking
  b_c_Ground_speaking : Binds K t.fd_c_Ground_speaking ["self", "statement"] []
  F_c_Ground_against : Fun K "against" "Ground.against" s_c_Ground_against t.f_c_Ground_against t.fd_c_Ground_against
  b_c_Ground_against : Binds K t.fd_c_Ground_against ["self", "statement"] []
  F_c_Ground_beats : Fun K "beats" "Ground.beats" s_c_Ground_beats t.f_c_Ground_beats t.fd_c_Ground_beats
  b_c_Ground_beats : Binds K t.fd_c_Ground_beats ["self", "one", "other"] []
  F_d_l_cell_at : Fun K "_law_cell_at" "_law_cell_at" s_d_l_cell_at t.f_d_l_cell_at t.fd_d_l_cell_at
  b_d_l_cell_at : Binds K t.fd_d_l_cell_at ["_law_script", "_law_k"] []
  g_d_l_cell_at : mg "_law_cell_at" = some (.ref t.f_d_l_cell_at)
  F_d_l_mix : Fun K "_law_mix" "_law_mix" s_d_l_mix t.f_d_l_mix t.fd_d_l_mix
  b_d_l_mix : Binds K t.fd_d_l_mix ["_law_cell", "_law_k"] []
  g_d_l_mix : mg "_law_mix" = some (.ref t.f_d_l_mix)
  F_d_l_words : Fun K "_law_words" "_law_words" s_d_l_words t.f_d_l_words t.fd_d_l_words
  b_d_l_words : Binds K t.fd_d_l_words ["_law_cell", "_law_many"] []
  g_d_l_words : mg "_law_words" = some (.ref t.f_d_l_words)
  F_d_l_opposed : Fun K "_law_opposed" "_law_opposed" s_d_l_opposed t.f_d_l_opposed t.fd_d_l_opposed
  b_d_l_opposed : Binds K t.fd_d_l_opposed ["_law_text"] []
  g_d_l_opposed : mg "_law_opposed" = some (.ref t.f_d_l_opposed)
  F_d_l_pool : Fun K "_law_pool" "_law_pool" s_d_l_pool t.f_d_l_pool t.fd_d_l_pool
  b_d_l_pool : Binds K t.fd_d_l_pool ["_law_script"] []
  g_d_l_pool : mg "_law_pool" = some (.ref t.f_d_l_pool)
  F_d_l_drawn : Fun K "_law_drawn" "_law_drawn" s_d_l_drawn t.f_d_l_drawn t.fd_d_l_drawn
  b_d_l_drawn : Binds K t.fd_d_l_drawn ["_law_pool_here", "_law_number"] []
  g_d_l_drawn : mg "_law_drawn" = some (.ref t.f_d_l_drawn)
  F_d_l_numbers : Fun K "_law_numbers" "_law_numbers" s_d_l_numbers t.f_d_l_numbers t.fd_d_l_numbers
  b_d_l_numbers : Binds K t.fd_d_l_numbers ["_law_cell", "_law_many", "_law_size", "_law_plain"] []
  g_d_l_numbers : mg "_law_numbers" = some (.ref t.f_d_l_numbers)
  F_d_l_rule : Fun K "_law_rule" "_law_rule" s_d_l_rule t.f_d_l_rule t.fd_d_l_rule
  b_d_l_rule : Binds K t.fd_d_l_rule ["_law_pool_here", "_law_cell", "_law_k", "_law_plain"] []
  g_d_l_rule : mg "_law_rule" = some (.ref t.f_d_l_rule)
  F_d_l_pairs : Fun K "_law_pairs" "_law_pairs" s_d_l_pairs t.f_d_l_pairs t.fd_d_l_pairs
  b_d_l_pairs : Binds K t.fd_d_l_pairs ["_law_rules", "_law_cell"] []
  g_d_l_pairs : mg "_law_pairs" = some (.ref t.f_d_l_pairs)
  F_d_l_turned : Fun K "_law_turned" "_law_turned" s_d_l_turned t.f_d_l_turned t.fd_d_l_turned
  b_d_l_turned : Binds K t.fd_d_l_turned ["_law_rules", "_law_cell"] []
  g_d_l_turned : mg "_law_turned" = some (.ref t.f_d_l_turned)
  F_d_l_scene : Fun K "_law_scene" "_law_scene" s_d_l_scene t.f_d_l_scene t.fd_d_l_scene
  b_d_l_scene : Binds K t.fd_d_l_scene ["_law_script", "_law_many"] []
  g_d_l_scene : mg "_law_scene" = some (.ref t.f_d_l_scene)
  F_d_l_stands : Fun K "_law_stands" "_law_stands" s_d_l_stands t.f_d_l_stands t.fd_d_l_stands
  b_d_l_stands : Binds K t.fd_d_l_stands ["_law_rule_here", "_law_held"] []
  g_d_l_stands : mg "_law_stands" = some (.ref t.f_d_l_stands)
  F_d_l_falls : Fun K "_law_falls" "_law_falls" s_d_l_falls t.f_d_l_falls t.fd_d_l_falls
  b_d_l_falls : Binds K t.fd_d_l_falls ["_law_rule_here", "_law_refused"] []
  g_d_l_falls : mg "_law_falls" = some (.ref t.f_d_l_falls)
  F_d_l_speaking : Fun K "_law_speaking" "_law_speaking" s_d_l_speaking t.f_d_l_speaking t.fd_d_l_speaking
  b_d_l_speaking : Binds K t.fd_d_l_speaking ["_law_scene_here", "_law_text"] []
  g_d_l_speaking : mg "_law_speaking" = some (.ref t.f_d_l_speaking)
  F_d_l_against : Fun K "_law_against" "_law_against" s_d_l_against t.f_d_l_against t.fd_d_l_against
  b_d_l_against : Binds K t.fd_d_l_against ["_law_scene_here", "_law_text"] []
  g_d_l_against : mg "_law_against" = some (.ref t.f_d_l_against)
  F_d_l_beaten : Fun K "_law_beaten" "_law_beaten" s_d_l_beaten t.f_d_l_beaten t.fd_d_l_beaten
  b_d_l_beaten : Binds K t.fd_d_l_beaten ["_law_scene_here", "_law_rule_here", "_law_others"] []
  g_d_l_beaten : mg "_law_beaten" = some (.ref t.f_d_l_beaten)
  F_d_l_may_hold : Fun K "_law_may_hold" "_law_may_hold" s_d_l_may_hold t.f_d_l_may_hold t.fd_d_l_may_hold
  b_d_l_may_hold : Binds K t.fd_d_l_may_hold ["_law_scene_here", "_law_sures", "_law_held", "_law_refused", "_law_text"] []
  g_d_l_may_hold : mg "_law_may_hold" = some (.ref t.f_d_l_may_hold)
  F_d_l_may_refuse : Fun K "_law_may_refuse" "_law_may_refuse" s_d_l_may_refuse t.f_d_l_may_refuse t.fd_d_l_may_refuse
  b_d_l_may_refuse : Binds K t.fd_d_l_may_refuse ["_law_scene_here", "_law_sures", "_law_held", "_law_refused", "_law_text"] []
  g_d_l_may_refuse : mg "_law_may_refuse" = some (.ref t.f_d_l_may_refuse)
  F_d_l_good : Fun K "_law_good" "_law_good" s_d_l_good t.f_d_l_good t.fd_d_l_good
  b_d_l_good : Binds K t.fd_d_l_good ["_law_ground", "_law_scene_here", "_law_sures", "_law_rows"] []
  g_d_l_good : mg "_law_good" = some (.ref t.f_d_l_good)
  F_d_law : Fun K "law" "law" s_d_law t.f_d_law t.fd_d_law
  b_d_law : Binds K t.fd_d_law ["_law_script"] []
  g_d_law : mg "law" = some (.ref t.f_d_law)
  k_HELD : ∃ u, mg "HELD" = some (.str "held" u)
  k_REFUSED : ∃ u, mg "REFUSED" = some (.str "refused" u)
  g_Rule : mg "Rule" = some (.ref t.C_Rule)
  g_Fact : mg "Fact" = some (.ref t.C_Fact)
  g_Sure : mg "Sure" = some (.ref t.C_Sure)
  g_Most : mg "Most" = some (.ref t.C_Most)
  g_Block : mg "Block" = some (.ref t.C_Block)
  g_Ground : mg "Ground" = some (.ref t.C_Ground)
  z_NotImplementedError : mg "NotImplementedError" = none
  z_all : mg "all" = none
  z_any : mg "any" = none
  z_bool : mg "bool" = none
  z_isinstance : mg "isinstance" = none
  z_len : mg "len" = none
  z_list : mg "list" = none
  z_range : mg "range" = none
  z_reversed : mg "reversed" = none
  z_sorted : mg "sorted" = none
  z_str : mg "str" = none
  z_tuple : mg "tuple" = none
  cm_Rule : CMeth K t.C_Rule "__init__" t.f_c_Rule_init
  cl_Fact : Cls K t.C_Fact
  ty_Fact : TyI K t.C_Fact
  nf_Fact_label : NoAttr K t.C_Fact "label"
  nf_Fact_head : NoAttr K t.C_Fact "head"
  nf_Fact_body : NoAttr K t.C_Fact "body"
  mk_Fact : Mk K t.C_Fact t.f_c_Fact_init
  me_Fact_word : Meth K t.C_Fact "word" t.f_c_Fact_word
  me_Fact_speaks : Meth K t.C_Fact "speaks" t.f_c_Rule_speaks
  ki_Fact_Rule : PySem.W.kitOne K (.ref t.C_Fact) (.ref t.C_Rule) = some true
  ki_Fact_Fact : PySem.W.kitOne K (.ref t.C_Fact) (.ref t.C_Fact) = some true
  cl_Sure : Cls K t.C_Sure
  ty_Sure : TyI K t.C_Sure
  nf_Sure_label : NoAttr K t.C_Sure "label"
  nf_Sure_head : NoAttr K t.C_Sure "head"
  nf_Sure_body : NoAttr K t.C_Sure "body"
  mk_Sure : Mk K t.C_Sure t.f_c_Rule_init
  me_Sure_word : Meth K t.C_Sure "word" t.f_c_Sure_word
  me_Sure_speaks : Meth K t.C_Sure "speaks" t.f_c_Rule_speaks
  ki_Sure_Rule : PySem.W.kitOne K (.ref t.C_Sure) (.ref t.C_Rule) = some true
  ki_Sure_Sure : PySem.W.kitOne K (.ref t.C_Sure) (.ref t.C_Sure) = some true
  cl_Most : Cls K t.C_Most
  ty_Most : TyI K t.C_Most
  nf_Most_label : NoAttr K t.C_Most "label"
  nf_Most_head : NoAttr K t.C_Most "head"
  nf_Most_body : NoAttr K t.C_Most "body"
  mk_Most : Mk K t.C_Most t.f_c_Rule_init
  me_Most_word : Meth K t.C_Most "word" t.f_c_Most_word
  me_Most_speaks : Meth K t.C_Most "speaks" t.f_c_Rule_speaks
  ki_Most_Rule : PySem.W.kitOne K (.ref t.C_Most) (.ref t.C_Rule) = some true
  ki_Most_Most : PySem.W.kitOne K (.ref t.C_Most) (.ref t.C_Most) = some true
  cl_Block : Cls K t.C_Block
  ty_Block : TyI K t.C_Block
  nf_Block_label : NoAttr K t.C_Block "label"
  nf_Block_head : NoAttr K t.C_Block "head"
  nf_Block_body : NoAttr K t.C_Block "body"
  mk_Block : Mk K t.C_Block t.f_c_Rule_init
  me_Block_word : Meth K t.C_Block "word" t.f_c_Block_word
  me_Block_speaks : Meth K t.C_Block "speaks" t.f_c_Block_speaks
  ki_Block_Rule : PySem.W.kitOne K (.ref t.C_Block) (.ref t.C_Rule) = some true
  ki_Block_Block : PySem.W.kitOne K (.ref t.C_Block) (.ref t.C_Block) = some true
  cl_Ground : Cls K t.C_Ground
  ty_Ground : TyI K t.C_Ground
  nf_Ground_in_order : NoAttr K t.C_Ground "in_order"
  nf_Ground_by_head : NoAttr K t.C_Ground "by_head"
  nf_Ground_pairs : NoAttr K t.C_Ground "pairs"
  mk_Ground : Mk K t.C_Ground t.f_c_Ground_init
  me_Ground_ruling : Meth K t.C_Ground "ruling" t.f_c_Ground_ruling
  me_Ground_speaking : Meth K t.C_Ground "speaking" t.f_c_Ground_speaking
  me_Ground_against : Meth K t.C_Ground "against" t.f_c_Ground_against
  me_Ground_beats : Meth K t.C_Ground "beats" t.f_c_Ground_beats
  ki_Ground_Ground : PySem.W.kitOne K (.ref t.C_Ground) (.ref t.C_Ground) = some true
theorem txt_mk {K : PySem.W.Frag} {h : Heap} {mg : Str → Option Value} (X : K.In h) (G : h.Ns mainGlobals mg)
 {f_d_keyed : Addr} {od_d_keyed an_d_keyed : Option Addr} {sl_d_keyed : Array (Option Value)} {oc_d_keyed kV_d_keyed dc_d_keyed pm_d_keyed cd_d_keyed ct_d_keyed : Value}
 {f_d_all_among : Addr} {od_d_all_among an_d_all_among : Option Addr} {sl_d_all_among : Array (Option Value)} {oc_d_all_among kV_d_all_among dc_d_all_among pm_d_all_among cd_d_all_among ct_d_all_among : Value}
 {f_d_any_among : Addr} {od_d_any_among an_d_any_among : Option Addr} {sl_d_any_among : Array (Option Value)} {oc_d_any_among kV_d_any_among dc_d_any_among pm_d_any_among cd_d_any_among ct_d_any_among : Value}
 {f_d_opposite : Addr} {od_d_opposite an_d_opposite : Option Addr} {sl_d_opposite : Array (Option Value)} {oc_d_opposite kV_d_opposite dc_d_opposite pm_d_opposite cd_d_opposite ct_d_opposite : Value}
 {f_d_is_beaten : Addr} {od_d_is_beaten an_d_is_beaten : Option Addr} {sl_d_is_beaten : Array (Option Value)} {oc_d_is_beaten kV_d_is_beaten dc_d_is_beaten pm_d_is_beaten cd_d_is_beaten ct_d_is_beaten : Value}
 {f_d_holds_by : Addr} {od_d_holds_by an_d_holds_by : Option Addr} {sl_d_holds_by : Array (Option Value)} {oc_d_holds_by kV_d_holds_by dc_d_holds_by pm_d_holds_by cd_d_holds_by ct_d_holds_by : Value}
 {f_d_refused_by : Addr} {od_d_refused_by an_d_refused_by : Option Addr} {sl_d_refused_by : Array (Option Value)} {oc_d_refused_by kV_d_refused_by dc_d_refused_by pm_d_refused_by cd_d_refused_by ct_d_refused_by : Value}
 {f_d_with_word : Addr} {od_d_with_word an_d_with_word : Option Addr} {sl_d_with_word : Array (Option Value)} {oc_d_with_word kV_d_with_word dc_d_with_word pm_d_with_word cd_d_with_word ct_d_with_word : Value}
 {f_d_follows : Addr} {od_d_follows an_d_follows : Option Addr} {sl_d_follows : Array (Option Value)} {oc_d_follows kV_d_follows dc_d_follows pm_d_follows cd_d_follows ct_d_follows : Value}
 {f_c_Rule_init : Addr} {od_c_Rule_init an_c_Rule_init : Option Addr} {sl_c_Rule_init : Array (Option Value)} {oc_c_Rule_init kV_c_Rule_init dc_c_Rule_init pm_c_Rule_init cd_c_Rule_init ct_c_Rule_init : Value}
 {f_c_Rule_speaks : Addr} {od_c_Rule_speaks an_c_Rule_speaks : Option Addr} {sl_c_Rule_speaks : Array (Option Value)} {oc_c_Rule_speaks kV_c_Rule_speaks dc_c_Rule_speaks pm_c_Rule_speaks cd_c_Rule_speaks ct_c_Rule_speaks : Value}
 {f_c_Fact_init : Addr} {od_c_Fact_init an_c_Fact_init : Option Addr} {sl_c_Fact_init : Array (Option Value)} {oc_c_Fact_init kV_c_Fact_init dc_c_Fact_init pm_c_Fact_init cd_c_Fact_init ct_c_Fact_init : Value}
 {f_c_Fact_word : Addr} {od_c_Fact_word an_c_Fact_word : Option Addr} {sl_c_Fact_word : Array (Option Value)} {oc_c_Fact_word kV_c_Fact_word dc_c_Fact_word pm_c_Fact_word cd_c_Fact_word ct_c_Fact_word : Value}
 {f_c_Sure_word : Addr} {od_c_Sure_word an_c_Sure_word : Option Addr} {sl_c_Sure_word : Array (Option Value)} {oc_c_Sure_word kV_c_Sure_word dc_c_Sure_word pm_c_Sure_word cd_c_Sure_word ct_c_Sure_word : Value}
 {f_c_Most_word : Addr} {od_c_Most_word an_c_Most_word : Option Addr} {sl_c_Most_word : Array (Option Value)} {oc_c_Most_word kV_c_Most_word dc_c_Most_word pm_c_Most_word cd_c_Most_word ct_c_Most_word : Value}
 {f_c_Block_word : Addr} {od_c_Block_word an_c_Block_word : Option Addr} {sl_c_Block_word : Array (Option Value)} {oc_c_Block_word kV_c_Block_word dc_c_Block_word pm_c_Block_word cd_c_Block_word ct_c_Block_word : Value}
 {f_c_Block_speaks : Addr} {od_c_Block_speaks an_c_Block_speaks : Option Addr} {sl_c_Block_speaks : Array (Option Value)} {oc_c_Block_speaks kV_c_Block_speaks dc_c_Block_speaks pm_c_Block_speaks cd_c_Block_speaks ct_c_Block_speaks : Value}
 {f_c_Ground_init : Addr} {od_c_Ground_init an_c_Ground_init : Option Addr} {sl_c_Ground_init : Array (Option Value)} {oc_c_Ground_init kV_c_Ground_init dc_c_Ground_init pm_c_Ground_init cd_c_Ground_init ct_c_Ground_init : Value}
 {f_c_Ground_ruling : Addr} {od_c_Ground_ruling an_c_Ground_ruling : Option Addr} {sl_c_Ground_ruling : Array (Option Value)} {oc_c_Ground_ruling kV_c_Ground_ruling dc_c_Ground_ruling pm_c_Ground_ruling cd_c_Ground_ruling ct_c_Ground_ruling : Value}
 {f_c_Ground_speaking : Addr} {od_c_Ground_speaking an_c_Ground_speaking : Option Addr} {sl_c_Ground_speaking : Array (Option Value)} {oc_c_Ground_speaking kV_c_Ground_speaking dc_c_Ground_speaking pm_c_Ground_speaking cd_c_Ground_speaking ct_c_Ground_speaking : Value}
 {f_c_Ground_against : Addr} {od_c_Ground_against an_c_Ground_against : Option Addr} {sl_c_Ground_against : Array (Option Value)} {oc_c_Ground_against kV_c_Ground_against dc_c_Ground_against pm_c_Ground_against cd_c_Ground_against ct_c_Ground_against : Value}
 {f_c_Ground_beats : Addr} {od_c_Ground_beats an_c_Ground_beats : Option Addr} {sl_c_Ground_beats : Array (Option Value)} {oc_c_Ground_beats kV_c_Ground_beats dc_c_Ground_beats pm_c_Ground_beats cd_c_Ground_beats ct_c_Ground_beats : Value}
 {f_d_l_cell_at : Addr} {od_d_l_cell_at an_d_l_cell_at : Option Addr} {sl_d_l_cell_at : Array (Option Value)} {oc_d_l_cell_at kV_d_l_cell_at dc_d_l_cell_at pm_d_l_cell_at cd_d_l_cell_at ct_d_l_cell_at : Value}
 {f_d_l_mix : Addr} {od_d_l_mix an_d_l_mix : Option Addr} {sl_d_l_mix : Array (Option Value)} {oc_d_l_mix kV_d_l_mix dc_d_l_mix pm_d_l_mix cd_d_l_mix ct_d_l_mix : Value}
 {f_d_l_words : Addr} {od_d_l_words an_d_l_words : Option Addr} {sl_d_l_words : Array (Option Value)} {oc_d_l_words kV_d_l_words dc_d_l_words pm_d_l_words cd_d_l_words ct_d_l_words : Value}
 {f_d_l_opposed : Addr} {od_d_l_opposed an_d_l_opposed : Option Addr} {sl_d_l_opposed : Array (Option Value)} {oc_d_l_opposed kV_d_l_opposed dc_d_l_opposed pm_d_l_opposed cd_d_l_opposed ct_d_l_opposed : Value}
 {f_d_l_pool : Addr} {od_d_l_pool an_d_l_pool : Option Addr} {sl_d_l_pool : Array (Option Value)} {oc_d_l_pool kV_d_l_pool dc_d_l_pool pm_d_l_pool cd_d_l_pool ct_d_l_pool : Value}
 {f_d_l_drawn : Addr} {od_d_l_drawn an_d_l_drawn : Option Addr} {sl_d_l_drawn : Array (Option Value)} {oc_d_l_drawn kV_d_l_drawn dc_d_l_drawn pm_d_l_drawn cd_d_l_drawn ct_d_l_drawn : Value}
 {f_d_l_numbers : Addr} {od_d_l_numbers an_d_l_numbers : Option Addr} {sl_d_l_numbers : Array (Option Value)} {oc_d_l_numbers kV_d_l_numbers dc_d_l_numbers pm_d_l_numbers cd_d_l_numbers ct_d_l_numbers : Value}
 {f_d_l_rule : Addr} {od_d_l_rule an_d_l_rule : Option Addr} {sl_d_l_rule : Array (Option Value)} {oc_d_l_rule kV_d_l_rule dc_d_l_rule pm_d_l_rule cd_d_l_rule ct_d_l_rule : Value}
 {f_d_l_pairs : Addr} {od_d_l_pairs an_d_l_pairs : Option Addr} {sl_d_l_pairs : Array (Option Value)} {oc_d_l_pairs kV_d_l_pairs dc_d_l_pairs pm_d_l_pairs cd_d_l_pairs ct_d_l_pairs : Value}
 {f_d_l_turned : Addr} {od_d_l_turned an_d_l_turned : Option Addr} {sl_d_l_turned : Array (Option Value)} {oc_d_l_turned kV_d_l_turned dc_d_l_turned pm_d_l_turned cd_d_l_turned ct_d_l_turned : Value}
 {f_d_l_scene : Addr} {od_d_l_scene an_d_l_scene : Option Addr} {sl_d_l_scene : Array (Option Value)} {oc_d_l_scene kV_d_l_scene dc_d_l_scene pm_d_l_scene cd_d_l_scene ct_d_l_scene : Value}
 {f_d_l_stands : Addr} {od_d_l_stands an_d_l_stands : Option Addr} {sl_d_l_stands : Array (Option Value)} {oc_d_l_stands kV_d_l_stands dc_d_l_stands pm_d_l_stands cd_d_l_stands ct_d_l_stands : Value}
 {f_d_l_falls : Addr} {od_d_l_falls an_d_l_falls : Option Addr} {sl_d_l_falls : Array (Option Value)} {oc_d_l_falls kV_d_l_falls dc_d_l_falls pm_d_l_falls cd_d_l_falls ct_d_l_falls : Value}
 {f_d_l_speaking : Addr} {od_d_l_speaking an_d_l_speaking : Option Addr} {sl_d_l_speaking : Array (Option Value)} {oc_d_l_speaking kV_d_l_speaking dc_d_l_speaking pm_d_l_speaking cd_d_l_speaking ct_d_l_speaking : Value}
 {f_d_l_against : Addr} {od_d_l_against an_d_l_against : Option Addr} {sl_d_l_against : Array (Option Value)} {oc_d_l_against kV_d_l_against dc_d_l_against pm_d_l_against cd_d_l_against ct_d_l_against : Value}
 {f_d_l_beaten : Addr} {od_d_l_beaten an_d_l_beaten : Option Addr} {sl_d_l_beaten : Array (Option Value)} {oc_d_l_beaten kV_d_l_beaten dc_d_l_beaten pm_d_l_beaten cd_d_l_beaten ct_d_l_beaten : Value}
 {f_d_l_may_hold : Addr} {od_d_l_may_hold an_d_l_may_hold : Option Addr} {sl_d_l_may_hold : Array (Option Value)} {oc_d_l_may_hold kV_d_l_may_hold dc_d_l_may_hold pm_d_l_may_hold cd_d_l_may_hold ct_d_l_may_hold : Value}
 {f_d_l_may_refuse : Addr} {od_d_l_may_refuse an_d_l_may_refuse : Option Addr} {sl_d_l_may_refuse : Array (Option Value)} {oc_d_l_may_refuse kV_d_l_may_refuse dc_d_l_may_refuse pm_d_l_may_refuse cd_d_l_may_refuse ct_d_l_may_refuse : Value}
 {f_d_l_good : Addr} {od_d_l_good an_d_l_good : Option Addr} {sl_d_l_good : Array (Option Value)} {oc_d_l_good kV_d_l_good dc_d_l_good pm_d_l_good cd_d_l_good ct_d_l_good : Value}
 {f_d_law : Addr} {od_d_law an_d_law : Option Addr} {sl_d_law : Array (Option Value)} {oc_d_law kV_d_law dc_d_law pm_d_law cd_d_law ct_d_law : Value}
 {C_Rule : Addr}
 {C_Fact : Addr}
 {C_Sure : Addr}
 {C_Most : Addr}
 {C_Block : Addr}
 {C_Ground : Addr}
 {u_HELD : Tok}
 {u_REFUSED : Tok}
 (a_Rule : PySem.W.nsIn K mainGlobals "Rule" = some (some (.ref C_Rule)))
 (a_Fact : PySem.W.nsIn K mainGlobals "Fact" = some (some (.ref C_Fact)))
 (a_Sure : PySem.W.nsIn K mainGlobals "Sure" = some (some (.ref C_Sure)))
 (a_Most : PySem.W.nsIn K mainGlobals "Most" = some (some (.ref C_Most)))
 (a_Block : PySem.W.nsIn K mainGlobals "Block" = some (some (.ref C_Block)))
 (a_Ground : PySem.W.nsIn K mainGlobals "Ground" = some (some (.ref C_Ground)))
 (a_d_keyed : PySem.W.nsIn K mainGlobals "keyed" = some (some (.ref f_d_keyed)))
 (l_d_keyed : K.lookup f_d_keyed = some ⟨oc_d_keyed, od_d_keyed, .func (PySem.W.fnOf "keyed" "keyed" (defArgs s_d_keyed) (defBody s_d_keyed) (defScope s_d_keyed) .none kV_d_keyed dc_d_keyed pm_d_keyed an_d_keyed cd_d_keyed ct_d_keyed), sl_d_keyed⟩)
 (c_d_keyed : PySem.W.codeIn K cd_d_keyed "keyed" = true) (p_d_keyed : PySem.W.keepIn K (.ref f_d_keyed) = true)
 (a_d_all_among : PySem.W.nsIn K mainGlobals "all_among" = some (some (.ref f_d_all_among)))
 (l_d_all_among : K.lookup f_d_all_among = some ⟨oc_d_all_among, od_d_all_among, .func (PySem.W.fnOf "all_among" "all_among" (defArgs s_d_all_among) (defBody s_d_all_among) (defScope s_d_all_among) .none kV_d_all_among dc_d_all_among pm_d_all_among an_d_all_among cd_d_all_among ct_d_all_among), sl_d_all_among⟩)
 (c_d_all_among : PySem.W.codeIn K cd_d_all_among "all_among" = true) (p_d_all_among : PySem.W.keepIn K (.ref f_d_all_among) = true)
 (a_d_any_among : PySem.W.nsIn K mainGlobals "any_among" = some (some (.ref f_d_any_among)))
 (l_d_any_among : K.lookup f_d_any_among = some ⟨oc_d_any_among, od_d_any_among, .func (PySem.W.fnOf "any_among" "any_among" (defArgs s_d_any_among) (defBody s_d_any_among) (defScope s_d_any_among) .none kV_d_any_among dc_d_any_among pm_d_any_among an_d_any_among cd_d_any_among ct_d_any_among), sl_d_any_among⟩)
 (c_d_any_among : PySem.W.codeIn K cd_d_any_among "any_among" = true) (p_d_any_among : PySem.W.keepIn K (.ref f_d_any_among) = true)
 (a_d_opposite : PySem.W.nsIn K mainGlobals "opposite" = some (some (.ref f_d_opposite)))
 (l_d_opposite : K.lookup f_d_opposite = some ⟨oc_d_opposite, od_d_opposite, .func (PySem.W.fnOf "opposite" "opposite" (defArgs s_d_opposite) (defBody s_d_opposite) (defScope s_d_opposite) .none kV_d_opposite dc_d_opposite pm_d_opposite an_d_opposite cd_d_opposite ct_d_opposite), sl_d_opposite⟩)
 (c_d_opposite : PySem.W.codeIn K cd_d_opposite "opposite" = true) (p_d_opposite : PySem.W.keepIn K (.ref f_d_opposite) = true)
 (a_d_is_beaten : PySem.W.nsIn K mainGlobals "is_beaten" = some (some (.ref f_d_is_beaten)))
 (l_d_is_beaten : K.lookup f_d_is_beaten = some ⟨oc_d_is_beaten, od_d_is_beaten, .func (PySem.W.fnOf "is_beaten" "is_beaten" (defArgs s_d_is_beaten) (defBody s_d_is_beaten) (defScope s_d_is_beaten) .none kV_d_is_beaten dc_d_is_beaten pm_d_is_beaten an_d_is_beaten cd_d_is_beaten ct_d_is_beaten), sl_d_is_beaten⟩)
 (c_d_is_beaten : PySem.W.codeIn K cd_d_is_beaten "is_beaten" = true) (p_d_is_beaten : PySem.W.keepIn K (.ref f_d_is_beaten) = true)
 (a_d_holds_by : PySem.W.nsIn K mainGlobals "holds_by" = some (some (.ref f_d_holds_by)))
 (l_d_holds_by : K.lookup f_d_holds_by = some ⟨oc_d_holds_by, od_d_holds_by, .func (PySem.W.fnOf "holds_by" "holds_by" (defArgs s_d_holds_by) (defBody s_d_holds_by) (defScope s_d_holds_by) .none kV_d_holds_by dc_d_holds_by pm_d_holds_by an_d_holds_by cd_d_holds_by ct_d_holds_by), sl_d_holds_by⟩)
 (c_d_holds_by : PySem.W.codeIn K cd_d_holds_by "holds_by" = true) (p_d_holds_by : PySem.W.keepIn K (.ref f_d_holds_by) = true)
 (a_d_refused_by : PySem.W.nsIn K mainGlobals "refused_by" = some (some (.ref f_d_refused_by)))
 (l_d_refused_by : K.lookup f_d_refused_by = some ⟨oc_d_refused_by, od_d_refused_by, .func (PySem.W.fnOf "refused_by" "refused_by" (defArgs s_d_refused_by) (defBody s_d_refused_by) (defScope s_d_refused_by) .none kV_d_refused_by dc_d_refused_by pm_d_refused_by an_d_refused_by cd_d_refused_by ct_d_refused_by), sl_d_refused_by⟩)
 (c_d_refused_by : PySem.W.codeIn K cd_d_refused_by "refused_by" = true) (p_d_refused_by : PySem.W.keepIn K (.ref f_d_refused_by) = true)
 (a_d_with_word : PySem.W.nsIn K mainGlobals "with_word" = some (some (.ref f_d_with_word)))
 (l_d_with_word : K.lookup f_d_with_word = some ⟨oc_d_with_word, od_d_with_word, .func (PySem.W.fnOf "with_word" "with_word" (defArgs s_d_with_word) (defBody s_d_with_word) (defScope s_d_with_word) .none kV_d_with_word dc_d_with_word pm_d_with_word an_d_with_word cd_d_with_word ct_d_with_word), sl_d_with_word⟩)
 (c_d_with_word : PySem.W.codeIn K cd_d_with_word "with_word" = true) (p_d_with_word : PySem.W.keepIn K (.ref f_d_with_word) = true)
 (a_d_follows : PySem.W.nsIn K mainGlobals "follows" = some (some (.ref f_d_follows)))
 (l_d_follows : K.lookup f_d_follows = some ⟨oc_d_follows, od_d_follows, .func (PySem.W.fnOf "follows" "follows" (defArgs s_d_follows) (defBody s_d_follows) (defScope s_d_follows) .none kV_d_follows dc_d_follows pm_d_follows an_d_follows cd_d_follows ct_d_follows), sl_d_follows⟩)
 (c_d_follows : PySem.W.codeIn K cd_d_follows "follows" = true) (p_d_follows : PySem.W.keepIn K (.ref f_d_follows) = true)
 (a_c_Rule_init : PySem.W.findIn K (.ref C_Rule) "__init__" = some (some (.ref f_c_Rule_init)))
 (l_c_Rule_init : K.lookup f_c_Rule_init = some ⟨oc_c_Rule_init, od_c_Rule_init, .func (PySem.W.fnOf "__init__" "Rule.__init__" (defArgs s_c_Rule_init) (defBody s_c_Rule_init) (defScope s_c_Rule_init) .none kV_c_Rule_init dc_c_Rule_init pm_c_Rule_init an_c_Rule_init cd_c_Rule_init ct_c_Rule_init), sl_c_Rule_init⟩)
 (c_c_Rule_init : PySem.W.codeIn K cd_c_Rule_init "Rule.__init__" = true) (p_c_Rule_init : PySem.W.keepIn K (.ref f_c_Rule_init) = true)
 (a_c_Rule_speaks : PySem.W.findIn K (.ref C_Rule) "speaks" = some (some (.ref f_c_Rule_speaks)))
 (l_c_Rule_speaks : K.lookup f_c_Rule_speaks = some ⟨oc_c_Rule_speaks, od_c_Rule_speaks, .func (PySem.W.fnOf "speaks" "Rule.speaks" (defArgs s_c_Rule_speaks) (defBody s_c_Rule_speaks) (defScope s_c_Rule_speaks) .none kV_c_Rule_speaks dc_c_Rule_speaks pm_c_Rule_speaks an_c_Rule_speaks cd_c_Rule_speaks ct_c_Rule_speaks), sl_c_Rule_speaks⟩)
 (c_c_Rule_speaks : PySem.W.codeIn K cd_c_Rule_speaks "Rule.speaks" = true) (p_c_Rule_speaks : PySem.W.keepIn K (.ref f_c_Rule_speaks) = true)
 (a_c_Fact_init : PySem.W.findIn K (.ref C_Fact) "__init__" = some (some (.ref f_c_Fact_init)))
 (l_c_Fact_init : K.lookup f_c_Fact_init = some ⟨oc_c_Fact_init, od_c_Fact_init, .func (PySem.W.fnOf "__init__" "Fact.__init__" (defArgs s_c_Fact_init) (defBody s_c_Fact_init) (defScope s_c_Fact_init) .none kV_c_Fact_init dc_c_Fact_init pm_c_Fact_init an_c_Fact_init cd_c_Fact_init ct_c_Fact_init), sl_c_Fact_init⟩)
 (c_c_Fact_init : PySem.W.codeIn K cd_c_Fact_init "Fact.__init__" = true) (p_c_Fact_init : PySem.W.keepIn K (.ref f_c_Fact_init) = true)
 (a_c_Fact_word : PySem.W.findIn K (.ref C_Fact) "word" = some (some (.ref f_c_Fact_word)))
 (l_c_Fact_word : K.lookup f_c_Fact_word = some ⟨oc_c_Fact_word, od_c_Fact_word, .func (PySem.W.fnOf "word" "Fact.word" (defArgs s_c_Fact_word) (defBody s_c_Fact_word) (defScope s_c_Fact_word) .none kV_c_Fact_word dc_c_Fact_word pm_c_Fact_word an_c_Fact_word cd_c_Fact_word ct_c_Fact_word), sl_c_Fact_word⟩)
 (c_c_Fact_word : PySem.W.codeIn K cd_c_Fact_word "Fact.word" = true) (p_c_Fact_word : PySem.W.keepIn K (.ref f_c_Fact_word) = true)
 (a_c_Sure_word : PySem.W.findIn K (.ref C_Sure) "word" = some (some (.ref f_c_Sure_word)))
 (l_c_Sure_word : K.lookup f_c_Sure_word = some ⟨oc_c_Sure_word, od_c_Sure_word, .func (PySem.W.fnOf "word" "Sure.word" (defArgs s_c_Sure_word) (defBody s_c_Sure_word) (defScope s_c_Sure_word) .none kV_c_Sure_word dc_c_Sure_word pm_c_Sure_word an_c_Sure_word cd_c_Sure_word ct_c_Sure_word), sl_c_Sure_word⟩)
 (c_c_Sure_word : PySem.W.codeIn K cd_c_Sure_word "Sure.word" = true) (p_c_Sure_word : PySem.W.keepIn K (.ref f_c_Sure_word) = true)
 (a_c_Most_word : PySem.W.findIn K (.ref C_Most) "word" = some (some (.ref f_c_Most_word)))
 (l_c_Most_word : K.lookup f_c_Most_word = some ⟨oc_c_Most_word, od_c_Most_word, .func (PySem.W.fnOf "word" "Most.word" (defArgs s_c_Most_word) (defBody s_c_Most_word) (defScope s_c_Most_word) .none kV_c_Most_word dc_c_Most_word pm_c_Most_word an_c_Most_word cd_c_Most_word ct_c_Most_word), sl_c_Most_word⟩)
 (c_c_Most_word : PySem.W.codeIn K cd_c_Most_word "Most.word" = true) (p_c_Most_word : PySem.W.keepIn K (.ref f_c_Most_word) = true)
 (a_c_Block_word : PySem.W.findIn K (.ref C_Block) "word" = some (some (.ref f_c_Block_word)))
 (l_c_Block_word : K.lookup f_c_Block_word = some ⟨oc_c_Block_word, od_c_Block_word, .func (PySem.W.fnOf "word" "Block.word" (defArgs s_c_Block_word) (defBody s_c_Block_word) (defScope s_c_Block_word) .none kV_c_Block_word dc_c_Block_word pm_c_Block_word an_c_Block_word cd_c_Block_word ct_c_Block_word), sl_c_Block_word⟩)
 (c_c_Block_word : PySem.W.codeIn K cd_c_Block_word "Block.word" = true) (p_c_Block_word : PySem.W.keepIn K (.ref f_c_Block_word) = true)
 (a_c_Block_speaks : PySem.W.findIn K (.ref C_Block) "speaks" = some (some (.ref f_c_Block_speaks)))
 (l_c_Block_speaks : K.lookup f_c_Block_speaks = some ⟨oc_c_Block_speaks, od_c_Block_speaks, .func (PySem.W.fnOf "speaks" "Block.speaks" (defArgs s_c_Block_speaks) (defBody s_c_Block_speaks) (defScope s_c_Block_speaks) .none kV_c_Block_speaks dc_c_Block_speaks pm_c_Block_speaks an_c_Block_speaks cd_c_Block_speaks ct_c_Block_speaks), sl_c_Block_speaks⟩)
 (c_c_Block_speaks : PySem.W.codeIn K cd_c_Block_speaks "Block.speaks" = true) (p_c_Block_speaks : PySem.W.keepIn K (.ref f_c_Block_speaks) = true)
 (a_c_Ground_init : PySem.W.findIn K (.ref C_Ground) "__init__" = some (some (.ref f_c_Ground_init)))
 (l_c_Ground_init : K.lookup f_c_Ground_init = some ⟨oc_c_Ground_init, od_c_Ground_init, .func (PySem.W.fnOf "__init__" "Ground.__init__" (defArgs s_c_Ground_init) (defBody s_c_Ground_init) (defScope s_c_Ground_init) .none kV_c_Ground_init dc_c_Ground_init pm_c_Ground_init an_c_Ground_init cd_c_Ground_init ct_c_Ground_init), sl_c_Ground_init⟩)
 (c_c_Ground_init : PySem.W.codeIn K cd_c_Ground_init "Ground.__init__" = true) (p_c_Ground_init : PySem.W.keepIn K (.ref f_c_Ground_init) = true)
 (a_c_Ground_ruling : PySem.W.findIn K (.ref C_Ground) "ruling" = some (some (.ref f_c_Ground_ruling)))
 (l_c_Ground_ruling : K.lookup f_c_Ground_ruling = some ⟨oc_c_Ground_ruling, od_c_Ground_ruling, .func (PySem.W.fnOf "ruling" "Ground.ruling" (defArgs s_c_Ground_ruling) (defBody s_c_Ground_ruling) (defScope s_c_Ground_ruling) .none kV_c_Ground_ruling dc_c_Ground_ruling pm_c_Ground_ruling an_c_Ground_ruling cd_c_Ground_ruling ct_c_Ground_ruling), sl_c_Ground_ruling⟩)
 (c_c_Ground_ruling : PySem.W.codeIn K cd_c_Ground_ruling "Ground.ruling" = true) (p_c_Ground_ruling : PySem.W.keepIn K (.ref f_c_Ground_ruling) = true)
 (a_c_Ground_speaking : PySem.W.findIn K (.ref C_Ground) "speaking" = some (some (.ref f_c_Ground_speaking)))
 (l_c_Ground_speaking : K.lookup f_c_Ground_speaking = some ⟨oc_c_Ground_speaking, od_c_Ground_speaking, .func (PySem.W.fnOf "speaking" "Ground.speaking" (defArgs s_c_Ground_speaking) (defBody s_c_Ground_speaking) (defScope s_c_Ground_speaking) .none kV_c_Ground_speaking dc_c_Ground_speaking pm_c_Ground_speaking an_c_Ground_speaking cd_c_Ground_speaking ct_c_Ground_speaking), sl_c_Ground_speaking⟩)
 (c_c_Ground_speaking : PySem.W.codeIn K cd_c_Ground_speaking "Ground.speaking" = true) (p_c_Ground_speaking : PySem.W.keepIn K (.ref f_c_Ground_speaking) = true)
 (a_c_Ground_against : PySem.W.findIn K (.ref C_Ground) "against" = some (some (.ref f_c_Ground_against)))
 (l_c_Ground_against : K.lookup f_c_Ground_against = some ⟨oc_c_Ground_against, od_c_Ground_against, .func (PySem.W.fnOf "against" "Ground.against" (defArgs s_c_Ground_against) (defBody s_c_Ground_against) (defScope s_c_Ground_against) .none kV_c_Ground_against dc_c_Ground_against pm_c_Ground_against an_c_Ground_against cd_c_Ground_against ct_c_Ground_against), sl_c_Ground_against⟩)
 (c_c_Ground_against : PySem.W.codeIn K cd_c_Ground_against "Ground.against" = true) (p_c_Ground_against : PySem.W.keepIn K (.ref f_c_Ground_against) = true)
 (a_c_Ground_beats : PySem.W.findIn K (.ref C_Ground) "beats" = some (some (.ref f_c_Ground_beats)))
 (l_c_Ground_beats : K.lookup f_c_Ground_beats = some ⟨oc_c_Ground_beats, od_c_Ground_beats, .func (PySem.W.fnOf "beats" "Ground.beats" (defArgs s_c_Ground_beats) (defBody s_c_Ground_beats) (defScope s_c_Ground_beats) .none kV_c_Ground_beats dc_c_Ground_beats pm_c_Ground_beats an_c_Ground_beats cd_c_Ground_beats ct_c_Ground_beats), sl_c_Ground_beats⟩)
 (c_c_Ground_beats : PySem.W.codeIn K cd_c_Ground_beats "Ground.beats" = true) (p_c_Ground_beats : PySem.W.keepIn K (.ref f_c_Ground_beats) = true)
 (a_d_l_cell_at : PySem.W.nsIn K mainGlobals "_law_cell_at" = some (some (.ref f_d_l_cell_at)))
 (l_d_l_cell_at : K.lookup f_d_l_cell_at = some ⟨oc_d_l_cell_at, od_d_l_cell_at, .func (PySem.W.fnOf "_law_cell_at" "_law_cell_at" (defArgs s_d_l_cell_at) (defBody s_d_l_cell_at) (defScope s_d_l_cell_at) .none kV_d_l_cell_at dc_d_l_cell_at pm_d_l_cell_at an_d_l_cell_at cd_d_l_cell_at ct_d_l_cell_at), sl_d_l_cell_at⟩)
 (c_d_l_cell_at : PySem.W.codeIn K cd_d_l_cell_at "_law_cell_at" = true) (p_d_l_cell_at : PySem.W.keepIn K (.ref f_d_l_cell_at) = true)
 (a_d_l_mix : PySem.W.nsIn K mainGlobals "_law_mix" = some (some (.ref f_d_l_mix)))
 (l_d_l_mix : K.lookup f_d_l_mix = some ⟨oc_d_l_mix, od_d_l_mix, .func (PySem.W.fnOf "_law_mix" "_law_mix" (defArgs s_d_l_mix) (defBody s_d_l_mix) (defScope s_d_l_mix) .none kV_d_l_mix dc_d_l_mix pm_d_l_mix an_d_l_mix cd_d_l_mix ct_d_l_mix), sl_d_l_mix⟩)
 (c_d_l_mix : PySem.W.codeIn K cd_d_l_mix "_law_mix" = true) (p_d_l_mix : PySem.W.keepIn K (.ref f_d_l_mix) = true)
 (a_d_l_words : PySem.W.nsIn K mainGlobals "_law_words" = some (some (.ref f_d_l_words)))
 (l_d_l_words : K.lookup f_d_l_words = some ⟨oc_d_l_words, od_d_l_words, .func (PySem.W.fnOf "_law_words" "_law_words" (defArgs s_d_l_words) (defBody s_d_l_words) (defScope s_d_l_words) .none kV_d_l_words dc_d_l_words pm_d_l_words an_d_l_words cd_d_l_words ct_d_l_words), sl_d_l_words⟩)
 (c_d_l_words : PySem.W.codeIn K cd_d_l_words "_law_words" = true) (p_d_l_words : PySem.W.keepIn K (.ref f_d_l_words) = true)
 (a_d_l_opposed : PySem.W.nsIn K mainGlobals "_law_opposed" = some (some (.ref f_d_l_opposed)))
 (l_d_l_opposed : K.lookup f_d_l_opposed = some ⟨oc_d_l_opposed, od_d_l_opposed, .func (PySem.W.fnOf "_law_opposed" "_law_opposed" (defArgs s_d_l_opposed) (defBody s_d_l_opposed) (defScope s_d_l_opposed) .none kV_d_l_opposed dc_d_l_opposed pm_d_l_opposed an_d_l_opposed cd_d_l_opposed ct_d_l_opposed), sl_d_l_opposed⟩)
 (c_d_l_opposed : PySem.W.codeIn K cd_d_l_opposed "_law_opposed" = true) (p_d_l_opposed : PySem.W.keepIn K (.ref f_d_l_opposed) = true)
 (a_d_l_pool : PySem.W.nsIn K mainGlobals "_law_pool" = some (some (.ref f_d_l_pool)))
 (l_d_l_pool : K.lookup f_d_l_pool = some ⟨oc_d_l_pool, od_d_l_pool, .func (PySem.W.fnOf "_law_pool" "_law_pool" (defArgs s_d_l_pool) (defBody s_d_l_pool) (defScope s_d_l_pool) .none kV_d_l_pool dc_d_l_pool pm_d_l_pool an_d_l_pool cd_d_l_pool ct_d_l_pool), sl_d_l_pool⟩)
 (c_d_l_pool : PySem.W.codeIn K cd_d_l_pool "_law_pool" = true) (p_d_l_pool : PySem.W.keepIn K (.ref f_d_l_pool) = true)
 (a_d_l_drawn : PySem.W.nsIn K mainGlobals "_law_drawn" = some (some (.ref f_d_l_drawn)))
 (l_d_l_drawn : K.lookup f_d_l_drawn = some ⟨oc_d_l_drawn, od_d_l_drawn, .func (PySem.W.fnOf "_law_drawn" "_law_drawn" (defArgs s_d_l_drawn) (defBody s_d_l_drawn) (defScope s_d_l_drawn) .none kV_d_l_drawn dc_d_l_drawn pm_d_l_drawn an_d_l_drawn cd_d_l_drawn ct_d_l_drawn), sl_d_l_drawn⟩)
 (c_d_l_drawn : PySem.W.codeIn K cd_d_l_drawn "_law_drawn" = true) (p_d_l_drawn : PySem.W.keepIn K (.ref f_d_l_drawn) = true)
 (a_d_l_numbers : PySem.W.nsIn K mainGlobals "_law_numbers" = some (some (.ref f_d_l_numbers)))
 (l_d_l_numbers : K.lookup f_d_l_numbers = some ⟨oc_d_l_numbers, od_d_l_numbers, .func (PySem.W.fnOf "_law_numbers" "_law_numbers" (defArgs s_d_l_numbers) (defBody s_d_l_numbers) (defScope s_d_l_numbers) .none kV_d_l_numbers dc_d_l_numbers pm_d_l_numbers an_d_l_numbers cd_d_l_numbers ct_d_l_numbers), sl_d_l_numbers⟩)
 (c_d_l_numbers : PySem.W.codeIn K cd_d_l_numbers "_law_numbers" = true) (p_d_l_numbers : PySem.W.keepIn K (.ref f_d_l_numbers) = true)
 (a_d_l_rule : PySem.W.nsIn K mainGlobals "_law_rule" = some (some (.ref f_d_l_rule)))
 (l_d_l_rule : K.lookup f_d_l_rule = some ⟨oc_d_l_rule, od_d_l_rule, .func (PySem.W.fnOf "_law_rule" "_law_rule" (defArgs s_d_l_rule) (defBody s_d_l_rule) (defScope s_d_l_rule) .none kV_d_l_rule dc_d_l_rule pm_d_l_rule an_d_l_rule cd_d_l_rule ct_d_l_rule), sl_d_l_rule⟩)
 (c_d_l_rule : PySem.W.codeIn K cd_d_l_rule "_law_rule" = true) (p_d_l_rule : PySem.W.keepIn K (.ref f_d_l_rule) = true)
 (a_d_l_pairs : PySem.W.nsIn K mainGlobals "_law_pairs" = some (some (.ref f_d_l_pairs)))
 (l_d_l_pairs : K.lookup f_d_l_pairs = some ⟨oc_d_l_pairs, od_d_l_pairs, .func (PySem.W.fnOf "_law_pairs" "_law_pairs" (defArgs s_d_l_pairs) (defBody s_d_l_pairs) (defScope s_d_l_pairs) .none kV_d_l_pairs dc_d_l_pairs pm_d_l_pairs an_d_l_pairs cd_d_l_pairs ct_d_l_pairs), sl_d_l_pairs⟩)
 (c_d_l_pairs : PySem.W.codeIn K cd_d_l_pairs "_law_pairs" = true) (p_d_l_pairs : PySem.W.keepIn K (.ref f_d_l_pairs) = true)
 (a_d_l_turned : PySem.W.nsIn K mainGlobals "_law_turned" = some (some (.ref f_d_l_turned)))
 (l_d_l_turned : K.lookup f_d_l_turned = some ⟨oc_d_l_turned, od_d_l_turned, .func (PySem.W.fnOf "_law_turned" "_law_turned" (defArgs s_d_l_turned) (defBody s_d_l_turned) (defScope s_d_l_turned) .none kV_d_l_turned dc_d_l_turned pm_d_l_turned an_d_l_turned cd_d_l_turned ct_d_l_turned), sl_d_l_turned⟩)
 (c_d_l_turned : PySem.W.codeIn K cd_d_l_turned "_law_turned" = true) (p_d_l_turned : PySem.W.keepIn K (.ref f_d_l_turned) = true)
 (a_d_l_scene : PySem.W.nsIn K mainGlobals "_law_scene" = some (some (.ref f_d_l_scene)))
 (l_d_l_scene : K.lookup f_d_l_scene = some ⟨oc_d_l_scene, od_d_l_scene, .func (PySem.W.fnOf "_law_scene" "_law_scene" (defArgs s_d_l_scene) (defBody s_d_l_scene) (defScope s_d_l_scene) .none kV_d_l_scene dc_d_l_scene pm_d_l_scene an_d_l_scene cd_d_l_scene ct_d_l_scene), sl_d_l_scene⟩)
 (c_d_l_scene : PySem.W.codeIn K cd_d_l_scene "_law_scene" = true) (p_d_l_scene : PySem.W.keepIn K (.ref f_d_l_scene) = true)
 (a_d_l_stands : PySem.W.nsIn K mainGlobals "_law_stands" = some (some (.ref f_d_l_stands)))
 (l_d_l_stands : K.lookup f_d_l_stands = some ⟨oc_d_l_stands, od_d_l_stands, .func (PySem.W.fnOf "_law_stands" "_law_stands" (defArgs s_d_l_stands) (defBody s_d_l_stands) (defScope s_d_l_stands) .none kV_d_l_stands dc_d_l_stands pm_d_l_stands an_d_l_stands cd_d_l_stands ct_d_l_stands), sl_d_l_stands⟩)
 (c_d_l_stands : PySem.W.codeIn K cd_d_l_stands "_law_stands" = true) (p_d_l_stands : PySem.W.keepIn K (.ref f_d_l_stands) = true)
 (a_d_l_falls : PySem.W.nsIn K mainGlobals "_law_falls" = some (some (.ref f_d_l_falls)))
 (l_d_l_falls : K.lookup f_d_l_falls = some ⟨oc_d_l_falls, od_d_l_falls, .func (PySem.W.fnOf "_law_falls" "_law_falls" (defArgs s_d_l_falls) (defBody s_d_l_falls) (defScope s_d_l_falls) .none kV_d_l_falls dc_d_l_falls pm_d_l_falls an_d_l_falls cd_d_l_falls ct_d_l_falls), sl_d_l_falls⟩)
 (c_d_l_falls : PySem.W.codeIn K cd_d_l_falls "_law_falls" = true) (p_d_l_falls : PySem.W.keepIn K (.ref f_d_l_falls) = true)
 (a_d_l_speaking : PySem.W.nsIn K mainGlobals "_law_speaking" = some (some (.ref f_d_l_speaking)))
 (l_d_l_speaking : K.lookup f_d_l_speaking = some ⟨oc_d_l_speaking, od_d_l_speaking, .func (PySem.W.fnOf "_law_speaking" "_law_speaking" (defArgs s_d_l_speaking) (defBody s_d_l_speaking) (defScope s_d_l_speaking) .none kV_d_l_speaking dc_d_l_speaking pm_d_l_speaking an_d_l_speaking cd_d_l_speaking ct_d_l_speaking), sl_d_l_speaking⟩)
 (c_d_l_speaking : PySem.W.codeIn K cd_d_l_speaking "_law_speaking" = true) (p_d_l_speaking : PySem.W.keepIn K (.ref f_d_l_speaking) = true)
 (a_d_l_against : PySem.W.nsIn K mainGlobals "_law_against" = some (some (.ref f_d_l_against)))
 (l_d_l_against : K.lookup f_d_l_against = some ⟨oc_d_l_against, od_d_l_against, .func (PySem.W.fnOf "_law_against" "_law_against" (defArgs s_d_l_against) (defBody s_d_l_against) (defScope s_d_l_against) .none kV_d_l_against dc_d_l_against pm_d_l_against an_d_l_against cd_d_l_against ct_d_l_against), sl_d_l_against⟩)
 (c_d_l_against : PySem.W.codeIn K cd_d_l_against "_law_against" = true) (p_d_l_against : PySem.W.keepIn K (.ref f_d_l_against) = true)
 (a_d_l_beaten : PySem.W.nsIn K mainGlobals "_law_beaten" = some (some (.ref f_d_l_beaten)))
 (l_d_l_beaten : K.lookup f_d_l_beaten = some ⟨oc_d_l_beaten, od_d_l_beaten, .func (PySem.W.fnOf "_law_beaten" "_law_beaten" (defArgs s_d_l_beaten) (defBody s_d_l_beaten) (defScope s_d_l_beaten) .none kV_d_l_beaten dc_d_l_beaten pm_d_l_beaten an_d_l_beaten cd_d_l_beaten ct_d_l_beaten), sl_d_l_beaten⟩)
 (c_d_l_beaten : PySem.W.codeIn K cd_d_l_beaten "_law_beaten" = true) (p_d_l_beaten : PySem.W.keepIn K (.ref f_d_l_beaten) = true)
 (a_d_l_may_hold : PySem.W.nsIn K mainGlobals "_law_may_hold" = some (some (.ref f_d_l_may_hold)))
 (l_d_l_may_hold : K.lookup f_d_l_may_hold = some ⟨oc_d_l_may_hold, od_d_l_may_hold, .func (PySem.W.fnOf "_law_may_hold" "_law_may_hold" (defArgs s_d_l_may_hold) (defBody s_d_l_may_hold) (defScope s_d_l_may_hold) .none kV_d_l_may_hold dc_d_l_may_hold pm_d_l_may_hold an_d_l_may_hold cd_d_l_may_hold ct_d_l_may_hold), sl_d_l_may_hold⟩)
 (c_d_l_may_hold : PySem.W.codeIn K cd_d_l_may_hold "_law_may_hold" = true) (p_d_l_may_hold : PySem.W.keepIn K (.ref f_d_l_may_hold) = true)
 (a_d_l_may_refuse : PySem.W.nsIn K mainGlobals "_law_may_refuse" = some (some (.ref f_d_l_may_refuse)))
 (l_d_l_may_refuse : K.lookup f_d_l_may_refuse = some ⟨oc_d_l_may_refuse, od_d_l_may_refuse, .func (PySem.W.fnOf "_law_may_refuse" "_law_may_refuse" (defArgs s_d_l_may_refuse) (defBody s_d_l_may_refuse) (defScope s_d_l_may_refuse) .none kV_d_l_may_refuse dc_d_l_may_refuse pm_d_l_may_refuse an_d_l_may_refuse cd_d_l_may_refuse ct_d_l_may_refuse), sl_d_l_may_refuse⟩)
 (c_d_l_may_refuse : PySem.W.codeIn K cd_d_l_may_refuse "_law_may_refuse" = true) (p_d_l_may_refuse : PySem.W.keepIn K (.ref f_d_l_may_refuse) = true)
 (a_d_l_good : PySem.W.nsIn K mainGlobals "_law_good" = some (some (.ref f_d_l_good)))
 (l_d_l_good : K.lookup f_d_l_good = some ⟨oc_d_l_good, od_d_l_good, .func (PySem.W.fnOf "_law_good" "_law_good" (defArgs s_d_l_good) (defBody s_d_l_good) (defScope s_d_l_good) .none kV_d_l_good dc_d_l_good pm_d_l_good an_d_l_good cd_d_l_good ct_d_l_good), sl_d_l_good⟩)
 (c_d_l_good : PySem.W.codeIn K cd_d_l_good "_law_good" = true) (p_d_l_good : PySem.W.keepIn K (.ref f_d_l_good) = true)
 (a_d_law : PySem.W.nsIn K mainGlobals "law" = some (some (.ref f_d_law)))
 (l_d_law : K.lookup f_d_law = some ⟨oc_d_law, od_d_law, .func (PySem.W.fnOf "law" "law" (defArgs s_d_law) (defBody s_d_law) (defScope s_d_law) .none kV_d_law dc_d_law pm_d_law an_d_law cd_d_law ct_d_law), sl_d_law⟩)
 (c_d_law : PySem.W.codeIn K cd_d_law "law" = true) (p_d_law : PySem.W.keepIn K (.ref f_d_law) = true)
 (k_HELD : PySem.W.nsIn K mainGlobals "HELD" = some (some (.str "held" u_HELD)))
 (k_REFUSED : PySem.W.nsIn K mainGlobals "REFUSED" = some (some (.str "refused" u_REFUSED)))
 (z_NotImplementedError : PySem.W.nsIn K mainGlobals "NotImplementedError" = some none)
 (z_all : PySem.W.nsIn K mainGlobals "all" = some none)
 (z_any : PySem.W.nsIn K mainGlobals "any" = some none)
 (z_bool : PySem.W.nsIn K mainGlobals "bool" = some none)
 (z_isinstance : PySem.W.nsIn K mainGlobals "isinstance" = some none)
 (z_len : PySem.W.nsIn K mainGlobals "len" = some none)
 (z_list : PySem.W.nsIn K mainGlobals "list" = some none)
 (z_range : PySem.W.nsIn K mainGlobals "range" = some none)
 (z_reversed : PySem.W.nsIn K mainGlobals "reversed" = some none)
 (z_sorted : PySem.W.nsIn K mainGlobals "sorted" = some none)
 (z_str : PySem.W.nsIn K mainGlobals "str" = some none)
 (z_tuple : PySem.W.nsIn K mainGlobals "tuple" = some none)
 {cdd_Rule : ClassData} (kc_Rule : PySem.W.clsIn K C_Rule = some cdd_Rule) (kt_Rule : PySem.W.typeIn K (.ref C_Rule) = some (.type "type"))
 (cg_Rule : PySem.W.specialIn K (.ref C_Rule) "__getattribute__" = some (some (.builtin "type.__getattribute__"))) (cr_Rule : PySem.W.readsIn K C_Rule (.type "type") = true) (ca_Rule : PySem.W.findCls K (.ref C_Rule) (.type "type") "__init__" = some (.val (.ref f_c_Rule_init)))
 {cdd_Fact : ClassData} (kc_Fact : PySem.W.clsIn K C_Fact = some cdd_Fact) (kt_Fact : PySem.W.typeIn K (.ref C_Fact) = some (.type "type"))
 (pg_Fact : PySem.W.plainGet K C_Fact Str.empty = true) (hd_Fact : PySem.W.hasDictIn K C_Fact = true) (po_Fact : PySem.W.plainOver K C_Fact = true) (sa_Fact : PySem.W.findIn K (.ref C_Fact) "__setattr__" = some (some (.builtin "object.__setattr__")))
 (th_Fact : PySem.W.findIn K (.ref C_Fact) "__class__" = some (some (.builtin "object.__class__"))) (tn_Fact : PySem.W.specialIn K (.builtin "object.__class__") "__get__" = some (some (.builtin "getset_descriptor.__get__"))) (tt_Fact : PySem.W.takesIn K (.builtin "object.__class__") = some true) (tm_Fact : PySem.W.mroIn K C_Fact (.type "object") = some true)
 (nf_Fact_label : PySem.W.findIn K (.ref C_Fact) "label" = some none)
 (nf_Fact_head : PySem.W.findIn K (.ref C_Fact) "head" = some none)
 (nf_Fact_body : PySem.W.findIn K (.ref C_Fact) "body" = some none)
 (mm_Fact : PySem.W.makesIn K C_Fact = true) (mi_Fact : PySem.W.findIn K (.ref C_Fact) "__init__" = some (some (.ref f_c_Fact_init))) (mf_Fact : PySem.W.isFn K (.ref f_c_Fact_init) = true) (mq_Fact : PySem.W.keepIn K (.ref C_Fact) = true)
 (ma_Fact_word : PySem.W.findIn K (.ref C_Fact) "word" = some (some (.ref f_c_Fact_word))) (mb_Fact_word : PySem.W.isFn K (.ref f_c_Fact_word) = true)
 (ma_Fact_speaks : PySem.W.findIn K (.ref C_Fact) "speaks" = some (some (.ref f_c_Rule_speaks))) (mb_Fact_speaks : PySem.W.isFn K (.ref f_c_Rule_speaks) = true)
 (ks_Fact_Rule : PySem.W.subIn K (.ref C_Fact) (.ref C_Rule) = some true)
 (ks_Fact_Fact : PySem.W.subIn K (.ref C_Fact) (.ref C_Fact) = some true)
 {cdd_Sure : ClassData} (kc_Sure : PySem.W.clsIn K C_Sure = some cdd_Sure) (kt_Sure : PySem.W.typeIn K (.ref C_Sure) = some (.type "type"))
 (pg_Sure : PySem.W.plainGet K C_Sure Str.empty = true) (hd_Sure : PySem.W.hasDictIn K C_Sure = true) (po_Sure : PySem.W.plainOver K C_Sure = true) (sa_Sure : PySem.W.findIn K (.ref C_Sure) "__setattr__" = some (some (.builtin "object.__setattr__")))
 (th_Sure : PySem.W.findIn K (.ref C_Sure) "__class__" = some (some (.builtin "object.__class__"))) (tn_Sure : PySem.W.specialIn K (.builtin "object.__class__") "__get__" = some (some (.builtin "getset_descriptor.__get__"))) (tt_Sure : PySem.W.takesIn K (.builtin "object.__class__") = some true) (tm_Sure : PySem.W.mroIn K C_Sure (.type "object") = some true)
 (nf_Sure_label : PySem.W.findIn K (.ref C_Sure) "label" = some none)
 (nf_Sure_head : PySem.W.findIn K (.ref C_Sure) "head" = some none)
 (nf_Sure_body : PySem.W.findIn K (.ref C_Sure) "body" = some none)
 (mm_Sure : PySem.W.makesIn K C_Sure = true) (mi_Sure : PySem.W.findIn K (.ref C_Sure) "__init__" = some (some (.ref f_c_Rule_init))) (mf_Sure : PySem.W.isFn K (.ref f_c_Rule_init) = true) (mq_Sure : PySem.W.keepIn K (.ref C_Sure) = true)
 (ma_Sure_word : PySem.W.findIn K (.ref C_Sure) "word" = some (some (.ref f_c_Sure_word))) (mb_Sure_word : PySem.W.isFn K (.ref f_c_Sure_word) = true)
 (ma_Sure_speaks : PySem.W.findIn K (.ref C_Sure) "speaks" = some (some (.ref f_c_Rule_speaks))) (mb_Sure_speaks : PySem.W.isFn K (.ref f_c_Rule_speaks) = true)
 (ks_Sure_Rule : PySem.W.subIn K (.ref C_Sure) (.ref C_Rule) = some true)
 (ks_Sure_Sure : PySem.W.subIn K (.ref C_Sure) (.ref C_Sure) = some true)
 {cdd_Most : ClassData} (kc_Most : PySem.W.clsIn K C_Most = some cdd_Most) (kt_Most : PySem.W.typeIn K (.ref C_Most) = some (.type "type"))
 (pg_Most : PySem.W.plainGet K C_Most Str.empty = true) (hd_Most : PySem.W.hasDictIn K C_Most = true) (po_Most : PySem.W.plainOver K C_Most = true) (sa_Most : PySem.W.findIn K (.ref C_Most) "__setattr__" = some (some (.builtin "object.__setattr__")))
 (th_Most : PySem.W.findIn K (.ref C_Most) "__class__" = some (some (.builtin "object.__class__"))) (tn_Most : PySem.W.specialIn K (.builtin "object.__class__") "__get__" = some (some (.builtin "getset_descriptor.__get__"))) (tt_Most : PySem.W.takesIn K (.builtin "object.__class__") = some true) (tm_Most : PySem.W.mroIn K C_Most (.type "object") = some true)
 (nf_Most_label : PySem.W.findIn K (.ref C_Most) "label" = some none)
 (nf_Most_head : PySem.W.findIn K (.ref C_Most) "head" = some none)
 (nf_Most_body : PySem.W.findIn K (.ref C_Most) "body" = some none)
 (mm_Most : PySem.W.makesIn K C_Most = true) (mi_Most : PySem.W.findIn K (.ref C_Most) "__init__" = some (some (.ref f_c_Rule_init))) (mf_Most : PySem.W.isFn K (.ref f_c_Rule_init) = true) (mq_Most : PySem.W.keepIn K (.ref C_Most) = true)
 (ma_Most_word : PySem.W.findIn K (.ref C_Most) "word" = some (some (.ref f_c_Most_word))) (mb_Most_word : PySem.W.isFn K (.ref f_c_Most_word) = true)
 (ma_Most_speaks : PySem.W.findIn K (.ref C_Most) "speaks" = some (some (.ref f_c_Rule_speaks))) (mb_Most_speaks : PySem.W.isFn K (.ref f_c_Rule_speaks) = true)
 (ks_Most_Rule : PySem.W.subIn K (.ref C_Most) (.ref C_Rule) = some true)
 (ks_Most_Most : PySem.W.subIn K (.ref C_Most) (.ref C_Most) = some true)
 {cdd_Block : ClassData} (kc_Block : PySem.W.clsIn K C_Block = some cdd_Block) (kt_Block : PySem.W.typeIn K (.ref C_Block) = some (.type "type"))
 (pg_Block : PySem.W.plainGet K C_Block Str.empty = true) (hd_Block : PySem.W.hasDictIn K C_Block = true) (po_Block : PySem.W.plainOver K C_Block = true) (sa_Block : PySem.W.findIn K (.ref C_Block) "__setattr__" = some (some (.builtin "object.__setattr__")))
 (th_Block : PySem.W.findIn K (.ref C_Block) "__class__" = some (some (.builtin "object.__class__"))) (tn_Block : PySem.W.specialIn K (.builtin "object.__class__") "__get__" = some (some (.builtin "getset_descriptor.__get__"))) (tt_Block : PySem.W.takesIn K (.builtin "object.__class__") = some true) (tm_Block : PySem.W.mroIn K C_Block (.type "object") = some true)
 (nf_Block_label : PySem.W.findIn K (.ref C_Block) "label" = some none)
 (nf_Block_head : PySem.W.findIn K (.ref C_Block) "head" = some none)
 (nf_Block_body : PySem.W.findIn K (.ref C_Block) "body" = some none)
 (mm_Block : PySem.W.makesIn K C_Block = true) (mi_Block : PySem.W.findIn K (.ref C_Block) "__init__" = some (some (.ref f_c_Rule_init))) (mf_Block : PySem.W.isFn K (.ref f_c_Rule_init) = true) (mq_Block : PySem.W.keepIn K (.ref C_Block) = true)
 (ma_Block_word : PySem.W.findIn K (.ref C_Block) "word" = some (some (.ref f_c_Block_word))) (mb_Block_word : PySem.W.isFn K (.ref f_c_Block_word) = true)
 (ma_Block_speaks : PySem.W.findIn K (.ref C_Block) "speaks" = some (some (.ref f_c_Block_speaks))) (mb_Block_speaks : PySem.W.isFn K (.ref f_c_Block_speaks) = true)
 (ks_Block_Rule : PySem.W.subIn K (.ref C_Block) (.ref C_Rule) = some true)
 (ks_Block_Block : PySem.W.subIn K (.ref C_Block) (.ref C_Block) = some true)
 {cdd_Ground : ClassData} (kc_Ground : PySem.W.clsIn K C_Ground = some cdd_Ground) (kt_Ground : PySem.W.typeIn K (.ref C_Ground) = some (.type "type"))
 (pg_Ground : PySem.W.plainGet K C_Ground Str.empty = true) (hd_Ground : PySem.W.hasDictIn K C_Ground = true) (po_Ground : PySem.W.plainOver K C_Ground = true) (sa_Ground : PySem.W.findIn K (.ref C_Ground) "__setattr__" = some (some (.builtin "object.__setattr__")))
 (th_Ground : PySem.W.findIn K (.ref C_Ground) "__class__" = some (some (.builtin "object.__class__"))) (tn_Ground : PySem.W.specialIn K (.builtin "object.__class__") "__get__" = some (some (.builtin "getset_descriptor.__get__"))) (tt_Ground : PySem.W.takesIn K (.builtin "object.__class__") = some true) (tm_Ground : PySem.W.mroIn K C_Ground (.type "object") = some true)
 (nf_Ground_in_order : PySem.W.findIn K (.ref C_Ground) "in_order" = some none)
 (nf_Ground_by_head : PySem.W.findIn K (.ref C_Ground) "by_head" = some none)
 (nf_Ground_pairs : PySem.W.findIn K (.ref C_Ground) "pairs" = some none)
 (mm_Ground : PySem.W.makesIn K C_Ground = true) (mi_Ground : PySem.W.findIn K (.ref C_Ground) "__init__" = some (some (.ref f_c_Ground_init))) (mf_Ground : PySem.W.isFn K (.ref f_c_Ground_init) = true) (mq_Ground : PySem.W.keepIn K (.ref C_Ground) = true)
 (ma_Ground_ruling : PySem.W.findIn K (.ref C_Ground) "ruling" = some (some (.ref f_c_Ground_ruling))) (mb_Ground_ruling : PySem.W.isFn K (.ref f_c_Ground_ruling) = true)
 (ma_Ground_speaking : PySem.W.findIn K (.ref C_Ground) "speaking" = some (some (.ref f_c_Ground_speaking))) (mb_Ground_speaking : PySem.W.isFn K (.ref f_c_Ground_speaking) = true)
 (ma_Ground_against : PySem.W.findIn K (.ref C_Ground) "against" = some (some (.ref f_c_Ground_against))) (mb_Ground_against : PySem.W.isFn K (.ref f_c_Ground_against) = true)
 (ma_Ground_beats : PySem.W.findIn K (.ref C_Ground) "beats" = some (some (.ref f_c_Ground_beats))) (mb_Ground_beats : PySem.W.isFn K (.ref f_c_Ground_beats) = true)
 (ks_Ground_Ground : PySem.W.subIn K (.ref C_Ground) (.ref C_Ground) = some true)
 : ∃ t : Adr, t.f_d_law = f_d_law ∧ t.fd_d_law = PySem.W.fnOf "law" "law" (defArgs s_d_law) (defBody s_d_law) (defScope s_d_law) .none kV_d_law dc_d_law pm_d_law an_d_law cd_d_law ct_d_law ∧ Txt K mg t := by
  refine ⟨⟨f_d_keyed, PySem.W.fnOf "keyed" "keyed" (defArgs s_d_keyed) (defBody s_d_keyed) (defScope s_d_keyed) .none kV_d_keyed dc_d_keyed pm_d_keyed an_d_keyed cd_d_keyed ct_d_keyed, f_d_all_among, PySem.W.fnOf "all_among" "all_among" (defArgs s_d_all_among) (defBody s_d_all_among) (defScope s_d_all_among) .none kV_d_all_among dc_d_all_among pm_d_all_among an_d_all_among cd_d_all_among ct_d_all_among, f_d_any_among, PySem.W.fnOf "any_among" "any_among" (defArgs s_d_any_among) (defBody s_d_any_among) (defScope s_d_any_among) .none kV_d_any_among dc_d_any_among pm_d_any_among an_d_any_among cd_d_any_among ct_d_any_among, f_d_opposite, PySem.W.fnOf "opposite" "opposite" (defArgs s_d_opposite) (defBody s_d_opposite) (defScope s_d_opposite) .none kV_d_opposite dc_d_opposite pm_d_opposite an_d_opposite cd_d_opposite ct_d_opposite, f_d_is_beaten, PySem.W.fnOf "is_beaten" "is_beaten" (defArgs s_d_is_beaten) (defBody s_d_is_beaten) (defScope s_d_is_beaten) .none kV_d_is_beaten dc_d_is_beaten pm_d_is_beaten an_d_is_beaten cd_d_is_beaten ct_d_is_beaten, f_d_holds_by, PySem.W.fnOf "holds_by" "holds_by" (defArgs s_d_holds_by) (defBody s_d_holds_by) (defScope s_d_holds_by) .none kV_d_holds_by dc_d_holds_by pm_d_holds_by an_d_holds_by cd_d_holds_by ct_d_holds_by, f_d_refused_by, PySem.W.fnOf "refused_by" "refused_by" (defArgs s_d_refused_by) (defBody s_d_refused_by) (defScope s_d_refused_by) .none kV_d_refused_by dc_d_refused_by pm_d_refused_by an_d_refused_by cd_d_refused_by ct_d_refused_by, f_d_with_word, PySem.W.fnOf "with_word" "with_word" (defArgs s_d_with_word) (defBody s_d_with_word) (defScope s_d_with_word) .none kV_d_with_word dc_d_with_word pm_d_with_word an_d_with_word cd_d_with_word ct_d_with_word, f_d_follows, PySem.W.fnOf "follows" "follows" (defArgs s_d_follows) (defBody s_d_follows) (defScope s_d_follows) .none kV_d_follows dc_d_follows pm_d_follows an_d_follows cd_d_follows ct_d_follows, f_c_Rule_init, PySem.W.fnOf "__init__" "Rule.__init__" (defArgs s_c_Rule_init) (defBody s_c_Rule_init) (defScope s_c_Rule_init) .none kV_c_Rule_init dc_c_Rule_init pm_c_Rule_init an_c_Rule_init cd_c_Rule_init ct_c_Rule_init, f_c_Rule_speaks, PySem.W.fnOf "speaks" "Rule.speaks" (defArgs s_c_Rule_speaks) (defBody s_c_Rule_speaks) (defScope s_c_Rule_speaks) .none kV_c_Rule_speaks dc_c_Rule_speaks pm_c_Rule_speaks an_c_Rule_speaks cd_c_Rule_speaks ct_c_Rule_speaks, f_c_Fact_init, PySem.W.fnOf "__init__" "Fact.__init__" (defArgs s_c_Fact_init) (defBody s_c_Fact_init) (defScope s_c_Fact_init) .none kV_c_Fact_init dc_c_Fact_init pm_c_Fact_init an_c_Fact_init cd_c_Fact_init ct_c_Fact_init, f_c_Fact_word, PySem.W.fnOf "word" "Fact.word" (defArgs s_c_Fact_word) (defBody s_c_Fact_word) (defScope s_c_Fact_word) .none kV_c_Fact_word dc_c_Fact_word pm_c_Fact_word an_c_Fact_word cd_c_Fact_word ct_c_Fact_word, f_c_Sure_word, PySem.W.fnOf "word" "Sure.word" (defArgs s_c_Sure_word) (defBody s_c_Sure_word) (defScope s_c_Sure_word) .none kV_c_Sure_word dc_c_Sure_word pm_c_Sure_word an_c_Sure_word cd_c_Sure_word ct_c_Sure_word, f_c_Most_word, PySem.W.fnOf "word" "Most.word" (defArgs s_c_Most_word) (defBody s_c_Most_word) (defScope s_c_Most_word) .none kV_c_Most_word dc_c_Most_word pm_c_Most_word an_c_Most_word cd_c_Most_word ct_c_Most_word, f_c_Block_word, PySem.W.fnOf "word" "Block.word" (defArgs s_c_Block_word) (defBody s_c_Block_word) (defScope s_c_Block_word) .none kV_c_Block_word dc_c_Block_word pm_c_Block_word an_c_Block_word cd_c_Block_word ct_c_Block_word, f_c_Block_speaks, PySem.W.fnOf "speaks" "Block.speaks" (defArgs s_c_Block_speaks) (defBody s_c_Block_speaks) (defScope s_c_Block_speaks) .none kV_c_Block_speaks dc_c_Block_speaks pm_c_Block_speaks an_c_Block_speaks cd_c_Block_speaks ct_c_Block_speaks, f_c_Ground_init, PySem.W.fnOf "__init__" "Ground.__init__" (defArgs s_c_Ground_init) (defBody s_c_Ground_init) (defScope s_c_Ground_init) .none kV_c_Ground_init dc_c_Ground_init pm_c_Ground_init an_c_Ground_init cd_c_Ground_init ct_c_Ground_init, f_c_Ground_ruling, PySem.W.fnOf "ruling" "Ground.ruling" (defArgs s_c_Ground_ruling) (defBody s_c_Ground_ruling) (defScope s_c_Ground_ruling) .none kV_c_Ground_ruling dc_c_Ground_ruling pm_c_Ground_ruling an_c_Ground_ruling cd_c_Ground_ruling ct_c_Ground_ruling, f_c_Ground_speaking, PySem.W.fnOf "speaking" "Ground.speaking" (defArgs s_c_Ground_speaking) (defBody s_c_Ground_speaking) (defScope s_c_Ground_speaking) .none kV_c_Ground_speaking dc_c_Ground_speaking pm_c_Ground_speaking an_c_Ground_speaking cd_c_Ground_speaking ct_c_Ground_speaking, f_c_Ground_against, PySem.W.fnOf "against" "Ground.against" (defArgs s_c_Ground_against) (defBody s_c_Ground_against) (defScope s_c_Ground_against) .none kV_c_Ground_against dc_c_Ground_against pm_c_Ground_against an_c_Ground_against cd_c_Ground_against ct_c_Ground_against, f_c_Ground_beats, PySem.W.fnOf "beats" "Ground.beats" (defArgs s_c_Ground_beats) (defBody s_c_Ground_beats) (defScope s_c_Ground_beats) .none kV_c_Ground_beats dc_c_Ground_beats pm_c_Ground_beats an_c_Ground_beats cd_c_Ground_beats ct_c_Ground_beats, f_d_l_cell_at, PySem.W.fnOf "_law_cell_at" "_law_cell_at" (defArgs s_d_l_cell_at) (defBody s_d_l_cell_at) (defScope s_d_l_cell_at) .none kV_d_l_cell_at dc_d_l_cell_at pm_d_l_cell_at an_d_l_cell_at cd_d_l_cell_at ct_d_l_cell_at, f_d_l_mix, PySem.W.fnOf "_law_mix" "_law_mix" (defArgs s_d_l_mix) (defBody s_d_l_mix) (defScope s_d_l_mix) .none kV_d_l_mix dc_d_l_mix pm_d_l_mix an_d_l_mix cd_d_l_mix ct_d_l_mix, f_d_l_words, PySem.W.fnOf "_law_words" "_law_words" (defArgs s_d_l_words) (defBody s_d_l_words) (defScope s_d_l_words) .none kV_d_l_words dc_d_l_words pm_d_l_words an_d_l_words cd_d_l_words ct_d_l_words, f_d_l_opposed, PySem.W.fnOf "_law_opposed" "_law_opposed" (defArgs s_d_l_opposed) (defBody s_d_l_opposed) (defScope s_d_l_opposed) .none kV_d_l_opposed dc_d_l_opposed pm_d_l_opposed an_d_l_opposed cd_d_l_opposed ct_d_l_opposed, f_d_l_pool, PySem.W.fnOf "_law_pool" "_law_pool" (defArgs s_d_l_pool) (defBody s_d_l_pool) (defScope s_d_l_pool) .none kV_d_l_pool dc_d_l_pool pm_d_l_pool an_d_l_pool cd_d_l_pool ct_d_l_pool, f_d_l_drawn, PySem.W.fnOf "_law_drawn" "_law_drawn" (defArgs s_d_l_drawn) (defBody s_d_l_drawn) (defScope s_d_l_drawn) .none kV_d_l_drawn dc_d_l_drawn pm_d_l_drawn an_d_l_drawn cd_d_l_drawn ct_d_l_drawn, f_d_l_numbers, PySem.W.fnOf "_law_numbers" "_law_numbers" (defArgs s_d_l_numbers) (defBody s_d_l_numbers) (defScope s_d_l_numbers) .none kV_d_l_numbers dc_d_l_numbers pm_d_l_numbers an_d_l_numbers cd_d_l_numbers ct_d_l_numbers, f_d_l_rule, PySem.W.fnOf "_law_rule" "_law_rule" (defArgs s_d_l_rule) (defBody s_d_l_rule) (defScope s_d_l_rule) .none kV_d_l_rule dc_d_l_rule pm_d_l_rule an_d_l_rule cd_d_l_rule ct_d_l_rule, f_d_l_pairs, PySem.W.fnOf "_law_pairs" "_law_pairs" (defArgs s_d_l_pairs) (defBody s_d_l_pairs) (defScope s_d_l_pairs) .none kV_d_l_pairs dc_d_l_pairs pm_d_l_pairs an_d_l_pairs cd_d_l_pairs ct_d_l_pairs, f_d_l_turned, PySem.W.fnOf "_law_turned" "_law_turned" (defArgs s_d_l_turned) (defBody s_d_l_turned) (defScope s_d_l_turned) .none kV_d_l_turned dc_d_l_turned pm_d_l_turned an_d_l_turned cd_d_l_turned ct_d_l_turned, f_d_l_scene, PySem.W.fnOf "_law_scene" "_law_scene" (defArgs s_d_l_scene) (defBody s_d_l_scene) (defScope s_d_l_scene) .none kV_d_l_scene dc_d_l_scene pm_d_l_scene an_d_l_scene cd_d_l_scene ct_d_l_scene, f_d_l_stands, PySem.W.fnOf "_law_stands" "_law_stands" (defArgs s_d_l_stands) (defBody s_d_l_stands) (defScope s_d_l_stands) .none kV_d_l_stands dc_d_l_stands pm_d_l_stands an_d_l_stands cd_d_l_stands ct_d_l_stands, f_d_l_falls, PySem.W.fnOf "_law_falls" "_law_falls" (defArgs s_d_l_falls) (defBody s_d_l_falls) (defScope s_d_l_falls) .none kV_d_l_falls dc_d_l_falls pm_d_l_falls an_d_l_falls cd_d_l_falls ct_d_l_falls, f_d_l_speaking, PySem.W.fnOf "_law_speaking" "_law_speaking" (defArgs s_d_l_speaking) (defBody s_d_l_speaking) (defScope s_d_l_speaking) .none kV_d_l_speaking dc_d_l_speaking pm_d_l_speaking an_d_l_speaking cd_d_l_speaking ct_d_l_speaking, f_d_l_against, PySem.W.fnOf "_law_against" "_law_against" (defArgs s_d_l_against) (defBody s_d_l_against) (defScope s_d_l_against) .none kV_d_l_against dc_d_l_against pm_d_l_against an_d_l_against cd_d_l_against ct_d_l_against, f_d_l_beaten, PySem.W.fnOf "_law_beaten" "_law_beaten" (defArgs s_d_l_beaten) (defBody s_d_l_beaten) (defScope s_d_l_beaten) .none kV_d_l_beaten dc_d_l_beaten pm_d_l_beaten an_d_l_beaten cd_d_l_beaten ct_d_l_beaten, f_d_l_may_hold, PySem.W.fnOf "_law_may_hold" "_law_may_hold" (defArgs s_d_l_may_hold) (defBody s_d_l_may_hold) (defScope s_d_l_may_hold) .none kV_d_l_may_hold dc_d_l_may_hold pm_d_l_may_hold an_d_l_may_hold cd_d_l_may_hold ct_d_l_may_hold, f_d_l_may_refuse, PySem.W.fnOf "_law_may_refuse" "_law_may_refuse" (defArgs s_d_l_may_refuse) (defBody s_d_l_may_refuse) (defScope s_d_l_may_refuse) .none kV_d_l_may_refuse dc_d_l_may_refuse pm_d_l_may_refuse an_d_l_may_refuse cd_d_l_may_refuse ct_d_l_may_refuse, f_d_l_good, PySem.W.fnOf "_law_good" "_law_good" (defArgs s_d_l_good) (defBody s_d_l_good) (defScope s_d_l_good) .none kV_d_l_good dc_d_l_good pm_d_l_good an_d_l_good cd_d_l_good ct_d_l_good, f_d_law, PySem.W.fnOf "law" "law" (defArgs s_d_law) (defBody s_d_law) (defScope s_d_law) .none kV_d_law dc_d_law pm_d_law an_d_law cd_d_law ct_d_law, C_Rule, C_Fact, C_Sure, C_Most, C_Block, C_Ground⟩, rfl, rfl, ?_⟩
  constructor
  · exact fun_mk (st := s_d_keyed) l_d_keyed c_d_keyed p_d_keyed
  · exact (fun_mk (st := s_d_keyed) l_d_keyed c_d_keyed p_d_keyed).binds (ps := ["some"]) fun _ _ _ _ _ _ us hl => match us, hl with | [_], _ => rfl
  · exact PySem.W.mg_of X G a_d_keyed
  · exact fun_mk (st := s_d_all_among) l_d_all_among c_d_all_among p_d_all_among
  · exact (fun_mk (st := s_d_all_among) l_d_all_among c_d_all_among p_d_all_among).binds (ps := ["statements", "some"]) fun _ _ _ _ _ _ us hl => match us, hl with | [_, _], _ => rfl
  · exact PySem.W.mg_of X G a_d_all_among
  · exact fun_mk (st := s_d_any_among) l_d_any_among c_d_any_among p_d_any_among
  · exact (fun_mk (st := s_d_any_among) l_d_any_among c_d_any_among p_d_any_among).binds (ps := ["statements", "some"]) fun _ _ _ _ _ _ us hl => match us, hl with | [_, _], _ => rfl
  · exact PySem.W.mg_of X G a_d_any_among
  · exact fun_mk (st := s_d_opposite) l_d_opposite c_d_opposite p_d_opposite
  · exact (fun_mk (st := s_d_opposite) l_d_opposite c_d_opposite p_d_opposite).binds (ps := ["statement"]) fun _ _ _ _ _ _ us hl => match us, hl with | [_], _ => rfl
  · exact PySem.W.mg_of X G a_d_opposite
  · exact fun_mk (st := s_d_is_beaten) l_d_is_beaten c_d_is_beaten p_d_is_beaten
  · exact (fun_mk (st := s_d_is_beaten) l_d_is_beaten c_d_is_beaten p_d_is_beaten).binds (ps := ["ground", "rule", "beaters"]) fun _ _ _ _ _ _ us hl => match us, hl with | [_, _, _], _ => rfl
  · exact PySem.W.mg_of X G a_d_is_beaten
  · exact fun_mk (st := s_d_holds_by) l_d_holds_by c_d_holds_by p_d_holds_by
  · exact (fun_mk (st := s_d_holds_by) l_d_holds_by c_d_holds_by p_d_holds_by).binds (ps := ["ground", "sures", "held", "refused", "q"]) fun _ _ _ _ _ _ us hl => match us, hl with | [_, _, _, _, _], _ => rfl
  · exact PySem.W.mg_of X G a_d_holds_by
  · exact fun_mk (st := s_d_refused_by) l_d_refused_by c_d_refused_by p_d_refused_by
  · exact (fun_mk (st := s_d_refused_by) l_d_refused_by c_d_refused_by p_d_refused_by).binds (ps := ["ground", "sures", "held", "refused", "q"]) fun _ _ _ _ _ _ us hl => match us, hl with | [_, _, _, _, _], _ => rfl
  · exact PySem.W.mg_of X G a_d_refused_by
  · exact fun_mk (st := s_d_with_word) l_d_with_word c_d_with_word p_d_with_word
  · exact (fun_mk (st := s_d_with_word) l_d_with_word c_d_with_word p_d_with_word).binds (ps := ["rows", "word"]) fun _ _ _ _ _ _ us hl => match us, hl with | [_, _], _ => rfl
  · exact PySem.W.mg_of X G a_d_with_word
  · exact fun_mk (st := s_d_follows) l_d_follows c_d_follows p_d_follows
  · exact (fun_mk (st := s_d_follows) l_d_follows c_d_follows p_d_follows).binds (ps := ["ground", "sures", "rows", "claim"]) fun _ _ _ _ _ _ us hl => match us, hl with | [_, _, _, _], _ => rfl
  · exact PySem.W.mg_of X G a_d_follows
  · exact fun_mk (st := s_c_Rule_init) l_c_Rule_init c_c_Rule_init p_c_Rule_init
  · exact (fun_mk (st := s_c_Rule_init) l_c_Rule_init c_c_Rule_init p_c_Rule_init).binds (ps := ["self", "label", "head", "body"]) fun _ _ _ _ _ _ us hl => match us, hl with | [_, _, _, _], _ => rfl
  · exact fun_mk (st := s_c_Rule_speaks) l_c_Rule_speaks c_c_Rule_speaks p_c_Rule_speaks
  · exact (fun_mk (st := s_c_Rule_speaks) l_c_Rule_speaks c_c_Rule_speaks p_c_Rule_speaks).binds (ps := ["self"]) fun _ _ _ _ _ _ us hl => match us, hl with | [_], _ => rfl
  · exact fun_mk (st := s_c_Fact_init) l_c_Fact_init c_c_Fact_init p_c_Fact_init
  · exact (fun_mk (st := s_c_Fact_init) l_c_Fact_init c_c_Fact_init p_c_Fact_init).binds (ps := ["self", "head"]) fun _ _ _ _ _ _ us hl => match us, hl with | [_, _], _ => rfl
  · exact fun_mk (st := s_c_Fact_word) l_c_Fact_word c_c_Fact_word p_c_Fact_word
  · exact (fun_mk (st := s_c_Fact_word) l_c_Fact_word c_c_Fact_word p_c_Fact_word).binds (ps := ["self"]) fun _ _ _ _ _ _ us hl => match us, hl with | [_], _ => rfl
  · exact fun_mk (st := s_c_Sure_word) l_c_Sure_word c_c_Sure_word p_c_Sure_word
  · exact (fun_mk (st := s_c_Sure_word) l_c_Sure_word c_c_Sure_word p_c_Sure_word).binds (ps := ["self"]) fun _ _ _ _ _ _ us hl => match us, hl with | [_], _ => rfl
  · exact fun_mk (st := s_c_Most_word) l_c_Most_word c_c_Most_word p_c_Most_word
  · exact (fun_mk (st := s_c_Most_word) l_c_Most_word c_c_Most_word p_c_Most_word).binds (ps := ["self"]) fun _ _ _ _ _ _ us hl => match us, hl with | [_], _ => rfl
  · exact fun_mk (st := s_c_Block_word) l_c_Block_word c_c_Block_word p_c_Block_word
  · exact (fun_mk (st := s_c_Block_word) l_c_Block_word c_c_Block_word p_c_Block_word).binds (ps := ["self"]) fun _ _ _ _ _ _ us hl => match us, hl with | [_], _ => rfl
  · exact fun_mk (st := s_c_Block_speaks) l_c_Block_speaks c_c_Block_speaks p_c_Block_speaks
  · exact (fun_mk (st := s_c_Block_speaks) l_c_Block_speaks c_c_Block_speaks p_c_Block_speaks).binds (ps := ["self"]) fun _ _ _ _ _ _ us hl => match us, hl with | [_], _ => rfl
  · exact fun_mk (st := s_c_Ground_init) l_c_Ground_init c_c_Ground_init p_c_Ground_init
  · exact (fun_mk (st := s_c_Ground_init) l_c_Ground_init c_c_Ground_init p_c_Ground_init).binds (ps := ["self", "rules", "pairs"]) fun _ _ _ _ _ _ us hl => match us, hl with | [_, _, _], _ => rfl
  · exact fun_mk (st := s_c_Ground_ruling) l_c_Ground_ruling c_c_Ground_ruling p_c_Ground_ruling
  · exact (fun_mk (st := s_c_Ground_ruling) l_c_Ground_ruling c_c_Ground_ruling p_c_Ground_ruling).binds (ps := ["self", "statement"]) fun _ _ _ _ _ _ us hl => match us, hl with | [_, _], _ => rfl
  · exact fun_mk (st := s_c_Ground_speaking) l_c_Ground_speaking c_c_Ground_speaking p_c_Ground_speaking
  · exact (fun_mk (st := s_c_Ground_speaking) l_c_Ground_speaking c_c_Ground_speaking p_c_Ground_speaking).binds (ps := ["self", "statement"]) fun _ _ _ _ _ _ us hl => match us, hl with | [_, _], _ => rfl
  · exact fun_mk (st := s_c_Ground_against) l_c_Ground_against c_c_Ground_against p_c_Ground_against
  · exact (fun_mk (st := s_c_Ground_against) l_c_Ground_against c_c_Ground_against p_c_Ground_against).binds (ps := ["self", "statement"]) fun _ _ _ _ _ _ us hl => match us, hl with | [_, _], _ => rfl
  · exact fun_mk (st := s_c_Ground_beats) l_c_Ground_beats c_c_Ground_beats p_c_Ground_beats
  · exact (fun_mk (st := s_c_Ground_beats) l_c_Ground_beats c_c_Ground_beats p_c_Ground_beats).binds (ps := ["self", "one", "other"]) fun _ _ _ _ _ _ us hl => match us, hl with | [_, _, _], _ => rfl
  · exact fun_mk (st := s_d_l_cell_at) l_d_l_cell_at c_d_l_cell_at p_d_l_cell_at
  · exact (fun_mk (st := s_d_l_cell_at) l_d_l_cell_at c_d_l_cell_at p_d_l_cell_at).binds (ps := ["_law_script", "_law_k"]) fun _ _ _ _ _ _ us hl => match us, hl with | [_, _], _ => rfl
  · exact PySem.W.mg_of X G a_d_l_cell_at
  · exact fun_mk (st := s_d_l_mix) l_d_l_mix c_d_l_mix p_d_l_mix
  · exact (fun_mk (st := s_d_l_mix) l_d_l_mix c_d_l_mix p_d_l_mix).binds (ps := ["_law_cell", "_law_k"]) fun _ _ _ _ _ _ us hl => match us, hl with | [_, _], _ => rfl
  · exact PySem.W.mg_of X G a_d_l_mix
  · exact fun_mk (st := s_d_l_words) l_d_l_words c_d_l_words p_d_l_words
  · exact (fun_mk (st := s_d_l_words) l_d_l_words c_d_l_words p_d_l_words).binds (ps := ["_law_cell", "_law_many"]) fun _ _ _ _ _ _ us hl => match us, hl with | [_, _], _ => rfl
  · exact PySem.W.mg_of X G a_d_l_words
  · exact fun_mk (st := s_d_l_opposed) l_d_l_opposed c_d_l_opposed p_d_l_opposed
  · exact (fun_mk (st := s_d_l_opposed) l_d_l_opposed c_d_l_opposed p_d_l_opposed).binds (ps := ["_law_text"]) fun _ _ _ _ _ _ us hl => match us, hl with | [_], _ => rfl
  · exact PySem.W.mg_of X G a_d_l_opposed
  · exact fun_mk (st := s_d_l_pool) l_d_l_pool c_d_l_pool p_d_l_pool
  · exact (fun_mk (st := s_d_l_pool) l_d_l_pool c_d_l_pool p_d_l_pool).binds (ps := ["_law_script"]) fun _ _ _ _ _ _ us hl => match us, hl with | [_], _ => rfl
  · exact PySem.W.mg_of X G a_d_l_pool
  · exact fun_mk (st := s_d_l_drawn) l_d_l_drawn c_d_l_drawn p_d_l_drawn
  · exact (fun_mk (st := s_d_l_drawn) l_d_l_drawn c_d_l_drawn p_d_l_drawn).binds (ps := ["_law_pool_here", "_law_number"]) fun _ _ _ _ _ _ us hl => match us, hl with | [_, _], _ => rfl
  · exact PySem.W.mg_of X G a_d_l_drawn
  · exact fun_mk (st := s_d_l_numbers) l_d_l_numbers c_d_l_numbers p_d_l_numbers
  · exact (fun_mk (st := s_d_l_numbers) l_d_l_numbers c_d_l_numbers p_d_l_numbers).binds (ps := ["_law_cell", "_law_many", "_law_size", "_law_plain"]) fun _ _ _ _ _ _ us hl => match us, hl with | [_, _, _, _], _ => rfl
  · exact PySem.W.mg_of X G a_d_l_numbers
  · exact fun_mk (st := s_d_l_rule) l_d_l_rule c_d_l_rule p_d_l_rule
  · exact (fun_mk (st := s_d_l_rule) l_d_l_rule c_d_l_rule p_d_l_rule).binds (ps := ["_law_pool_here", "_law_cell", "_law_k", "_law_plain"]) fun _ _ _ _ _ _ us hl => match us, hl with | [_, _, _, _], _ => rfl
  · exact PySem.W.mg_of X G a_d_l_rule
  · exact fun_mk (st := s_d_l_pairs) l_d_l_pairs c_d_l_pairs p_d_l_pairs
  · exact (fun_mk (st := s_d_l_pairs) l_d_l_pairs c_d_l_pairs p_d_l_pairs).binds (ps := ["_law_rules", "_law_cell"]) fun _ _ _ _ _ _ us hl => match us, hl with | [_, _], _ => rfl
  · exact PySem.W.mg_of X G a_d_l_pairs
  · exact fun_mk (st := s_d_l_turned) l_d_l_turned c_d_l_turned p_d_l_turned
  · exact (fun_mk (st := s_d_l_turned) l_d_l_turned c_d_l_turned p_d_l_turned).binds (ps := ["_law_rules", "_law_cell"]) fun _ _ _ _ _ _ us hl => match us, hl with | [_, _], _ => rfl
  · exact PySem.W.mg_of X G a_d_l_turned
  · exact fun_mk (st := s_d_l_scene) l_d_l_scene c_d_l_scene p_d_l_scene
  · exact (fun_mk (st := s_d_l_scene) l_d_l_scene c_d_l_scene p_d_l_scene).binds (ps := ["_law_script", "_law_many"]) fun _ _ _ _ _ _ us hl => match us, hl with | [_, _], _ => rfl
  · exact PySem.W.mg_of X G a_d_l_scene
  · exact fun_mk (st := s_d_l_stands) l_d_l_stands c_d_l_stands p_d_l_stands
  · exact (fun_mk (st := s_d_l_stands) l_d_l_stands c_d_l_stands p_d_l_stands).binds (ps := ["_law_rule_here", "_law_held"]) fun _ _ _ _ _ _ us hl => match us, hl with | [_, _], _ => rfl
  · exact PySem.W.mg_of X G a_d_l_stands
  · exact fun_mk (st := s_d_l_falls) l_d_l_falls c_d_l_falls p_d_l_falls
  · exact (fun_mk (st := s_d_l_falls) l_d_l_falls c_d_l_falls p_d_l_falls).binds (ps := ["_law_rule_here", "_law_refused"]) fun _ _ _ _ _ _ us hl => match us, hl with | [_, _], _ => rfl
  · exact PySem.W.mg_of X G a_d_l_falls
  · exact fun_mk (st := s_d_l_speaking) l_d_l_speaking c_d_l_speaking p_d_l_speaking
  · exact (fun_mk (st := s_d_l_speaking) l_d_l_speaking c_d_l_speaking p_d_l_speaking).binds (ps := ["_law_scene_here", "_law_text"]) fun _ _ _ _ _ _ us hl => match us, hl with | [_, _], _ => rfl
  · exact PySem.W.mg_of X G a_d_l_speaking
  · exact fun_mk (st := s_d_l_against) l_d_l_against c_d_l_against p_d_l_against
  · exact (fun_mk (st := s_d_l_against) l_d_l_against c_d_l_against p_d_l_against).binds (ps := ["_law_scene_here", "_law_text"]) fun _ _ _ _ _ _ us hl => match us, hl with | [_, _], _ => rfl
  · exact PySem.W.mg_of X G a_d_l_against
  · exact fun_mk (st := s_d_l_beaten) l_d_l_beaten c_d_l_beaten p_d_l_beaten
  · exact (fun_mk (st := s_d_l_beaten) l_d_l_beaten c_d_l_beaten p_d_l_beaten).binds (ps := ["_law_scene_here", "_law_rule_here", "_law_others"]) fun _ _ _ _ _ _ us hl => match us, hl with | [_, _, _], _ => rfl
  · exact PySem.W.mg_of X G a_d_l_beaten
  · exact fun_mk (st := s_d_l_may_hold) l_d_l_may_hold c_d_l_may_hold p_d_l_may_hold
  · exact (fun_mk (st := s_d_l_may_hold) l_d_l_may_hold c_d_l_may_hold p_d_l_may_hold).binds (ps := ["_law_scene_here", "_law_sures", "_law_held", "_law_refused", "_law_text"]) fun _ _ _ _ _ _ us hl => match us, hl with | [_, _, _, _, _], _ => rfl
  · exact PySem.W.mg_of X G a_d_l_may_hold
  · exact fun_mk (st := s_d_l_may_refuse) l_d_l_may_refuse c_d_l_may_refuse p_d_l_may_refuse
  · exact (fun_mk (st := s_d_l_may_refuse) l_d_l_may_refuse c_d_l_may_refuse p_d_l_may_refuse).binds (ps := ["_law_scene_here", "_law_sures", "_law_held", "_law_refused", "_law_text"]) fun _ _ _ _ _ _ us hl => match us, hl with | [_, _, _, _, _], _ => rfl
  · exact PySem.W.mg_of X G a_d_l_may_refuse
  · exact fun_mk (st := s_d_l_good) l_d_l_good c_d_l_good p_d_l_good
  · exact (fun_mk (st := s_d_l_good) l_d_l_good c_d_l_good p_d_l_good).binds (ps := ["_law_ground", "_law_scene_here", "_law_sures", "_law_rows"]) fun _ _ _ _ _ _ us hl => match us, hl with | [_, _, _, _], _ => rfl
  · exact PySem.W.mg_of X G a_d_l_good
  · exact fun_mk (st := s_d_law) l_d_law c_d_law p_d_law
  · exact (fun_mk (st := s_d_law) l_d_law c_d_law p_d_law).binds (ps := ["_law_script"]) fun _ _ _ _ _ _ us hl => match us, hl with | [_], _ => rfl
  · exact PySem.W.mg_of X G a_d_law
  · exact ⟨_, PySem.W.mg_of X G k_HELD⟩
  · exact ⟨_, PySem.W.mg_of X G k_REFUSED⟩
  · exact PySem.W.mg_of X G a_Rule
  · exact PySem.W.mg_of X G a_Fact
  · exact PySem.W.mg_of X G a_Sure
  · exact PySem.W.mg_of X G a_Most
  · exact PySem.W.mg_of X G a_Block
  · exact PySem.W.mg_of X G a_Ground
  · exact PySem.W.mg_none_of X G z_NotImplementedError
  · exact PySem.W.mg_none_of X G z_all
  · exact PySem.W.mg_none_of X G z_any
  · exact PySem.W.mg_none_of X G z_bool
  · exact PySem.W.mg_none_of X G z_isinstance
  · exact PySem.W.mg_none_of X G z_len
  · exact PySem.W.mg_none_of X G z_list
  · exact PySem.W.mg_none_of X G z_range
  · exact PySem.W.mg_none_of X G z_reversed
  · exact PySem.W.mg_none_of X G z_sorted
  · exact PySem.W.mg_none_of X G z_str
  · exact PySem.W.mg_none_of X G z_tuple
  · exact ⟨cg_Rule, cr_Rule, ca_Rule, p_c_Rule_init⟩
  · exact ⟨pg_Fact, hd_Fact, po_Fact, sa_Fact⟩
  · exact ⟨th_Fact, tn_Fact, tt_Fact, tm_Fact⟩
  · exact nf_Fact_label
  · exact nf_Fact_head
  · exact nf_Fact_body
  · exact ⟨mm_Fact, mi_Fact, mf_Fact, mq_Fact⟩
  · exact ⟨ma_Fact_word, mb_Fact_word, p_c_Fact_word⟩
  · exact ⟨ma_Fact_speaks, mb_Fact_speaks, p_c_Rule_speaks⟩
  · exact kit_mk kc_Rule kt_Rule ks_Fact_Rule ks_Fact_Fact
  · exact kit_mk kc_Fact kt_Fact ks_Fact_Fact ks_Fact_Fact
  · exact ⟨pg_Sure, hd_Sure, po_Sure, sa_Sure⟩
  · exact ⟨th_Sure, tn_Sure, tt_Sure, tm_Sure⟩
  · exact nf_Sure_label
  · exact nf_Sure_head
  · exact nf_Sure_body
  · exact ⟨mm_Sure, mi_Sure, mf_Sure, mq_Sure⟩
  · exact ⟨ma_Sure_word, mb_Sure_word, p_c_Sure_word⟩
  · exact ⟨ma_Sure_speaks, mb_Sure_speaks, p_c_Rule_speaks⟩
  · exact kit_mk kc_Rule kt_Rule ks_Sure_Rule ks_Sure_Sure
  · exact kit_mk kc_Sure kt_Sure ks_Sure_Sure ks_Sure_Sure
  · exact ⟨pg_Most, hd_Most, po_Most, sa_Most⟩
  · exact ⟨th_Most, tn_Most, tt_Most, tm_Most⟩
  · exact nf_Most_label
  · exact nf_Most_head
  · exact nf_Most_body
  · exact ⟨mm_Most, mi_Most, mf_Most, mq_Most⟩
  · exact ⟨ma_Most_word, mb_Most_word, p_c_Most_word⟩
  · exact ⟨ma_Most_speaks, mb_Most_speaks, p_c_Rule_speaks⟩
  · exact kit_mk kc_Rule kt_Rule ks_Most_Rule ks_Most_Most
  · exact kit_mk kc_Most kt_Most ks_Most_Most ks_Most_Most
  · exact ⟨pg_Block, hd_Block, po_Block, sa_Block⟩
  · exact ⟨th_Block, tn_Block, tt_Block, tm_Block⟩
  · exact nf_Block_label
  · exact nf_Block_head
  · exact nf_Block_body
  · exact ⟨mm_Block, mi_Block, mf_Block, mq_Block⟩
  · exact ⟨ma_Block_word, mb_Block_word, p_c_Block_word⟩
  · exact ⟨ma_Block_speaks, mb_Block_speaks, p_c_Block_speaks⟩
  · exact kit_mk kc_Rule kt_Rule ks_Block_Rule ks_Block_Block
  · exact kit_mk kc_Block kt_Block ks_Block_Block ks_Block_Block
  · exact ⟨pg_Ground, hd_Ground, po_Ground, sa_Ground⟩
  · exact ⟨th_Ground, tn_Ground, tt_Ground, tm_Ground⟩
  · exact nf_Ground_in_order
  · exact nf_Ground_by_head
  · exact nf_Ground_pairs
  · exact ⟨mm_Ground, mi_Ground, mf_Ground, mq_Ground⟩
  · exact ⟨ma_Ground_ruling, mb_Ground_ruling, p_c_Ground_ruling⟩
  · exact ⟨ma_Ground_speaking, mb_Ground_speaking, p_c_Ground_speaking⟩
  · exact ⟨ma_Ground_against, mb_Ground_against, p_c_Ground_against⟩
  · exact ⟨ma_Ground_beats, mb_Ground_beats, p_c_Ground_beats⟩
  · exact kit_mk kc_Ground kt_Ground ks_Ground_Ground ks_Ground_Ground
def lows : List Nat := [97, 98, 99, 100, 101, 102, 103, 104, 105, 106, 107, 108, 109, 110, 111, 112, 113, 114, 115, 116, 117, 118, 119, 120, 121, 122]
abbrev sv (l : List Nat) : V := .str (mk l)
theorem low_eq : ("abcdefghijklmnopqrstuvwxyz" : Str) = mk lows := by decide +kernel
theorem low_lt {c : Nat} (h : c ∈ lows) : c < 128 := by revert c; decide
theorem short_le {n : Nat} (h : n ≤ 100000) : n ≤ sizeLine := Nat.le_trans h (by decide)
theorem strOk_mk {l : List Nat} (h : ∀ c ∈ l, c < 1114112) : PyData.strOk (mk l) = true := by
  unfold PyData.strOk; simpa using h
def OkS (z : Str) : Prop := PyData.strOk z = true ∧ z.length ≤ 40
theorem OkS.of {l : List Nat} (h : ∀ c ∈ l, c < 128) (hl : l.length ≤ 40) : OkS (mk l) := ⟨strOk_mk fun c hc => by have := h c hc; omega, by rw [mk_len]; exact hl⟩
def sortS : Nat → Str
  | 0 => "fact"
  | 1 => "sure"
  | 2 => "most"
  | _ => "block"
abbrev Rw := Nat × Str × Str × List Str
def RwOk (r : Rw) : Prop := r.1 < 4 ∧ (r.1 = 0 → r.2.2.2 = [] ∧ r.2.1 = "") ∧ OkS r.2.1 ∧ OkS r.2.2.1 ∧ (∀ q ∈ r.2.2.2, OkS q) ∧ r.2.2.2.length ≤ 4
def spCell (K : PySem.W.Frag) : Sp := fun vs H Q _ => ∃ (a : Addr) (ns : List Int) (k : Int), vs = [.ref a, .int k] ∧ SqL K H a (ns.map V.int) ∧ ns.length ≤ 63 ∧ 0 ≤ k ∧ k ≤ 1000 ∧ ∀ i, Q (.int i) H
def spMix : Sp := fun vs H Q _ => ∃ (c k : Int), vs = [.int c, .int k] ∧ ∀ r : Int, 0 ≤ r → Q (.int r) H
theorem spMix_at {c k : Int} {H : Hp} {Q : VK} {E : XK} : spMix [.int c, .int k] H Q E ↔ ∀ r : Int, 0 ≤ r → Q (.int r) H := ⟨by rintro ⟨_, _, e, q⟩; cases e; exact q, fun q => ⟨_, _, rfl, q⟩⟩
theorem pick_in {pl : List Str} (hl : 2 ≤ pl.length) (hok : ∀ z ∈ pl, OkS z) (n : Int) : ∃ z, atI (pl.map V.str) (n % (pl.length : Int)) = some (.str z) ∧ OkS z := by
  have m1 := Int.emod_nonneg n (b := (pl.length : Int)) (by omega)
  have m2 := Int.emod_lt_of_pos n (b := (pl.length : Int)) (by omega)
  obtain ⟨v, e, hv, _⟩ := atI_in (xs := pl.map V.str) (i := n % (pl.length : Int)) m1 (by simpa using m2)
  obtain ⟨z, hz, rfl⟩ := List.mem_map.mp hv
  exact ⟨z, e, hok z hz⟩
theorem strs_of {ys : List V} (h : ∀ (i : Nat) (v : V), ys[i]? = some v → ∃ z, v = V.str z ∧ OkS z) : ∃ zs : List Str, ys = zs.map V.str ∧ ∀ z ∈ zs, OkS z := by
  induction ys with
  | nil => exact ⟨[], rfl, by simp⟩
  | cons y ys ih =>
    obtain ⟨zs, e, ho⟩ := ih fun i v e => h (i + 1) v e
    obtain ⟨z, ez, hz⟩ := h 0 y rfl
    refine ⟨z :: zs, by rw [e, ez]; rfl, fun x hx => ?_⟩
    rcases List.mem_cons.mp hx with w | w
    · rw [w]; exact hz
    · exact ho x w
def IsW (l : List Nat) : Prop := 1 ≤ l.length ∧ l.length ≤ 8 ∧ ∀ c ∈ l, c ∈ lows
abbrev pv' (ps : List (List Nat)) : List V := ps.map fun l => V.str (mk l)
def joinN (c : List Nat) : List (List Nat) → List Nat
  | [] => []
  | a :: r => a ++ r.flatMap fun b => c ++ b
theorem foldl_glue (c : List Nat) : ∀ (r : List (List Nat)) (a : Array Nat), (r.map mk).foldl (fun acc p => acc ++ (mk c).cps ++ p.cps) a = a ++ (r.flatMap fun b => c ++ b).toArray := by
  intro r
  induction r with
  | nil => intro a; simp
  | cons b r ih =>
    intro a
    rw [List.map_cons, List.foldl_cons, ih]
    show a ++ c.toArray ++ b.toArray ++ _ = _
    simp
theorem join_mk (c : List Nat) (xs : List (List Nat)) : Txt.join (mk c) (xs.map mk) = mk (joinN c xs) := by
  cases xs with
  | nil => rfl
  | cons a r =>
    show (⟨(r.map mk).foldl (fun acc p => acc ++ (mk c).cps ++ p.cps) a.toArray⟩ : Str) = _
    rw [foldl_glue]
    simp [joinN, mk]
def spWords : Sp := fun vs H Q _ => ∃ (c m : Int), vs = [.int c, .int m] ∧ (0 ≤ m ∧ m ≤ 8) ∧ ∀ (D : Addr) (ws : List (List Nat)) (H' : Hp), Same H H' → H D = none → H' D = some (.lst (pv' ws)) → ws.length = m.toNat → (∀ w ∈ ws, IsW w) → Q (.ref D) H'
theorem cut_take (xs : List V) {n : Int} (h : 0 ≤ n) : cutV xs none (some n) = xs.take n.toNat := by
  unfold cutV HT.sIx
  simp only [Nat.sub_zero, List.drop_zero]
  rw [if_neg (by omega)]
  by_cases c : n.toNat ≤ xs.length
  · rw [Nat.min_eq_left c]
  · rw [Nat.min_eq_right (by omega), List.take_of_length_le (Nat.le_refl _), List.take_of_length_le (by omega)]
def sgl (cs : List Nat) : List (List Nat) := cs.map fun c => [c]
theorem join_sgl (cs : List Nat) : joinN [] (sgl cs) = cs := by
  have h : ∀ r : List Nat, ((sgl r).flatMap fun b => [] ++ b) = r := by
    intro r
    induction r with
    | nil => rfl
    | cons c r ih =>
      have e : sgl (c :: r) = [c] :: sgl r := rfl
      rw [e, List.flatMap_cons, ih]; rfl
  cases cs with
  | nil => rfl
  | cons c r =>
    show [c] ++ ((sgl r).flatMap fun b => [] ++ b) = _
    rw [h]; rfl
theorem sgl_sum : ∀ cs : List Nat, (((sgl cs).map mk).map (·.length)).sum = cs.length
  | [] => rfl
  | c :: cs => by
    have e : sgl (c :: cs) = [c] :: sgl cs := rfl
    rw [e, List.map_cons, List.map_cons, List.sum_cons, sgl_sum cs, mk_len]
    simp; omega
theorem sgl_len (cs : List Nat) : (sgl cs).length = cs.length := List.length_map _
theorem sgl_of : ∀ {ys : List V}, (∀ (i : Nat) v, ys[i]? = some v → ∃ c, v = sv [c] ∧ c ∈ lows) → ∃ cs : List Nat, ys = pv' (sgl cs) ∧ ∀ c ∈ cs, c ∈ lows
  | [], _ => ⟨[], rfl, by simp⟩
  | y :: ys, h => by
    obtain ⟨cs, rfl, hc⟩ := sgl_of (ys := ys) fun i v e => h (i + 1) v e
    obtain ⟨c, rfl, h0⟩ := h 0 y rfl
    refine ⟨c :: cs, rfl, fun d hd => ?_⟩
    rcases List.mem_cons.mp hd with z | z
    · rw [z]; exact h0
    · exact hc d z
theorem pv_take (ws : List (List Nat)) (n : Nat) : (pv' ws).take n = pv' (ws.take n) := (List.map_take).symm
theorem sgl_take (cs : List Nat) (n : Nat) : (sgl cs).take n = sgl (cs.take n) := (List.map_take).symm
theorem pick_pv {ws : List (List Nat)} (hl : 0 < ws.length) (n : Int) : ∃ w, atI (pv' ws) (n % (ws.length : Int)) = some (sv w) ∧ w ∈ ws := by
  have m1 := mod_lt' (i := n) (j := (ws.length : Int)) (by omega)
  obtain ⟨v, e, hv, _⟩ := atI_in (xs := pv' ws) (i := n % (ws.length : Int)) m1.1 (by simpa using m1.2)
  obtain ⟨w, hw, rfl⟩ := List.mem_map.mp hv
  exact ⟨w, e, hw⟩
theorem set_sgl (cs : List Nat) (j d : Nat) : (pv' (sgl cs)).set j (sv [d]) = pv' (sgl (cs.set j d)) := by
  unfold sgl
  rw [List.map_set]
  exact (List.map_set (f := fun l => V.str (mk l))).symm
theorem take_w {cs : List Nat} {k : Nat} (hl : cs.length = 8) (hc : ∀ c ∈ cs, c ∈ lows) (h1 : 1 ≤ k) (h8 : k ≤ 8) : IsW (cs.take k) := by
  refine ⟨by rw [List.length_take]; omega, by rw [List.length_take]; omega, fun c h => hc c (List.mem_of_mem_take h)⟩
theorem rSetL_of {p : Addr} {xs : List V} {k : Int} {v : V} {H : Hp} {Q : Hp → Prop} (h : H p = some (.lst xs)) (h0 : 0 ≤ k) (h1 : k < xs.length) (q : Q (upd H p (.lst (xs.set k.toNat v)))) : rSetL (.ref p) (.int k) v H Q :=
  ⟨p, xs, k, k.toNat, rfl, rfl, h, by unfold ixN; rw [if_pos h0, if_pos h1], q⟩
theorem pv_app (ws : List (List Nat)) (w : List Nat) : pv' ws ++ [sv w] = pv' (ws ++ [w]) := (List.map_append (f := fun l => V.str (mk l)) (l₁ := ws) (l₂ := [w])).symm
theorem at_head {α : Type} (d : α) (r : List α) : atI (d :: r) 0 = some d := by
  unfold atI ixN; rw [if_pos (by decide), if_pos (by simp only [List.length_cons]; omega)]; rfl
theorem pick_0 {ws : List (List Nat)} (hl : 0 < ws.length) : ∃ w, atI (pv' ws) 0 = some (sv w) ∧ w ∈ ws := by
  cases ws with
  | nil => simp at hl
  | cons w ws => exact ⟨w, at_head _ _, List.mem_cons_self⟩
def flds (lb hd : V) (t : Addr) : List (Str × V) := putF "body" (.ref t) (putF "head" hd (putF "label" lb []))
theorem flds_label (lb hd : V) (t : Addr) : (flds lb hd t).lookup ("label" : Str) = some lb := by
  unfold flds; rw [lookup_putF, if_neg (by decide +kernel), lookup_putF, if_neg (by decide +kernel), lookup_putF, if_pos rfl]
theorem flds_head (lb hd : V) (t : Addr) : (flds lb hd t).lookup ("head" : Str) = some hd := by
  unfold flds; rw [lookup_putF, if_neg (by decide +kernel), lookup_putF, if_pos rfl]
theorem flds_body (lb hd : V) (t : Addr) : (flds lb hd t).lookup ("body" : Str) = some (.ref t) := by
  unfold flds; rw [lookup_putF, if_pos rfl]
theorem flds_no (lb hd : V) (t : Addr) {m : Str} (h1 : ¬ m = "body") (h2 : ¬ m = "head") (h3 : ¬ m = "label") : (flds lb hd t).lookup m = none := by
  unfold flds; rw [lookup_putF, if_neg h1, lookup_putF, if_neg h2, lookup_putF, if_neg h3]; rfl
def RuleAt (H : Hp) (r C : Addr) (lb hd : V) (bs : List V) : Prop := ∃ dx t, H r = some (.ins C dx (flds lb hd t)) ∧ H t = some (.tup bs)
theorem RuleAt.same {H H' : Hp} {r C : Addr} {lb hd : V} {bs : List V} (s : Same H H') (h : RuleAt H r C lb hd bs) : RuleAt H' r C lb hd bs := let ⟨d, t, a, b⟩ := h; ⟨d, t, s _ _ a, s _ _ b⟩
def spInit (K : PySem.W.Frag) : Sp := fun vs H Q _ => ∃ x C dx lb hd b bs, vs = [.ref x, lb, hd, .ref b] ∧ H x = some (.ins C dx []) ∧ (Cls K C ∧ NoAttr K C "label" ∧ NoAttr K C "head" ∧ NoAttr K C "body") ∧ (SqL K H b bs ∨ SqT K H b bs ∧ H b = some (.tup bs)) ∧
  ∀ H', (∀ c o, H c = some o → c ≠ x → H' c = some o) → RuleAt H' x C lb hd bs → Q .non H'
def spFactI (K : PySem.W.Frag) (C : Addr) : Sp := fun vs H Q _ => ∃ x dx hd, vs = [.ref x, hd] ∧ H x = some (.ins C dx []) ∧
  ∀ H', (∀ c o, H c = some o → c ≠ x → H' c = some o) → RuleAt H' x C (.str "") hd [] → Q .non H'
def clsOf (t : Adr) : Nat → Addr
  | 0 => t.C_Fact
  | 1 => t.C_Sure
  | 2 => t.C_Most
  | _ => t.C_Block
def spBoolR (b : Bool) : Sp := fun vs H Q _ => ∃ x, vs = [x] ∧ Q (.bl b) H
theorem spBoolR_at {b : Bool} {x : V} {H : Hp} {Q : VK} {E : XK} : spBoolR b [x] H Q E ↔ Q (.bl b) H := ⟨by rintro ⟨_, e, q⟩; cases e; exact q, fun q => ⟨_, rfl, q⟩⟩
structure ClsF (K : PySem.W.Frag) (t : Adr) (C : Addr) : Prop where
  cl : Cls K C
  ty : TyI K C
  nl : NoAttr K C "label"
  nh : NoAttr K C "head"
  nb : NoAttr K C "body"
  kr : PySem.W.kitOne K (.ref C) (.ref t.C_Rule) = some true
theorem clsF {K : PySem.W.Frag} {mg : Str → Option Value} {t : Adr} (T : Txt K mg t) {kind : Nat} (h : kind < 4) : ClsF K t (clsOf t kind) := by
  match kind, h with
  | 0, _ => exact ⟨T.cl_Fact, T.ty_Fact, T.nf_Fact_label, T.nf_Fact_head, T.nf_Fact_body, T.ki_Fact_Rule⟩
  | 1, _ => exact ⟨T.cl_Sure, T.ty_Sure, T.nf_Sure_label, T.nf_Sure_head, T.nf_Sure_body, T.ki_Sure_Rule⟩
  | 2, _ => exact ⟨T.cl_Most, T.ty_Most, T.nf_Most_label, T.nf_Most_head, T.nf_Most_body, T.ki_Most_Rule⟩
  | 3, _ => exact ⟨T.cl_Block, T.ty_Block, T.nf_Block_label, T.nf_Block_head, T.nf_Block_body, T.ki_Block_Rule⟩
def pick4 (kind : Nat) (a b c d : Sp) : Sp := match kind with
  | 0 => a
  | 1 => b
  | 2 => c
  | _ => d
theorem pick_sure {kind : Nat} (h : kind < 4) : pick4 kind (spBoolR true) (spBoolR true) (spBoolR false) (spBoolR false) = spBoolR (decide ((kind : Int) < 2)) := by
  match kind, h with
  | 0, _ => rfl
  | 1, _ => rfl
  | 2, _ => rfl
  | 3, _ => rfl
theorem pick_same {kind : Nat} (h : kind < 4) (s : Sp) : pick4 kind s s s s = s := by
  match kind, h with
  | 0, _ => rfl
  | 1, _ => rfl
  | 2, _ => rfl
  | 3, _ => rfl
theorem alt4 {t : Adr} {m : Str} {s0 s1 s2 s3 : Sp} {ta : TE} {σ : St} {H : Hp} {Q : VK} {r : Addr} {kind : Nat} {lb hd : V} {bs : List V} (hk : kind < 4) (hta : ∀ R : VK, R (.ref r) H → ta σ H R) (hR : RuleAt H r (clsOf t kind) lb hd bs)
    (hm : ¬ m = "body" ∧ ¬ m = "head" ∧ ¬ m = "label") (q : pick4 kind s0 s1 s2 s3 [.ref r] H Q E0) :
    tAlt (tMeth t.C_Fact m s0 [] E0 ta tNil) (tAlt (tMeth t.C_Sure m s1 [] E0 ta tNil) (tAlt (tMeth t.C_Most m s2 [] E0 ta tNil) (tMeth t.C_Block m s3 [] E0 ta tNil))) σ H Q := by
  obtain ⟨dx, t0, h1, _⟩ := hR
  have hn := flds_no lb hd t0 hm.1 hm.2.1 hm.2.2
  match kind, hk with
  | 0, _ => exact .inl (hta _ ⟨r, dx, _, rfl, h1, hn, q⟩)
  | 1, _ => exact .inr (.inl (hta _ ⟨r, dx, _, rfl, h1, hn, q⟩))
  | 2, _ => exact .inr (.inr (.inl (hta _ ⟨r, dx, _, rfl, h1, hn, q⟩)))
  | 3, _ => exact .inr (.inr (.inr (hta _ ⟨r, dx, _, rfl, h1, hn, q⟩)))
theorem tVar_go {i : Nat} {σ : St} {H : Hp} {v : V} (h : σ[i]? = some (some v)) : ∀ R : VK, R v H → tVar i σ H R := fun R q => ⟨v, h, q⟩
section
variable {α : Type} [DecidableEq α]
def subB (b S : List α) : Bool := b.all fun q => decide (q ∈ S)
theorem subB_iff {b S : List α} : subB b S = true ↔ ∀ q ∈ b, q ∈ S := by
  unfold subB; rw [List.all_eq_true]
  exact ⟨fun h q hq => by simpa using h q hq, fun h q hq => by simpa using h q hq⟩
end
theorem canS : ∀ zs : List Str, (∀ z ∈ zs, PyData.strOk z = true) → PyData.canLayAll0 (zs.map PyData.str) = true ∧ PyData.depthAll (zs.map PyData.str) = 0
  | [], _ => ⟨rfl, rfl⟩
  | z :: zs, h => by
    obtain ⟨a, b⟩ := canS zs fun p hp => h p (List.mem_cons_of_mem _ hp)
    refine ⟨?_, ?_⟩
    · show (PyData.canLay0 (.str z) && _) = true
      rw [a, Bool.and_true]; exact h z List.mem_cons_self
    · show max (PyData.depth (.str z)) _ = 0
      rw [b]; rfl
theorem shapedZ {zs : List Str} (h : ∀ z ∈ zs, PyData.strOk z = true) : SeqAt.shaped (.list (zs.map PyData.str)) = true := by
  obtain ⟨a, b⟩ := canS zs h
  unfold SeqAt.shaped
  simp only [PyData.canLay0, PyData.depth, a, b]
  decide
def RuAt (t : Adr) (H : Hp) (v : V) (r : Rw) : Prop := ∃ p, v = .ref p ∧ RuleAt H p (clsOf t r.1) (.str r.2.1) (.str r.2.2.1) (r.2.2.2.map V.str)
theorem RuAt.same {t : Adr} {H H' : Hp} {v : V} {r : Rw} (s : Same H H') (h : RuAt t H v r) : RuAt t H' v r := let ⟨p, a, b⟩ := h; ⟨p, a, b.same s⟩
structure RuAll (t : Adr) (H : Hp) (xs : List V) (rs : List Rw) : Prop where
  len : xs.length = rs.length
  get : ∀ (i : Nat) (r : Rw), rs[i]? = some r → ∃ x, xs[i]? = some x ∧ RuAt t H x r
theorem RuAll.same {t : Adr} {H H' : Hp} {xs : List V} {rs : List Rw} (s : Same H H') (h : RuAll t H xs rs) : RuAll t H' xs rs := ⟨h.len, fun i r e => let ⟨x, a, b⟩ := h.get i r e; ⟨x, a, b.same s⟩⟩
theorem RuAll.at {t : Adr} {H : Hp} {xs : List V} {rs : List Rw} (h : RuAll t H xs rs) {i : Nat} (hi : i < xs.length) : ∃ (hi' : i < rs.length) (p : Addr), xs[i] = .ref p ∧ RuleAt H p (clsOf t rs[i].1) (.str rs[i].2.1) (.str rs[i].2.2.1) (rs[i].2.2.2.map V.str) := by
  have hi' : i < rs.length := by rw [← h.len]; exact hi
  obtain ⟨x, e, p, rfl, hp⟩ := h.get i rs[i] (List.getElem?_eq_getElem hi')
  rw [List.getElem?_eq_getElem hi] at e
  exact ⟨hi', p, Option.some.inj e, hp⟩
abbrev VR := V × Rw
def WsOk (t : Adr) (H : Hp) (ws : List VR) : Prop := ∀ p ∈ ws, RuAt t H p.1 p.2 ∧ RwOk p.2
theorem WsOk.same {t : Adr} {H H' : Hp} {ws : List VR} (s : Same H H') (h : WsOk t H ws) : WsOk t H' ws := fun p hp => ⟨(h p hp).1.same s, (h p hp).2⟩
theorem RuAll.zip {t : Adr} {H : Hp} : ∀ {xs : List V} {rs : List Rw}, RuAll t H xs rs → (∀ r ∈ rs, RwOk r) → ∃ zr : List VR, zr.map (·.1) = xs ∧ zr.map (·.2) = rs ∧ WsOk t H zr
  | [], [], _, _ => ⟨[], rfl, rfl, fun _ h => by cases h⟩
  | [], _ :: _, h, _ => by have := h.len; simp at this
  | _ :: _, [], h, _ => by have := h.len; simp at this
  | x :: xs, r :: rs, h, ho => by
    have h' : RuAll t H xs rs := ⟨by have := h.len; simpa using this, fun i r e => h.get (i + 1) r e⟩
    obtain ⟨zr, e1, e2, hz⟩ := RuAll.zip h' fun r hr => ho r (List.mem_cons_of_mem _ hr)
    obtain ⟨x', ex, hx⟩ := h.get 0 r rfl
    cases ex
    refine ⟨(x, r) :: zr, by rw [List.map_cons, e1], by rw [List.map_cons, e2], fun p hp => ?_⟩
    rcases List.mem_cons.mp hp with z | z
    · rw [z]; exact ⟨hx, ho r List.mem_cons_self⟩
    · exact hz p z
theorem comp_ru {K : PySem.W.Frag} {t : Adr} {a : Addr} {js : List (Option Nat)} {tt : TT} {te : TE} {σ : St} {H : Hp} {Q : VK} (ws : List VR) (hW : H a = some (.lst (ws.map (·.1)))) (hl : ws.length ≤ 1000) (hz : WsOk t H ws) (σr : St) (hσ : pickS js σ = none :: σr) (P : Rw → Bool) (g : VR → V)
    (hs : ∀ (x : Addr) (r : Rw) H' (R : Bool → Hp → Prop), RwOk r → RuleAt H' x (clsOf t r.1) (.str r.2.1) (.str r.2.2.1) (r.2.2.2.map V.str) → Same H H' → (∀ H'', Same H' H'' → R (P r) H'') → tt (some (.ref x) :: σr) H' R)
    (he : ∀ (x : Addr) (r : Rw) H' (R : V → Hp → Prop), RwOk r → RuleAt H' x (clsOf t r.1) (.str r.2.1) (.str r.2.2.1) (r.2.2.2.map V.str) → Same H H' → (∀ H'', Same H' H'' → R (g (.ref x, r)) H'') → te (some (.ref x) :: σr) H' R)
    (hd : ∀ D H', H D = none → Same H H' → H' D = some (.lst ((ws.filter fun p => P p.2).map g)) → Q (.ref D) H') : CompW (Itl K a) js (gName 0) tt te σ H Q := by
  let d0 : VR := (.non, 0, "", "", [])
  refine comp_f (src_list (xs := ws.map (·.1))) (Nat.le_trans (show (ws.map (·.1)).length ≤ 1000 by simpa using hl) (by decide)) σr hσ (fun i => P ((ws[i]?).getD d0).2) (fun i => g ((ws[i]?).getD d0)) (fun H' s => SqL.of (s _ _ hW)) (fun i H' R hi s hR => ?_) (fun i H' R hi s hR => ?_) (fun D H' hD s h => ?_)
  · have hi' : i < ws.length := by simpa using hi
    obtain ⟨⟨x, ex, hx⟩, ho⟩ := hz _ (List.getElem_mem hi')
    have e2 : ((ws.map (·.1))[i]?).getD .non = .ref x := by rw [List.getElem?_map, List.getElem?_eq_getElem hi']; exact ex
    rw [e2]
    rw [List.getElem?_eq_getElem hi', Option.getD_some] at hR
    exact hs x _ H' R ho (hx.same s) s hR
  · have hi' : i < ws.length := by simpa using hi
    obtain ⟨⟨x, ex, hx⟩, ho⟩ := hz _ (List.getElem_mem hi')
    have e2 : ((ws.map (·.1))[i]?).getD .non = .ref x := by rw [List.getElem?_map, List.getElem?_eq_getElem hi']; exact ex
    rw [e2]
    rw [List.getElem?_eq_getElem hi', Option.getD_some] at hR
    refine he x _ H' R ho (hx.same s) s ?_
    rw [show ((V.ref x, ws[i].2) : VR) = ws[i] from by rw [← ex]]
    exact hR
  · rw [show (ws.map (·.1)).length = ws.length by simp, range_filter d0 (fun p : VR => P p.2) g ws] at h
    exact hd D H' hD s h
def RuD (t : Adr) (D : Addr) (v : V) (r : Rw) (H : Hp) : Prop := ∃ p dx t0, v = .ref p ∧ p ≠ D ∧ t0 ≠ D ∧ H p = some (.ins (clsOf t r.1) dx (flds (.str r.2.1) (.str r.2.2.1) t0)) ∧ H t0 = some (.tup (r.2.2.2.map V.str))
theorem ru_all {t : Adr} {D : Addr} {H : Hp} {ys : List V} {rs : List Rw} (hl : ys.length = rs.length) (h : ∀ (i : Nat) v, ys[i]? = some v → ∃ hi : i < rs.length, RuD t D v rs[i] H) : RuAll t H ys rs := by
  refine ⟨hl, fun i r e => ?_⟩
  obtain ⟨hi, e'⟩ := List.getElem?_eq_some_iff.mp e
  have hy : i < ys.length := by rw [hl]; exact hi
  obtain ⟨_, p, dx, t0, ev, _, _, h1, h2⟩ := h i ys[i] (List.getElem?_eq_getElem hy)
  rw [e'] at h1 h2
  exact ⟨ys[i], List.getElem?_eq_getElem hy, p, ev, dx, t0, h1, h2⟩
def gfl (io bh pr : Addr) : List (Str × V) := putF "pairs" (.ref pr) (putF "by_head" (.ref bh) (putF "in_order" (.ref io) []))
theorem gfl_io (io bh pr : Addr) : (gfl io bh pr).lookup ("in_order" : Str) = some (.ref io) := by
  unfold gfl; rw [lookup_putF, if_neg (by decide +kernel), lookup_putF, if_neg (by decide +kernel), lookup_putF, if_pos rfl]
theorem gfl_bh (io bh pr : Addr) : (gfl io bh pr).lookup ("by_head" : Str) = some (.ref bh) := by
  unfold gfl; rw [lookup_putF, if_neg (by decide +kernel), lookup_putF, if_pos rfl]
theorem gfl_no (io bh pr : Addr) {m : Str} (h1 : ¬ m = "pairs") (h2 : ¬ m = "by_head") (h3 : ¬ m = "in_order") : (gfl io bh pr).lookup m = none := by
  unfold gfl; rw [lookup_putF, if_neg h1, lookup_putF, if_neg h2, lookup_putF, if_neg h3]; rfl
def hdF (rs : List Rw) (h : Str) : List Rw := rs.filter fun r => decide (r.2.2.1 = h)
def HdOk (t : Adr) (H : Hp) (kvs : List (Key × V)) (rs : List Rw) : Prop := ∀ h : Str, (valV kvs (Sum.inr h : Key) = none ∧ hdF rs h = []) ∨ ∃ L ys, valV kvs (Sum.inr h : Key) = some (.ref L) ∧ H L = some (.lst ys) ∧ RuAll t H ys (hdF rs h)
theorem HdOk.same {t : Adr} {H H' : Hp} {kvs : List (Key × V)} {rs : List Rw} (s : Same H H') (h : HdOk t H kvs rs) : HdOk t H' kvs rs := fun x => (h x).imp id fun ⟨L, ys, a, b, c⟩ => ⟨L, ys, a, s _ _ b, c.same s⟩
def PrOk (kvs : List (List Key × V)) (pl : List (Str × Str)) : Prop := ∀ a b : Str, valV kvs [Sum.inr a, Sum.inr b] = if (a, b) ∈ pl then some (V.bl true) else none
def GrAt (t : Adr) (H : Hp) (g : Addr) (rs : List Rw) (pl : List (Str × Str)) : Prop := ∃ dx io bh pr xs kvs kps, H g = some (.ins t.C_Ground dx (gfl io bh pr)) ∧ H io = some (.tup xs) ∧ RuAll t H xs rs ∧ H bh = some (.dK kvs) ∧ HdOk t H kvs rs ∧ H pr = some (.dT kps) ∧ PrOk kps pl
theorem GrAt.same {t : Adr} {H H' : Hp} {g : Addr} {rs : List Rw} {pl : List (Str × Str)} (s : Same H H') (h : GrAt t H g rs pl) : GrAt t H' g rs pl := let ⟨dx, io, bh, pr, xs, kvs, kps, a, b, c, d, e, f, k⟩ := h; ⟨dx, io, bh, pr, xs, kvs, kps, s _ _ a, s _ _ b, c.same s, s _ _ d, e.same s, s _ _ f, k⟩
theorem RuAll.refs {t : Adr} {H H' : Hp} {xs : List V} {rs : List Rw} (h : RuAll t H xs rs) {x dx : Addr} {C : Addr} (hx : H x = some (.ins C dx [])) (k : ∀ c o, H c = some o → c ≠ x → H' c = some o) : RuAll t H' xs rs := ⟨h.len, fun i r e => by
  obtain ⟨v, a, p, rfl, dx', t0, h1, h2⟩ := h.get i r e
  have hp : p ≠ x := fun z => by
    rw [z, hx] at h1
    injection h1 with h1
    injection h1 with _ _ h3
    have := flds_head (.str r.2.1) (.str r.2.2.1) t0
    rw [← h3] at this; cases this
  have ht : t0 ≠ x := ne_of h2 hx (by intro z; cases z)
  exact ⟨_, a, p, rfl, dx', t0, k _ _ h1 hp, k _ _ h2 ht⟩⟩
theorem gfl_pr (io bh pr : Addr) : (gfl io bh pr).lookup ("pairs" : Str) = some (.ref pr) := by
  unfold gfl; rw [lookup_putF, if_pos rfl]
theorem PrsAt.same {H H' : Hp} {xs : List V} {pl : List (Str × Str)} (s : Same H H') (h : PrsAt H xs pl) : PrsAt H' xs pl := let ⟨as, a, b, c⟩ := h; ⟨as, a, b, fun i x p e1 e2 => s _ _ (c i x p e1 e2)⟩
def spGrI (t : Adr) : Sp := fun vs H Q _ => ∃ (x dx b pb : Addr) (xs : List V) (rs : List Rw) (ps : List V) (pl : List (Str × Str)), vs = [.ref x, .ref b, .ref pb] ∧ H x = some (.ins t.C_Ground dx []) ∧ H b = some (.lst xs) ∧ RuAll t H xs rs ∧ (∀ r ∈ rs, RwOk r) ∧ rs.length ≤ 63 ∧ H pb = some (.lst ps) ∧ PrsAt H ps pl ∧ pl.length ≤ 200 ∧
  ∀ H', (∀ c o, H c = some o → c ≠ x → H' c = some o) → GrAt t H' x rs pl → Q .non H'
def spGrRuling (t : Adr) : Sp := fun vs H Q _ => ∃ (g : Addr) (h : Str) (rs : List Rw) (pl : List (Str × Str)), vs = [.ref g, .str h] ∧ GrAt t H g rs pl ∧ ∀ D ys H', Same H H' → H D = none → H' D = some (.lst ys) → RuAll t H' ys (hdF rs h) → Q (.ref D) H'
theorem cat_strs {K : PySem.W.Frag} {H : Hp} {Q : VK} {a b : Addr} {l m : List Str} (ha : H a = some (.lst (l.map V.str))) (hb : H b = some (.lst (m.map V.str))) (hl : l.length + m.length ≤ 1000) (q : ∀ p, H p = none → Q (.ref p) (upd H p (.lst ((l ++ m).map V.str)))) : rAddA K (.ref a) (.ref b) H Q := by
  refine .inr (.inr (.inl ⟨a, b, _, _, rfl, rfl, ha, hb, Nat.le_trans (show _ ≤ 1000 by simp only [List.length_map]; exact hl) (by decide), fun p hp => ?_⟩))
  rw [← List.map_append]; exact q p hp
def oppS (z : Str) : Str := if Txt.startswith z "-" = true then Txt.slice z (some 1) none else "-" ++ z
def spOpp : Sp := fun vs H Q _ => ∃ z : Str, vs = [.str z] ∧ z.length ≤ 100 ∧ Q (.str (oppS z)) H
def anyB (b S : List Str) : Bool := b.any fun q => decide (q ∈ S)
def spk (r : Rw) : Bool := decide (r.1 < 3)
def btn (pl : List (Str × Str)) (bs : List Rw) (r : Rw) : Bool := bs.any fun b => decide ((b.2.1, r.2.1) ∈ pl)
def stand (rs : List Rw) (U : List Str) (q : Str) : List Rw := ((hdF rs q).filter spk).filter fun r => subB r.2.2.2 U
def unf (rs : List Rw) (D : List Str) (q : Str) : List Rw := ((hdF rs q).filter spk).filter fun r => !anyB r.2.2.2 D
def holdsB (rs : List Rw) (pl : List (Str × Str)) (S U D : List Str) (q : Str) : Bool := if q ∈ S then true else if stand rs U q = [] ∨ oppS q ∈ S then false else (hdF rs (oppS q)).all fun r => anyB r.2.2.2 D || btn pl (stand rs U q) r
def refB (rs : List Rw) (pl : List (Str × Str)) (S U D : List Str) (q : Str) : Bool := if q ∈ S then false else if unf rs D q = [] ∨ oppS q ∈ S then true else (hdF rs (oppS q)).any fun r => subB r.2.2.2 U && !btn pl (unf rs D q) r
def SomeAt (H : Hp) (v : V) (S : List Str) : Prop := (∃ a, v = .ref a ∧ H a = some (.lst (S.map V.str))) ∨ ∃ a kvs, v = .ref a ∧ H a = some (.dK kvs) ∧ ∀ x : Str, (valV kvs (Sum.inr x : Key)).isSome = decide (x ∈ S)
theorem SomeAt.same {H H' : Hp} {v : V} {S : List Str} (s : Same H H') (h : SomeAt H v S) : SomeAt H' v S := h.imp (fun ⟨a, e, b⟩ => ⟨a, e, s _ _ b⟩) fun ⟨a, k, e, b, c⟩ => ⟨a, k, e, s _ _ b, c⟩
theorem in_some {K : PySem.W.Frag} {tl tr : TE} {σ : St} {H : Hp} {Q : VK} {v : V} {S : List Str} {x : Str} (h : SomeAt H v S) (hl : ∀ R : VK, R (.str x) H → tl σ H R) (hr : ∀ R : VK, R v H → tr σ H R) (q : Q (.bl (decide (x ∈ S))) H) : tAlt (tDIn tl tr) (tOp (rInA K) tl tr) σ H Q := by
  rcases h with ⟨a, rfl, ha⟩ | ⟨a, kvs, rfl, ha, hk⟩
  · exact .inr (hl _ (hr _ (rIn_lst (SqL.of ha) q)))
  · refine .inl (hl _ (hr _ ⟨a, _, rfl, DGet.k (k := (Sum.inr x : Key)) ha, ?_⟩))
    rw [hk]; exact q
theorem in_someT {K : PySem.W.Frag} {tl tr : TE} {σ : St} {H : Hp} {Q : Bool → Hp → Prop} {v : V} {S : List Str} {x : Str} (h : SomeAt H v S) (hl : ∀ R : VK, R (.str x) H → tl σ H R) (hr : ∀ R : VK, R v H → tr σ H R) (q : Q (decide (x ∈ S)) H) : tAltT (tB (tDIn tl tr)) (tTest (tOp (rInA K) tl tr)) σ H Q := by
  rcases h with ⟨a, rfl, ha⟩ | ⟨a, kvs, rfl, ha, hk⟩
  · exact .inr (hl _ (hr _ (rIn_lst (SqL.of ha) ⟨_, rfl, q⟩)))
  · refine .inl (hl _ (hr _ ⟨a, _, rfl, DGet.k (k := (Sum.inr x : Key)) ha, _, rfl, ?_⟩))
    rw [hk]; exact q
def spAmongE : Sp := fun vs H Q _ => ∃ (t : Addr) (v : V) (bd S : List Str), vs = [.ref t, v] ∧ H t = some (.tup (bd.map V.str)) ∧ bd.length ≤ 1000 ∧ SomeAt H v S ∧ ∀ H', Same H H' → Q (.bl (subB bd S)) H'
def spAnyE : Sp := fun vs H Q _ => ∃ (t : Addr) (v : V) (bd S : List Str), vs = [.ref t, v] ∧ H t = some (.tup (bd.map V.str)) ∧ bd.length ≤ 1000 ∧ SomeAt H v S ∧ ∀ H', Same H H' → Q (.bl (anyB bd S)) H'
def spBeats (t : Adr) : Sp := fun vs H Q _ => ∃ (g x y : Addr) (rs : List Rw) (pl : List (Str × Str)) (r1 r2 : Rw), vs = [.ref g, .ref x, .ref y] ∧ GrAt t H g rs pl ∧ RuAt t H (.ref x) r1 ∧ RuAt t H (.ref y) r2 ∧ RwOk r1 ∧ RwOk r2 ∧ ∀ H', Same H H' → Q (.bl (decide ((r1.2.1, r2.2.1) ∈ pl))) H'
def spBeaten (t : Adr) : Sp := fun vs H Q _ => ∃ (g x L : Addr) (rs : List Rw) (pl : List (Str × Str)) (r : Rw) (zr : List VR), vs = [.ref g, .ref x, .ref L] ∧ GrAt t H g rs pl ∧ RuAt t H (.ref x) r ∧ RwOk r ∧ H L = some (.lst (zr.map (·.1))) ∧ WsOk t H zr ∧ zr.length ≤ 63 ∧ ∀ H', Same H H' → Q (.bl (btn pl (zr.map (·.2)) r)) H'
def spSpeaking (t : Adr) : Sp := fun vs H Q _ => ∃ (g : Addr) (h : Str) (rs : List Rw) (pl : List (Str × Str)), vs = [.ref g, .str h] ∧ GrAt t H g rs pl ∧ (∀ r ∈ rs, RwOk r) ∧ rs.length ≤ 63 ∧ ∀ D (zr : List VR) H', Same H H' → H D = none → H' D = some (.lst (zr.map (·.1))) → WsOk t H' zr → zr.map (·.2) = (hdF rs h).filter spk → Q (.ref D) H'
def spAgainst (t : Adr) : Sp := fun vs H Q _ => ∃ (g : Addr) (h : Str) (rs : List Rw) (pl : List (Str × Str)), vs = [.ref g, .str h] ∧ GrAt t H g rs pl ∧ (∀ r ∈ rs, RwOk r) ∧ h.length ≤ 100 ∧ ∀ D (zr : List VR) H', Same H H' → H D = none → H' D = some (.lst (zr.map (·.1))) → WsOk t H' zr → zr.map (·.2) = hdF rs (oppS h) → Q (.ref D) H'
def spHolds (t : Adr) (f : List Rw → List (Str × Str) → List Str → List Str → List Str → Str → Bool) : Sp := fun vs H Q _ => ∃ (g : Addr) (v1 v2 v3 : V) (q : Str) (rs : List Rw) (pl : List (Str × Str)) (S U D : List Str), vs = [.ref g, v1, v2, v3, .str q] ∧ GrAt t H g rs pl ∧ (∀ r ∈ rs, RwOk r) ∧ rs.length ≤ 63 ∧ SomeAt H v1 S ∧ SomeAt H v2 U ∧ SomeAt H v3 D ∧ q.length ≤ 100 ∧ ∀ H', Same H H' → Q (.bl (f rs pl S U D q)) H'
theorem pick_speaks {kind : Nat} (h : kind < 4) : pick4 kind (spBoolR true) (spBoolR true) (spBoolR true) (spBoolR false) = spBoolR (decide (kind < 3)) := by
  match kind, h with
  | 0, _ => rfl
  | 1, _ => rfl
  | 2, _ => rfl
  | 3, _ => rfl
theorem isD_of {H : Hp} {S : Addr} {d : List (Key × V)} (h : H S = some (.dK d)) : IsD H S := .inl ⟨_, .inl h⟩
def PlOk (pl : List (Str × Str)) : Prop := ∀ p ∈ pl, PyData.strOk p.1 = true ∧ PyData.strOk p.2 = true
theorem prs_snoc {H : Hp} {xs : List V} {pl : List (Str × Str)} {a : Addr} {p : Str × Str} (h : PrsAt H xs pl) (ha : H a = some (.tup [.str p.1, .str p.2])) : PrsAt H (xs ++ [.ref a]) (pl ++ [p]) := by
  obtain ⟨as, rfl, hl, hat⟩ := h
  refine ⟨as ++ [a], by rw [List.map_append]; rfl, by simp [hl], fun i b q e1 e2 => ?_⟩
  by_cases hi : i < as.length
  · rw [List.getElem?_append_left hi] at e1
    rw [List.getElem?_append_left (by omega)] at e2
    exact hat i b q e1 e2
  · have hi2 := (List.getElem?_eq_some_iff.mp e1).1
    have ei : i = as.length := by simp at hi2; omega
    subst ei
    rw [List.getElem?_append_right (Nat.le_refl _), Nat.sub_self] at e1
    rw [List.getElem?_append_right (by omega), hl, Nat.sub_self] at e2
    cases e1; cases e2; exact ha
theorem prs_mono {H H' : Hp} {xs : List V} {pl : List (Str × Str)} {D : Addr} (h : PrsAt H xs pl) (hD : ∃ ys, H D = some (.lst ys)) (up : ∀ b o, b ≠ D → H b = some o → H' b = some o) : PrsAt H' xs pl := by
  obtain ⟨as, e, hl, hat⟩ := h
  obtain ⟨ys, hD⟩ := hD
  refine ⟨as, e, hl, fun i b q e1 e2 => ?_⟩
  have := hat i b q e1 e2
  exact up _ _ (ne_of this hD (by intro z; cases z)) this
def TxN (n : Nat) (z : Str) : Prop := ∃ c r, z = mk (c :: r) ∧ (c :: r).length ≤ n ∧ ∀ x ∈ c :: r, x < 128
theorem TxN.ok {n : Nat} {z : Str} (h : TxN n z) (hn : n ≤ 40) : OkS z := by
  obtain ⟨c, r, rfl, h1, h2⟩ := h
  exact OkS.of h2 (by omega)
theorem TxN.len {n : Nat} {z : Str} (h : TxN n z) : z.length ≤ n := by
  obtain ⟨c, r, rfl, h1, h2⟩ := h
  rw [mk_len]; exact h1
theorem TxN.of {n : Nat} {l : List Nat} (h0 : l ≠ []) (h1 : l.length ≤ n) (h2 : ∀ x ∈ l, x < 128) : TxN n (mk l) := by
  cases l with
  | nil => exact absurd rfl h0
  | cons c r => exact ⟨c, r, rfl, h1, h2⟩
theorem TxN.up {n m : Nat} {z : Str} (h : TxN n z) (hm : n ≤ m) : TxN m z := by
  obtain ⟨c, r, e, h1, h2⟩ := h
  exact ⟨c, r, e, by omega, h2⟩
theorem TxN.neg {n : Nat} {z : Str} (h : TxN n z) : TxN (n + 1) ("-" ++ z) := by
  obtain ⟨c, r, rfl, h1, h2⟩ := h
  rw [show ("-" : Str) = mk [45] by decide +kernel, mk_app]
  refine ⟨45, c :: r, rfl, by simp at h1 ⊢; omega, fun x hx => ?_⟩
  rcases List.mem_cons.mp hx with e | e
  · omega
  · exact h2 x e
def spOpposed : Sp := fun vs H Q _ => ∃ (n : Nat) (z : Str), vs = [.str z] ∧ TxN n z ∧ n ≤ 100 ∧ Q (.str (oppS z)) H
theorem opp_at {c : Nat} {r : List Nat} : oppS (mk (c :: r)) = if c = 45 then Txt.slice (mk (c :: r)) (some 1) none else "-" ++ mk (c :: r) := by
  unfold oppS
  rw [show ("-" : Str) = mk [45] by decide +kernel, starts_one]
  by_cases h : c = 45
  · rw [if_pos h, if_pos (by rw [h]; rfl)]
  · rw [if_neg h, if_neg (by simpa using h)]
def spPool51 (K : PySem.W.Frag) : Sp := fun vs H Q _ => ∃ (a : Addr) (ns : List Int), vs = [.ref a] ∧ SqL K H a (ns.map V.int) ∧ ns.length ≤ 63 ∧ ∀ (D : Addr) (pl : List Str) H', Same H H' → H D = none → H' D = some (.lst (pl.map V.str)) → 1 ≤ pl.length → pl.length ≤ 7 → (∀ z ∈ pl, TxN 30 z) → Q (.ref D) H'
def spDrawn : Sp := fun vs H Q _ => ∃ (P : Addr) (n : Int) (pl : List Str), vs = [.ref P, .int n] ∧ H P = some (.lst (pl.map V.str)) ∧ 1 ≤ pl.length ∧ pl.length ≤ 7 ∧ (∀ z ∈ pl, TxN 30 z) ∧ ∀ z, TxN 31 z → Q (.str z) H
def spNumbers : Sp := fun vs H Q _ => ∃ (c m sz : Int) (p : Bool), vs = [.int c, .int m, .int sz, .bl p] ∧ (0 ≤ m ∧ m ≤ 10) ∧ (0 < sz ∧ sz ≤ 1000) ∧ ∀ (D : Addr) (is : List Int) H', Same H H' → H D = none → H' D = some (.lst (is.map V.int)) → is.length = m.toNat → Q (.ref D) H'
def RwT (r : Rw) : Prop := RwOk r ∧ TxN 31 r.2.2.1 ∧ ∀ q ∈ r.2.2.2, TxN 31 q
def spRule51 (t : Adr) : Sp := fun vs H Q _ => ∃ (P : Addr) (c k : Int) (p : Bool) (pl : List Str), vs = [.ref P, .int c, .int k, .bl p] ∧ H P = some (.lst (pl.map V.str)) ∧ 1 ≤ pl.length ∧ pl.length ≤ 7 ∧ (∀ z ∈ pl, TxN 30 z) ∧ (0 ≤ k ∧ k < 40) ∧ ∀ x r H', Same H H' → RwT r → RuleAt H' x (clsOf t r.1) (.str r.2.1) (.str r.2.2.1) (r.2.2.2.map V.str) → Q (.ref x) H'
theorem lab_ok : ∀ k : Nat, k < 40 → OkS (Str.ofString "r" ++ Str.ofString (toString (k : Int))) := by
  intro k hk
  have h1 : PyData.strOk (Str.ofString "r" ++ Str.ofString (toString (k : Int))) = true := by
    revert k; decide +kernel
  have h2 : (Str.ofString "r" ++ Str.ofString (toString (k : Int))).length ≤ 40 := by
    revert k; decide +kernel
  exact ⟨h1, h2⟩
theorem add_sv {K : PySem.W.Frag} {l m : List Nat} {H : Hp} {Q : VK} (h : l.length + m.length ≤ 1000) (q : Q (sv (l ++ m)) H) : rAddA K (sv l) (sv m) H Q := by
  rw [rAddA_str, mk_app]
  exact ⟨by rw [mk_len, mk_len]; exact Nat.le_trans h (by decide), q⟩
theorem strs_p {P : Str → Prop} {ys : List V} (h : ∀ (i : Nat) (v : V), ys[i]? = some v → ∃ z, v = V.str z ∧ P z) : ∃ zs : List Str, ys = zs.map V.str ∧ ∀ z ∈ zs, P z := by
  induction ys with
  | nil => exact ⟨[], rfl, by simp⟩
  | cons y ys ih =>
    obtain ⟨zs, e, ho⟩ := ih fun i v e => h (i + 1) v e
    obtain ⟨z, ez, hz⟩ := h 0 y rfl
    refine ⟨z :: zs, by rw [e, ez]; rfl, fun x hx => ?_⟩
    rcases List.mem_cons.mp hx with w | w
    · rw [w]; exact hz
    · exact ho x w
theorem cut_1 (x : V) (xs : List V) : cutV (x :: xs) (some 1) none = xs := by
  unfold cutV HT.sIx
  simp
theorem newH {H0 : Hp} {x dx : Addr} {C : Addr} (h1 : H0 x = none) (h2 : H0 dx = none) : (Same H0 (upd (upd H0 dx (.own x)) x (.ins C dx []))) ∧ (upd (upd H0 dx (.own x)) x (.ins C dx [])) x = some (.ins C dx []) :=
  ⟨fun c o e => by rw [upd_ne (ne_of_none e h1), upd_ne (ne_of_none e h2)]; exact e, upd_same⟩
def PairsQ (H : Hp) (Q : VK) : Prop := ∀ (D : Addr) (ps : List V) (pl : List (Str × Str)) H', Same H H' → H D = none → H' D = some (.lst ps) → PrsAt H' ps pl → pl.length ≤ 60 → PlOk pl → Q (.ref D) H'
def RulesL (t : Adr) (H : Hp) (a : Addr) (zr : List VR) : Prop := H a = some (.lst (zr.map (·.1))) ∧ WsOk t H zr ∧ zr.length ≤ 30 ∧ ∀ p ∈ zr, RwT p.2
theorem RulesL.same {t : Adr} {H H' : Hp} {a : Addr} {zr : List VR} (s : Same H H') (h : RulesL t H a zr) : RulesL t H' a zr := ⟨s _ _ h.1, h.2.1.same s, h.2.2⟩
theorem RulesL.at {t : Adr} {H : Hp} {a : Addr} {zr : List VR} (h : RulesL t H a zr) {i : Nat} (hi : i < zr.length) : ∃ x, atI (zr.map (·.1)) (i : Int) = some (.ref x) ∧ RuleAt H x (clsOf t zr[i].2.1) (.str zr[i].2.2.1) (.str zr[i].2.2.2.1) (zr[i].2.2.2.2.map V.str) ∧ RwT zr[i].2 := by
  obtain ⟨h1, h2, h3, h4⟩ := h
  obtain ⟨⟨x, ex, hx⟩, ho⟩ := h2 _ (List.getElem_mem hi)
  refine ⟨x, ?_, hx, h4 _ (List.getElem_mem hi)⟩
  unfold atI ixN
  rw [if_pos (by omega), if_pos (by rw [List.length_map]; omega)]
  show (zr.map (·.1))[((i : Int)).toNat]? = _
  rw [Int.toNat_natCast, List.getElem?_map, List.getElem?_eq_getElem hi, ← ex]; rfl
def spPairs51 (t : Adr) : Sp := fun vs H Q _ => ∃ (a : Addr) (c : Int) (zr : List VR), vs = [.ref a, .int c] ∧ RulesL t H a zr ∧ PairsQ H Q
def spTurned (t : Adr) : Sp := fun vs H Q _ => ∃ (a : Addr) (c : Int) (zr : List VR), vs = [.ref a, .int c] ∧ RulesL t H a zr ∧ ∀ D zr' H', Same H H' → H D = none → RulesL t H' D zr' → Q (.ref D) H'
structure SceneAt (t : Adr) (H : Hp) (s T P E : Addr) (zr : List VR) (ps : List V) (pl : List (Str × Str)) (ev : List Str) : Prop where
  s : H s = some (.lst [.ref T, .ref P, .ref E])
  r : RulesL t H T zr
  p : H P = some (.lst ps)
  prs : PrsAt H ps pl
  po : PlOk pl
  pn : pl.length ≤ 60
  e : H E = some (.lst (ev.map V.str))
  eo : ∀ z ∈ ev, TxN 31 z
  en : 1 ≤ ev.length ∧ ev.length ≤ 14
theorem SceneAt.same {t : Adr} {H H' : Hp} {s T P E : Addr} {zr : List VR} {ps : List V} {pl : List (Str × Str)} {ev : List Str} (k : Same H H') (h : SceneAt t H s T P E zr ps pl ev) : SceneAt t H' s T P E zr ps pl ev :=
  ⟨k _ _ h.s, h.r.same k, k _ _ h.p, PrsAt.same k h.prs, h.po, h.pn, k _ _ h.e, h.eo, h.en⟩
def spScene (K : PySem.W.Frag) (t : Adr) : Sp := fun vs H Q _ => ∃ (a : Addr) (ns : List Int), vs = [.ref a, .int 30] ∧ SqL K H a (ns.map V.int) ∧ ns.length ≤ 63 ∧ ∀ s T P E zr ps pl ev H', Same H H' → SceneAt t H' s T P E zr ps pl ev → Q (.ref s) H'
def spStrR (s : Str) : Sp := fun vs H Q _ => ∃ x, vs = [x] ∧ Q (.str s) H
theorem spStrR_at {s : Str} {x : V} {H : Hp} {Q : VK} {E : XK} : spStrR s [x] H Q E ↔ Q (.str s) H := ⟨by rintro ⟨_, e, q⟩; cases e; exact q, fun q => ⟨_, rfl, q⟩⟩
theorem pick_word {kind : Nat} (h : kind < 4) : pick4 kind (spStrR "fact") (spStrR "sure") (spStrR "most") (spStrR "block") = spStrR (sortS kind) := by
  match kind, h with
  | 0, _ => rfl
  | 1, _ => rfl
  | 2, _ => rfl
  | 3, _ => rfl
def wOf (rl : List (Str × Str)) (w : Str) : List Str := (rl.filter fun p => decide (p.1 = w)).map (·.2)
def KeyAt (H : Hp) (D : Addr) (zs : List Str) : Prop := ∃ kvs, H D = some (.dK kvs) ∧ ∀ x : Str, (valV kvs (Sum.inr x : Key)).isSome = decide (x ∈ zs)
theorem KeyAt.some {H : Hp} {D : Addr} {zs : List Str} (h : KeyAt H D zs) : SomeAt H (.ref D) zs := let ⟨k, a, b⟩ := h; .inr ⟨D, k, rfl, a, b⟩
theorem KeyAt.same {H H' : Hp} {D : Addr} {zs : List Str} (s : Same H H') (h : KeyAt H D zs) : KeyAt H' D zs := let ⟨k, a, b⟩ := h; ⟨k, s _ _ a, b⟩
def spKeyed : Sp := fun vs H Q _ => ∃ (a : Addr) (zs : List Str), vs = [.ref a] ∧ H a = some (.lst (zs.map V.str)) ∧ zs.length ≤ 100 ∧ ∀ D H', Same H H' → KeyAt H' D zs → Q (.ref D) H'
def spWithWord : Sp := fun vs H Q _ => ∃ (a : Addr) (w : Str) (ps : List V) (rl : List (Str × Str)), vs = [.ref a, .str w] ∧ H a = some (.lst ps) ∧ PrsAt H ps rl ∧ rl.length ≤ 60 ∧ ∀ D H', Same H H' → KeyAt H' D (wOf rl w) → Q (.ref D) H'
def dueB (rs : List Rw) (pl : List (Str × Str)) (S : List Str) (rl : List (Str × Str)) (b : Bool) (q : Str) : Bool := if b then holdsB rs pl S (wOf rl "held") (wOf rl "refused") q else refB rs pl S (wOf rl "held") (wOf rl "refused") q
def clW (b : Bool) : Str := if b then "held" else "refused"
def spFollows (t : Adr) : Sp := fun vs H Q _ => ∃ (g a c : Addr) (v1 : V) (rs : List Rw) (pl rl : List (Str × Str)) (ps : List V) (S : List Str) (b : Bool) (q : Str), vs = [.ref g, v1, .ref a, .ref c] ∧ GrAt t H g rs pl ∧ (∀ r ∈ rs, RwOk r) ∧ rs.length ≤ 63 ∧ SomeAt H v1 S ∧ H a = some (.lst ps) ∧ PrsAt H ps rl ∧ rl.length ≤ 60 ∧ H c = some (.tup [.str (clW b), .str q]) ∧ q.length ≤ 100 ∧ ∀ H', Same H H' → Q (.bl (dueB rs pl S rl b q)) H'
def spStands (t : Adr) (f : List Str → List Str → Bool) : Sp := fun vs H Q _ => ∃ (x a : Addr) (r : Rw) (U : List Str), vs = [.ref x, .ref a] ∧ RuAt t H (.ref x) r ∧ RwOk r ∧ H a = some (.lst (U.map V.str)) ∧ ∀ H', Same H H' → Q (.bl (f r.2.2.2 U)) H'
def RulesQ (t : Adr) (H : Hp) (rs : List Rw) (Q : VK) : Prop := ∀ D (zr : List VR) H', Same H H' → H' D = some (.lst (zr.map (·.1))) → WsOk t H' zr → zr.length ≤ 30 → zr.map (·.2) = rs → Q (.ref D) H'
def spSpk (t : Adr) : Sp := fun vs H Q _ => ∃ (s T P E : Addr) (zr : List VR) (ps : List V) (pl : List (Str × Str)) (ev : List Str) (q : Str), vs = [.ref s, .str q] ∧ SceneAt t H s T P E zr ps pl ev ∧ RulesQ t H ((hdF (zr.map (·.2)) q).filter spk) Q
def spAgn (t : Adr) : Sp := fun vs H Q _ => ∃ (s T P E : Addr) (zr : List VR) (ps : List V) (pl : List (Str × Str)) (ev : List Str) (q : Str), vs = [.ref s, .str q] ∧ SceneAt t H s T P E zr ps pl ev ∧ TxN 31 q ∧ RulesQ t H (hdF (zr.map (·.2)) (oppS q)) Q
def spBtn (t : Adr) : Sp := fun vs H Q _ => ∃ (s T P E x L : Addr) (zr : List VR) (ps : List V) (pl : List (Str × Str)) (ev : List Str) (r : Rw) (zo : List VR), vs = [.ref s, .ref x, .ref L] ∧ SceneAt t H s T P E zr ps pl ev ∧ RuAt t H (.ref x) r ∧ RwOk r ∧ H L = some (.lst (zo.map (·.1))) ∧ WsOk t H zo ∧ zo.length ≤ 30 ∧ ∀ H', Same H H' → Q (.bl (btn pl (zo.map (·.2)) r)) H'
def spMay (t : Adr) (f : List Rw → List (Str × Str) → List Str → List Str → List Str → Str → Bool) : Sp := fun vs H Q _ => ∃ (s T P E a1 a2 a3 : Addr) (zr : List VR) (ps : List V) (pl : List (Str × Str)) (ev : List Str) (S U D : List Str) (q : Str), vs = [.ref s, .ref a1, .ref a2, .ref a3, .str q] ∧ SceneAt t H s T P E zr ps pl ev ∧ TxN 31 q ∧ H a1 = some (.lst (S.map V.str)) ∧ H a2 = some (.lst (U.map V.str)) ∧ H a3 = some (.lst (D.map V.str)) ∧ ∀ H', Same H H' → Q (.bl (f (zr.map (·.2)) pl S U D q)) H'
def spGood (t : Adr) : Sp := fun vs H Q _ => ∃ (g s T P E a1 a2 : Addr) (zr : List VR) (ps : List V) (pl : List (Str × Str)) (ev S : List Str) (qs : List V) (rl : List (Str × Str)), vs = [.ref g, .ref s, .ref a1, .ref a2] ∧ GrAt t H g (zr.map (·.2)) pl ∧ SceneAt t H s T P E zr ps pl ev ∧ H a1 = some (.lst (S.map V.str)) ∧ H a2 = some (.lst qs) ∧ PrsAt H qs rl ∧ rl.length ≤ 60 ∧ ∀ H', Same H H' → Q (.bl true) H'
theorem slen_app (a b : Str) : (a ++ b).length = a.length + b.length := by
  show (a.cps ++ b.cps).size = _
  exact Array.size_append
theorem at_map {α : Type} {f : α → V} {l : List α} {i : Nat} {v : V} (h : (l.map f)[i]? = some v) : ∃ hi : i < l.length, v = f l[i] := by
  rw [List.getElem?_map] at h
  obtain ⟨y, e, rfl⟩ := Option.map_eq_some_iff.mp h
  obtain ⟨hi, rfl⟩ := List.getElem?_eq_some_iff.mp e
  exact ⟨hi, rfl⟩
theorem PrsAt.at {H : Hp} {ps : List V} {rl : List (Str × Str)} (h : PrsAt H ps rl) {i : Nat} (hi : i < rl.length) : ∃ x, ps[i]? = some (.ref x) ∧ H x = some (.tup [.str rl[i].1, .str rl[i].2]) := by
  obtain ⟨as, rfl, hl, hat⟩ := h
  have hi' : i < as.length := by omega
  exact ⟨as[i], by rw [List.getElem?_map, List.getElem?_eq_getElem hi']; rfl, hat i _ _ (List.getElem?_eq_getElem hi') (List.getElem?_eq_getElem hi)⟩
theorem PrsAt.len {H : Hp} {ps : List V} {rl : List (Str × Str)} (h : PrsAt H ps rl) : ps.length = rl.length := by
  obtain ⟨as, rfl, hl, _⟩ := h
  rw [List.length_map]; exact hl
theorem comp_prs {K : PySem.W.Frag} {a : Addr} {js : List (Option Nat)} {tt : TT} {te : TE} {σ : St} {H : Hp} {Q : VK} {ps : List V} {rl : List (Str × Str)} (ha : H a = some (.lst ps)) (hP : PrsAt H ps rl) (hl : rl.length ≤ 1000) (σr : St) (hσ : pickS js σ = none :: σr) (P : Str × Str → Bool) (g : Str × Str → V)
    (hs : ∀ (x : Addr) (p : Str × Str) H' (R : Bool → Hp → Prop), H' x = some (.tup [.str p.1, .str p.2]) → Same H H' → (∀ H'', Same H' H'' → R (P p) H'') → tt (some (.ref x) :: σr) H' R)
    (he : ∀ (x : Addr) (p : Str × Str) H' (R : V → Hp → Prop), H' x = some (.tup [.str p.1, .str p.2]) → Same H H' → (∀ H'', Same H' H'' → R (g p) H'') → te (some (.ref x) :: σr) H' R)
    (hd : ∀ D H', H D = none → Same H H' → H' D = some (.lst ((rl.filter P).map g)) → Q (.ref D) H') : CompW (Itl K a) js (gName 0) tt te σ H Q := by
  let d0 : Str × Str := ("", "")
  have hpl := PrsAt.len hP
  refine comp_f (src_list (xs := ps)) (Nat.le_trans (show ps.length ≤ 1000 by omega) (by decide)) σr hσ (fun i => P ((rl[i]?).getD d0)) (fun i => g ((rl[i]?).getD d0)) (fun H' s => SqL.of (s _ _ ha)) (fun i H' R hi s hR => ?_) (fun i H' R hi s hR => ?_) (fun D H' hD s h => ?_)
  · have hi' : i < rl.length := by omega
    obtain ⟨x, ex, hx⟩ := PrsAt.at hP hi'
    rw [ex, Option.getD_some]
    rw [List.getElem?_eq_getElem hi', Option.getD_some] at hR
    exact hs x _ H' R (s _ _ hx) s hR
  · have hi' : i < rl.length := by omega
    obtain ⟨x, ex, hx⟩ := PrsAt.at hP hi'
    rw [ex, Option.getD_some]
    rw [List.getElem?_eq_getElem hi', Option.getD_some] at hR
    exact he x _ H' R (s _ _ hx) s hR
  · rw [hpl, range_filter d0 P g rl] at h
    exact hd D H' hD s h
theorem mem_take1 {α : Type} {l : List α} {i : Nat} (hi : i < l.length) (x : α) : x ∈ l.take (i + 1) ↔ x ∈ l.take i ∨ x = l[i] := by
  rw [List.take_succ_eq_append_getElem hi, List.mem_append, List.mem_singleton]
theorem RulesL.at2 {t : Adr} {H : Hp} {a : Addr} {zr : List VR} (h : RulesL t H a zr) {k : Int} (h0 : 0 ≤ k) (h1 : k < zr.length) : ∃ x r, atI (zr.map (·.1)) k = some (.ref x) ∧ RuleAt H x (clsOf t r.1) (.str r.2.1) (.str r.2.2.1) (r.2.2.2.map V.str) ∧ RwT r := by
  obtain ⟨n, rfl⟩ : ∃ n : Nat, k = (n : Int) := ⟨k.toNat, by omega⟩
  obtain ⟨x, e, hx, hr⟩ := h.at (i := n) (by omega)
  exact ⟨x, _, e, hx, hr⟩
theorem zr_of {t : Adr} {D : Addr} {H : Hp} : ∀ {ys : List V}, (∀ (i : Nat) v, ys[i]? = some v → ∃ r, RwT r ∧ RuD t D v r H) → ∃ zr : List VR, zr.map (·.1) = ys ∧ WsOk t H zr ∧ ∀ p ∈ zr, RwT p.2
  | [], _ => ⟨[], rfl, fun p hp => absurd hp List.not_mem_nil, fun p hp => absurd hp List.not_mem_nil⟩
  | y :: ys, h => by
    obtain ⟨zr, e, hw, hr⟩ := zr_of (ys := ys) fun i v e => h (i + 1) v e
    obtain ⟨r, hrt, p, dx, t0, ev, _, _, h1, h2⟩ := h 0 y rfl
    refine ⟨(y, r) :: zr, by rw [List.map_cons, e], fun q hq => ?_, fun q hq => ?_⟩
    · rcases List.mem_cons.mp hq with z | z
      · rw [z]; exact ⟨⟨p, ev, dx, t0, h1, h2⟩, hrt.1⟩
      · exact hw q z
    · rcases List.mem_cons.mp hq with z | z
      · rw [z]; exact hrt
      · exact hr q z
theorem cut_3 (ns : List Int) : ∃ cs : List Int, cutV (ns.map V.int) (some 3) (some (3 + 30)) = cs.map V.int ∧ cs.length ≤ 30 := by
  unfold cutV
  refine ⟨(ns.drop (HT.sIx (ns.map V.int).length 0 (some 3))).take (HT.sIx (ns.map V.int).length (ns.map V.int).length (some (3 + 30)) - HT.sIx (ns.map V.int).length 0 (some 3)), by rw [List.map_take, List.map_drop], ?_⟩
  rw [List.length_take]
  refine Nat.le_trans (Nat.min_le_left _ _) ?_
  rw [show (some (3 + 30 : Int)) = some ((33 : Nat) : Int) from rfl, show (some (3 : Int)) = some ((3 : Nat) : Int) from rfl, HT.sIx_nat, HT.sIx_nat]
  omega
theorem denPrs {K : PySem.W.Frag} {H : Hp} : ∀ {xs : List V} {ps : List (Str × Str)}, PrsAt H xs ps → DenAll K H xs (ps.map fun p => PyData.tuple [.str p.1, .str p.2])
  | [], [], _ => .nil
  | [], _ :: _, h => by have := PrsAt.len h; simp at this
  | _ :: _, [], h => by have := PrsAt.len h; simp at this
  | x :: xs, p :: ps, h => by
    obtain ⟨y, e, hy⟩ := PrsAt.at h (i := 0) (by simp)
    cases e
    obtain ⟨as, ea, hl, hat⟩ := h
    cases as with
    | nil => cases ea
    | cons b bs =>
      have e2 : xs = bs.map V.ref := (List.cons.inj ea).2
      exact .cons (.tup (SqT.of hy) (.cons (.str _) (.cons (.str _) .nil))) (denPrs ⟨bs, e2, by simpa using hl, fun i a q e1 e3 => hat (i + 1) a q e1 e3⟩)
theorem canP : ∀ ps : List (Str × Str), (∀ p ∈ ps, PyData.strOk p.1 = true ∧ PyData.strOk p.2 = true) → PyData.canLayAll0 (ps.map fun p => PyData.tuple [.str p.1, .str p.2]) = true ∧ PyData.depthAll (ps.map fun p => PyData.tuple [.str p.1, .str p.2]) ≤ 1
  | [], _ => ⟨rfl, by decide⟩
  | p :: ps, h => by
    obtain ⟨a, b⟩ := canP ps fun p hp => h p (List.mem_cons_of_mem _ hp)
    obtain ⟨c, d⟩ := canS [p.1, p.2] (by
      intro z hz
      rcases List.mem_cons.mp hz with e | e
      · rw [e]; exact (h p List.mem_cons_self).1
      · rw [List.mem_singleton.mp e]; exact (h p List.mem_cons_self).2)
    refine ⟨?_, ?_⟩
    · show (PyData.canLay0 (.tuple [.str p.1, .str p.2]) && _) = true
      rw [a, Bool.and_true]; exact c
    · show max (PyData.depth (.tuple [.str p.1, .str p.2])) _ ≤ 1
      have : PyData.depth (.tuple [.str p.1, .str p.2]) = 1 := rfl
      rw [this]; exact Nat.max_le.mpr ⟨Nat.le_refl _, b⟩
theorem shapedP {ps : List (Str × Str)} (h : ∀ p ∈ ps, PyData.strOk p.1 = true ∧ PyData.strOk p.2 = true) : SeqAt.shaped (.list (ps.map fun p => PyData.tuple [.str p.1, .str p.2])) = true := by
  obtain ⟨a, b⟩ := canP ps h
  unfold SeqAt.shaped
  simp only [PyData.canLay0, PyData.depth, a, Bool.true_and, decide_eq_true_eq]
  exact decide_eq_true (by omega)
theorem sort_spk {k : Nat} (h : k < 4) : (!decide (sortS k = Str.ofString "block")) = decide (k < 3) := by
  match k, h with
  | 0, _ => decide +kernel
  | 1, _ => decide +kernel
  | 2, _ => decide +kernel
  | 3, _ => decide +kernel
theorem comp_pr2 {K : PySem.W.Frag} {a : Addr} {js : List (Option Nat)} {σ : St} {H : Hp} {Q : VK} {ps : List V} {rl : List (Str × Str)} (ha : H a = some (.lst ps)) (hP : PrsAt H ps rl) (hl : rl.length ≤ 1000) (hσ : pickS js σ = [none, none]) (w : Str)
    (hd : ∀ D H', H D = none → Same H H' → H' D = some (.lst ((wOf rl w).map V.str)) → Q (.ref D) H') : CompW (Itl K a) js (gTup K 2 (gCons (gName 0) (gCons (gName 1) gNil))) (tTest (tOp (rEqH K) (tVar 0) (tC (V.str w)))) (tVar 1) σ H Q := by
  let d0 : Str × Str := ("", "")
  have hpl := PrsAt.len hP
  refine comp_g (src_list (xs := ps)) (Nat.le_trans (show ps.length ≤ 1000 by omega) (by decide)) (fun σ => σ.length = 2) (fun i => [some (V.str ((rl[i]?).getD d0).1), some (V.str ((rl[i]?).getD d0).2)]) (by rw [hσ]; rfl) (fun i _ => rfl) (fun i => decide (((rl[i]?).getD d0).1 = w)) (fun i => V.str ((rl[i]?).getD d0).2) (fun H' s => SqL.of (s _ _ ha)) (fun i σ' H' R hi s hp hR => ?_) (fun i H' R hi s hR => ?_) (fun i H' R hi s hR => ?_) (fun D H' hD s h => ?_)
  · have hi' : i < rl.length := by omega
    obtain ⟨x, ex, hx⟩ := PrsAt.at hP hi'
    rw [ex, Option.getD_some]
    rw [List.getElem?_eq_getElem hi', Option.getD_some] at hR
    match σ', hp with
    | [u, v], _ => exact ⟨x, _, rfl, SqT.of (s _ _ hx), rfl, _, _, rfl, _, _, rfl, rfl, hR⟩
  · exact ⟨_, rfl, rEqH_str.mpr ⟨_, rfl, hR _ (Same.refl _)⟩⟩
  · exact ⟨_, rfl, hR _ (Same.refl _)⟩
  · rw [hpl, range_filter d0 (fun p => decide (p.1 = w)) (fun p => V.str p.2) rl] at h
    refine hd D H' hD s ?_
    unfold wOf
    rw [List.map_map]; exact h
theorem PrsAt.rev {H : Hp} {xs : List V} {pl : List (Str × Str)} (h : PrsAt H xs pl) : PrsAt H xs.reverse pl.reverse := by
  obtain ⟨as, rfl, hl, hat⟩ := h
  refine ⟨as.reverse, by rw [List.map_reverse], by simp [hl], fun i a p e1 e2 => ?_⟩
  have hi : i < as.length := by have := (List.getElem?_eq_some_iff.mp e1).1; simpa using this
  rw [List.getElem?_reverse hi] at e1
  rw [List.getElem?_reverse (by omega), ← hl] at e2
  exact hat _ _ _ e1 e2
theorem ne_same {K : PySem.W.Frag} {b c : Bool} {H : Hp} {Q : VK} (e : b = c) (q : Q (.bl false) H) : rNeH K (.bl b) (.bl c) H Q := by
  subst e
  refine .inl ⟨rfl, ?_⟩
  rw [decide_eq_true rfl]; exact q
def spLaw (K : PySem.W.Frag) : Sp := fun vs H Q _ => ∃ (a : Addr) (ns : List Int), vs = [.ref a] ∧ SqL K H a (ns.map V.int) ∧ ns.length ≤ 63 ∧ ∀ H', Q (.bl true) H'
theorem spLaw_of {K : PySem.W.Frag} {H : Hp} {a : Addr} {ns : List Int} (hl : ns.length ≤ 63) (_ : Only H) (hS : SqL K H a (ns.map V.int)) : spLaw K [.ref a] H (fun v _ => v = .bl true) fun _ _ _ => False := ⟨a, ns, rfl, hS, hl, fun _ => rfl⟩
end K51
namespace K51
open PySem L2 Tx
section
variable {P : Program} {w : World} {K : PySem.W.Frag} {mg : Str → Option Value} {base : Heap} {t : Adr}
theorem ok_c_Ground_init (T : Txt K mg t) : FnOk P w K mg base CX0 1 t.f_c_Ground_init t.fd_c_Ground_init ["self", "rules", "pairs"] (spGrI t) := by
  refine T.F_c_Ground_init.ok sc_c_Ground_init (fun vs H Q E h => ?_) (fun cdv A outer s H vs Q E hr h => ?_)
  · obtain ⟨x, dx, b, pb, xs, rs, ps, pl, rfl, hx, hb, hA, hO, hrl, hpb, hPr, hpll, q⟩ := h; rfl
  · obtain ⟨x, dx, b, pb, xs, rs, ps, pl, rfl, hx, hb, hA, hO, hrl, hpb, hPr, hpll, q⟩ := h
    refine ⟨_, (@pss_cons _ _ _ _ _ (@ps_fld _ _ _ _ _ _ _ _ (@pv _ 0 _ _ (by rfl) (by first | exact vis0 rfl | exact vis1 rfl | exact vis2 rfl) (by decide) (by decide)) (@pe_callTy _ _ _ _ _ _ _ _ _ call_tupOf rfl T.z_tuple boot_tupleT (@pa_cons _ _ _ _ _ (@pv _ 1 _ _ (by rfl) (by first | exact vis0 rfl | exact vis1 rfl | exact vis2 rfl) (by decide) (by decide)) (@pa_nil _) (by rfl)) (by decide) (by decide) (by rfl) (by rfl)) rfl) (@pss_cons _ _ _ _ _ (@ps_fld _ _ _ _ _ _ _ _ (@pv _ 0 _ _ (by rfl) (by first | exact vis0 rfl | exact vis1 rfl | exact vis2 rfl) (by decide) (by decide)) (@pe_dnewK _ _) rfl) (@pss_cons _ _ _ _ _ (@ps_for _ _ _ _ _ _ _ _ PassesOwn.never rfl (@pi_tup _ _ _ _ (@pe_fld _ _ _ _ _ (@pv _ 0 _ _ (by rfl) (by first | exact vis0 rfl | exact vis1 rfl | exact vis2 rfl) (by decide) (by decide)) rfl)) (@pg_name _ _ (3) _ sc_c_Ground_init.nd rfl (by first | exact Or.inl rfl | exact Or.inr rfl) (by first | exact Or.inl rfl | exact Or.inr rfl | assumption)) (@pss_one _ _ _ (@ps_expr _ _ _ _ (@pe_bm _ _ _ _ _ _ _ _ _ _ _ _ PySem.F.plainAttrs_list PySem.F.slot_list_append PySem.F.type_list_append mt_append (@pe_dsetd _ _ _ _ _ _ _ _ _ (@pe_fld _ _ _ _ _ (@pv _ 0 _ _ (by rfl) (by first | exact vis0 rfl | exact vis1 rfl | exact vis2 rfl) (by decide) (by decide)) rfl) (@pe_fld _ _ _ _ _ (@pv _ 3 _ _ (by rfl) (by first | exact vis0 rfl | exact vis1 rfl | exact vis2 rfl) (by decide) (by decide)) rfl) (@pe_lst _ _ _ _ (@pa_nil _)) ⟨rfl, rfl, rfl, rfl⟩) (@pa_cons _ _ _ _ _ (@pv _ 3 _ _ (by rfl) (by first | exact vis0 rfl | exact vis1 rfl | exact vis2 rfl) (by decide) (by decide)) (@pa_nil _) (by rfl)) (by rfl) (by rfl) (by rfl) (by rfl) (by rfl)) (by rfl))) (by intro _ ; rfl)) (@pss_cons _ _ _ _ _ (@ps_fld _ _ _ _ _ _ _ _ (@pv _ 0 _ _ (by rfl) (by first | exact vis0 rfl | exact vis1 rfl | exact vis2 rfl) (by decide) (by decide)) (@pe_dnewT _ _) rfl) (@pss_one _ _ _ (@ps_for _ _ _ _ _ _ _ _ PassesOwn.never rfl (@pi_list _ _ _ _ (@pv _ 2 _ _ (by rfl) (by first | exact vis0 rfl | exact vis1 rfl | exact vis2 rfl) (by decide) (by decide))) (@pg_name _ _ (4) _ sc_c_Ground_init.nd rfl (by first | exact Or.inl rfl | exact Or.inr rfl) (by first | exact Or.inl rfl | exact Or.inr rfl | assumption)) (@pss_one _ _ _ (@ps_dput _ _ _ _ _ _ _ _ _ (hu_of hr) (@pe_fld _ _ _ _ _ (@pv _ 0 _ _ (by rfl) (by first | exact vis0 rfl | exact vis1 rfl | exact vis2 rfl) (by decide) (by decide)) rfl) (@pe_tup _ _ _ _ _ (@pa_cons _ _ _ _ _ (@pe_ix _ _ _ _ _ _ _ ix_seq (@pv _ 4 _ _ (by rfl) (by first | exact vis0 rfl | exact vis1 rfl | exact vis2 rfl) (by decide) (by decide)) (@pe_int _ _ _ _) (fun _ _ => rfl)) (@pa_cons _ _ _ _ _ (@pe_ix _ _ _ _ _ _ _ ix_seq (@pv _ 4 _ _ (by rfl) (by first | exact vis0 rfl | exact vis1 rfl | exact vis2 rfl) (by decide) (by decide)) (@pe_int _ _ _ _) (fun _ _ => rfl)) (@pa_nil _) (by rfl)) (by rfl))) (@pe_bl _ _ _ _) rfl)) (by intro _ ; rfl))))))), ?_⟩
    rw [show start n_c_Ground_init [V.ref x, V.ref b, V.ref pb] = [some (V.ref x), some (V.ref b), some (V.ref pb), none, none] from rfl]
    have hxl := hA.len
    try simp only [tSeq, sFld, tCB, tCons, tVar, List.getElem?_cons_succ, List.getElem?_cons_zero, tNil, tDNewK, tFor_eq, iTup, tFld, exSlot]
    refine ⟨b, xs, rfl, .inl ⟨SqL.of hb, fun io hio => ?_⟩⟩
    obtain ⟨H1, e1, s1, h1⟩ := newO hio (.tup xs); rw [e1]
    have hiox : io ≠ x := fun z => by rw [z, hx] at hio; cases hio
    refine ⟨x, t.C_Ground, dx, _, rfl, s1 _ _ hx, T.cl_Ground, T.nf_Ground_in_order, by show 0 < 1000; decide, ?_⟩
    obtain ⟨H2, e2, k2, h2x, h2io⟩ : ∃ H', upd H1 x (.ins t.C_Ground dx (putF "in_order" (.ref io) [])) = H' ∧ (∀ c o, H c = some o → c ≠ x → H' c = some o) ∧ H' x = some (.ins t.C_Ground dx (putF "in_order" (.ref io) [])) ∧ H' io = some (.tup xs) := ⟨_, rfl, fun c o e hc => by rw [upd_ne hc]; exact s1 _ _ e, upd_same, by rw [upd_ne hiox]; exact h1⟩
    rw [e2]
    intro bh hbh
    obtain ⟨H3, e3, s3, h3⟩ := newO hbh (.dK []); rw [e3]
    have hbhx : bh ≠ x := fun z => by rw [z, h2x] at hbh; cases hbh
    have hbhn : H bh = none := by
      cases e : H bh with
      | none => rfl
      | some o => rw [k2 _ _ e hbhx] at hbh; cases hbh
    refine ⟨x, t.C_Ground, dx, _, rfl, s3 _ _ h2x, T.cl_Ground, T.nf_Ground_by_head, by show 1 < 1000; decide, ?_⟩
    have e2f : putF "by_head" (V.ref bh) (putF "in_order" (V.ref io) []) = ([("in_order", V.ref io), ("by_head", V.ref bh)] : List (Str × V)) := by
      show (if ("in_order" : Str) = "by_head" then _ else _) = _
      rw [if_neg (by decide +kernel)]; rfl
    obtain ⟨H4, e4, k4, h4x, h4io, h4bh⟩ : ∃ H', upd H3 x (.ins t.C_Ground dx (putF "by_head" (.ref bh) (putF "in_order" (.ref io) []))) = H' ∧ (∀ c o, H c = some o → c ≠ x → H' c = some o) ∧ H' x = some (.ins t.C_Ground dx (putF "by_head" (.ref bh) (putF "in_order" (.ref io) []))) ∧ H' io = some (.tup xs) ∧ H' bh = some (.dK []) :=
      ⟨_, rfl, fun c o e hc => by rw [upd_ne hc]; exact s3 _ _ (k2 c o e hc), upd_same, by rw [upd_ne hiox]; exact s3 _ _ h2io, by rw [upd_ne hbhx]; exact h3⟩
    rw [e4]
    have lio : (putF "by_head" (V.ref bh) (putF "in_order" (V.ref io) [])).lookup ("in_order" : Str) = some (V.ref io) := by rw [lookup_putF, if_neg (by decide +kernel), lookup_putF, if_pos rfl]
    have lbh : (putF "by_head" (V.ref bh) (putF "in_order" (V.ref io) [])).lookup ("by_head" : Str) = some (V.ref bh) := by rw [lookup_putF, if_pos rfl]
    refine ⟨x, _, dx, _, _, rfl, h4x, T.cl_Ground, T.nf_Ground_in_order, lio, ?_⟩
    try simp only [exRef]
    refine ⟨⟨_, SqT.of h4io⟩, ?_⟩
    refine for_tup (K := K) (a := io) (xs := xs) (fun i σ H' => ∃ (kvs : List (Key × V)) (y3 : Option V), σ = [some (V.ref x), some (V.ref b), some (V.ref pb), y3, none] ∧ (∀ c o, H c = some o → c ≠ x → H' c = some o) ∧ H' x = some (.ins t.C_Ground dx (putF "by_head" (.ref bh) (putF "in_order" (.ref io) []))) ∧ H' io = some (.tup xs) ∧ H' bh = some (.dK kvs) ∧ kvs.length ≤ i ∧
        (∀ h : Str, (valV kvs (Sum.inr h : Key) = none ∧ hdF (rs.take i) h = []) ∨ ∃ L ys, valV kvs (Sum.inr h : Key) = some (.ref L) ∧ H L = none ∧ H' L = some (.lst ys) ∧ ys.length ≤ i ∧ RuAll t H ys (hdF (rs.take i) h)) ∧
        (∀ (h h' : Str) (L : Addr), valV kvs (Sum.inr h : Key) = some (.ref L) → valV kvs (Sum.inr h' : Key) = some (.ref L) → h = h'))
      ⟨[], _, rfl, k4, h4x, h4io, h4bh, Nat.le_refl _, fun h => .inl ⟨rfl, rfl⟩, fun h h' L e => by cases e⟩ (fun i σ H' _ h => by obtain ⟨_, _, _, _, _, h, _⟩ := h; exact SqT.of h) ?_ ?_
    · rintro i v σ H5 hi ⟨kvs, y3, rfl, k5, h5x, h5io, h5bh, hkl, hF, hinj⟩
      have hil : i < rs.length := by rw [← hA.len]; exact (List.getElem?_eq_some_iff.mp hi).1
      obtain ⟨v', ev, p, rfl, hp⟩ := hA.get i rs[i] (List.getElem?_eq_getElem hil)
      rw [hi] at ev; cases ev
      have hro := hO _ (List.getElem_mem hil)
      have CF := clsF T hro.1
      have hru : RuAt t H (.ref p) rs[i] := ⟨p, rfl, hp⟩
      have esn : ∀ h, hdF (rs.take (i + 1)) h = hdF (rs.take i) h ++ (if rs[i].2.2.1 = h then [rs[i]] else []) := fun h => by
        unfold hdF
        rw [List.take_succ_eq_append_getElem hil, List.filter_append, List.filter_cons]
        by_cases z : rs[i].2.2.1 = h
        · rw [if_pos z, if_pos (decide_eq_true z)]; rfl
        · rw [if_neg z, if_neg (by simpa using z)]; rfl
      generalize rs[i] = r at hp hro CF hru esn
      obtain ⟨dx', t0, hp1, hp2⟩ := hp
      have hpx : p ≠ x := fun z => by
        rw [z, hx] at hp1
        injection hp1 with hp1
        injection hp1 with _ _ h3
        have := flds_head (.str r.2.1) (.str r.2.2.1) t0
        rw [← h3] at this; cases this
      have hp5 := k5 _ _ hp1 hpx
      try simp only [gName, tDrop, tBM, tDSetd, tFld, tVar, List.set_cons_succ, List.set_cons_zero, List.getElem?_cons_zero, List.getElem?_cons_succ, tLst, tNil, tCons, exSlot]
      refine ⟨x, _, dx, _, _, rfl, h5x, T.cl_Ground, T.nf_Ground_by_head, lbh, ?_⟩
      try simp only [exRef]
      refine ⟨isD_of h5bh, p, _, dx', _, _, rfl, hp5, CF.cl, CF.nh, flds_head _ _ _, by decide, fun N hN => ?_⟩
      obtain ⟨H6, e6, s6, h6⟩ := newO hN (.lst []); rw [e6]
      have hNx : N ≠ x := fun z => by rw [z, h5x] at hN; cases hN
      have hNio : N ≠ io := fun z => by rw [z, h5io] at hN; cases hN
      have hNbh : N ≠ bh := fun z => by rw [z, h5bh] at hN; cases hN
      have hNn : H N = none := by
        cases e : H N with
        | none => rfl
        | some o => rw [k5 _ _ e hNx] at hN; cases hN
      refine ⟨kvs, Sum.inr r.2.2.1, s6 _ _ h5bh, rfl, Nat.lt_of_le_of_lt (show kvs.length ≤ 1000 by omega) (by decide), fun u hu => ?_, fun hu => ?_⟩
      · rcases hF r.2.2.1 with ⟨e, _⟩ | ⟨L, ys, e, hLn, hL5, hyl, hR⟩
        · rw [e] at hu; cases hu
        rw [e] at hu; cases hu
        have hL6 := s6 _ _ hL5
        have hLx : L ≠ x := ne_of hL5 h5x (by intro z; cases z)
        have hLio : L ≠ io := ne_of hL5 h5io (by intro z; cases z)
        have hLbh : L ≠ bh := ne_of hL5 h5bh (by intro z; cases z)
        try skip
        refine ⟨.inl ⟨rfl, _, SqL.of hL6⟩, L, _, _, rfl, rfl, hL6, Nat.lt_of_le_of_lt (show ys.length ≤ 1000 by omega) (by decide), ?_⟩
        refine ⟨kvs, _, rfl, fun c o e hc => ?_, ?_, ?_, ?_, by omega, fun h => ?_, hinj⟩
        · rw [upd_ne (ne_of_none e hLn)]; exact s6 _ _ (k5 c o e hc)
        · rw [upd_ne hLx.symm]; exact s6 _ _ h5x
        · rw [upd_ne hLio.symm]; exact s6 _ _ h5io
        · rw [upd_ne hLbh.symm]; exact s6 _ _ h5bh
        · rw [esn]
          by_cases z : r.2.2.1 = h
          · subst z
            rw [if_pos rfl]
            refine .inr ⟨L, ys ++ [V.ref p], e, hLn, upd_same, by simp; omega, ?_⟩
            refine ⟨by simp [hR.len], fun j r' ej => ?_⟩
            by_cases hj : j < (hdF (rs.take i) r.2.2.1).length
            · rw [List.getElem?_append_left hj] at ej
              rw [List.getElem?_append_left (by rw [hR.len]; exact hj)]
              exact hR.get j r' ej
            · rw [List.getElem?_append_right (by omega)] at ej
              rw [List.getElem?_append_right (by rw [hR.len]; omega), hR.len]
              have hj0 := (List.getElem?_eq_some_iff.mp ej).1
              have ej0 : j - (hdF (rs.take i) r.2.2.1).length = 0 := by simp at hj0; omega
              rw [ej0] at ej ⊢
              cases ej
              exact ⟨_, rfl, hru⟩
          · rw [if_neg z, List.append_nil]
            rcases hF h with ⟨e', g⟩ | ⟨L', ys', e', g1, g2, g3, g4⟩
            · exact .inl ⟨e', g⟩
            · refine .inr ⟨L', ys', e', g1, ?_, by omega, g4⟩
              have : L' ≠ L := fun w => z (hinj _ _ L e (by rw [← w]; exact e'))
              rw [upd_ne this]; exact s6 _ _ g2
      · try skip
        have hbN : bh ≠ N := hNbh.symm
        refine ⟨.inl ⟨rfl, _, SqL.of (show upd H6 bh (.dK (putK kvs (Sum.inr r.2.2.1) (V.ref N))) N = some (.lst []) by rw [upd_ne hNbh]; exact h6)⟩, N, _, _, rfl, rfl, (by rw [upd_ne hNbh]; exact h6), by decide, ?_⟩
        have kvl := length_putK kvs (Sum.inr r.2.2.1 : Key) (V.ref N)
        refine ⟨putK kvs (Sum.inr r.2.2.1) (V.ref N), _, rfl, fun c o e hc => ?_, ?_, ?_, ?_, by omega, fun h => ?_, fun h h' L e1 e2 => ?_⟩
        · rw [upd_ne (ne_of_none e hNn), upd_ne (ne_of_none e hbhn)]; exact s6 _ _ (k5 c o e hc)
        · rw [upd_ne hNx.symm, upd_ne hbhx.symm]; exact s6 _ _ h5x
        · rw [upd_ne hNio.symm, upd_ne (ne_of h5io h5bh (by intro z; cases z))]; exact s6 _ _ h5io
        · rw [upd_ne hbN, upd_same]
        · rw [esn, valV_put]
          by_cases z : r.2.2.1 = h
          · subst z
            rw [if_pos rfl, if_pos rfl]
            rcases hF r.2.2.1 with ⟨e', g⟩ | ⟨L', ys', e', _⟩
            · rw [g]
              refine .inr ⟨N, [V.ref p], rfl, hNn, upd_same, by simp, ⟨rfl, fun j r' ej => ?_⟩⟩
              cases j with
              | zero => cases ej; exact ⟨_, rfl, hru⟩
              | succ j => simp at ej
            · rw [e'] at hu; cases hu
          · rw [if_neg z, List.append_nil, if_neg (fun w => z (Sum.inr.inj w).symm)]
            rcases hF h with ⟨e', g⟩ | ⟨L', ys', e', g1, g2, g3, g4⟩
            · exact .inl ⟨e', g⟩
            · refine .inr ⟨L', ys', e', g1, ?_, by omega, g4⟩
              have hLN : L' ≠ N := fun w => by rw [w, hN] at g2; cases g2
              rw [upd_ne hLN, upd_ne (ne_of g2 h5bh (by intro z; cases z))]; exact s6 _ _ g2
        · rw [valV_put] at e1 e2
          by_cases z1 : (Sum.inr h : Key) = Sum.inr r.2.2.1
          · by_cases z2 : (Sum.inr h' : Key) = Sum.inr r.2.2.1
            · rw [Sum.inr.inj z1, Sum.inr.inj z2]
            · rw [if_pos z1] at e1; cases e1
              rw [if_neg z2] at e2
              rcases hF h' with ⟨e', _⟩ | ⟨L', ys', e', _, g2, _⟩
              · rw [e'] at e2; cases e2
              · rw [e'] at e2; cases e2; rw [hN] at g2; cases g2
          · rw [if_neg z1] at e1
            by_cases z2 : (Sum.inr h' : Key) = Sum.inr r.2.2.1
            · rw [if_pos z2] at e2; cases e2
              rcases hF h with ⟨e', _⟩ | ⟨L', ys', e', _, g2, _⟩
              · rw [e'] at e1; cases e1
              · rw [e'] at e1; cases e1; rw [hN] at g2; cases g2
            · rw [if_neg z2] at e2
              exact hinj _ _ L e1 e2
    rintro σ H5 ⟨kvs, y3, rfl, k5, h5x, h5io, h5bh, hkl, hF, hinj⟩
    rw [show rs.take xs.length = rs by rw [hxl]; exact List.take_length] at hF
    try simp only [tSeq, sFld, tVar, List.getElem?_cons_zero, tFor_eq, iList, List.getElem?_cons_succ, exSlot, exRef]
    intro pr hpr
    obtain ⟨H6, e6, s6, h6⟩ := newO hpr (.dT []); rw [e6]
    have hprx : pr ≠ x := fun z => by rw [z, h5x] at hpr; cases hpr
    have hprn : H pr = none := by
      cases e : H pr with
      | none => rfl
      | some o => rw [k5 _ _ e hprx] at hpr; cases hpr
    refine ⟨x, t.C_Ground, dx, _, rfl, s6 _ _ h5x, T.cl_Ground, T.nf_Ground_pairs, by rw [e2f]; show 2 < 1000; decide, ?_⟩
    rw [show putF "pairs" (V.ref pr) (putF "by_head" (V.ref bh) (putF "in_order" (V.ref io) [])) = gfl io bh pr from rfl]
    obtain ⟨as, eas, hal, hat⟩ := hPr
    have hiopr : io ≠ pr := fun z => by rw [z, hpr] at h5io; cases h5io
    have hbhpr : bh ≠ pr := fun z => by rw [z, hpr] at h5bh; cases h5bh
    have base : ∀ H', (∀ c o, upd H6 x (.ins t.C_Ground dx (gfl io bh pr)) c = some o → c ≠ pr → H' c = some o) → (∀ c o, H c = some o → c ≠ x → H' c = some o) ∧ (∀ kps, H' pr = some (.dT kps) → PrOk kps pl → GrAt t H' x rs pl) := fun H' kk => by
      have k7 : ∀ c o, H c = some o → c ≠ x → H' c = some o := fun c o e hc => kk c o (by rw [upd_ne hc]; exact s6 _ _ (k5 c o e hc)) (ne_of_none e hprn)
      refine ⟨k7, fun kps hk hp => ⟨dx, io, bh, pr, xs, kvs, kps, kk _ _ upd_same hprx.symm, kk _ _ (by rw [upd_ne hiox]; exact s6 _ _ h5io) hiopr, hA.refs hx k7, kk _ _ (by rw [upd_ne hbhx]; exact s6 _ _ h5bh) hbhpr, fun h => ?_, hk, hp⟩⟩
      rcases hF h with z | ⟨L, ys, e, _, g2, _, g4⟩
      · exact .inl z
      · exact .inr ⟨L, ys, e, kk _ _ (by rw [upd_ne (ne_of g2 h5x (by intro z; cases z))]; exact s6 _ _ g2) (fun z => by rw [z, hpr] at g2; cases g2), g4.refs hx k7⟩
    have hpb7 : upd H6 x (.ins t.C_Ground dx (gfl io bh pr)) pb = some (.lst ps) := by
      have hpx := ne_of hpb hx (by intro z; cases z)
      rw [upd_ne hpx]; exact s6 _ _ (k5 _ _ hpb hpx)
    have hpr7 : upd H6 x (.ins t.C_Ground dx (gfl io bh pr)) pr = some (.dT []) := by rw [upd_ne hprx]; exact h6
    have hx7 : upd H6 x (.ins t.C_Ground dx (gfl io bh pr)) x = some (.ins t.C_Ground dx (gfl io bh pr)) := upd_same
    have hpbpr : pb ≠ pr := ne_of_none hpb hprn
    obtain ⟨H7, e7⟩ : ∃ H7, upd H6 x (.ins t.C_Ground dx (gfl io bh pr)) = H7 := ⟨_, rfl⟩
    rw [e7] at base hpb7 hpr7 hx7 ⊢
    refine ⟨⟨_, SqL.of hpb7⟩, ?_⟩
    refine for_list (K := K) (a := pb) (xs := ps) (fun i σ H' => ∃ (kps : List (List Key × V)) (y4 : Option V), σ = [some (V.ref x), some (V.ref b), some (V.ref pb), y3, y4] ∧ (∀ c o, H7 c = some o → c ≠ pr → H' c = some o) ∧ H' pr = some (.dT kps) ∧ kps.length ≤ i ∧ PrOk kps (pl.take i))
      ⟨[], _, rfl, fun c o e _ => e, hpr7, Nat.le_refl _, fun a b => by rw [List.take_zero, if_neg (by simp)]; rfl⟩ (fun i σ H' _ h => by obtain ⟨_, _, _, kk, _⟩ := h; exact SqL.of (kk _ _ hpb7 hpbpr)) ?_ ?_
    · rintro i v σ H8 hi ⟨kps, y4, rfl, kk, h8, hkl8, hpo⟩
      have hil : i < as.length := by
        have := (List.getElem?_eq_some_iff.mp hi).1
        rw [eas, List.length_map] at this; exact this
      have hil' : i < pl.length := by omega
      have ev : v = V.ref as[i] := by
        rw [eas, List.getElem?_map, List.getElem?_eq_getElem hil] at hi
        exact (Option.some.inj hi).symm
      subst ev
      have hp := hat i _ _ (List.getElem?_eq_getElem hil) (List.getElem?_eq_getElem hil')
      have hp8 := (base H8 kk).1 _ _ hp (ne_of hp hx (by intro z; cases z))
      have hx8 := kk _ _ hx7 hprx.symm
      rw [List.take_succ_eq_append_getElem hil']
      generalize pl[i] = pp at hp hp8
      generalize pl.take i = pt at hpo
      try simp only [gName, sDPut, tC, tFld, tVar, List.set_cons_succ, List.set_cons_zero, List.getElem?_cons_zero, tTup, tCons, tOp, List.getElem?_cons_succ, tNil, exSlot]
      refine ⟨x, _, dx, _, _, rfl, hx8, T.cl_Ground, T.nf_Ground_pairs, gfl_pr _ _ _, ?_⟩
      refine rIx_tup (SqT.of hp8) rfl (rIx_tup (SqT.of hp8) rfl ⟨by simp only [List.length_cons, List.length_nil]; decide, fun c hc => ?_⟩)
      obtain ⟨H9, e9, s9, h9⟩ := newO hc (.tup [V.str pp.1, V.str pp.2]); rw [e9]
      refine ⟨pr, _, rfl, DPut.t (k := [Sum.inr pp.1, Sum.inr pp.2]) (s9 _ _ h8) h9 (Nat.lt_of_le_of_lt (show kps.length ≤ 1000 by omega) (by decide)), putK kps [Sum.inr pp.1, Sum.inr pp.2] (V.bl true), _, rfl, ?_, upd_same, by have := length_putK kps ([Sum.inr pp.1, Sum.inr pp.2] : List Key) (V.bl true); omega, fun a b => ?_⟩
      · intro d o e hd; rw [upd_ne hd]; exact s9 _ _ (kk d o e hd)
      · rw [valV_put, hpo]
        by_cases z : (a, b) = pp
        · rw [if_pos (by rw [← z]), if_pos (by rw [← z]; simp)]
        · rw [if_neg (fun w => z (by
            have w1 := congrArg (fun l : List Key => l.head?) w
            have w2 := congrArg (fun l : List Key => l.getLast?) w
            simp at w1 w2
            exact Prod.ext w1 w2))]
          by_cases y : (a, b) ∈ pt
          · rw [if_pos y, if_pos (List.mem_append_left _ y)]
          · rw [if_neg y, if_neg (by simp [y, z])]
    · rintro σ H8 ⟨kps, y4, rfl, kk, h8, hkl8, hpo⟩
      rw [show pl.take ps.length = pl by rw [eas, List.length_map, hal, List.take_length]] at hpo
      try simp only []
      obtain ⟨b1, b2⟩ := base H8 kk
      exact q _ b1 (b2 kps h8 hpo)
theorem ok_c_Ground_ruling (T : Txt K mg t) : FnOk P w K mg base CX0 1 t.f_c_Ground_ruling t.fd_c_Ground_ruling ["self", "statement"] (spGrRuling t) := by
  refine T.F_c_Ground_ruling.ok sc_c_Ground_ruling (fun vs H Q E h => ?_) (fun cdv A outer s H vs Q E hr h => ?_)
  · obtain ⟨g, h, rs, pl, rfl, hG, q⟩ := h; rfl
  · obtain ⟨g, h, rs, pl, rfl, hG, q⟩ := h
    refine ⟨_, (@pss_one _ _ _ (@ps_ret _ _ _ _ (@pe_callTy _ _ _ _ _ _ _ _ _ call_listOf rfl T.z_list boot_listT (@pa_cons _ _ _ _ _ (@pe_dget2 _ _ _ _ _ _ _ _ _ (hu_of hr) (@pe_fld _ _ _ _ _ (@pv _ 0 _ _ (by rfl) (by first | exact vis0 rfl | exact vis1 rfl | exact vis2 rfl) (by decide) (by decide)) rfl) (@pv _ 1 _ _ (by rfl) (by first | exact vis0 rfl | exact vis1 rfl | exact vis2 rfl) (by decide) (by decide)) (@pe_lst _ _ _ _ (@pa_nil _)) ⟨rfl, rfl, rfl, rfl⟩) (@pa_nil _) (by rfl)) (by decide) (by decide) (by rfl) (by rfl)))), ?_⟩
    rw [show start n_c_Ground_ruling [V.ref g, V.str h] = [some (V.ref g), some (V.str h)] from rfl]
    obtain ⟨dx, io, bh, pr, xs, kvs, kps, h1, h2, h3, h4, h5, _⟩ := hG
    try simp only [tRet, tCB, tCons, tDGet2, tFld, tVar, List.getElem?_cons_zero, List.getElem?_cons_succ, tLst, tNil, exSlot]
    refine ⟨g, _, dx, _, _, rfl, h1, T.cl_Ground, T.nf_Ground_by_head, gfl_bh _ _ _, ?_⟩
    try simp only [exRef]
    refine ⟨isD_of h4, by decide, fun N hN => ?_⟩
    obtain ⟨H6, e6, s6, h6⟩ := newO hN (.lst []); rw [e6]
    refine ⟨_, DGet.k (k := (Sum.inr h : Key)) (s6 _ _ h4), ?_⟩
    rcases h5 h with ⟨e, g5⟩ | ⟨L, ys, e, g2, g4⟩
    · rw [e]
      refine ⟨N, _, rfl, .inl (SqL.of h6), fun l hl => ?_⟩
      obtain ⟨H7, e7, s7, h7⟩ := newO hl (.lst []); rw [e7]
      refine q l [] _ (s6.trans s7) (none_of s6 hl) h7 ?_
      rw [g5]; exact ⟨rfl, fun i r e => by simp at e⟩
    · rw [e]
      refine ⟨L, _, rfl, .inl (SqL.of (s6 _ _ g2)), fun l hl => ?_⟩
      obtain ⟨H7, e7, s7, h7⟩ := newO hl (.lst ys); rw [e7]
      exact q l ys _ (s6.trans s7) (none_of s6 hl) h7 (g4.same (s6.trans s7))
theorem ok_d_opposite (T : Txt K mg t) : FnOk P w K mg base CX0 1 t.f_d_opposite t.fd_d_opposite ["statement"] spOpp := by
  refine T.F_d_opposite.ok sc_d_opposite (fun vs H Q E h => ?_) (fun cdv A outer s H vs Q E hr h => ?_)
  · obtain ⟨z, rfl, hz, q⟩ := h; rfl
  · obtain ⟨z, rfl, hz, q⟩ := h
    refine ⟨_, (@pss_one _ _ _ (@ps_ret _ _ _ _ (@pe_ifExp _ _ _ _ _ _ _ _ (@pt_val _ _ _ (@pe_bm _ _ _ _ _ _ _ _ _ _ _ _ PySem.F.plainAttrs_str PySem.F.slot_str_startswith PySem.F.type_str_startswith mt_starts (@pv _ 0 _ _ (by rfl) (by first | exact vis0 rfl | exact vis1 rfl | exact vis2 rfl) (by decide) (by decide)) (@pa_cons _ _ _ _ _ (@pe_str _ _ _ _) (@pa_nil _) (by rfl)) (by rfl) (by rfl) (by rfl) (by rfl) (by rfl)) (by intro _ ; rfl)) (@pe_slice _ _ _ _ _ _ _ _ _ _ sl_any (@pv _ 0 _ _ (by rfl) (by first | exact vis0 rfl | exact vis1 rfl | exact vis2 rfl) (by decide) (by decide)) (@po_some _ _ _ (@pe_int _ _ _ _)) (@po_none _)) (@pe_op _ _ _ _ _ _ _ _ op_addA (@pe_str _ _ _ _) (@pv _ 0 _ _ (by rfl) (by first | exact vis0 rfl | exact vis1 rfl | exact vis2 rfl) (by decide) (by decide)))))), ?_⟩
    rw [show start n_d_opposite [V.str z] = [some (V.str z)] from rfl]
    unfold oppS at q
    try simp only [tRet, tIf, tB, tBM, tVar, List.getElem?_cons_zero, tCons, tC, tNil, tSl, tPart, tNoPart, exInt, exSlot, rSlA_str, tOp, rAddA_str, rStarts_at, exBl, tyV_str]
    refine ite2 (fun c => ?_) (fun c => ?_)
    · rw [if_pos c] at q
      exact ⟨short_le (by omega), q⟩
    · rw [if_neg c] at q
      exact ⟨Nat.le_trans (Nat.add_le_add (show (Str.ofString "-").length ≤ 1 by decide +kernel) hz) (by decide), q⟩
theorem ok_c_Ground_against (T : Txt K mg t) : FnOk P w K mg base CX0 2 t.f_c_Ground_against t.fd_c_Ground_against ["self", "statement"] (spAgainst t) := by
  refine T.F_c_Ground_against.ok sc_c_Ground_against (fun vs H Q E h => ?_) (fun cdv A outer s H vs Q E hr h => ?_)
  · obtain ⟨g, h, rs, pl, rfl, hG, hO, hhl, q⟩ := h; rfl
  · obtain ⟨g, h, rs, pl, rfl, hG, hO, hhl, q⟩ := h
    refine ⟨_, (@pss_one _ _ _ (@ps_ret _ _ _ _ (@pe_meth _ _ _ _ _ _ _ _ _ _ _ _ _ _ _ _ _ _ _ _ (@pv _ 0 _ _ (by rfl) (by first | exact vis0 rfl | exact vis1 rfl | exact vis2 rfl) (by decide) (by decide)) T.cl_Ground T.me_Ground_ruling (ok_c_Ground_ruling T) (hr.mono (by decide)) T.b_c_Ground_ruling .nil pass0 (@pa_cons _ _ _ _ _ (@pe_call _ _ _ _ _ _ _ _ _ _ _ _ _ _ _ _ (ok_d_opposite T) (hr.mono (by decide)) rfl T.g_d_opposite T.F_d_opposite.kp T.b_d_opposite .nil pass0 (@pa_cons _ _ _ _ _ (@pv _ 1 _ _ (by rfl) (by first | exact vis0 rfl | exact vis1 rfl | exact vis2 rfl) (by decide) (by decide)) (@pa_nil _) (by rfl)) (by decide) (by rfl) (by rfl)) (@pa_nil _) (by rfl)) (by rfl) (by rfl) (by rfl)))), ?_⟩
    rw [show start n_c_Ground_against [V.ref g, V.str h] = [some (V.ref g), some (V.str h)] from rfl]
    obtain ⟨dx, io, bh, pr, _, _, _, hg1, _⟩ := id hG
    try simp only [tRet, tMeth, tVar, List.getElem?_cons_zero, tCons, tCall, List.getElem?_cons_succ, tNil, List.append_nil, exSlot]
    refine ⟨g, dx, _, rfl, hg1, gfl_no _ _ _ (by decide +kernel) (by decide +kernel) (by decide +kernel), h, rfl, hhl, ?_⟩
    refine ⟨g, oppS h, rs, pl, rfl, hG, fun W ys H3 s3 hWn hW3 hR3 => ?_⟩
    obtain ⟨zr, ez1, ez2, hz⟩ := hR3.zip (fun r hr => hO r (List.mem_filter.mp hr).1)
    subst ez1
    exact q W zr H3 s3 hWn hW3 hz ez2
theorem ok_c_Block_speaks (T : Txt K mg t) : FnOk P w K mg base CX0 1 t.f_c_Block_speaks t.fd_c_Block_speaks ["self"] (spBoolR false) := by
  refine T.F_c_Block_speaks.ok sc_c_Block_speaks (fun vs H Q E h => ?_) (fun cdv A outer s H vs Q E hr h => ?_)
  · obtain ⟨x, rfl, q⟩ := h; rfl
  · obtain ⟨x, rfl, q⟩ := h
    refine ⟨_, (@pss_one _ _ _ (@ps_ret _ _ _ _ (@pe_bl _ _ _ _))), ?_⟩
    rw [show start n_c_Block_speaks [x] = [some (x)] from rfl]
    try simp only [tRet, tC]
    exact q
theorem ok_c_Rule_speaks (T : Txt K mg t) : FnOk P w K mg base CX0 1 t.f_c_Rule_speaks t.fd_c_Rule_speaks ["self"] (spBoolR true) := by
  refine T.F_c_Rule_speaks.ok sc_c_Rule_speaks (fun vs H Q E h => ?_) (fun cdv A outer s H vs Q E hr h => ?_)
  · obtain ⟨x, rfl, q⟩ := h; rfl
  · obtain ⟨x, rfl, q⟩ := h
    refine ⟨_, (@pss_one _ _ _ (@ps_ret _ _ _ _ (@pe_bl _ _ _ _))), ?_⟩
    rw [show start n_c_Rule_speaks [x] = [some (x)] from rfl]
    try simp only [tRet, tC]
    exact q
theorem ok_c_Ground_speaking (T : Txt K mg t) : FnOk P w K mg base CX0 2 t.f_c_Ground_speaking t.fd_c_Ground_speaking ["self", "statement"] (spSpeaking t) := by
  refine T.F_c_Ground_speaking.ok sc_c_Ground_speaking (fun vs H Q E h => ?_) (fun cdv A outer s H vs Q E hr h => ?_)
  · obtain ⟨g, h, rs, pl, rfl, hG, hO, hrl, q⟩ := h; rfl
  · obtain ⟨g, h, rs, pl, rfl, hG, hO, hrl, q⟩ := h
    refine ⟨_, (@pss_one _ _ _ (@ps_ret _ _ _ _ (@pe_comp _ _ _ _ _ _ _ _ _ _ _ _ _ (@compOk_of _ (defScope s_c_Ground_speaking) (n_c_Ground_speaking) (["rule"]) ([none]) _ rfl rfl (by decide +kernel)) rfl (@pi_list _ _ _ _ (@pe_meth _ _ _ _ _ _ _ _ _ _ _ _ _ _ _ _ _ _ _ _ (@pv _ 0 _ _ (by rfl) (by first | exact vis0 rfl | exact vis1 rfl | exact vis2 rfl) (by decide) (by decide)) T.cl_Ground T.me_Ground_ruling (ok_c_Ground_ruling T) (hr.mono (by decide)) T.b_c_Ground_ruling .nil pass0 (@pa_cons _ _ _ _ _ (@pv _ 1 _ _ (by rfl) (by first | exact vis0 rfl | exact vis1 rfl | exact vis2 rfl) (by decide) (by decide)) (@pa_nil _) (by rfl)) (by rfl) (by rfl) (by rfl))) (fun _ _ _ _ _ => (@pg_name _ _ (0) _ (show List.Nodup (["rule"] : List Str) by decide +kernel) rfl (by first | exact Or.inl rfl | exact Or.inr rfl) (by first | exact Or.inl rfl | exact Or.inr rfl | assumption))) (fun _ _ _ _ _ => @pts_one _ _ _ (@pt_val _ _ _ (@pe_alt _ _ _ _ (@pe_meth0 _ _ _ _ _ _ _ _ _ _ _ _ _ _ _ _ _ (@pv _ 0 _ _ (by rfl) (by first | exact vis0 rfl | exact vis1 rfl | exact vis2 rfl) (by decide) (by decide)) T.cl_Fact T.me_Fact_speaks (ok_c_Rule_speaks T) (hr.mono (by decide)) T.b_c_Rule_speaks .nil pass0 (by rfl)) (@pe_alt _ _ _ _ (@pe_meth0 _ _ _ _ _ _ _ _ _ _ _ _ _ _ _ _ _ (@pv _ 0 _ _ (by rfl) (by first | exact vis0 rfl | exact vis1 rfl | exact vis2 rfl) (by decide) (by decide)) T.cl_Sure T.me_Sure_speaks (ok_c_Rule_speaks T) (hr.mono (by decide)) T.b_c_Rule_speaks .nil pass0 (by rfl)) (@pe_alt _ _ _ _ (@pe_meth0 _ _ _ _ _ _ _ _ _ _ _ _ _ _ _ _ _ (@pv _ 0 _ _ (by rfl) (by first | exact vis0 rfl | exact vis1 rfl | exact vis2 rfl) (by decide) (by decide)) T.cl_Most T.me_Most_speaks (ok_c_Rule_speaks T) (hr.mono (by decide)) T.b_c_Rule_speaks .nil pass0 (by rfl)) (@pe_meth0 _ _ _ _ _ _ _ _ _ _ _ _ _ _ _ _ _ (@pv _ 0 _ _ (by rfl) (by first | exact vis0 rfl | exact vis1 rfl | exact vis2 rfl) (by decide) (by decide)) T.cl_Block T.me_Block_speaks (ok_c_Block_speaks T) (hr.mono (by decide)) T.b_c_Block_speaks .nil pass0 (by rfl))))) (by intro _ ; rfl))) (fun _ _ _ _ _ => (@pv _ 0 _ _ (by rfl) (by first | exact vis0 rfl | exact vis1 rfl | exact vis2 rfl) (by decide) (by decide))) (by intro _ ; rfl)))), ?_⟩
    rw [show start n_c_Ground_speaking [V.ref g, V.str h] = [some (V.ref g), some (V.str h)] from rfl]
    obtain ⟨dx, io, bh, pr, _, _, _, hg1, _⟩ := id hG
    try simp only [tRet, tComp_eq, iList, tMeth, tVar, List.getElem?_cons_zero, tCons, List.getElem?_cons_succ, tNil, List.append_nil, exSlot]
    refine ⟨g, dx, _, rfl, hg1, gfl_no _ _ _ (by decide +kernel) (by decide +kernel) (by decide +kernel), g, h, rs, pl, rfl, hG, fun W ys H3 s3 hWn hW3 hR3 => ?_⟩
    obtain ⟨zr, ez1, ez2, hz⟩ := hR3.zip (fun r hr => hO r (List.mem_filter.mp hr).1)
    subst ez1
    have hzl : zr.length ≤ 63 := by
      have := congrArg List.length ez2
      rw [List.length_map] at this
      rw [this]; exact Nat.le_trans (List.length_filter_le _ _) hrl
    try simp only [exRef]
    refine ⟨⟨_, SqL.of hW3⟩, ?_⟩
    refine comp_ru zr hW3 (by omega) hz [] rfl spk (fun p => p.1) (fun x r H' R ho hr s' hR => ?_) (fun x r H' R ho hr s' hR => ?_) (fun W2 H4 hW2n s4 hW4 => ?_)
    · try simp only [tB]
      refine alt4 ho.1 (tVar_go rfl) hr ⟨by decide +kernel, by decide +kernel, by decide +kernel⟩ ?_
      rw [pick_speaks ho.1]
      try simp only [spBoolR_at, exBl]
      exact hR _ (Same.refl _)
    · try simp only [tVar, List.getElem?_cons_zero, exSlot]
      exact hR _ (Same.refl _)
    refine q W2 (zr.filter fun p => spk p.2) H4 (s3.trans s4) (none_of s3 hW2n) hW4 (fun p hp => (hz.same s4) p (List.mem_filter.mp hp).1) ?_
    rw [← ez2, List.filter_map]; rfl
theorem ok_d_all_among (T : Txt K mg t) : FnOk P w K mg base CX0 1 t.f_d_all_among t.fd_d_all_among ["statements", "some"] spAmongE := by
  refine T.F_d_all_among.ok sc_d_all_among (fun vs H Q E h => ?_) (fun cdv A outer s H vs Q E hr h => ?_)
  · obtain ⟨t0, v, bd, S, rfl, ht, hl, hD, q⟩ := h; rfl
  · obtain ⟨t0, v, bd, S, rfl, ht, hl, hD, q⟩ := h
    refine ⟨_, (@pss_one _ _ _ (@ps_ret _ _ _ _ (@pe_callB _ _ _ _ _ _ _ _ _ (call_all_bools rfl) rfl T.z_all boot_allT (@pa_cons _ _ _ _ _ (@pe_comp _ _ _ _ _ _ _ _ _ _ _ _ _ (@compOk_of _ (defScope s_d_all_among) (n_d_all_among) (["statement", "some"]) ([none, some 1]) _ rfl rfl (by decide +kernel)) rfl (@pi_tup _ _ _ _ (@pv _ 0 _ _ (by rfl) (by first | exact vis0 rfl | exact vis1 rfl | exact vis2 rfl) (by decide) (by decide))) (fun _ _ _ _ _ => (@pg_name _ _ (0) _ (show List.Nodup (["statement", "some"] : List Str) by decide +kernel) rfl (by first | exact Or.inl rfl | exact Or.inr rfl) (by first | exact Or.inl rfl | exact Or.inr rfl | assumption))) (fun _ _ _ _ _ => @pts_nil _) (fun _ _ _ _ _ => (@pe_alt _ _ _ _ (@pe_cmp _ _ _ _ _ _ (pc_din (hu_of hr) (@pv _ 0 _ _ (by rfl) (by first | exact vis0 rfl | exact vis1 rfl | exact vis2 rfl) (by decide) (by decide)) (@pv _ 1 _ _ (by rfl) (by first | exact vis0 rfl | exact vis1 rfl | exact vis2 rfl) (by decide) (by decide))) (by with_unfolding_all rfl)) (@pe_cmpR _ _ _ _ _ _ _ _ (op_inK (K := K) rfl) (@pv _ 0 _ _ (by rfl) (by first | exact vis0 rfl | exact vis1 rfl | exact vis2 rfl) (by decide) (by decide)) (@pv _ 1 _ _ (by rfl) (by first | exact vis0 rfl | exact vis1 rfl | exact vis2 rfl) (by decide) (by decide)) (by with_unfolding_all rfl)))) (by intro _ ; rfl)) (@pa_nil _) (by rfl)) (by decide) (by decide) (by rfl) (by rfl)))), ?_⟩
    rw [show start n_d_all_among [V.ref t0, v] = [some (V.ref t0), some (v)] from rfl]
    try simp only [tRet, tCB, tCons, tNil, tComp_eq, iTup, tVar, List.getElem?_cons_zero, exSlot, exRef]
    refine ⟨⟨_, SqT.of ht⟩, ?_⟩
    refine comp_1 (src_tup (xs := bd.map V.str)) (Nat.le_trans (show (bd.map V.str).length ≤ 1000 by simpa using hl) (by decide)) [some v] rfl (fun i v => ∃ hi : i < bd.length, v = .bl (decide (bd[i] ∈ S))) (fun H' s => SqT.of (s _ _ ht)) (fun i H' R hi s hR => ?_) (fun E1 H1 ys hEn s1 hE hl1 hv1 => ?_)
    · have hi' : i < bd.length := by simpa using hi
      have e2 : ((bd.map V.str)[i]?).getD .non = V.str bd[i] := by rw [List.getElem?_map, List.getElem?_eq_getElem hi']; rfl
      rw [e2]
      exact in_some (hD.same s) (tVar_go rfl) (tVar_go rfl) (hR _ _ (Same.refl _) ⟨hi', rfl⟩)
    have eys : ys = (bd.map fun q => decide (q ∈ S)).map V.bl := by
      refine List.ext_getElem? fun i => ?_
      rw [List.getElem?_map, List.getElem?_map]
      by_cases hi : i < ys.length
      · obtain ⟨hi', e⟩ := hv1 i _ (List.getElem?_eq_getElem hi)
        rw [List.getElem?_eq_getElem hi, e, List.getElem?_eq_getElem hi']; rfl
      · rw [List.getElem?_eq_none (by omega), List.getElem?_eq_none (by rw [List.length_map] at hl1; omega)]; rfl
    subst eys
    refine ⟨E1, _, rfl, SqL.of hE, ?_⟩
    have := q _ s1
    rw [List.all_map]; exact this
theorem ok_d_any_among (T : Txt K mg t) : FnOk P w K mg base CX0 1 t.f_d_any_among t.fd_d_any_among ["statements", "some"] spAnyE := by
  refine T.F_d_any_among.ok sc_d_any_among (fun vs H Q E h => ?_) (fun cdv A outer s H vs Q E hr h => ?_)
  · obtain ⟨t0, v, bd, S, rfl, ht, hl, hD, q⟩ := h; rfl
  · obtain ⟨t0, v, bd, S, rfl, ht, hl, hD, q⟩ := h
    refine ⟨_, (@pss_one _ _ _ (@ps_ret _ _ _ _ (@pe_callB _ _ _ _ _ _ _ _ _ (call_any_bools rfl) rfl T.z_any boot_anyT (@pa_cons _ _ _ _ _ (@pe_comp _ _ _ _ _ _ _ _ _ _ _ _ _ (@compOk_of _ (defScope s_d_any_among) (n_d_any_among) (["statement", "some"]) ([none, some 1]) _ rfl rfl (by decide +kernel)) rfl (@pi_tup _ _ _ _ (@pv _ 0 _ _ (by rfl) (by first | exact vis0 rfl | exact vis1 rfl | exact vis2 rfl) (by decide) (by decide))) (fun _ _ _ _ _ => (@pg_name _ _ (0) _ (show List.Nodup (["statement", "some"] : List Str) by decide +kernel) rfl (by first | exact Or.inl rfl | exact Or.inr rfl) (by first | exact Or.inl rfl | exact Or.inr rfl | assumption))) (fun _ _ _ _ _ => @pts_nil _) (fun _ _ _ _ _ => (@pe_alt _ _ _ _ (@pe_cmp _ _ _ _ _ _ (pc_din (hu_of hr) (@pv _ 0 _ _ (by rfl) (by first | exact vis0 rfl | exact vis1 rfl | exact vis2 rfl) (by decide) (by decide)) (@pv _ 1 _ _ (by rfl) (by first | exact vis0 rfl | exact vis1 rfl | exact vis2 rfl) (by decide) (by decide))) (by with_unfolding_all rfl)) (@pe_cmpR _ _ _ _ _ _ _ _ (op_inK (K := K) rfl) (@pv _ 0 _ _ (by rfl) (by first | exact vis0 rfl | exact vis1 rfl | exact vis2 rfl) (by decide) (by decide)) (@pv _ 1 _ _ (by rfl) (by first | exact vis0 rfl | exact vis1 rfl | exact vis2 rfl) (by decide) (by decide)) (by with_unfolding_all rfl)))) (by intro _ ; rfl)) (@pa_nil _) (by rfl)) (by decide) (by decide) (by rfl) (by rfl)))), ?_⟩
    rw [show start n_d_any_among [V.ref t0, v] = [some (V.ref t0), some (v)] from rfl]
    try simp only [tRet, tCB, tCons, tNil, tComp_eq, iTup, tVar, List.getElem?_cons_zero, exSlot, exRef]
    refine ⟨⟨_, SqT.of ht⟩, ?_⟩
    refine comp_1 (src_tup (xs := bd.map V.str)) (Nat.le_trans (show (bd.map V.str).length ≤ 1000 by simpa using hl) (by decide)) [some v] rfl (fun i v => ∃ hi : i < bd.length, v = .bl (decide (bd[i] ∈ S))) (fun H' s => SqT.of (s _ _ ht)) (fun i H' R hi s hR => ?_) (fun E1 H1 ys hEn s1 hE hl1 hv1 => ?_)
    · have hi' : i < bd.length := by simpa using hi
      have e2 : ((bd.map V.str)[i]?).getD .non = V.str bd[i] := by rw [List.getElem?_map, List.getElem?_eq_getElem hi']; rfl
      rw [e2]
      exact in_some (hD.same s) (tVar_go rfl) (tVar_go rfl) (hR _ _ (Same.refl _) ⟨hi', rfl⟩)
    have eys : ys = (bd.map fun q => decide (q ∈ S)).map V.bl := by
      refine List.ext_getElem? fun i => ?_
      rw [List.getElem?_map, List.getElem?_map]
      by_cases hi : i < ys.length
      · obtain ⟨hi', e⟩ := hv1 i _ (List.getElem?_eq_getElem hi)
        rw [List.getElem?_eq_getElem hi, e, List.getElem?_eq_getElem hi']; rfl
      · rw [List.getElem?_eq_none (by omega), List.getElem?_eq_none (by rw [List.length_map] at hl1; omega)]; rfl
    subst eys
    refine ⟨E1, _, rfl, SqL.of hE, ?_⟩
    have := q _ s1
    rw [List.any_map]; exact this
theorem ok_c_Ground_beats (T : Txt K mg t) : FnOk P w K mg base CX0 1 t.f_c_Ground_beats t.fd_c_Ground_beats ["self", "one", "other"] (spBeats t) := by
  refine T.F_c_Ground_beats.ok sc_c_Ground_beats (fun vs H Q E h => ?_) (fun cdv A outer s H vs Q E hr h => ?_)
  · obtain ⟨g, x, y, rs, pl, r1, r2, rfl, hG, h1, h2, o1, o2, q⟩ := h; rfl
  · obtain ⟨g, x, y, rs, pl, r1, r2, rfl, hG, h1, h2, o1, o2, q⟩ := h
    refine ⟨_, (@pss_one _ _ _ (@ps_ret _ _ _ _ (@pe_cmp _ _ _ _ _ _ (pc_din (hu_of hr) (@pe_tup _ _ _ _ _ (@pa_cons _ _ _ _ _ (@pe_fld _ _ _ _ _ (@pv _ 1 _ _ (by rfl) (by first | exact vis0 rfl | exact vis1 rfl | exact vis2 rfl) (by decide) (by decide)) rfl) (@pa_cons _ _ _ _ _ (@pe_fld _ _ _ _ _ (@pv _ 2 _ _ (by rfl) (by first | exact vis0 rfl | exact vis1 rfl | exact vis2 rfl) (by decide) (by decide)) rfl) (@pa_nil _) (by rfl)) (by rfl))) (@pe_fld _ _ _ _ _ (@pv _ 0 _ _ (by rfl) (by first | exact vis0 rfl | exact vis1 rfl | exact vis2 rfl) (by decide) (by decide)) rfl)) (by with_unfolding_all rfl)))), ?_⟩
    rw [show start n_c_Ground_beats [V.ref g, V.ref x, V.ref y] = [some (V.ref g), some (V.ref x), some (V.ref y)] from rfl]
    obtain ⟨dx, io, bh, pr, _, _, kps, hg1, _, _, _, _, hk, hp⟩ := id hG
    obtain ⟨_, e1, dx1, t1, a1, b1⟩ := h1
    cases e1
    obtain ⟨_, e2, dx2, t2, a2, b2⟩ := h2
    cases e2
    have C1 := clsF T o1.1
    have C2 := clsF T o2.1
    try simp only [tRet, tDIn, tTup, tCons, tFld, tVar, List.getElem?_cons_succ, List.getElem?_cons_zero, tNil, exSlot]
    refine ⟨x, _, dx1, _, _, rfl, a1, C1.cl, C1.nl, flds_label _ _ _, y, _, dx2, _, _, rfl, a2, C2.cl, C2.nl, flds_label _ _ _, by simp only [List.length_cons, List.length_nil]; decide, fun c hc => ?_⟩
    obtain ⟨H1, e1, s1, h1⟩ := newO hc (.tup [V.str r1.2.1, V.str r2.2.1]); rw [e1]
    refine ⟨g, _, dx, _, _, rfl, s1 _ _ hg1, T.cl_Ground, T.nf_Ground_pairs, gfl_pr _ _ _, pr, _, rfl, DGet.t (k := [Sum.inr r1.2.1, Sum.inr r2.2.1]) (s1 _ _ hk) h1, ?_⟩
    have := q _ s1
    rw [hp]
    by_cases z : (r1.2.1, r2.2.1) ∈ pl
    · rw [if_pos z]; rw [decide_eq_true z] at this; exact this
    · rw [if_neg z]; rw [decide_eq_false z] at this; exact this
theorem ok_d_is_beaten (T : Txt K mg t) : FnOk P w K mg base CX0 2 t.f_d_is_beaten t.fd_d_is_beaten ["ground", "rule", "beaters"] (spBeaten t) := by
  refine T.F_d_is_beaten.ok sc_d_is_beaten (fun vs H Q E h => ?_) (fun cdv A outer s H vs Q E hr h => ?_)
  · obtain ⟨g, x, L, rs, pl, r, zr, rfl, hG, hx, hro, hL, hz, hzl, q⟩ := h; rfl
  · obtain ⟨g, x, L, rs, pl, r, zr, rfl, hG, hx, hro, hL, hz, hzl, q⟩ := h
    refine ⟨_, (@pss_one _ _ _ (@ps_ret _ _ _ _ (@pe_callB _ _ _ _ _ _ _ _ _ (call_any_bools rfl) rfl T.z_any boot_anyT (@pa_cons _ _ _ _ _ (@pe_comp _ _ _ _ _ _ _ _ _ _ _ _ _ (@compOk_of _ (defScope s_d_is_beaten) (n_d_is_beaten) (["beater", "rule", "ground"]) ([none, some 1, some 0]) _ rfl rfl (by decide +kernel)) rfl (@pi_list _ _ _ _ (@pv _ 2 _ _ (by rfl) (by first | exact vis0 rfl | exact vis1 rfl | exact vis2 rfl) (by decide) (by decide))) (fun _ _ _ _ _ => (@pg_name _ _ (0) _ (show List.Nodup (["beater", "rule", "ground"] : List Str) by decide +kernel) rfl (by first | exact Or.inl rfl | exact Or.inr rfl) (by first | exact Or.inl rfl | exact Or.inr rfl | assumption))) (fun _ _ _ _ _ => @pts_nil _) (fun _ _ _ _ _ => (@pe_meth _ _ _ _ _ _ _ _ _ _ _ _ _ _ _ _ _ _ _ _ (@pv _ 2 _ _ (by rfl) (by first | exact vis0 rfl | exact vis1 rfl | exact vis2 rfl) (by decide) (by decide)) T.cl_Ground T.me_Ground_beats (ok_c_Ground_beats T) (hr.mono (by decide)) T.b_c_Ground_beats .nil pass0 (@pa_cons _ _ _ _ _ (@pv _ 0 _ _ (by rfl) (by first | exact vis0 rfl | exact vis1 rfl | exact vis2 rfl) (by decide) (by decide)) (@pa_cons _ _ _ _ _ (@pv _ 1 _ _ (by rfl) (by first | exact vis0 rfl | exact vis1 rfl | exact vis2 rfl) (by decide) (by decide)) (@pa_nil _) (by rfl)) (by rfl)) (by rfl) (by rfl) (by rfl))) (by intro _ ; rfl)) (@pa_nil _) (by rfl)) (by decide) (by decide) (by rfl) (by rfl)))), ?_⟩
    rw [show start n_d_is_beaten [V.ref g, V.ref x, V.ref L] = [some (V.ref g), some (V.ref x), some (V.ref L)] from rfl]
    try simp only [tRet, tCB, tCons, tNil, tComp_eq, iList, tVar, List.getElem?_cons_succ, List.getElem?_cons_zero, exSlot, exRef]
    refine ⟨⟨_, SqL.of hL⟩, ?_⟩
    refine comp_ru zr hL (by omega) hz [some (V.ref x), some (V.ref g)] rfl (fun _ => true) (fun p => V.bl (decide ((p.2.2.1, r.2.1) ∈ pl))) (fun y r' H' R ho hr s' hR => hR _ (Same.refl _)) (fun y r' H' R ho hr s' hR => ?_) (fun B H5 hBn s5 hB5 => ?_)
    · obtain ⟨dx, io, bh, pr, _, _, _, hg1, _⟩ := id (hG.same s')
      try simp only [tMeth, tVar, List.getElem?_cons_succ, List.getElem?_cons_zero, tCons, tNil, List.append_nil, exSlot]
      exact ⟨g, dx, _, rfl, hg1, gfl_no _ _ _ (by decide +kernel) (by decide +kernel) (by decide +kernel), g, y, x, rs, pl, r', r, rfl, hG.same s', ⟨y, rfl, hr⟩, hx.same s', ho, hro, fun H'' s'' => hR _ s''⟩
    have hB5' : H5 B = some (.lst ((zr.map fun p => decide ((p.2.2.1, r.2.1) ∈ pl)).map V.bl)) := by
      rw [hB5, List.filter_eq_self.mpr (fun _ _ => rfl), List.map_map]; rfl
    refine ⟨B, _, rfl, SqL.of hB5', ?_⟩
    have := q _ s5
    rw [show ((zr.map fun p => decide ((p.2.2.1, r.2.1) ∈ pl)).any id) = btn pl (zr.map (·.2)) r from by unfold btn; rw [List.any_map, List.any_map]; rfl]
    exact this
theorem ok_d_holds_by (T : Txt K mg t) : FnOk P w K mg base CX0 3 t.f_d_holds_by t.fd_d_holds_by ["ground", "sures", "held", "refused", "q"] (spHolds t holdsB) := by
  refine T.F_d_holds_by.ok sc_d_holds_by (fun vs H Q E h => ?_) (fun cdv A outer s H vs Q E hr h => ?_)
  · obtain ⟨g, v1, v2, v3, q0, rs, pl, S, U, D, rfl, hG, hO, hrl, h1, h2, h3, hql, q⟩ := h; rfl
  · obtain ⟨g, v1, v2, v3, q0, rs, pl, S, U, D, rfl, hG, hO, hrl, h1, h2, h3, hql, q⟩ := h
    refine ⟨_, (@pss_cons _ _ _ _ _ (@ps_if _ _ _ _ _ _ _ _ (@pt_alt _ _ _ _ (@pt_cmp _ _ _ _ _ _ (pc_din (hu_of hr) (@pv _ 4 _ _ (by rfl) (by first | exact vis0 rfl | exact vis1 rfl | exact vis2 rfl) (by decide) (by decide)) (@pv _ 1 _ _ (by rfl) (by first | exact vis0 rfl | exact vis1 rfl | exact vis2 rfl) (by decide) (by decide))) (by with_unfolding_all rfl)) (@pt_cmpR _ _ _ _ _ _ _ _ op_inA (@pv _ 4 _ _ (by rfl) (by first | exact vis0 rfl | exact vis1 rfl | exact vis2 rfl) (by decide) (by decide)) (@pv _ 1 _ _ (by rfl) (by first | exact vis0 rfl | exact vis1 rfl | exact vis2 rfl) (by decide) (by decide)) (by with_unfolding_all rfl))) (@pss_one _ _ _ (@ps_ret _ _ _ _ (@pe_bl _ _ _ _))) (@pss_nil _)) (@pss_cons _ _ _ _ _ (@ps_set _ _ (5) _ _ _ _ sc_d_holds_by.nd rfl (by first | exact Or.inl rfl | exact Or.inr rfl) (@pe_comp _ _ _ _ _ _ _ _ _ _ _ _ _ (@compOk_of _ (defScope s_d_holds_by) (n_d_holds_by) (["rule", "held"]) ([none, some 2]) _ rfl rfl (by decide +kernel)) rfl (@pi_list _ _ _ _ (@pe_meth _ _ _ _ _ _ _ _ _ _ _ _ _ _ _ _ _ _ _ _ (@pv _ 0 _ _ (by rfl) (by first | exact vis0 rfl | exact vis1 rfl | exact vis2 rfl) (by decide) (by decide)) T.cl_Ground T.me_Ground_speaking (ok_c_Ground_speaking T) (hr.mono (by decide)) T.b_c_Ground_speaking .nil pass0 (@pa_cons _ _ _ _ _ (@pv _ 4 _ _ (by rfl) (by first | exact vis0 rfl | exact vis1 rfl | exact vis2 rfl) (by decide) (by decide)) (@pa_nil _) (by rfl)) (by rfl) (by rfl) (by rfl))) (fun _ _ _ _ _ => (@pg_name _ _ (0) _ (show List.Nodup (["rule", "held"] : List Str) by decide +kernel) rfl (by first | exact Or.inl rfl | exact Or.inr rfl) (by first | exact Or.inl rfl | exact Or.inr rfl | assumption))) (fun _ _ _ _ _ => @pts_one _ _ _ (@pt_val _ _ _ (@pe_call _ _ _ _ _ _ _ _ _ _ _ _ _ _ _ _ (ok_d_all_among T) (hr.mono (by decide)) rfl T.g_d_all_among T.F_d_all_among.kp T.b_d_all_among .nil pass0 (@pa_cons _ _ _ _ _ (@pe_fldK _ (K) _ _ _ _ rfl (@pv _ 0 _ _ (by rfl) (by first | exact vis0 rfl | exact vis1 rfl | exact vis2 rfl) (by decide) (by decide)) rfl) (@pa_cons _ _ _ _ _ (@pv _ 1 _ _ (by rfl) (by first | exact vis0 rfl | exact vis1 rfl | exact vis2 rfl) (by decide) (by decide)) (@pa_nil _) (by rfl)) (by rfl)) (by decide) (by rfl) (by rfl)) (by intro _ ; rfl))) (fun _ _ _ _ _ => (@pv _ 0 _ _ (by rfl) (by first | exact vis0 rfl | exact vis1 rfl | exact vis2 rfl) (by decide) (by decide))) (by intro _ ; rfl)) (by rfl) (by first | exact Or.inl rfl | exact Or.inr rfl | assumption)) (@pss_mid _ _ _ _ _ (@ps_if _ _ _ _ _ _ _ _ (@PW.pt _ _ _ (@pw_or _ _ _ _ _ _ _ (@pt_cmpR _ _ _ _ _ _ _ _ (op_eqH hr.units) (@pe_callB _ _ _ _ _ _ _ _ _ call_lenA rfl T.z_len boot_lenT (@pa_cons _ _ _ _ _ (@pv _ 5 _ _ (by rfl) (by first | exact vis0 rfl | exact vis1 rfl | exact vis2 rfl) (by decide) (by decide)) (@pa_nil _) (by rfl)) (by decide) (by decide) (by rfl) (by rfl)) (@pe_int _ _ _ _) (nomark _)) (@pw_or1 _ _ _ _ (@pt_alt _ _ _ _ (@pt_cmp _ _ _ _ _ _ (pc_din (hu_of hr) (@pe_call _ _ _ _ _ _ _ _ _ _ _ _ _ _ _ _ (ok_d_opposite T) (hr.mono (by decide)) rfl T.g_d_opposite T.F_d_opposite.kp T.b_d_opposite .nil pass0 (@pa_cons _ _ _ _ _ (@pv _ 4 _ _ (by rfl) (by first | exact vis0 rfl | exact vis1 rfl | exact vis2 rfl) (by decide) (by decide)) (@pa_nil _) (by rfl)) (by decide) (by rfl) (by rfl)) (@pv _ 1 _ _ (by rfl) (by first | exact vis0 rfl | exact vis1 rfl | exact vis2 rfl) (by decide) (by decide))) (by with_unfolding_all rfl)) (@pt_cmpR _ _ _ _ _ _ _ _ op_inA (@pe_call _ _ _ _ _ _ _ _ _ _ _ _ _ _ _ _ (ok_d_opposite T) (hr.mono (by decide)) rfl T.g_d_opposite T.F_d_opposite.kp T.b_d_opposite .nil pass0 (@pa_cons _ _ _ _ _ (@pv _ 4 _ _ (by rfl) (by first | exact vis0 rfl | exact vis1 rfl | exact vis2 rfl) (by decide) (by decide)) (@pa_nil _) (by rfl)) (by decide) (by rfl) (by rfl)) (@pv _ 1 _ _ (by rfl) (by first | exact vis0 rfl | exact vis1 rfl | exact vis2 rfl) (by decide) (by decide)) (by with_unfolding_all rfl)))))) (@pss_one _ _ _ (@ps_ret _ _ _ _ (@pe_bl _ _ _ _))) (@pss_nil _)) (@pss_one _ _ _ (@ps_ret _ _ _ _ (@pe_callB _ _ _ _ _ _ _ _ _ (call_all_bools rfl) rfl T.z_all boot_allT (@pa_cons _ _ _ _ _ (@pe_comp _ _ _ _ _ _ _ _ _ _ _ _ _ (@compOk_of _ (defScope s_d_holds_by) (n_d_holds_by) (["rule", "refused", "ground", "standing"]) ([none, some 3, some 0, some 5]) _ rfl rfl (by decide +kernel)) rfl (@pi_list _ _ _ _ (@pe_meth _ _ _ _ _ _ _ _ _ _ _ _ _ _ _ _ _ _ _ _ (@pv _ 0 _ _ (by rfl) (by first | exact vis0 rfl | exact vis1 rfl | exact vis2 rfl) (by decide) (by decide)) T.cl_Ground T.me_Ground_against (ok_c_Ground_against T) (hr.mono (by decide)) T.b_c_Ground_against .nil pass0 (@pa_cons _ _ _ _ _ (@pv _ 4 _ _ (by rfl) (by first | exact vis0 rfl | exact vis1 rfl | exact vis2 rfl) (by decide) (by decide)) (@pa_nil _) (by rfl)) (by rfl) (by rfl) (by rfl))) (fun _ _ _ _ _ => (@pg_name _ _ (0) _ (show List.Nodup (["rule", "refused", "ground", "standing"] : List Str) by decide +kernel) rfl (by first | exact Or.inl rfl | exact Or.inr rfl) (by first | exact Or.inl rfl | exact Or.inr rfl | assumption))) (fun _ _ _ _ _ => @pts_nil _) (fun _ _ _ _ _ => (@pe_or _ _ _ _ _ _ _ (@pe_call _ _ _ _ _ _ _ _ _ _ _ _ _ _ _ _ (ok_d_any_among T) (hr.mono (by decide)) rfl T.g_d_any_among T.F_d_any_among.kp T.b_d_any_among .nil pass0 (@pa_cons _ _ _ _ _ (@pe_fldK _ (K) _ _ _ _ rfl (@pv _ 0 _ _ (by rfl) (by first | exact vis0 rfl | exact vis1 rfl | exact vis2 rfl) (by decide) (by decide)) rfl) (@pa_cons _ _ _ _ _ (@pv _ 1 _ _ (by rfl) (by first | exact vis0 rfl | exact vis1 rfl | exact vis2 rfl) (by decide) (by decide)) (@pa_nil _) (by rfl)) (by rfl)) (by decide) (by rfl) (by rfl)) (@pe_one _ _ _ _ _ (@pe_call _ _ _ _ _ _ _ _ _ _ _ _ _ _ _ _ (ok_d_is_beaten T) (hr.mono (by decide)) rfl T.g_d_is_beaten T.F_d_is_beaten.kp T.b_d_is_beaten .nil pass0 (@pa_cons _ _ _ _ _ (@pv _ 2 _ _ (by rfl) (by first | exact vis0 rfl | exact vis1 rfl | exact vis2 rfl) (by decide) (by decide)) (@pa_cons _ _ _ _ _ (@pv _ 0 _ _ (by rfl) (by first | exact vis0 rfl | exact vis1 rfl | exact vis2 rfl) (by decide) (by decide)) (@pa_cons _ _ _ _ _ (@pv _ 3 _ _ (by rfl) (by first | exact vis0 rfl | exact vis1 rfl | exact vis2 rfl) (by decide) (by decide)) (@pa_nil _) (by rfl)) (by rfl)) (by rfl)) (by decide) (by rfl) (by rfl))))) (by intro _ ; rfl)) (@pa_nil _) (by rfl)) (by decide) (by decide) (by rfl) (by rfl))))))), ?_⟩
    rw [show start n_d_holds_by [V.ref g, v1, v2, v3, V.str q0] = [some (V.ref g), some (v1), some (v2), some (v3), some (V.str q0), none] from rfl]
    obtain ⟨dx, io, bh, pr, _, _, _, hg1, _⟩ := id hG
    try simp only [tSeq, tIfS, tRet, tC, tNext, tAsg, gName, List.set_cons_succ, List.set_cons_zero, tComp_eq, iList, tMeth, tVar, List.getElem?_cons_zero, tCons, List.getElem?_cons_succ, tNil, List.append_nil, exSlot]
    refine in_someT h1 (tVar_go rfl) (tVar_go rfl) ?_
    try simp only [decide_eq_true_eq]
    refine ite2 (fun c0 => ?_) (fun c0 => ?_)
    · have := q H (Same.refl _)
      unfold holdsB at this
      rw [if_pos c0] at this
      exact this
    refine ⟨g, dx, _, rfl, hg1, gfl_no _ _ _ (by decide +kernel) (by decide +kernel) (by decide +kernel), g, q0, rs, pl, rfl, hG, hO, hrl, fun W zr H3 s3 hWn hW3 hz ez => ?_⟩
    have hzl : zr.length ≤ 63 := by
      have := congrArg List.length ez
      rw [List.length_map] at this
      rw [this]; exact Nat.le_trans (List.length_filter_le _ _) (Nat.le_trans (List.length_filter_le _ _) hrl)
    try simp only [exRef]
    refine ⟨⟨_, SqL.of hW3⟩, ?_⟩
    refine comp_ru zr hW3 (by omega) hz [some v2] rfl (fun r => subB r.2.2.2 U) (fun p => p.1) (fun x r H' R ho hr s' hR => ?_) (fun x r H' R ho hr s' hR => ?_) (fun W2 H4 hW2n s4 hW4 => ?_)
    · have CF := clsF T ho.1
      obtain ⟨dx', t0, g1, g2⟩ := hr
      try simp only [tB, tCall, tCons, tFld, tVar, List.getElem?_cons_zero, List.getElem?_cons_succ, tNil, List.append_nil, exSlot]
      refine ⟨x, _, dx', _, _, rfl, g1, CF.cl, CF.nb, flds_body _ _ _, t0, v2, r.2.2.2, U, rfl, g2, by have := ho.2.2.2.2.2; omega, h2.same (s3.trans s'), fun H'' s'' => ?_⟩
      try simp only [exBl]
      exact hR _ s''
    · try simp only [tVar, List.getElem?_cons_zero, exSlot]
      exact hR _ (Same.refl _)
    have s04 := s3.trans s4
    have hz4 : WsOk t H4 (zr.filter fun p => subB p.2.2.2.2 U) := fun p hp => (hz.same s4) p (List.mem_filter.mp hp).1
    have hzl4 : (zr.filter fun p => subB p.2.2.2.2 U).length ≤ 63 := Nat.le_trans (List.length_filter_le _ _) hzl
    have est : (zr.filter fun p => subB p.2.2.2.2 U).map (·.2) = stand rs U q0 := by
      unfold stand
      rw [← ez, List.filter_map]; rfl
    generalize (zr.filter fun p => subB p.2.2.2.2 U) = zs at hW4 hz4 hzl4 est
    have hneed : ∀ H', Same H H' → (stand rs U q0 = [] ∨ oppS q0 ∈ S) → Q (.bl false) H' := fun H' s' hc => by
      have := q H' s'
      unfold holdsB at this
      rw [if_neg c0, if_pos hc] at this
      exact this
    refine ⟨fun σ' H' => σ' = [some (V.ref g), some v1, some v2, some v3, some (V.str q0), some (V.ref W2)] ∧ H' = H4 ∧ ¬ (stand rs U q0 = [] ∨ oppS q0 ∈ S), ?_, ?_⟩
    · try simp only [tIfS, tOr, tTest, tOp, tCB, tCons, tVar, List.getElem?_cons_succ, List.getElem?_cons_zero, tNil, tC, tRet, tNext, exSlot]
      refine rLenA_lst (SqL.of hW4) ?_
      try simp only [rEqH_int, exBl, decide_eq_true_eq]
      refine ite2 (fun c1 => ?_) (fun c1 => ?_)
      · refine hneed _ s04 (.inl ?_)
        rw [← est]
        have : zs.length = 0 := by rw [List.length_map] at c1; omega
        rw [List.length_eq_zero_iff.mp this]; rfl
      refine in_someT (h1.same s04) (x := oppS q0) (fun R hR => ?_) (tVar_go rfl) ?_
      · try simp only [tCall, tCons, tVar, List.getElem?_cons_succ, List.getElem?_cons_zero, tNil, List.append_nil, exSlot]
        exact ⟨q0, rfl, hql, hR⟩
      try simp only [decide_eq_true_eq]
      refine ite2 (fun c2 => hneed _ s04 (.inr c2)) (fun c2 => ⟨(by trivial), (by trivial), fun z => z.elim (fun w => c1 ?_) c2⟩)
      rw [← est] at w
      have : zs.length = 0 := by have := congrArg List.length w; rw [List.length_map] at this; exact this
      rw [List.length_map, this]; rfl
    rintro σ' H5 ⟨rfl, rfl, hc⟩
    try simp only [tRet, tCB, tCons, tNil, tComp_eq, iList, tMeth, tVar, List.getElem?_cons_zero, List.getElem?_cons_succ, List.append_nil, exSlot]
    refine ⟨g, dx, _, rfl, s04 _ _ hg1, gfl_no _ _ _ (by decide +kernel) (by decide +kernel) (by decide +kernel), g, q0, rs, pl, rfl, hG.same s04, hO, hql, fun B zb H6 s6 hBn hB6 hzb eb => ?_⟩
    have hbl : zb.length ≤ 63 := by
      have := congrArg List.length eb
      rw [List.length_map] at this
      rw [this]; exact Nat.le_trans (List.length_filter_le _ _) hrl
    have s06 := s04.trans s6
    try simp only [exRef]
    refine ⟨⟨_, SqL.of hB6⟩, ?_⟩
    refine comp_ru zb hB6 (by omega) hzb [some v3, some (V.ref g), some (V.ref W2)] rfl (fun _ => true) (fun p => V.bl (anyB p.2.2.2.2 D || btn pl (zs.map (·.2)) p.2)) (fun x r H' R ho hr s' hR => hR _ (Same.refl _)) (fun x r H' R ho hr s' hR => ?_) (fun C H7 hCn s7 hC7 => ?_)
    · have CF := clsF T ho.1
      have hru : RuAt t H' (.ref x) r := ⟨x, rfl, hr⟩
      obtain ⟨dx', t0, g1, g2⟩ := hr
      try simp only [tOrV, tCall, tCons, tFld, tVar, List.getElem?_cons_zero, List.getElem?_cons_succ, tNil, List.append_nil, exSlot]
      refine ⟨x, _, dx', _, _, rfl, g1, CF.cl, CF.nb, flds_body _ _ _, t0, v3, r.2.2.2, D, rfl, g2, by have := ho.2.2.2.2.2; omega, h3.same (s06.trans s'), fun H'' s'' => ?_⟩
      have s48 := (s6.trans s').trans s''
      have hh := fun H'' s'' => hR H'' s''
      try simp only [exBl]
      refine ite2 (fun c5 => ?_) (fun c5 => ?_)
      · have := hR _ s''
        rw [c5, Bool.true_or] at this; exact this
      · have c6 : anyB r.2.2.2 D = false := by simpa using c5
        rw [c6] at hR
        exact ⟨g, x, W2, rs, pl, r, zs, rfl, (hG.same s04).same s48, hru.same s'', ho, s48 _ _ hW4, hz4.same s48, hzl4, fun H9 s9 => hR _ (s''.trans s9)⟩
    have hC7' : H7 C = some (.lst ((zb.map fun p => (anyB p.2.2.2.2 D || btn pl (zs.map (·.2)) p.2)).map V.bl)) := by
      rw [hC7, List.filter_eq_self.mpr (fun _ _ => rfl), List.map_map]; rfl
    refine ⟨C, _, rfl, SqL.of hC7', ?_⟩
    have := q _ (s06.trans s7)
    unfold holdsB at this
    rw [if_neg c0, if_neg hc, ← eb, List.all_map, ← est] at this
    rw [List.all_map]
    exact this
theorem ok_d_refused_by (T : Txt K mg t) : FnOk P w K mg base CX0 3 t.f_d_refused_by t.fd_d_refused_by ["ground", "sures", "held", "refused", "q"] (spHolds t refB) := by
  refine T.F_d_refused_by.ok sc_d_refused_by (fun vs H Q E h => ?_) (fun cdv A outer s H vs Q E hr h => ?_)
  · obtain ⟨g, v1, v2, v3, q0, rs, pl, S, U, D, rfl, hG, hO, hrl, h1, h2, h3, hql, q⟩ := h; rfl
  · obtain ⟨g, v1, v2, v3, q0, rs, pl, S, U, D, rfl, hG, hO, hrl, h1, h2, h3, hql, q⟩ := h
    refine ⟨_, (@pss_cons _ _ _ _ _ (@ps_if _ _ _ _ _ _ _ _ (@pt_alt _ _ _ _ (@pt_cmp _ _ _ _ _ _ (pc_din (hu_of hr) (@pv _ 4 _ _ (by rfl) (by first | exact vis0 rfl | exact vis1 rfl | exact vis2 rfl) (by decide) (by decide)) (@pv _ 1 _ _ (by rfl) (by first | exact vis0 rfl | exact vis1 rfl | exact vis2 rfl) (by decide) (by decide))) (by with_unfolding_all rfl)) (@pt_cmpR _ _ _ _ _ _ _ _ op_inA (@pv _ 4 _ _ (by rfl) (by first | exact vis0 rfl | exact vis1 rfl | exact vis2 rfl) (by decide) (by decide)) (@pv _ 1 _ _ (by rfl) (by first | exact vis0 rfl | exact vis1 rfl | exact vis2 rfl) (by decide) (by decide)) (by with_unfolding_all rfl))) (@pss_one _ _ _ (@ps_ret _ _ _ _ (@pe_bl _ _ _ _))) (@pss_nil _)) (@pss_cons _ _ _ _ _ (@ps_set _ _ (5) _ _ _ _ sc_d_refused_by.nd rfl (by first | exact Or.inl rfl | exact Or.inr rfl) (@pe_comp _ _ _ _ _ _ _ _ _ _ _ _ _ (@compOk_of _ (defScope s_d_refused_by) (n_d_refused_by) (["rule", "refused"]) ([none, some 3]) _ rfl rfl (by decide +kernel)) rfl (@pi_list _ _ _ _ (@pe_meth _ _ _ _ _ _ _ _ _ _ _ _ _ _ _ _ _ _ _ _ (@pv _ 0 _ _ (by rfl) (by first | exact vis0 rfl | exact vis1 rfl | exact vis2 rfl) (by decide) (by decide)) T.cl_Ground T.me_Ground_speaking (ok_c_Ground_speaking T) (hr.mono (by decide)) T.b_c_Ground_speaking .nil pass0 (@pa_cons _ _ _ _ _ (@pv _ 4 _ _ (by rfl) (by first | exact vis0 rfl | exact vis1 rfl | exact vis2 rfl) (by decide) (by decide)) (@pa_nil _) (by rfl)) (by rfl) (by rfl) (by rfl))) (fun _ _ _ _ _ => (@pg_name _ _ (0) _ (show List.Nodup (["rule", "refused"] : List Str) by decide +kernel) rfl (by first | exact Or.inl rfl | exact Or.inr rfl) (by first | exact Or.inl rfl | exact Or.inr rfl | assumption))) (fun _ _ _ _ _ => @pts_one _ _ _ (@pt_not _ _ _ _ (@pt_val _ _ _ (@pe_call _ _ _ _ _ _ _ _ _ _ _ _ _ _ _ _ (ok_d_any_among T) (hr.mono (by decide)) rfl T.g_d_any_among T.F_d_any_among.kp T.b_d_any_among .nil pass0 (@pa_cons _ _ _ _ _ (@pe_fldK _ (K) _ _ _ _ rfl (@pv _ 0 _ _ (by rfl) (by first | exact vis0 rfl | exact vis1 rfl | exact vis2 rfl) (by decide) (by decide)) rfl) (@pa_cons _ _ _ _ _ (@pv _ 1 _ _ (by rfl) (by first | exact vis0 rfl | exact vis1 rfl | exact vis2 rfl) (by decide) (by decide)) (@pa_nil _) (by rfl)) (by rfl)) (by decide) (by rfl) (by rfl)) (by intro _ ; rfl)))) (fun _ _ _ _ _ => (@pv _ 0 _ _ (by rfl) (by first | exact vis0 rfl | exact vis1 rfl | exact vis2 rfl) (by decide) (by decide))) (by intro _ ; rfl)) (by rfl) (by first | exact Or.inl rfl | exact Or.inr rfl | assumption)) (@pss_mid _ _ _ _ _ (@ps_if _ _ _ _ _ _ _ _ (@PW.pt _ _ _ (@pw_or _ _ _ _ _ _ _ (@pt_cmpR _ _ _ _ _ _ _ _ (op_eqH hr.units) (@pe_callB _ _ _ _ _ _ _ _ _ call_lenA rfl T.z_len boot_lenT (@pa_cons _ _ _ _ _ (@pv _ 5 _ _ (by rfl) (by first | exact vis0 rfl | exact vis1 rfl | exact vis2 rfl) (by decide) (by decide)) (@pa_nil _) (by rfl)) (by decide) (by decide) (by rfl) (by rfl)) (@pe_int _ _ _ _) (nomark _)) (@pw_or1 _ _ _ _ (@pt_alt _ _ _ _ (@pt_cmp _ _ _ _ _ _ (pc_din (hu_of hr) (@pe_call _ _ _ _ _ _ _ _ _ _ _ _ _ _ _ _ (ok_d_opposite T) (hr.mono (by decide)) rfl T.g_d_opposite T.F_d_opposite.kp T.b_d_opposite .nil pass0 (@pa_cons _ _ _ _ _ (@pv _ 4 _ _ (by rfl) (by first | exact vis0 rfl | exact vis1 rfl | exact vis2 rfl) (by decide) (by decide)) (@pa_nil _) (by rfl)) (by decide) (by rfl) (by rfl)) (@pv _ 1 _ _ (by rfl) (by first | exact vis0 rfl | exact vis1 rfl | exact vis2 rfl) (by decide) (by decide))) (by with_unfolding_all rfl)) (@pt_cmpR _ _ _ _ _ _ _ _ op_inA (@pe_call _ _ _ _ _ _ _ _ _ _ _ _ _ _ _ _ (ok_d_opposite T) (hr.mono (by decide)) rfl T.g_d_opposite T.F_d_opposite.kp T.b_d_opposite .nil pass0 (@pa_cons _ _ _ _ _ (@pv _ 4 _ _ (by rfl) (by first | exact vis0 rfl | exact vis1 rfl | exact vis2 rfl) (by decide) (by decide)) (@pa_nil _) (by rfl)) (by decide) (by rfl) (by rfl)) (@pv _ 1 _ _ (by rfl) (by first | exact vis0 rfl | exact vis1 rfl | exact vis2 rfl) (by decide) (by decide)) (by with_unfolding_all rfl)))))) (@pss_one _ _ _ (@ps_ret _ _ _ _ (@pe_bl _ _ _ _))) (@pss_nil _)) (@pss_one _ _ _ (@ps_ret _ _ _ _ (@pe_callB _ _ _ _ _ _ _ _ _ (call_any_bools rfl) rfl T.z_any boot_anyT (@pa_cons _ _ _ _ _ (@pe_comp _ _ _ _ _ _ _ _ _ _ _ _ _ (@compOk_of _ (defScope s_d_refused_by) (n_d_refused_by) (["rule", "held", "ground", "unfallen"]) ([none, some 2, some 0, some 5]) _ rfl rfl (by decide +kernel)) rfl (@pi_list _ _ _ _ (@pe_meth _ _ _ _ _ _ _ _ _ _ _ _ _ _ _ _ _ _ _ _ (@pv _ 0 _ _ (by rfl) (by first | exact vis0 rfl | exact vis1 rfl | exact vis2 rfl) (by decide) (by decide)) T.cl_Ground T.me_Ground_against (ok_c_Ground_against T) (hr.mono (by decide)) T.b_c_Ground_against .nil pass0 (@pa_cons _ _ _ _ _ (@pv _ 4 _ _ (by rfl) (by first | exact vis0 rfl | exact vis1 rfl | exact vis2 rfl) (by decide) (by decide)) (@pa_nil _) (by rfl)) (by rfl) (by rfl) (by rfl))) (fun _ _ _ _ _ => (@pg_name _ _ (0) _ (show List.Nodup (["rule", "held", "ground", "unfallen"] : List Str) by decide +kernel) rfl (by first | exact Or.inl rfl | exact Or.inr rfl) (by first | exact Or.inl rfl | exact Or.inr rfl | assumption))) (fun _ _ _ _ _ => @pts_nil _) (fun _ _ _ _ _ => (@pe_and _ _ _ _ _ _ _ (@pe_call _ _ _ _ _ _ _ _ _ _ _ _ _ _ _ _ (ok_d_all_among T) (hr.mono (by decide)) rfl T.g_d_all_among T.F_d_all_among.kp T.b_d_all_among .nil pass0 (@pa_cons _ _ _ _ _ (@pe_fldK _ (K) _ _ _ _ rfl (@pv _ 0 _ _ (by rfl) (by first | exact vis0 rfl | exact vis1 rfl | exact vis2 rfl) (by decide) (by decide)) rfl) (@pa_cons _ _ _ _ _ (@pv _ 1 _ _ (by rfl) (by first | exact vis0 rfl | exact vis1 rfl | exact vis2 rfl) (by decide) (by decide)) (@pa_nil _) (by rfl)) (by rfl)) (by decide) (by rfl) (by rfl)) (@pe_one _ _ _ _ _ (@pe_not _ _ _ _ (@pe_call _ _ _ _ _ _ _ _ _ _ _ _ _ _ _ _ (ok_d_is_beaten T) (hr.mono (by decide)) rfl T.g_d_is_beaten T.F_d_is_beaten.kp T.b_d_is_beaten .nil pass0 (@pa_cons _ _ _ _ _ (@pv _ 2 _ _ (by rfl) (by first | exact vis0 rfl | exact vis1 rfl | exact vis2 rfl) (by decide) (by decide)) (@pa_cons _ _ _ _ _ (@pv _ 0 _ _ (by rfl) (by first | exact vis0 rfl | exact vis1 rfl | exact vis2 rfl) (by decide) (by decide)) (@pa_cons _ _ _ _ _ (@pv _ 3 _ _ (by rfl) (by first | exact vis0 rfl | exact vis1 rfl | exact vis2 rfl) (by decide) (by decide)) (@pa_nil _) (by rfl)) (by rfl)) (by rfl)) (by decide) (by rfl) (by rfl)))))) (by intro _ ; rfl)) (@pa_nil _) (by rfl)) (by decide) (by decide) (by rfl) (by rfl))))))), ?_⟩
    rw [show start n_d_refused_by [V.ref g, v1, v2, v3, V.str q0] = [some (V.ref g), some (v1), some (v2), some (v3), some (V.str q0), none] from rfl]
    obtain ⟨dx, io, bh, pr, _, _, _, hg1, _⟩ := id hG
    try simp only [tSeq, tIfS, tRet, tC, tNext, tAsg, gName, List.set_cons_succ, List.set_cons_zero, tComp_eq, iList, tMeth, tVar, List.getElem?_cons_zero, tCons, List.getElem?_cons_succ, tNil, List.append_nil, exSlot]
    refine in_someT h1 (tVar_go rfl) (tVar_go rfl) ?_
    try simp only [decide_eq_true_eq]
    refine ite2 (fun c0 => ?_) (fun c0 => ?_)
    · have := q H (Same.refl _)
      unfold refB at this
      rw [if_pos c0] at this
      exact this
    refine ⟨g, dx, _, rfl, hg1, gfl_no _ _ _ (by decide +kernel) (by decide +kernel) (by decide +kernel), g, q0, rs, pl, rfl, hG, hO, hrl, fun W zr H3 s3 hWn hW3 hz ez => ?_⟩
    have hzl : zr.length ≤ 63 := by
      have := congrArg List.length ez
      rw [List.length_map] at this
      rw [this]; exact Nat.le_trans (List.length_filter_le _ _) (Nat.le_trans (List.length_filter_le _ _) hrl)
    try simp only [exRef]
    refine ⟨⟨_, SqL.of hW3⟩, ?_⟩
    refine comp_ru zr hW3 (by omega) hz [some v3] rfl (fun r => !anyB r.2.2.2 D) (fun p => p.1) (fun x r H' R ho hr s' hR => ?_) (fun x r H' R ho hr s' hR => ?_) (fun W2 H4 hW2n s4 hW4 => ?_)
    · have CF := clsF T ho.1
      obtain ⟨dx', t0, g1, g2⟩ := hr
      try simp only [tNot, tB, tCall, tCons, tFld, tVar, List.getElem?_cons_zero, List.getElem?_cons_succ, tNil, List.append_nil, exSlot]
      refine ⟨x, _, dx', _, _, rfl, g1, CF.cl, CF.nb, flds_body _ _ _, t0, v3, r.2.2.2, D, rfl, g2, by have := ho.2.2.2.2.2; omega, h3.same (s3.trans s'), fun H'' s'' => ?_⟩
      try simp only [exBl]
      exact hR _ s''
    · try simp only [tVar, List.getElem?_cons_zero, exSlot]
      exact hR _ (Same.refl _)
    have s04 := s3.trans s4
    have hz4 : WsOk t H4 (zr.filter fun p => !anyB p.2.2.2.2 D) := fun p hp => (hz.same s4) p (List.mem_filter.mp hp).1
    have hzl4 : (zr.filter fun p => !anyB p.2.2.2.2 D).length ≤ 63 := Nat.le_trans (List.length_filter_le _ _) hzl
    have est : (zr.filter fun p => !anyB p.2.2.2.2 D).map (·.2) = unf rs D q0 := by
      unfold unf
      rw [← ez, List.filter_map]; rfl
    generalize (zr.filter fun p => !anyB p.2.2.2.2 D) = zs at hW4 hz4 hzl4 est
    have hneed : ∀ H', Same H H' → (unf rs D q0 = [] ∨ oppS q0 ∈ S) → Q (.bl true) H' := fun H' s' hc => by
      have := q H' s'
      unfold refB at this
      rw [if_neg c0, if_pos hc] at this
      exact this
    refine ⟨fun σ' H' => σ' = [some (V.ref g), some v1, some v2, some v3, some (V.str q0), some (V.ref W2)] ∧ H' = H4 ∧ ¬ (unf rs D q0 = [] ∨ oppS q0 ∈ S), ?_, ?_⟩
    · try simp only [tIfS, tOr, tTest, tOp, tCB, tCons, tVar, List.getElem?_cons_succ, List.getElem?_cons_zero, tNil, tC, tRet, tNext, exSlot]
      refine rLenA_lst (SqL.of hW4) ?_
      try simp only [rEqH_int, exBl, decide_eq_true_eq]
      refine ite2 (fun c1 => ?_) (fun c1 => ?_)
      · refine hneed _ s04 (.inl ?_)
        rw [← est]
        have : zs.length = 0 := by rw [List.length_map] at c1; omega
        rw [List.length_eq_zero_iff.mp this]; rfl
      refine in_someT (h1.same s04) (x := oppS q0) (fun R hR => ?_) (tVar_go rfl) ?_
      · try simp only [tCall, tCons, tVar, List.getElem?_cons_succ, List.getElem?_cons_zero, tNil, List.append_nil, exSlot]
        exact ⟨q0, rfl, hql, hR⟩
      try simp only [decide_eq_true_eq]
      refine ite2 (fun c2 => hneed _ s04 (.inr c2)) (fun c2 => ⟨(by trivial), (by trivial), fun z => z.elim (fun w => c1 ?_) c2⟩)
      rw [← est] at w
      have : zs.length = 0 := by have := congrArg List.length w; rw [List.length_map] at this; exact this
      rw [List.length_map, this]; rfl
    rintro σ' H5 ⟨rfl, rfl, hc⟩
    try simp only [tRet, tCB, tCons, tNil, tComp_eq, iList, tMeth, tVar, List.getElem?_cons_zero, List.getElem?_cons_succ, List.append_nil, exSlot]
    refine ⟨g, dx, _, rfl, s04 _ _ hg1, gfl_no _ _ _ (by decide +kernel) (by decide +kernel) (by decide +kernel), g, q0, rs, pl, rfl, hG.same s04, hO, hql, fun B zb H6 s6 hBn hB6 hzb eb => ?_⟩
    have hbl : zb.length ≤ 63 := by
      have := congrArg List.length eb
      rw [List.length_map] at this
      rw [this]; exact Nat.le_trans (List.length_filter_le _ _) hrl
    have s06 := s04.trans s6
    try simp only [exRef]
    refine ⟨⟨_, SqL.of hB6⟩, ?_⟩
    refine comp_ru zb hB6 (by omega) hzb [some v2, some (V.ref g), some (V.ref W2)] rfl (fun _ => true) (fun p => V.bl (subB p.2.2.2.2 U && !btn pl (zs.map (·.2)) p.2)) (fun x r H' R ho hr s' hR => hR _ (Same.refl _)) (fun x r H' R ho hr s' hR => ?_) (fun C H7 hCn s7 hC7 => ?_)
    · have CF := clsF T ho.1
      have hru : RuAt t H' (.ref x) r := ⟨x, rfl, hr⟩
      obtain ⟨dx', t0, g1, g2⟩ := hr
      try simp only [tAndV, tCall, tCons, tFld, tVar, List.getElem?_cons_zero, List.getElem?_cons_succ, tNil, List.append_nil, tNotV, exSlot]
      refine ⟨x, _, dx', _, _, rfl, g1, CF.cl, CF.nb, flds_body _ _ _, t0, v2, r.2.2.2, U, rfl, g2, by have := ho.2.2.2.2.2; omega, h2.same (s06.trans s'), fun H'' s'' => ?_⟩
      have s48 := (s6.trans s').trans s''
      try simp only [exBl]
      refine ite2 (fun c5 => ?_) (fun c5 => ?_)
      · rw [c5, Bool.true_and] at hR
        refine ⟨g, x, W2, rs, pl, r, zs, rfl, (hG.same s04).same s48, hru.same s'', ho, s48 _ _ hW4, hz4.same s48, hzl4, fun H9 s9 => ?_⟩
        try simp only [exBl]
        exact hR _ (s''.trans s9)
      · have c6 : subB r.2.2.2 U = false := by simpa using c5
        have := hR _ s''
        rw [c6, Bool.false_and] at this
        exact this
    have hC7' : H7 C = some (.lst ((zb.map fun p => (subB p.2.2.2.2 U && !btn pl (zs.map (·.2)) p.2)).map V.bl)) := by
      rw [hC7, List.filter_eq_self.mpr (fun _ _ => rfl), List.map_map]; rfl
    refine ⟨C, _, rfl, SqL.of hC7', ?_⟩
    have := q _ (s06.trans s7)
    unfold refB at this
    rw [if_neg c0, if_neg hc, ← eb, List.any_map, ← est] at this
    rw [List.any_map]
    exact this
theorem ok_d_keyed (T : Txt K mg t) : FnOk P w K mg base CX0 1 t.f_d_keyed t.fd_d_keyed ["some"] spKeyed := by
  refine T.F_d_keyed.ok sc_d_keyed (fun vs H Q E h => ?_) (fun cdv A outer s H vs Q E hr h => ?_)
  · obtain ⟨a, zs, rfl, ha, hl, q⟩ := h; rfl
  · obtain ⟨a, zs, rfl, ha, hl, q⟩ := h
    refine ⟨_, (@pss_cons _ _ _ _ _ (@ps_set _ _ (1) _ _ _ _ sc_d_keyed.nd rfl (by first | exact Or.inl rfl | exact Or.inr rfl) (@pe_dnewK _ _) (by rfl) (by first | exact Or.inl rfl | exact Or.inr rfl | assumption)) (@pss_cons _ _ _ _ _ (@ps_for _ _ _ _ _ _ _ _ PassesOwn.never rfl (@pi_list _ _ _ _ (@pv _ 0 _ _ (by rfl) (by first | exact vis0 rfl | exact vis1 rfl | exact vis2 rfl) (by decide) (by decide))) (@pg_name _ _ (2) _ sc_d_keyed.nd rfl (by first | exact Or.inl rfl | exact Or.inr rfl) (by first | exact Or.inl rfl | exact Or.inr rfl | assumption)) (@pss_one _ _ _ (@ps_dput _ _ _ _ _ _ _ _ _ (hu_of hr) (@pv _ 1 _ _ (by rfl) (by first | exact vis0 rfl | exact vis1 rfl | exact vis2 rfl) (by decide) (by decide)) (@pv _ 2 _ _ (by rfl) (by first | exact vis0 rfl | exact vis1 rfl | exact vis2 rfl) (by decide) (by decide)) (@pe_bl _ _ _ _) rfl)) (by intro _ ; rfl)) (@pss_one _ _ _ (@ps_ret _ _ _ _ (@pv _ 1 _ _ (by rfl) (by first | exact vis0 rfl | exact vis1 rfl | exact vis2 rfl) (by decide) (by decide)))))), ?_⟩
    rw [show start n_d_keyed [V.ref a] = [some (V.ref a), none, none] from rfl]
    try simp only [tSeq, tAsg, tDNewK, gName, List.set_cons_succ, List.set_cons_zero, tFor_eq, iList, tVar, List.getElem?_cons_zero, exSlot, exRef]
    intro D hD
    obtain ⟨H1, e1, s1, h1⟩ := newO hD (.dK []); rw [e1]
    refine ⟨⟨_, SqL.of (s1 _ _ ha)⟩, ?_⟩
    refine for_list (K := K) (a := a) (xs := zs.map V.str) (fun i σ H' => ∃ (kvs : List (Key × V)) (y : Option V), σ = [some (V.ref a), some (V.ref D), y] ∧ Same H H' ∧ H' D = some (.dK kvs) ∧ kvs.length ≤ i ∧ ∀ x : Str, (valV kvs (Sum.inr x : Key)).isSome = decide (x ∈ zs.take i))
      ⟨[], _, rfl, s1, h1, Nat.le_refl _, fun x => by simp [valV]⟩ (fun i σ H' _ h => by obtain ⟨_, _, _, s, _⟩ := h; exact SqL.of (s _ _ ha)) ?_ ?_
    · rintro i v σ H5 hi ⟨kvs, y, rfl, s5, h5, hkl, hF⟩
      obtain ⟨hi', rfl⟩ := at_map hi
      try simp only [gName, sDPut, tC, tVar, List.set_cons_succ, List.set_cons_zero, List.getElem?_cons_succ, List.getElem?_cons_zero, exSlot]
      refine ⟨D, _, rfl, DPut.k (k := (Sum.inr zs[i] : Key)) h5 (Nat.lt_of_le_of_lt (show kvs.length ≤ 1000 by omega) (by decide)), putK kvs (Sum.inr zs[i]) (V.bl true), _, rfl, fun b o e => by rw [upd_ne (ne_of_none e hD)]; exact s5 _ _ e, upd_same, ?_, fun x => ?_⟩
      · have := length_putK kvs (Sum.inr zs[i] : Key) (V.bl true); omega
      · rw [valV_put, Bool.eq_iff_iff, decide_eq_true_iff, mem_take1 hi']
        by_cases z : (Sum.inr x : Key) = Sum.inr zs[i]
        · rw [if_pos z, Sum.inr.inj z]; exact ⟨fun _ => .inr rfl, fun _ => rfl⟩
        · rw [if_neg z, hF, decide_eq_true_iff]
          exact ⟨.inl, fun h => h.elim id fun w => absurd (by rw [w]) z⟩
    · rintro σ H5 ⟨kvs, y, rfl, s5, h5, hkl, hF⟩
      try simp only [tRet, tVar, List.getElem?_cons_succ, List.getElem?_cons_zero, exSlot]
      rw [List.length_map, List.take_length] at hF
      exact q D H5 s5 ⟨kvs, h5, hF⟩
theorem ok_d_with_word (T : Txt K mg t) : FnOk P w K mg base CX0 2 t.f_d_with_word t.fd_d_with_word ["rows", "word"] spWithWord := by
  refine T.F_d_with_word.ok sc_d_with_word (fun vs H Q E h => ?_) (fun cdv A outer s H vs Q E hr h => ?_)
  · obtain ⟨a, w, ps, rl, rfl, ha, hP, hl, q⟩ := h; rfl
  · obtain ⟨a, w, ps, rl, rfl, ha, hP, hl, q⟩ := h
    refine ⟨_, (@pss_one _ _ _ (@ps_ret _ _ _ _ (@pe_call _ _ _ _ _ _ _ _ _ _ _ _ _ _ _ _ (ok_d_keyed T) (hr.mono (by decide)) rfl T.g_d_keyed T.F_d_keyed.kp T.b_d_keyed .nil pass0 (@pa_cons _ _ _ _ _ (@pe_comp _ _ _ _ _ _ _ _ _ _ _ _ _ (@compOk_of _ (defScope s_d_with_word) (n_d_with_word) (["row", "word"]) ([none, some 1]) _ rfl rfl (by decide +kernel)) rfl (@pi_list _ _ _ _ (@pv _ 0 _ _ (by rfl) (by first | exact vis0 rfl | exact vis1 rfl | exact vis2 rfl) (by decide) (by decide))) (fun _ _ _ _ _ => (@pg_name _ _ (0) _ (show List.Nodup (["row", "word"] : List Str) by decide +kernel) rfl (by first | exact Or.inl rfl | exact Or.inr rfl) (by first | exact Or.inl rfl | exact Or.inr rfl | assumption))) (fun _ _ _ _ _ => @pts_one _ _ _ (@pt_cmpR _ _ _ _ _ _ _ _ (op_eqK hr.units (K := K) rfl) (@pe_ix _ _ _ _ _ _ _ (ix_seqK (K := K) rfl) (@pv _ 0 _ _ (by rfl) (by first | exact vis0 rfl | exact vis1 rfl | exact vis2 rfl) (by decide) (by decide)) (@pe_int _ _ _ _) (fun _ _ => rfl)) (@pv _ 1 _ _ (by rfl) (by first | exact vis0 rfl | exact vis1 rfl | exact vis2 rfl) (by decide) (by decide)) (nomark _))) (fun _ _ _ _ _ => (@pe_ix _ _ _ _ _ _ _ (ix_seqK (K := K) rfl) (@pv _ 0 _ _ (by rfl) (by first | exact vis0 rfl | exact vis1 rfl | exact vis2 rfl) (by decide) (by decide)) (@pe_int _ _ _ _) (fun _ _ => rfl))) (by intro _ ; rfl)) (@pa_nil _) (by rfl)) (by decide) (by rfl) (by rfl)))), ?_⟩
    rw [show start n_d_with_word [V.ref a, V.str w] = [some (V.ref a), some (V.str w)] from rfl]
    try simp only [tRet, tCall, tCons, tNil, List.append_nil, tComp_eq, iList, tVar, List.getElem?_cons_zero, exSlot, exRef]
    refine ⟨⟨_, SqL.of ha⟩, ?_⟩
    refine comp_prs ha hP (by omega) [some (V.str w)] rfl (fun p => decide (p.1 = w)) (fun p => V.str p.2) (fun x p H' R hx s' hR => ?_) (fun x p H' R hx s' hR => ?_) (fun D H' hD s' hD' => ?_)
    · try simp only [tTest, tOp, tVar, List.getElem?_cons_zero, tC, List.getElem?_cons_succ, exSlot]
      refine rIx_tup (SqT.of hx) rfl ?_
      try simp only [rEqH_str, exBl]
      exact hR _ (Same.refl _)
    · try simp only [tOp, tVar, List.getElem?_cons_zero, tC, exSlot]
      exact rIx_tup (SqT.of hx) rfl (hR _ (Same.refl _))
    refine ⟨D, wOf rl w, rfl, by rw [hD']; unfold wOf; rw [List.map_map]; rfl, ?_, fun D' H'' s'' hk => q D' H'' (s'.trans s'') hk⟩
    unfold wOf
    rw [List.length_map]
    exact Nat.le_trans (List.length_filter_le _ _) (by omega)
theorem ok_d_follows (T : Txt K mg t) : FnOk P w K mg base CX0 4 t.f_d_follows t.fd_d_follows ["ground", "sures", "rows", "claim"] (spFollows t) := by
  refine T.F_d_follows.ok sc_d_follows (fun vs H Q E h => ?_) (fun cdv A outer s H vs Q E hr h => ?_)
  · obtain ⟨g, a, c, v1, rs, pl, rl, ps, S, b, q0, rfl, hG, hO, hrl, h1, ha, hP, hl, hc, hql, q⟩ := h; rfl
  · obtain ⟨g, a, c, v1, rs, pl, rl, ps, S, b, q0, rfl, hG, hO, hrl, h1, ha, hP, hl, hc, hql, q⟩ := h
    obtain ⟨_, k_HELD⟩ := T.k_HELD
    obtain ⟨_, k_REFUSED⟩ := T.k_REFUSED
    refine ⟨_, (@pss_cons _ _ _ _ _ (@ps_set _ _ (4) _ _ _ _ sc_d_follows.nd rfl (by first | exact Or.inl rfl | exact Or.inr rfl) (@pe_call _ _ _ _ _ _ _ _ _ _ _ _ _ _ _ _ (ok_d_with_word T) (hr.mono (by decide)) rfl T.g_d_with_word T.F_d_with_word.kp T.b_d_with_word .nil pass0 (@pa_cons _ _ _ _ _ (@pv _ 2 _ _ (by rfl) (by first | exact vis0 rfl | exact vis1 rfl | exact vis2 rfl) (by decide) (by decide)) (@pa_cons _ _ _ _ _ (@pe_glob _ _ (.str "held") _ _ rfl k_HELD ⟨_, rfl⟩ (by decide)) (@pa_nil _) (by rfl)) (by rfl)) (by decide) (by rfl) (by rfl)) (by rfl) (by first | exact Or.inl rfl | exact Or.inr rfl | assumption)) (@pss_cons _ _ _ _ _ (@ps_set _ _ (5) _ _ _ _ sc_d_follows.nd rfl (by first | exact Or.inl rfl | exact Or.inr rfl) (@pe_call _ _ _ _ _ _ _ _ _ _ _ _ _ _ _ _ (ok_d_with_word T) (hr.mono (by decide)) rfl T.g_d_with_word T.F_d_with_word.kp T.b_d_with_word .nil pass0 (@pa_cons _ _ _ _ _ (@pv _ 2 _ _ (by rfl) (by first | exact vis0 rfl | exact vis1 rfl | exact vis2 rfl) (by decide) (by decide)) (@pa_cons _ _ _ _ _ (@pe_glob _ _ (.str "refused") _ _ rfl k_REFUSED ⟨_, rfl⟩ (by decide)) (@pa_nil _) (by rfl)) (by rfl)) (by decide) (by rfl) (by rfl)) (by rfl) (by first | exact Or.inl rfl | exact Or.inr rfl | assumption)) (@pss_cons _ _ _ _ _ (@ps_if _ _ _ _ _ _ _ _ (@pt_cmpR _ _ _ _ _ _ _ _ (op_eqH hr.units) (@pe_ix _ _ _ _ _ _ _ ix_seq (@pv _ 3 _ _ (by rfl) (by first | exact vis0 rfl | exact vis1 rfl | exact vis2 rfl) (by decide) (by decide)) (@pe_int _ _ _ _) (fun _ _ => rfl)) (@pe_glob _ _ (.str "held") _ _ rfl k_HELD ⟨_, rfl⟩ (by decide)) (nomark _)) (@pss_one _ _ _ (@ps_ret _ _ _ _ (@pe_call _ _ _ _ _ _ _ _ _ _ _ _ _ _ _ _ (ok_d_holds_by T) (hr.mono (by decide)) rfl T.g_d_holds_by T.F_d_holds_by.kp T.b_d_holds_by .nil pass0 (@pa_cons _ _ _ _ _ (@pv _ 0 _ _ (by rfl) (by first | exact vis0 rfl | exact vis1 rfl | exact vis2 rfl) (by decide) (by decide)) (@pa_cons _ _ _ _ _ (@pv _ 1 _ _ (by rfl) (by first | exact vis0 rfl | exact vis1 rfl | exact vis2 rfl) (by decide) (by decide)) (@pa_cons _ _ _ _ _ (@pv _ 4 _ _ (by rfl) (by first | exact vis0 rfl | exact vis1 rfl | exact vis2 rfl) (by decide) (by decide)) (@pa_cons _ _ _ _ _ (@pv _ 5 _ _ (by rfl) (by first | exact vis0 rfl | exact vis1 rfl | exact vis2 rfl) (by decide) (by decide)) (@pa_cons _ _ _ _ _ (@pe_ix _ _ _ _ _ _ _ ix_seq (@pv _ 3 _ _ (by rfl) (by first | exact vis0 rfl | exact vis1 rfl | exact vis2 rfl) (by decide) (by decide)) (@pe_int _ _ _ _) (fun _ _ => rfl)) (@pa_nil _) (by rfl)) (by rfl)) (by rfl)) (by rfl)) (by rfl)) (by decide) (by rfl) (by rfl)))) (@pss_nil _)) (@pss_cons _ _ _ _ _ (@ps_if _ _ _ _ _ _ _ _ (@pt_cmpR _ _ _ _ _ _ _ _ (op_eqH hr.units) (@pe_ix _ _ _ _ _ _ _ ix_seq (@pv _ 3 _ _ (by rfl) (by first | exact vis0 rfl | exact vis1 rfl | exact vis2 rfl) (by decide) (by decide)) (@pe_int _ _ _ _) (fun _ _ => rfl)) (@pe_glob _ _ (.str "refused") _ _ rfl k_REFUSED ⟨_, rfl⟩ (by decide)) (nomark _)) (@pss_one _ _ _ (@ps_ret _ _ _ _ (@pe_call _ _ _ _ _ _ _ _ _ _ _ _ _ _ _ _ (ok_d_refused_by T) (hr.mono (by decide)) rfl T.g_d_refused_by T.F_d_refused_by.kp T.b_d_refused_by .nil pass0 (@pa_cons _ _ _ _ _ (@pv _ 0 _ _ (by rfl) (by first | exact vis0 rfl | exact vis1 rfl | exact vis2 rfl) (by decide) (by decide)) (@pa_cons _ _ _ _ _ (@pv _ 1 _ _ (by rfl) (by first | exact vis0 rfl | exact vis1 rfl | exact vis2 rfl) (by decide) (by decide)) (@pa_cons _ _ _ _ _ (@pv _ 4 _ _ (by rfl) (by first | exact vis0 rfl | exact vis1 rfl | exact vis2 rfl) (by decide) (by decide)) (@pa_cons _ _ _ _ _ (@pv _ 5 _ _ (by rfl) (by first | exact vis0 rfl | exact vis1 rfl | exact vis2 rfl) (by decide) (by decide)) (@pa_cons _ _ _ _ _ (@pe_ix _ _ _ _ _ _ _ ix_seq (@pv _ 3 _ _ (by rfl) (by first | exact vis0 rfl | exact vis1 rfl | exact vis2 rfl) (by decide) (by decide)) (@pe_int _ _ _ _) (fun _ _ => rfl)) (@pa_nil _) (by rfl)) (by rfl)) (by rfl)) (by rfl)) (by rfl)) (by decide) (by rfl) (by rfl)))) (@pss_nil _)) (@pss_one _ _ _ (@ps_ret _ _ _ _ (@pe_bl _ _ _ _))))))), ?_⟩
    rw [show start n_d_follows [V.ref g, v1, V.ref a, V.ref c] = [some (V.ref g), some (v1), some (V.ref a), some (V.ref c), none, none] from rfl]
    try simp only [tSeq, tAsg, tCall, tCons, tVar, List.getElem?_cons_succ, List.getElem?_cons_zero, tC, tNil, List.append_nil, gName, List.set_cons_succ, List.set_cons_zero, tIfS, tTest, tOp, tRet, exSlot, tNext]
    refine ⟨a, _, ps, rl, rfl, ha, hP, hl, fun D1 H1 s1 k1 => ?_⟩
    refine ⟨a, _, ps, rl, rfl, s1 _ _ ha, PrsAt.same s1 hP, hl, fun D2 H2 s2 k2 => ?_⟩
    have s02 := s1.trans s2
    have hc2 := s02 _ _ hc
    refine rIx_tup (SqT.of hc2) rfl ?_
    try simp only [rEqH_str, exBl, decide_eq_true_eq]
    cases b with
    | true =>
      refine ite2 (fun _ => ?_) (fun c => absurd rfl c)
      exact rIx_tup (SqT.of hc2) rfl ⟨g, _, _, _, q0, rs, pl, S, _, _, rfl, hG.same s02, hO, hrl, h1.same s02, (k1.same s2).some, k2.some, hql, fun H' s' => q H' (s02.trans s')⟩
    | false =>
      refine ite2 (fun c => absurd c (by decide +kernel)) (fun _ => ?_)
      refine rIx_tup (SqT.of hc2) rfl ?_
      try simp only [rEqH_str, exBl, decide_eq_true_eq]
      refine ite2 (fun _ => ?_) (fun c => absurd rfl c)
      exact rIx_tup (SqT.of hc2) rfl ⟨g, _, _, _, q0, rs, pl, S, _, _, rfl, hG.same s02, hO, hrl, h1.same s02, (k1.same s2).some, k2.some, hql, fun H' s' => q H' (s02.trans s')⟩
theorem ok_d_l_cell_at (T : Txt K mg t) : FnOk P w K mg base CX0 1 t.f_d_l_cell_at t.fd_d_l_cell_at ["_law_script", "_law_k"] (spCell K) := by
  refine T.F_d_l_cell_at.ok sc_d_l_cell_at (fun vs H Q E h => ?_) (fun cdv A outer s H vs Q E hr h => ?_)
  · obtain ⟨a, ns, k, rfl, hS, hl, k0, k1, q⟩ := h; rfl
  · obtain ⟨a, ns, k, rfl, hS, hl, k0, k1, q⟩ := h
    refine ⟨_, (@pss_cons _ _ _ _ _ (@ps_if _ _ _ _ _ _ _ _ (@pt_cmpR _ _ _ _ _ _ _ _ op_ltA (@pv _ 1 _ _ (by rfl) (by first | exact vis0 rfl | exact vis1 rfl | exact vis2 rfl) (by decide) (by decide)) (@pe_callB _ _ _ _ _ _ _ _ _ call_lenA rfl T.z_len boot_lenT (@pa_cons _ _ _ _ _ (@pv _ 0 _ _ (by rfl) (by first | exact vis0 rfl | exact vis1 rfl | exact vis2 rfl) (by decide) (by decide)) (@pa_nil _) (by rfl)) (by decide) (by decide) (by rfl) (by rfl)) (nomark _)) (@pss_one _ _ _ (@ps_ret _ _ _ _ (@pe_ix _ _ _ _ _ _ _ ix_seq (@pv _ 0 _ _ (by rfl) (by first | exact vis0 rfl | exact vis1 rfl | exact vis2 rfl) (by decide) (by decide)) (@pv _ 1 _ _ (by rfl) (by first | exact vis0 rfl | exact vis1 rfl | exact vis2 rfl) (by decide) (by decide)) (fun _ _ => rfl)))) (@pss_nil _)) (@pss_one _ _ _ (@ps_ret _ _ _ _ (@pe_int _ _ _ _)))), ?_⟩
    rw [show start n_d_l_cell_at [V.ref a, V.int k] = [some (V.ref a), some (V.int k)] from rfl]
    try simp only [tSeq, tIfS, tTest, tOp, tVar, List.getElem?_cons_succ, List.getElem?_cons_zero, tCB, tCons, tNil, tRet, exSlot, tNext, tC]
    refine rLenA_lst hS ?_
    try simp only [rLtA_int, exBl, decide_eq_true_eq]
    refine ite2 (fun c => ?_) (fun c => q 0)
    obtain ⟨v, e, hv, _⟩ := atI_in (xs := ns.map V.int) (i := k) k0 (by simpa using c)
    obtain ⟨i, _, rfl⟩ := List.mem_map.mp hv
    exact rIx_lst hS e (q i)
theorem ok_d_l_opposed (T : Txt K mg t) : FnOk P w K mg base CX0 1 t.f_d_l_opposed t.fd_d_l_opposed ["_law_text"] spOpposed := by
  refine T.F_d_l_opposed.ok sc_d_l_opposed (fun vs H Q E h => ?_) (fun cdv A outer s H vs Q E hr h => ?_)
  · obtain ⟨n, z, rfl, hz, hn, q⟩ := h; rfl
  · obtain ⟨n, z, rfl, hz, hn, q⟩ := h
    refine ⟨_, (@pss_cons _ _ _ _ _ (@ps_if _ _ _ _ _ _ _ _ (@pt_cmpR _ _ _ _ _ _ _ _ (op_eqH hr.units) (@pe_ix _ _ _ _ _ _ _ ix_seq (@pv _ 0 _ _ (by rfl) (by first | exact vis0 rfl | exact vis1 rfl | exact vis2 rfl) (by decide) (by decide)) (@pe_int _ _ _ _) (fun _ _ => rfl)) (@pe_str _ _ _ _) (nomark _)) (@pss_one _ _ _ (@ps_ret _ _ _ _ (@pe_slice _ _ _ _ _ _ _ _ _ _ sl_any (@pv _ 0 _ _ (by rfl) (by first | exact vis0 rfl | exact vis1 rfl | exact vis2 rfl) (by decide) (by decide)) (@po_some _ _ _ (@pe_int _ _ _ _)) (@po_none _)))) (@pss_nil _)) (@pss_one _ _ _ (@ps_ret _ _ _ _ (@pe_op _ _ _ _ _ _ _ _ op_addA (@pe_str _ _ _ _) (@pv _ 0 _ _ (by rfl) (by first | exact vis0 rfl | exact vis1 rfl | exact vis2 rfl) (by decide) (by decide)))))), ?_⟩
    rw [show start n_d_l_opposed [V.str z] = [some (V.str z)] from rfl]
    have hlen := hz.len
    obtain ⟨c, r, rfl, h1, h2⟩ := hz
    rw [opp_at] at q
    try simp only [tSeq, tIfS, tTest, tOp, tVar, List.getElem?_cons_zero, tC, tRet, tSl, tPart, tNoPart, exInt, exSlot, rSlA_str, tNext, rAddA_str, rIx_str, rEqH_str, exBl, decide_eq_true_eq]
    refine ⟨short_le (by omega), c, at_head c r, ite2 (fun e => ?_) (fun e => ?_)⟩
    · rw [if_pos (by
        rw [show (Str.ofString "-") = mk [45] by decide +kernel] at e
        have := congrArg (fun z : Str => z.cps.toList) e
        exact (List.cons.inj this).1)] at q
      exact ⟨short_le (by omega), q⟩
    · rw [if_neg (fun z => e (by rw [z, show (Str.ofString "-") = mk [45] by decide +kernel]))] at q
      exact ⟨Nat.le_trans (Nat.add_le_add (show (Str.ofString "-").length ≤ 1 by decide +kernel) hlen) (Nat.le_trans (show 1 + n ≤ 1000 by omega) (by decide)), q⟩
theorem ok_d_l_against (T : Txt K mg t) : FnOk P w K mg base CX0 2 t.f_d_l_against t.fd_d_l_against ["_law_scene_here", "_law_text"] (spAgn t) := by
  refine T.F_d_l_against.ok sc_d_l_against (fun vs H Q E h => ?_) (fun cdv A outer s H vs Q E hr h => ?_)
  · obtain ⟨s, T0, P0, E, zr, ps, pl, ev, q0, rfl, hs, hq, q⟩ := h; rfl
  · obtain ⟨s, T0, P0, E, zr, ps, pl, ev, q0, rfl, hs, hq, q⟩ := h
    refine ⟨_, (@pss_one _ _ _ (@ps_ret _ _ _ _ (@pe_comp _ _ _ _ _ _ _ _ _ _ _ _ _ (@compOk_of _ (defScope s_d_l_against) (n_d_l_against) (["_law_rule_here", "_law_text"]) ([none, some 1]) _ rfl rfl (by decide +kernel)) rfl (@pi_list _ _ _ _ (@pe_ix _ _ _ _ _ _ _ ix_seq (@pv _ 0 _ _ (by rfl) (by first | exact vis0 rfl | exact vis1 rfl | exact vis2 rfl) (by decide) (by decide)) (@pe_int _ _ _ _) (fun _ _ => rfl))) (fun _ _ _ _ _ => (@pg_name _ _ (0) _ (show List.Nodup (["_law_rule_here", "_law_text"] : List Str) by decide +kernel) rfl (by first | exact Or.inl rfl | exact Or.inr rfl) (by first | exact Or.inl rfl | exact Or.inr rfl | assumption))) (fun _ _ _ _ _ => @pts_one _ _ _ (@pt_cmpR _ _ _ _ _ _ _ _ (op_eqK hr.units (K := K) rfl) (@pe_fldK _ (K) _ _ _ _ rfl (@pv _ 0 _ _ (by rfl) (by first | exact vis0 rfl | exact vis1 rfl | exact vis2 rfl) (by decide) (by decide)) rfl) (@pe_call _ _ _ _ _ _ _ _ _ _ _ _ _ _ _ _ (ok_d_l_opposed T) (hr.mono (by decide)) rfl T.g_d_l_opposed T.F_d_l_opposed.kp T.b_d_l_opposed .nil pass0 (@pa_cons _ _ _ _ _ (@pv _ 1 _ _ (by rfl) (by first | exact vis0 rfl | exact vis1 rfl | exact vis2 rfl) (by decide) (by decide)) (@pa_nil _) (by rfl)) (by decide) (by rfl) (by rfl)) (nomark _))) (fun _ _ _ _ _ => (@pv _ 0 _ _ (by rfl) (by first | exact vis0 rfl | exact vis1 rfl | exact vis2 rfl) (by decide) (by decide))) (by intro _ ; rfl)))), ?_⟩
    rw [show start n_d_l_against [V.ref s, V.str q0] = [some (V.ref s), some (V.str q0)] from rfl]
    try simp only [tRet, tComp_eq, iList, tOp, tVar, List.getElem?_cons_zero, tC, exSlot]
    refine rIx_lst (SqL.of hs.s) rfl ⟨T0, rfl, ⟨_, SqL.of hs.r.1⟩, ?_⟩
    refine comp_ru zr hs.r.1 (by have := hs.r.2.2.1; omega) hs.r.2.1 [some (V.str q0)] rfl (fun r => decide (r.2.2.1 = oppS q0)) (fun p => p.1) (fun x r H' R ho hr' s' hR => ?_) (fun x r H' R ho hr' s' hR => ?_) (fun D H' hD s' hD' => ?_)
    · have CF := clsF T ho.1
      obtain ⟨dx, t0, g1, g2⟩ := id hr'
      try simp only [tTest, tOp, tFld, tVar, List.getElem?_cons_zero, tCall, tCons, List.getElem?_cons_succ, tNil, List.append_nil, exSlot]
      refine ⟨x, _, dx, _, _, rfl, g1, CF.cl, CF.nh, flds_head _ _ _, 31, q0, rfl, hq, by decide, ?_⟩
      try simp only [rEqH_str, exBl]
      exact hR _ (Same.refl _)
    · try simp only [tVar, List.getElem?_cons_zero, exSlot]
      exact hR _ (Same.refl _)
    have hf : ∀ p ∈ zr.filter (fun p => decide (p.2.2.2.1 = oppS q0)), p ∈ zr := fun p hp => (List.mem_filter.mp hp).1
    refine q D _ H' s' hD' (fun p hp => (hs.r.2.1.same s') p (hf p hp)) (Nat.le_trans (List.length_filter_le _ _) hs.r.2.2.1) ?_
    unfold hdF
    rw [List.filter_map]; rfl
theorem ok_d_l_beaten (T : Txt K mg t) : FnOk P w K mg base CX0 1 t.f_d_l_beaten t.fd_d_l_beaten ["_law_scene_here", "_law_rule_here", "_law_others"] (spBtn t) := by
  refine T.F_d_l_beaten.ok sc_d_l_beaten (fun vs H Q E h => ?_) (fun cdv A outer s H vs Q E hr h => ?_)
  · obtain ⟨s, T0, P0, E, x, L, zr, ps, pl, ev, r, zo, rfl, hs, hru, ho, hL, hz, hzl, q⟩ := h; rfl
  · obtain ⟨s, T0, P0, E, x, L, zr, ps, pl, ev, r, zo, rfl, hs, hru, ho, hL, hz, hzl, q⟩ := h
    refine ⟨_, (@pss_cons _ _ _ _ _ (@ps_for _ _ _ _ _ _ _ _ PassesOwn.never rfl (@pi_list _ _ _ _ (@pv _ 2 _ _ (by rfl) (by first | exact vis0 rfl | exact vis1 rfl | exact vis2 rfl) (by decide) (by decide))) (@pg_name _ _ (3) _ sc_d_l_beaten.nd rfl (by first | exact Or.inl rfl | exact Or.inr rfl) (by first | exact Or.inl rfl | exact Or.inr rfl | assumption)) (@pss_one _ _ _ (@ps_if _ _ _ _ _ _ _ _ (@pt_cmpR _ _ _ _ _ _ _ _ (op_inP hr.units) (@pe_tup _ _ _ _ _ (@pa_cons _ _ _ _ _ (@pe_fld _ _ _ _ _ (@pv _ 3 _ _ (by rfl) (by first | exact vis0 rfl | exact vis1 rfl | exact vis2 rfl) (by decide) (by decide)) rfl) (@pa_cons _ _ _ _ _ (@pe_fld _ _ _ _ _ (@pv _ 1 _ _ (by rfl) (by first | exact vis0 rfl | exact vis1 rfl | exact vis2 rfl) (by decide) (by decide)) rfl) (@pa_nil _) (by rfl)) (by rfl))) (@pe_ix _ _ _ _ _ _ _ ix_seq (@pv _ 0 _ _ (by rfl) (by first | exact vis0 rfl | exact vis1 rfl | exact vis2 rfl) (by decide) (by decide)) (@pe_int _ _ _ _) (fun _ _ => rfl)) (by with_unfolding_all rfl)) (@pss_one _ _ _ (@ps_ret _ _ _ _ (@pe_bl _ _ _ _))) (@pss_nil _))) (by intro _ ; rfl)) (@pss_one _ _ _ (@ps_ret _ _ _ _ (@pe_bl _ _ _ _)))), ?_⟩
    rw [show start n_d_l_beaten [V.ref s, V.ref x, V.ref L] = [some (V.ref s), some (V.ref x), some (V.ref L), none] from rfl]
    obtain ⟨x', ex, dx, t0, g1, g2⟩ := hru
    cases ex
    have CF := clsF T ho.1
    try simp only [tSeq, tFor_eq, iList, tVar, List.getElem?_cons_succ, List.getElem?_cons_zero, exSlot, exRef]
    refine ⟨⟨_, SqL.of hL⟩, ?_⟩
    refine for_list (K := K) (a := L) (xs := zo.map (·.1)) (fun i σ H' => Same H H' ∧ (∀ b ∈ zo.take i, (b.2.2.1, r.2.1) ∉ pl) ∧ ∃ y, σ = [some (V.ref s), some (V.ref x), some (V.ref L), y]) ⟨Same.refl _, by simp, _, rfl⟩ (fun i σ H' _ h => SqL.of (h.1 _ _ hL)) ?_ ?_
    · rintro i v σ H' hi ⟨s', hU, y, rfl⟩
      obtain ⟨hi', ev⟩ := at_map hi
      obtain ⟨⟨x2, ex2, dx2, t2, f1, f2⟩, ho2⟩ := hz _ (List.getElem_mem hi')
      rw [ex2] at ev
      subst ev
      have CF2 := clsF T ho2.1
      try simp only [gName, tIfS, tTest, tOp, tTup, tCons, tFld, tVar, List.set_cons_succ, List.set_cons_zero, List.getElem?_cons_succ, List.getElem?_cons_zero, tNil, tC, tRet, tNext, exSlot]
      refine ⟨x2, _, dx2, _, _, rfl, s' _ _ f1, CF2.cl, CF2.nl, flds_label _ _ _, x, _, dx, _, _, rfl, s' _ _ g1, CF.cl, CF.nl, flds_label _ _ _, (show 2 ≤ sizeLine by decide), fun Z hZ => ?_⟩
      obtain ⟨H1, e1, s1, h1⟩ := newO hZ (.tup [V.str zo[i].2.2.1, V.str r.2.1]); rw [e1]
      have s01 := s'.trans s1
      refine rIx_lst (SqL.of (s01 _ _ hs.s)) rfl ⟨Z, P0, _, _, _, _, rfl, rfl, h1, SqL.of (s01 _ _ hs.p), PrsAt.same s01 hs.prs, ⟨ho2.2.2.1.1, ho.2.2.1.1⟩, hs.po, ?_⟩
      refine ⟨_, rfl, ite2 (fun c => ?_) (fun c => ⟨s01, fun b hb => ?_, _, rfl⟩)⟩
      · have := q _ s01
        rwa [show btn pl (zo.map (·.2)) r = true from ?_] at this
        unfold btn
        exact List.any_eq_true.mpr ⟨_, List.mem_map.mpr ⟨_, List.getElem_mem hi', rfl⟩, c⟩
      · rcases (mem_take1 hi' b).mp hb with z | z
        · exact hU _ z
        · rw [z]; exact fun w => c (decide_eq_true w)
    · rintro σ H' ⟨s', hU, y, rfl⟩
      rw [List.length_map, List.take_length] at hU
      try simp only [tRet, tC]
      have := q _ s'
      rwa [show btn pl (zo.map (·.2)) r = false from ?_] at this
      refine Bool.eq_false_iff.mpr fun z => ?_
      unfold btn at z
      obtain ⟨w, h1, h2⟩ := List.any_eq_true.mp z
      obtain ⟨b, hb, rfl⟩ := List.mem_map.mp h1
      exact hU b hb (by simpa using h2)
theorem ok_d_l_falls (T : Txt K mg t) : FnOk P w K mg base CX0 1 t.f_d_l_falls t.fd_d_l_falls ["_law_rule_here", "_law_refused"] (spStands t anyB) := by
  refine T.F_d_l_falls.ok sc_d_l_falls (fun vs H Q E h => ?_) (fun cdv A outer s H vs Q E hr h => ?_)
  · obtain ⟨x, a, r, U, rfl, hru, ho, ha, q⟩ := h; rfl
  · obtain ⟨x, a, r, U, rfl, hru, ho, ha, q⟩ := h
    refine ⟨_, (@pss_cons _ _ _ _ _ (@ps_for _ _ _ _ _ _ _ _ PassesOwn.never rfl (@pi_tup _ _ _ _ (@pe_fld _ _ _ _ _ (@pv _ 0 _ _ (by rfl) (by first | exact vis0 rfl | exact vis1 rfl | exact vis2 rfl) (by decide) (by decide)) rfl)) (@pg_name _ _ (2) _ sc_d_l_falls.nd rfl (by first | exact Or.inl rfl | exact Or.inr rfl) (by first | exact Or.inl rfl | exact Or.inr rfl | assumption)) (@pss_one _ _ _ (@ps_if _ _ _ _ _ _ _ _ (@pt_cmpR _ _ _ _ _ _ _ _ op_inA (@pv _ 2 _ _ (by rfl) (by first | exact vis0 rfl | exact vis1 rfl | exact vis2 rfl) (by decide) (by decide)) (@pv _ 1 _ _ (by rfl) (by first | exact vis0 rfl | exact vis1 rfl | exact vis2 rfl) (by decide) (by decide)) (by with_unfolding_all rfl)) (@pss_one _ _ _ (@ps_ret _ _ _ _ (@pe_bl _ _ _ _))) (@pss_nil _))) (by intro _ ; rfl)) (@pss_one _ _ _ (@ps_ret _ _ _ _ (@pe_bl _ _ _ _)))), ?_⟩
    rw [show start n_d_l_falls [V.ref x, V.ref a] = [some (V.ref x), some (V.ref a), none] from rfl]
    obtain ⟨x', ex, dx, t0, g1, g2⟩ := hru
    cases ex
    have CF := clsF T ho.1
    try simp only [tSeq, tFor_eq, iTup, tFld, tVar, List.getElem?_cons_zero, exSlot]
    refine ⟨x, _, dx, _, _, rfl, g1, CF.cl, CF.nb, flds_body _ _ _, t0, rfl, ⟨_, SqT.of g2⟩, ?_⟩
    refine for_tup (K := K) (a := t0) (xs := r.2.2.2.map V.str) (fun i σ H' => H = H' ∧ (∀ q ∈ r.2.2.2.take i, q ∉ U) ∧ ∃ y, σ = [some (V.ref x), some (V.ref a), y]) ⟨rfl, by simp, _, rfl⟩ (fun i σ H' _ h => by rw [← h.1]; exact SqT.of g2) ?_ ?_
    · rintro i v σ H' hi ⟨rfl, hU, y, rfl⟩
      obtain ⟨hi', rfl⟩ := at_map hi
      try simp only [gName, tIfS, tTest, tOp, tVar, List.set_cons_succ, List.set_cons_zero, List.getElem?_cons_succ, List.getElem?_cons_zero, tRet, tC, tNext, exSlot]
      refine rIn_lst (SqL.of ha) ?_
      try simp only [exBl, decide_eq_true_eq]
      refine ite2 (fun c => ?_) (fun c => ⟨by trivial, fun q hq => ?_, _, rfl⟩)
      · have := q _ (Same.refl _)
        rwa [show anyB r.2.2.2 U = true from ?_] at this
        unfold anyB; exact List.any_eq_true.mpr ⟨_, List.getElem_mem hi', by simpa using c⟩
      · rw [List.take_succ_eq_append_getElem hi'] at hq
        rcases List.mem_append.mp hq with z | z
        · exact hU _ z
        · rw [List.mem_singleton.mp z]; exact c
    · rintro σ H' ⟨rfl, hU, y, rfl⟩
      rw [List.length_map, List.take_length] at hU
      try simp only [tRet, tC]
      have := q _ (Same.refl _)
      rwa [show anyB r.2.2.2 U = false from ?_] at this
      refine Bool.eq_false_iff.mpr fun z => ?_; unfold anyB at z; obtain ⟨w, h1, h2⟩ := List.any_eq_true.mp z; exact hU w h1 (by simpa using h2)
theorem ok_c_Block_word (T : Txt K mg t) : FnOk P w K mg base CX0 1 t.f_c_Block_word t.fd_c_Block_word ["self"] (spStrR "block") := by
  refine T.F_c_Block_word.ok sc_c_Block_word (fun vs H Q E h => ?_) (fun cdv A outer s H vs Q E hr h => ?_)
  · obtain ⟨x, rfl, q⟩ := h; rfl
  · obtain ⟨x, rfl, q⟩ := h
    refine ⟨_, (@pss_one _ _ _ (@ps_ret _ _ _ _ (@pe_str _ _ _ _))), ?_⟩
    rw [show start n_c_Block_word [x] = [some (x)] from rfl]
    try simp only [tRet, tC]
    exact q
theorem ok_c_Fact_word (T : Txt K mg t) : FnOk P w K mg base CX0 1 t.f_c_Fact_word t.fd_c_Fact_word ["self"] (spStrR "fact") := by
  refine T.F_c_Fact_word.ok sc_c_Fact_word (fun vs H Q E h => ?_) (fun cdv A outer s H vs Q E hr h => ?_)
  · obtain ⟨x, rfl, q⟩ := h; rfl
  · obtain ⟨x, rfl, q⟩ := h
    refine ⟨_, (@pss_one _ _ _ (@ps_ret _ _ _ _ (@pe_str _ _ _ _))), ?_⟩
    rw [show start n_c_Fact_word [x] = [some (x)] from rfl]
    try simp only [tRet, tC]
    exact q
theorem ok_c_Most_word (T : Txt K mg t) : FnOk P w K mg base CX0 1 t.f_c_Most_word t.fd_c_Most_word ["self"] (spStrR "most") := by
  refine T.F_c_Most_word.ok sc_c_Most_word (fun vs H Q E h => ?_) (fun cdv A outer s H vs Q E hr h => ?_)
  · obtain ⟨x, rfl, q⟩ := h; rfl
  · obtain ⟨x, rfl, q⟩ := h
    refine ⟨_, (@pss_one _ _ _ (@ps_ret _ _ _ _ (@pe_str _ _ _ _))), ?_⟩
    rw [show start n_c_Most_word [x] = [some (x)] from rfl]
    try simp only [tRet, tC]
    exact q
theorem ok_c_Sure_word (T : Txt K mg t) : FnOk P w K mg base CX0 1 t.f_c_Sure_word t.fd_c_Sure_word ["self"] (spStrR "sure") := by
  refine T.F_c_Sure_word.ok sc_c_Sure_word (fun vs H Q E h => ?_) (fun cdv A outer s H vs Q E hr h => ?_)
  · obtain ⟨x, rfl, q⟩ := h; rfl
  · obtain ⟨x, rfl, q⟩ := h
    refine ⟨_, (@pss_one _ _ _ (@ps_ret _ _ _ _ (@pe_str _ _ _ _))), ?_⟩
    rw [show start n_c_Sure_word [x] = [some (x)] from rfl]
    try simp only [tRet, tC]
    exact q
theorem ok_d_l_speaking (T : Txt K mg t) : FnOk P w K mg base CX0 2 t.f_d_l_speaking t.fd_d_l_speaking ["_law_scene_here", "_law_text"] (spSpk t) := by
  refine T.F_d_l_speaking.ok sc_d_l_speaking (fun vs H Q E h => ?_) (fun cdv A outer s H vs Q E hr h => ?_)
  · obtain ⟨s, T0, P0, E, zr, ps, pl, ev, q0, rfl, hs, q⟩ := h; rfl
  · obtain ⟨s, T0, P0, E, zr, ps, pl, ev, q0, rfl, hs, q⟩ := h
    refine ⟨_, (@pss_one _ _ _ (@ps_ret _ _ _ _ (@pe_comp _ _ _ _ _ _ _ _ _ _ _ _ _ (@compOk_of _ (defScope s_d_l_speaking) (n_d_l_speaking) (["_law_rule_here", "_law_text"]) ([none, some 1]) _ rfl rfl (by decide +kernel)) rfl (@pi_list _ _ _ _ (@pe_ix _ _ _ _ _ _ _ ix_seq (@pv _ 0 _ _ (by rfl) (by first | exact vis0 rfl | exact vis1 rfl | exact vis2 rfl) (by decide) (by decide)) (@pe_int _ _ _ _) (fun _ _ => rfl))) (fun _ _ _ _ _ => (@pg_name _ _ (0) _ (show List.Nodup (["_law_rule_here", "_law_text"] : List Str) by decide +kernel) rfl (by first | exact Or.inl rfl | exact Or.inr rfl) (by first | exact Or.inl rfl | exact Or.inr rfl | assumption))) (fun _ _ _ _ _ => @pts_one _ _ _ (@PW.pt _ _ _ (@pw_and _ _ _ _ _ _ _ (@pt_cmpR _ _ _ _ _ _ _ _ (op_eqK hr.units (K := K) rfl) (@pe_fldK _ (K) _ _ _ _ rfl (@pv _ 0 _ _ (by rfl) (by first | exact vis0 rfl | exact vis1 rfl | exact vis2 rfl) (by decide) (by decide)) rfl) (@pv _ 1 _ _ (by rfl) (by first | exact vis0 rfl | exact vis1 rfl | exact vis2 rfl) (by decide) (by decide)) (nomark _)) (@pw_and1 _ _ _ _ (@pt_cmpR _ _ _ _ _ _ _ _ (op_neK hr.units (K := K) rfl) (@pe_alt _ _ _ _ (@pe_meth0 _ _ _ _ _ _ _ _ _ _ _ _ _ _ _ _ _ (@pv _ 0 _ _ (by rfl) (by first | exact vis0 rfl | exact vis1 rfl | exact vis2 rfl) (by decide) (by decide)) T.cl_Fact T.me_Fact_word (ok_c_Fact_word T) (hr.mono (by decide)) T.b_c_Fact_word .nil pass0 (by rfl)) (@pe_alt _ _ _ _ (@pe_meth0 _ _ _ _ _ _ _ _ _ _ _ _ _ _ _ _ _ (@pv _ 0 _ _ (by rfl) (by first | exact vis0 rfl | exact vis1 rfl | exact vis2 rfl) (by decide) (by decide)) T.cl_Sure T.me_Sure_word (ok_c_Sure_word T) (hr.mono (by decide)) T.b_c_Sure_word .nil pass0 (by rfl)) (@pe_alt _ _ _ _ (@pe_meth0 _ _ _ _ _ _ _ _ _ _ _ _ _ _ _ _ _ (@pv _ 0 _ _ (by rfl) (by first | exact vis0 rfl | exact vis1 rfl | exact vis2 rfl) (by decide) (by decide)) T.cl_Most T.me_Most_word (ok_c_Most_word T) (hr.mono (by decide)) T.b_c_Most_word .nil pass0 (by rfl)) (@pe_meth0 _ _ _ _ _ _ _ _ _ _ _ _ _ _ _ _ _ (@pv _ 0 _ _ (by rfl) (by first | exact vis0 rfl | exact vis1 rfl | exact vis2 rfl) (by decide) (by decide)) T.cl_Block T.me_Block_word (ok_c_Block_word T) (hr.mono (by decide)) T.b_c_Block_word .nil pass0 (by rfl))))) (@pe_str _ _ _ _) (nomark _)))))) (fun _ _ _ _ _ => (@pv _ 0 _ _ (by rfl) (by first | exact vis0 rfl | exact vis1 rfl | exact vis2 rfl) (by decide) (by decide))) (by intro _ ; rfl)))), ?_⟩
    rw [show start n_d_l_speaking [V.ref s, V.str q0] = [some (V.ref s), some (V.str q0)] from rfl]
    try simp only [tRet, tComp_eq, iList, tOp, tVar, List.getElem?_cons_zero, tC, exSlot]
    refine rIx_lst (SqL.of hs.s) rfl ⟨T0, rfl, ⟨_, SqL.of hs.r.1⟩, ?_⟩
    refine comp_ru zr hs.r.1 (by have := hs.r.2.2.1; omega) hs.r.2.1 [some (V.str q0)] rfl (fun r => decide (r.2.2.1 = q0) && spk r) (fun p => p.1) (fun x r H' R ho hr' s' hR => ?_) (fun x r H' R ho hr' s' hR => ?_) (fun D H' hD s' hD' => ?_)
    · have CF := clsF T ho.1
      obtain ⟨dx, t0, g1, g2⟩ := id hr'
      try simp only [tAnd, tTest, tOp, tFld, tVar, List.getElem?_cons_zero, List.getElem?_cons_succ, tC, exSlot]
      refine ⟨x, _, dx, _, _, rfl, g1, CF.cl, CF.nh, flds_head _ _ _, ?_⟩
      try simp only [rEqH_str, exBl, decide_eq_true_eq]
      refine ite2 (fun c => ?_) (fun c => ?_)
      · refine alt4 ho.1 (tVar_go rfl) hr' ⟨by decide +kernel, by decide +kernel, by decide +kernel⟩ ?_
        rw [pick_word ho.1]
        try simp only [spStrR_at, rNeH_str, exBl]
        have := hR _ (Same.refl _)
        rwa [decide_eq_true c, Bool.true_and, show spk r = _ from (sort_spk ho.1).symm] at this
      · have := hR _ (Same.refl _)
        rwa [decide_eq_false c, Bool.false_and] at this
    · try simp only [tVar, List.getElem?_cons_zero, exSlot]
      exact hR _ (Same.refl _)
    have hf : ∀ p ∈ zr.filter (fun p => decide (p.2.2.2.1 = q0) && spk p.2), p ∈ zr := fun p hp => (List.mem_filter.mp hp).1
    refine q D _ H' s' hD' (fun p hp => (hs.r.2.1.same s') p (hf p hp)) (Nat.le_trans (List.length_filter_le _ _) hs.r.2.2.1) ?_
    unfold hdF
    rw [List.filter_filter, List.filter_map]
    congr 1
    refine List.filter_congr fun p _ => ?_
    show (_ && _) = (_ && _)
    exact Bool.and_comm _ _
theorem ok_d_l_stands (T : Txt K mg t) : FnOk P w K mg base CX0 1 t.f_d_l_stands t.fd_d_l_stands ["_law_rule_here", "_law_held"] (spStands t subB) := by
  refine T.F_d_l_stands.ok sc_d_l_stands (fun vs H Q E h => ?_) (fun cdv A outer s H vs Q E hr h => ?_)
  · obtain ⟨x, a, r, U, rfl, hru, ho, ha, q⟩ := h; rfl
  · obtain ⟨x, a, r, U, rfl, hru, ho, ha, q⟩ := h
    refine ⟨_, (@pss_cons _ _ _ _ _ (@ps_for _ _ _ _ _ _ _ _ PassesOwn.never rfl (@pi_tup _ _ _ _ (@pe_fld _ _ _ _ _ (@pv _ 0 _ _ (by rfl) (by first | exact vis0 rfl | exact vis1 rfl | exact vis2 rfl) (by decide) (by decide)) rfl)) (@pg_name _ _ (2) _ sc_d_l_stands.nd rfl (by first | exact Or.inl rfl | exact Or.inr rfl) (by first | exact Or.inl rfl | exact Or.inr rfl | assumption)) (@pss_one _ _ _ (@ps_if _ _ _ _ _ _ _ _ (@pt_cmpR _ _ _ _ _ _ _ _ op_notinA (@pv _ 2 _ _ (by rfl) (by first | exact vis0 rfl | exact vis1 rfl | exact vis2 rfl) (by decide) (by decide)) (@pv _ 1 _ _ (by rfl) (by first | exact vis0 rfl | exact vis1 rfl | exact vis2 rfl) (by decide) (by decide)) (by with_unfolding_all rfl)) (@pss_one _ _ _ (@ps_ret _ _ _ _ (@pe_bl _ _ _ _))) (@pss_nil _))) (by intro _ ; rfl)) (@pss_one _ _ _ (@ps_ret _ _ _ _ (@pe_bl _ _ _ _)))), ?_⟩
    rw [show start n_d_l_stands [V.ref x, V.ref a] = [some (V.ref x), some (V.ref a), none] from rfl]
    obtain ⟨x', ex, dx, t0, g1, g2⟩ := hru
    cases ex
    have CF := clsF T ho.1
    try simp only [tSeq, tFor_eq, iTup, tFld, tVar, List.getElem?_cons_zero, exSlot]
    refine ⟨x, _, dx, _, _, rfl, g1, CF.cl, CF.nb, flds_body _ _ _, t0, rfl, ⟨_, SqT.of g2⟩, ?_⟩
    refine for_tup (K := K) (a := t0) (xs := r.2.2.2.map V.str) (fun i σ H' => H = H' ∧ (∀ q ∈ r.2.2.2.take i, q ∈ U) ∧ ∃ y, σ = [some (V.ref x), some (V.ref a), y]) ⟨rfl, by simp, _, rfl⟩ (fun i σ H' _ h => by rw [← h.1]; exact SqT.of g2) ?_ ?_
    · rintro i v σ H' hi ⟨rfl, hU, y, rfl⟩
      obtain ⟨hi', rfl⟩ := at_map hi
      try simp only [gName, tIfS, tTest, tOp, tVar, List.set_cons_succ, List.set_cons_zero, List.getElem?_cons_succ, List.getElem?_cons_zero, tRet, tC, tNext, exSlot]
      refine rNotIn_lst (SqL.of ha) ?_
      try simp only [exBl, Bool.not_eq_true', decide_eq_false_iff_not]
      refine ite2 (fun c => ?_) (fun c => ⟨by trivial, fun q hq => ?_, _, rfl⟩)
      · have := q _ (Same.refl _)
        rwa [show subB r.2.2.2 U = false from ?_] at this
        refine Bool.eq_false_iff.mpr fun z => c (subB_iff.mp z _ (List.getElem_mem hi'))
      · rw [List.take_succ_eq_append_getElem hi'] at hq
        rcases List.mem_append.mp hq with z | z
        · exact hU _ z
        · rw [List.mem_singleton.mp z]; exact Decidable.of_not_not c
    · rintro σ H' ⟨rfl, hU, y, rfl⟩
      rw [List.length_map, List.take_length] at hU
      try simp only [tRet, tC]
      have := q _ (Same.refl _)
      rwa [show subB r.2.2.2 U = true from ?_] at this
      exact subB_iff.mpr hU
theorem ok_d_l_may_hold (T : Txt K mg t) : FnOk P w K mg base CX0 3 t.f_d_l_may_hold t.fd_d_l_may_hold ["_law_scene_here", "_law_sures", "_law_held", "_law_refused", "_law_text"] (spMay t holdsB) := by
  refine T.F_d_l_may_hold.ok sc_d_l_may_hold (fun vs H Q E h => ?_) (fun cdv A outer s H vs Q E hr h => ?_)
  · obtain ⟨s, T0, P0, E, a1, a2, a3, zr, ps, pl, ev, S, U, D, q0, rfl, hs, hq, h1, h2, h3, q⟩ := h; rfl
  · obtain ⟨s, T0, P0, E, a1, a2, a3, zr, ps, pl, ev, S, U, D, q0, rfl, hs, hq, h1, h2, h3, q⟩ := h
    refine ⟨_, (@pss_cons _ _ _ _ _ (@ps_if _ _ _ _ _ _ _ _ (@pt_cmpR _ _ _ _ _ _ _ _ op_inA (@pv _ 4 _ _ (by rfl) (by first | exact vis0 rfl | exact vis1 rfl | exact vis2 rfl) (by decide) (by decide)) (@pv _ 1 _ _ (by rfl) (by first | exact vis0 rfl | exact vis1 rfl | exact vis2 rfl) (by decide) (by decide)) (by with_unfolding_all rfl)) (@pss_one _ _ _ (@ps_ret _ _ _ _ (@pe_bl _ _ _ _))) (@pss_nil _)) (@pss_cons _ _ _ _ _ (@ps_setComp _ _ _ _ _ _ _ _ _ _ _ _ _ (5) _ _ _ (@compOk_of _ (defScope s_d_l_may_hold) (n_d_l_may_hold) (["_law_rule_here", "_law_held"]) ([none, some 2]) _ rfl rfl (by decide +kernel)) rfl (@pi_list _ _ _ _ (@pe_call _ _ _ _ _ _ _ _ _ _ _ _ _ _ _ _ (ok_d_l_speaking T) (hr.mono (by decide)) rfl T.g_d_l_speaking T.F_d_l_speaking.kp T.b_d_l_speaking .nil pass0 (@pa_cons _ _ _ _ _ (@pv _ 0 _ _ (by rfl) (by first | exact vis0 rfl | exact vis1 rfl | exact vis2 rfl) (by decide) (by decide)) (@pa_cons _ _ _ _ _ (@pv _ 4 _ _ (by rfl) (by first | exact vis0 rfl | exact vis1 rfl | exact vis2 rfl) (by decide) (by decide)) (@pa_nil _) (by rfl)) (by rfl)) (by decide) (by rfl) (by rfl))) (fun _ _ _ _ _ => (@pg_name _ _ (0) _ (show List.Nodup (["_law_rule_here", "_law_held"] : List Str) by decide +kernel) rfl (by first | exact Or.inl rfl | exact Or.inr rfl) (by first | exact Or.inl rfl | exact Or.inr rfl | assumption))) (fun _ _ _ _ _ => @pts_one _ _ _ (@pt_val _ _ _ (@pe_call _ _ _ _ _ _ _ _ _ _ _ _ _ _ _ _ (ok_d_l_stands T) (hr.mono (by decide)) rfl T.g_d_l_stands T.F_d_l_stands.kp T.b_d_l_stands .nil pass0 (@pa_cons _ _ _ _ _ (@pv _ 0 _ _ (by rfl) (by first | exact vis0 rfl | exact vis1 rfl | exact vis2 rfl) (by decide) (by decide)) (@pa_cons _ _ _ _ _ (@pv _ 1 _ _ (by rfl) (by first | exact vis0 rfl | exact vis1 rfl | exact vis2 rfl) (by decide) (by decide)) (@pa_nil _) (by rfl)) (by rfl)) (by decide) (by rfl) (by rfl)) (by intro _ ; rfl))) (fun _ _ _ _ _ => (@pv _ 0 _ _ (by rfl) (by first | exact vis0 rfl | exact vis1 rfl | exact vis2 rfl) (by decide) (by decide))) sc_d_l_may_hold.nd rfl (by first | exact Or.inl rfl | exact Or.inr rfl) rfl (by intro _ ; rfl) (by first | exact Or.inl rfl | exact Or.inr rfl | assumption)) (@pss_mid _ _ _ _ _ (@ps_if _ _ _ _ _ _ _ _ (@PW.pt _ _ _ (@pw_or _ _ _ _ _ _ _ (@pt_cmpR _ _ _ _ _ _ _ _ (op_eqN hr.units) (@pv _ 5 _ _ (by rfl) (by first | exact vis0 rfl | exact vis1 rfl | exact vis2 rfl) (by decide) (by decide)) (@pe_lst _ _ _ _ (@pa_nil _)) (nomark _)) (@pw_or1 _ _ _ _ (@pt_cmpR _ _ _ _ _ _ _ _ op_inA (@pe_call _ _ _ _ _ _ _ _ _ _ _ _ _ _ _ _ (ok_d_l_opposed T) (hr.mono (by decide)) rfl T.g_d_l_opposed T.F_d_l_opposed.kp T.b_d_l_opposed .nil pass0 (@pa_cons _ _ _ _ _ (@pv _ 4 _ _ (by rfl) (by first | exact vis0 rfl | exact vis1 rfl | exact vis2 rfl) (by decide) (by decide)) (@pa_nil _) (by rfl)) (by decide) (by rfl) (by rfl)) (@pv _ 1 _ _ (by rfl) (by first | exact vis0 rfl | exact vis1 rfl | exact vis2 rfl) (by decide) (by decide)) (by with_unfolding_all rfl))))) (@pss_one _ _ _ (@ps_ret _ _ _ _ (@pe_bl _ _ _ _))) (@pss_nil _)) (@pss_cons _ _ _ _ _ (@ps_for _ _ _ _ _ _ _ _ PassesOwn.never rfl (@pi_list _ _ _ _ (@pe_call _ _ _ _ _ _ _ _ _ _ _ _ _ _ _ _ (ok_d_l_against T) (hr.mono (by decide)) rfl T.g_d_l_against T.F_d_l_against.kp T.b_d_l_against .nil pass0 (@pa_cons _ _ _ _ _ (@pv _ 0 _ _ (by rfl) (by first | exact vis0 rfl | exact vis1 rfl | exact vis2 rfl) (by decide) (by decide)) (@pa_cons _ _ _ _ _ (@pv _ 4 _ _ (by rfl) (by first | exact vis0 rfl | exact vis1 rfl | exact vis2 rfl) (by decide) (by decide)) (@pa_nil _) (by rfl)) (by rfl)) (by decide) (by rfl) (by rfl))) (@pg_name _ _ (6) _ sc_d_l_may_hold.nd rfl (by first | exact Or.inl rfl | exact Or.inr rfl) (by first | exact Or.inl rfl | exact Or.inr rfl | assumption)) (@pss_one _ _ _ (@ps_if _ _ _ _ _ _ _ _ (@PW.pt _ _ _ (@pw_and _ _ _ _ _ _ _ (@pt_not _ _ _ _ (@pt_val _ _ _ (@pe_call _ _ _ _ _ _ _ _ _ _ _ _ _ _ _ _ (ok_d_l_falls T) (hr.mono (by decide)) rfl T.g_d_l_falls T.F_d_l_falls.kp T.b_d_l_falls .nil pass0 (@pa_cons _ _ _ _ _ (@pv _ 6 _ _ (by rfl) (by first | exact vis0 rfl | exact vis1 rfl | exact vis2 rfl) (by decide) (by decide)) (@pa_cons _ _ _ _ _ (@pv _ 3 _ _ (by rfl) (by first | exact vis0 rfl | exact vis1 rfl | exact vis2 rfl) (by decide) (by decide)) (@pa_nil _) (by rfl)) (by rfl)) (by decide) (by rfl) (by rfl)) (by intro _ ; rfl))) (@pw_and1 _ _ _ _ (@pt_not _ _ _ _ (@pt_val _ _ _ (@pe_call _ _ _ _ _ _ _ _ _ _ _ _ _ _ _ _ (ok_d_l_beaten T) (hr.mono (by decide)) rfl T.g_d_l_beaten T.F_d_l_beaten.kp T.b_d_l_beaten .nil pass0 (@pa_cons _ _ _ _ _ (@pv _ 0 _ _ (by rfl) (by first | exact vis0 rfl | exact vis1 rfl | exact vis2 rfl) (by decide) (by decide)) (@pa_cons _ _ _ _ _ (@pv _ 6 _ _ (by rfl) (by first | exact vis0 rfl | exact vis1 rfl | exact vis2 rfl) (by decide) (by decide)) (@pa_cons _ _ _ _ _ (@pv _ 5 _ _ (by rfl) (by first | exact vis0 rfl | exact vis1 rfl | exact vis2 rfl) (by decide) (by decide)) (@pa_nil _) (by rfl)) (by rfl)) (by rfl)) (by decide) (by rfl) (by rfl)) (by intro _ ; rfl)))))) (@pss_one _ _ _ (@ps_ret _ _ _ _ (@pe_bl _ _ _ _))) (@pss_nil _))) (by intro _ ; rfl)) (@pss_one _ _ _ (@ps_ret _ _ _ _ (@pe_bl _ _ _ _))))))), ?_⟩
    rw [show start n_d_l_may_hold [V.ref s, V.ref a1, V.ref a2, V.ref a3, V.str q0] = [some (V.ref s), some (V.ref a1), some (V.ref a2), some (V.ref a3), some (V.str q0), none, none] from rfl]
    obtain ⟨rs, ers⟩ : ∃ rs, zr.map (·.2) = rs := ⟨_, rfl⟩
    rw [ers] at q
    try simp only [tSeq, tIfS, tTest, tOp, tVar, List.getElem?_cons_succ, List.getElem?_cons_zero, tRet, tC, tNext, List.set_cons_succ, List.set_cons_zero, tComp_eq, iList, tCall, tCons, tNil, List.append_nil, exSlot]
    refine rIn_lst (SqL.of h1) ⟨_, rfl, ite2 (fun c0 => ?_) (fun c0 => ?_)⟩
    · have := q H (Same.refl _)
      unfold holdsB at this
      rwa [if_pos (by simpa using c0)] at this
    have c0' : q0 ∉ S := by simpa using c0
    refine ⟨s, T0, P0, E, zr, ps, pl, ev, q0, rfl, hs, fun W zs H1 s1 hW1 hz1 hzl1 ez1 => ?_⟩
    refine ⟨W, rfl, ⟨_, SqL.of hW1⟩, ?_⟩
    refine comp_ru zs hW1 (by omega) hz1 [some (V.ref a2)] rfl (fun r => subB r.2.2.2 U) (fun p => p.1) (fun x r H' R ho hr' s' hR => ?_) (fun x r H' R ho hr' s' hR => ?_) (fun W2 H2 hW2n s2 hW2 => ?_)
    · try simp only [tB, tCall, tCons, tVar, List.getElem?_cons_zero, List.getElem?_cons_succ, tNil, List.append_nil, exSlot]
      refine ⟨x, a2, r, U, rfl, ⟨x, rfl, hr'⟩, ho, (s1.trans s') _ _ h2, fun H'' s'' => ?_⟩
      try simp only [exBl]
      exact hR _ s''
    · try simp only [tVar, List.getElem?_cons_zero, exSlot]
      exact hR _ (Same.refl _)
    have s02 := s1.trans s2
    have hz2 : WsOk t H2 (zs.filter fun p => subB p.2.2.2.2 U) := fun p hp => (hz1.same s2) p (List.mem_filter.mp hp).1
    have hzl2 : (zs.filter fun p => subB p.2.2.2.2 U).length ≤ 30 := Nat.le_trans (List.length_filter_le _ _) hzl1
    have est : (zs.filter fun p => subB p.2.2.2.2 U).map (·.2) = stand rs U q0 := by
      unfold stand
      rw [← ers, ← ez1, List.filter_map]; rfl
    generalize (zs.filter fun p => subB p.2.2.2.2 U) = zw at hW2 hz2 hzl2 est
    have hneed : ∀ H', Same H H' → (stand rs U q0 = [] ∨ oppS q0 ∈ S) → Q (.bl false) H' := fun H' s' hc => by
      have := q H' s'
      unfold holdsB at this
      rwa [if_neg c0', if_pos hc] at this
    refine ⟨fun σ' H' => σ' = [some (V.ref s), some (V.ref a1), some (V.ref a2), some (V.ref a3), some (V.str q0), some (V.ref W2), none] ∧ Same H2 H' ∧ ¬ (stand rs U q0 = [] ∨ oppS q0 ∈ S), ?_, ?_⟩
    · try simp only [tIfS, tOr, tTest, tOp, tVar, List.getElem?_cons_succ, List.getElem?_cons_zero, tLst, tNil, tRet, tC, tNext, tCall, tCons, List.append_nil, exSlot]
      refine ⟨by decide, fun N hN => ?_⟩
      obtain ⟨H3, e3, s3, h3'⟩ := newO hN (.lst []); rw [e3]
      refine ⟨W2, N, _, rfl, rfl, SqL.of (s3 _ _ hW2), SqL.of h3', _, rfl, ite2 (fun c1 => ?_) (fun c1 => ?_)⟩
      · refine hneed _ (s02.trans s3) (.inl ?_)
        have : zw.map (·.1) = [] := by simpa using c1
        rw [← est, List.map_eq_nil_iff.mp this]; rfl
      refine ⟨31, q0, rfl, hq, by decide, rIn_lst (SqL.of ((s02.trans s3) _ _ h1)) ⟨_, rfl, ite2 (fun c2 => hneed _ (s02.trans s3) (.inr (by simpa using c2))) (fun c2 => ⟨(by trivial), s3, fun z => z.elim (fun w => c1 ?_) (fun w => c2 (by simpa using w))⟩)⟩⟩
      rw [← est] at w
      have : zw = [] := List.map_eq_nil_iff.mp w
      rw [this]; rfl
    rintro σ' H3 ⟨rfl, s23, hc⟩
    have s03 := s02.trans s23
    try simp only [tSeq, tFor_eq, iList, tCall, tCons, tVar, List.getElem?_cons_zero, List.getElem?_cons_succ, tNil, List.append_nil, exSlot]
    refine ⟨s, T0, P0, E, zr, ps, pl, ev, q0, rfl, hs.same s03, hq, fun B zb H4 s4 hB4 hzb hbl eb => ?_⟩
    rw [ers] at eb
    have s04 := s03.trans s4
    have s24 := s23.trans s4
    refine ⟨B, rfl, ⟨_, SqL.of hB4⟩, ?_⟩
    refine for_list (K := K) (a := B) (xs := zb.map (·.1)) (fun i σ H' => Same H4 H' ∧ (∀ b ∈ zb.take i, anyB b.2.2.2.2 D = true ∨ btn pl (zw.map (·.2)) b.2 = true) ∧ ∃ y, σ = [some (V.ref s), some (V.ref a1), some (V.ref a2), some (V.ref a3), some (V.str q0), some (V.ref W2), y]) ⟨Same.refl _, (fun b hb => by simp at hb), _, rfl⟩ (fun i σ H' _ h => SqL.of (h.1 _ _ hB4)) ?_ ?_
    · rintro i v σ H5 hi ⟨s5, hU, y, rfl⟩
      obtain ⟨hi', ev'⟩ := at_map hi
      obtain ⟨⟨x, ex, hx⟩, ho⟩ := hzb _ (List.getElem_mem hi')
      rw [ex] at ev'
      subst ev'
      have hmem : zb[i].2 ∈ hdF rs (oppS q0) := by rw [← eb]; exact List.mem_map.mpr ⟨_, List.getElem_mem hi', rfl⟩
      have s05 := s04.trans s5
      try simp only [gName, tIfS, tAnd, tNot, tB, tCall, tCons, tVar, List.set_cons_succ, List.set_cons_zero, List.getElem?_cons_succ, List.getElem?_cons_zero, tNil, List.append_nil, Bool.not_eq_true', tRet, tC, tNext, exSlot, ite_ft]
      refine ⟨x, a3, _, D, rfl, ⟨x, rfl, hx.same s5⟩, ho, s05 _ _ h3, fun H6 s6 => ?_⟩
      try simp only [exBl]
      have s06 := s05.trans s6
      have s26 := (s24.trans s5).trans s6
      refine ite2 (fun c1 => ?_) (fun c1 => ⟨s5.trans s6, fun b hb => ?_, _, rfl⟩)
      · refine ⟨s, T0, P0, E, x, W2, zr, ps, pl, ev, _, zw, rfl, hs.same s06, ⟨x, rfl, (hx.same s5).same s6⟩, ho, s26 _ _ hW2, hz2.same s26, hzl2, fun H7 s7 => ⟨_, rfl, ite2 (fun c2 => ?_) (fun c2 => ⟨(s5.trans s6).trans s7, fun b hb => ?_, _, rfl⟩)⟩⟩
        · have := q _ (s06.trans s7)
          unfold holdsB at this
          rw [if_neg c0', if_neg hc, ← est] at this
          rwa [show (List.all _ _) = false from ?_] at this
          refine Bool.eq_false_iff.mpr fun z => ?_
          have w := List.all_eq_true.mp z _ hmem
          rw [c1, c2] at w; cases w
        · rcases (mem_take1 hi' b).mp hb with z | z
          · exact hU b z
          · rw [z]; right; simpa using c2
      · rcases (mem_take1 hi' b).mp hb with z | z
        · exact hU b z
        · rw [z]; left; simpa using c1
    · rintro σ H5 ⟨s5, hU, y, rfl⟩
      rw [List.length_map, List.take_length] at hU
      try simp only [tRet, tC]
      have := q _ (s04.trans s5)
      unfold holdsB at this
      rw [if_neg c0', if_neg hc, ← est, ← eb] at this
      rwa [List.all_eq_true.mpr fun r hr => ?_] at this
      obtain ⟨p, hp, rfl⟩ := List.mem_map.mp hr
      rcases hU p hp with w | w
      · rw [w]; rfl
      · rw [w]; exact Bool.or_true _
theorem ok_d_l_may_refuse (T : Txt K mg t) : FnOk P w K mg base CX0 3 t.f_d_l_may_refuse t.fd_d_l_may_refuse ["_law_scene_here", "_law_sures", "_law_held", "_law_refused", "_law_text"] (spMay t refB) := by
  refine T.F_d_l_may_refuse.ok sc_d_l_may_refuse (fun vs H Q E h => ?_) (fun cdv A outer s H vs Q E hr h => ?_)
  · obtain ⟨s, T0, P0, E, a1, a2, a3, zr, ps, pl, ev, S, U, D, q0, rfl, hs, hq, h1, h2, h3, q⟩ := h; rfl
  · obtain ⟨s, T0, P0, E, a1, a2, a3, zr, ps, pl, ev, S, U, D, q0, rfl, hs, hq, h1, h2, h3, q⟩ := h
    refine ⟨_, (@pss_cons _ _ _ _ _ (@ps_if _ _ _ _ _ _ _ _ (@pt_cmpR _ _ _ _ _ _ _ _ op_inA (@pv _ 4 _ _ (by rfl) (by first | exact vis0 rfl | exact vis1 rfl | exact vis2 rfl) (by decide) (by decide)) (@pv _ 1 _ _ (by rfl) (by first | exact vis0 rfl | exact vis1 rfl | exact vis2 rfl) (by decide) (by decide)) (by with_unfolding_all rfl)) (@pss_one _ _ _ (@ps_ret _ _ _ _ (@pe_bl _ _ _ _))) (@pss_nil _)) (@pss_cons _ _ _ _ _ (@ps_setComp _ _ _ _ _ _ _ _ _ _ _ _ _ (5) _ _ _ (@compOk_of _ (defScope s_d_l_may_refuse) (n_d_l_may_refuse) (["_law_rule_here", "_law_refused"]) ([none, some 3]) _ rfl rfl (by decide +kernel)) rfl (@pi_list _ _ _ _ (@pe_call _ _ _ _ _ _ _ _ _ _ _ _ _ _ _ _ (ok_d_l_speaking T) (hr.mono (by decide)) rfl T.g_d_l_speaking T.F_d_l_speaking.kp T.b_d_l_speaking .nil pass0 (@pa_cons _ _ _ _ _ (@pv _ 0 _ _ (by rfl) (by first | exact vis0 rfl | exact vis1 rfl | exact vis2 rfl) (by decide) (by decide)) (@pa_cons _ _ _ _ _ (@pv _ 4 _ _ (by rfl) (by first | exact vis0 rfl | exact vis1 rfl | exact vis2 rfl) (by decide) (by decide)) (@pa_nil _) (by rfl)) (by rfl)) (by decide) (by rfl) (by rfl))) (fun _ _ _ _ _ => (@pg_name _ _ (0) _ (show List.Nodup (["_law_rule_here", "_law_refused"] : List Str) by decide +kernel) rfl (by first | exact Or.inl rfl | exact Or.inr rfl) (by first | exact Or.inl rfl | exact Or.inr rfl | assumption))) (fun _ _ _ _ _ => @pts_one _ _ _ (@pt_not _ _ _ _ (@pt_val _ _ _ (@pe_call _ _ _ _ _ _ _ _ _ _ _ _ _ _ _ _ (ok_d_l_falls T) (hr.mono (by decide)) rfl T.g_d_l_falls T.F_d_l_falls.kp T.b_d_l_falls .nil pass0 (@pa_cons _ _ _ _ _ (@pv _ 0 _ _ (by rfl) (by first | exact vis0 rfl | exact vis1 rfl | exact vis2 rfl) (by decide) (by decide)) (@pa_cons _ _ _ _ _ (@pv _ 1 _ _ (by rfl) (by first | exact vis0 rfl | exact vis1 rfl | exact vis2 rfl) (by decide) (by decide)) (@pa_nil _) (by rfl)) (by rfl)) (by decide) (by rfl) (by rfl)) (by intro _ ; rfl)))) (fun _ _ _ _ _ => (@pv _ 0 _ _ (by rfl) (by first | exact vis0 rfl | exact vis1 rfl | exact vis2 rfl) (by decide) (by decide))) sc_d_l_may_refuse.nd rfl (by first | exact Or.inl rfl | exact Or.inr rfl) rfl (by intro _ ; rfl) (by first | exact Or.inl rfl | exact Or.inr rfl | assumption)) (@pss_mid _ _ _ _ _ (@ps_if _ _ _ _ _ _ _ _ (@PW.pt _ _ _ (@pw_or _ _ _ _ _ _ _ (@pt_cmpR _ _ _ _ _ _ _ _ (op_eqN hr.units) (@pv _ 5 _ _ (by rfl) (by first | exact vis0 rfl | exact vis1 rfl | exact vis2 rfl) (by decide) (by decide)) (@pe_lst _ _ _ _ (@pa_nil _)) (nomark _)) (@pw_or1 _ _ _ _ (@pt_cmpR _ _ _ _ _ _ _ _ op_inA (@pe_call _ _ _ _ _ _ _ _ _ _ _ _ _ _ _ _ (ok_d_l_opposed T) (hr.mono (by decide)) rfl T.g_d_l_opposed T.F_d_l_opposed.kp T.b_d_l_opposed .nil pass0 (@pa_cons _ _ _ _ _ (@pv _ 4 _ _ (by rfl) (by first | exact vis0 rfl | exact vis1 rfl | exact vis2 rfl) (by decide) (by decide)) (@pa_nil _) (by rfl)) (by decide) (by rfl) (by rfl)) (@pv _ 1 _ _ (by rfl) (by first | exact vis0 rfl | exact vis1 rfl | exact vis2 rfl) (by decide) (by decide)) (by with_unfolding_all rfl))))) (@pss_one _ _ _ (@ps_ret _ _ _ _ (@pe_bl _ _ _ _))) (@pss_nil _)) (@pss_cons _ _ _ _ _ (@ps_for _ _ _ _ _ _ _ _ PassesOwn.never rfl (@pi_list _ _ _ _ (@pe_call _ _ _ _ _ _ _ _ _ _ _ _ _ _ _ _ (ok_d_l_against T) (hr.mono (by decide)) rfl T.g_d_l_against T.F_d_l_against.kp T.b_d_l_against .nil pass0 (@pa_cons _ _ _ _ _ (@pv _ 0 _ _ (by rfl) (by first | exact vis0 rfl | exact vis1 rfl | exact vis2 rfl) (by decide) (by decide)) (@pa_cons _ _ _ _ _ (@pv _ 4 _ _ (by rfl) (by first | exact vis0 rfl | exact vis1 rfl | exact vis2 rfl) (by decide) (by decide)) (@pa_nil _) (by rfl)) (by rfl)) (by decide) (by rfl) (by rfl))) (@pg_name _ _ (6) _ sc_d_l_may_refuse.nd rfl (by first | exact Or.inl rfl | exact Or.inr rfl) (by first | exact Or.inl rfl | exact Or.inr rfl | assumption)) (@pss_one _ _ _ (@ps_if _ _ _ _ _ _ _ _ (@PW.pt _ _ _ (@pw_and _ _ _ _ _ _ _ (@pt_val _ _ _ (@pe_call _ _ _ _ _ _ _ _ _ _ _ _ _ _ _ _ (ok_d_l_stands T) (hr.mono (by decide)) rfl T.g_d_l_stands T.F_d_l_stands.kp T.b_d_l_stands .nil pass0 (@pa_cons _ _ _ _ _ (@pv _ 6 _ _ (by rfl) (by first | exact vis0 rfl | exact vis1 rfl | exact vis2 rfl) (by decide) (by decide)) (@pa_cons _ _ _ _ _ (@pv _ 2 _ _ (by rfl) (by first | exact vis0 rfl | exact vis1 rfl | exact vis2 rfl) (by decide) (by decide)) (@pa_nil _) (by rfl)) (by rfl)) (by decide) (by rfl) (by rfl)) (by intro _ ; rfl)) (@pw_and1 _ _ _ _ (@pt_not _ _ _ _ (@pt_val _ _ _ (@pe_call _ _ _ _ _ _ _ _ _ _ _ _ _ _ _ _ (ok_d_l_beaten T) (hr.mono (by decide)) rfl T.g_d_l_beaten T.F_d_l_beaten.kp T.b_d_l_beaten .nil pass0 (@pa_cons _ _ _ _ _ (@pv _ 0 _ _ (by rfl) (by first | exact vis0 rfl | exact vis1 rfl | exact vis2 rfl) (by decide) (by decide)) (@pa_cons _ _ _ _ _ (@pv _ 6 _ _ (by rfl) (by first | exact vis0 rfl | exact vis1 rfl | exact vis2 rfl) (by decide) (by decide)) (@pa_cons _ _ _ _ _ (@pv _ 5 _ _ (by rfl) (by first | exact vis0 rfl | exact vis1 rfl | exact vis2 rfl) (by decide) (by decide)) (@pa_nil _) (by rfl)) (by rfl)) (by rfl)) (by decide) (by rfl) (by rfl)) (by intro _ ; rfl)))))) (@pss_one _ _ _ (@ps_ret _ _ _ _ (@pe_bl _ _ _ _))) (@pss_nil _))) (by intro _ ; rfl)) (@pss_one _ _ _ (@ps_ret _ _ _ _ (@pe_bl _ _ _ _))))))), ?_⟩
    rw [show start n_d_l_may_refuse [V.ref s, V.ref a1, V.ref a2, V.ref a3, V.str q0] = [some (V.ref s), some (V.ref a1), some (V.ref a2), some (V.ref a3), some (V.str q0), none, none] from rfl]
    obtain ⟨rs, ers⟩ : ∃ rs, zr.map (·.2) = rs := ⟨_, rfl⟩
    rw [ers] at q
    try simp only [tSeq, tIfS, tTest, tOp, tVar, List.getElem?_cons_succ, List.getElem?_cons_zero, tRet, tC, tNext, List.set_cons_succ, List.set_cons_zero, tComp_eq, iList, tCall, tCons, tNil, List.append_nil, exSlot]
    refine rIn_lst (SqL.of h1) ⟨_, rfl, ite2 (fun c0 => ?_) (fun c0 => ?_)⟩
    · have := q H (Same.refl _)
      unfold refB at this
      rwa [if_pos (by simpa using c0)] at this
    have c0' : q0 ∉ S := by simpa using c0
    refine ⟨s, T0, P0, E, zr, ps, pl, ev, q0, rfl, hs, fun W zs H1 s1 hW1 hz1 hzl1 ez1 => ?_⟩
    refine ⟨W, rfl, ⟨_, SqL.of hW1⟩, ?_⟩
    refine comp_ru zs hW1 (by omega) hz1 [some (V.ref a3)] rfl (fun r => !anyB r.2.2.2 D) (fun p => p.1) (fun x r H' R ho hr' s' hR => ?_) (fun x r H' R ho hr' s' hR => ?_) (fun W2 H2 hW2n s2 hW2 => ?_)
    · try simp only [tNot, tB, tCall, tCons, tVar, List.getElem?_cons_zero, List.getElem?_cons_succ, tNil, List.append_nil, exSlot]
      refine ⟨x, a3, r, D, rfl, ⟨x, rfl, hr'⟩, ho, (s1.trans s') _ _ h3, fun H'' s'' => ?_⟩
      try simp only [exBl]
      exact hR _ s''
    · try simp only [tVar, List.getElem?_cons_zero, exSlot]
      exact hR _ (Same.refl _)
    have s02 := s1.trans s2
    have hz2 : WsOk t H2 (zs.filter fun p => !anyB p.2.2.2.2 D) := fun p hp => (hz1.same s2) p (List.mem_filter.mp hp).1
    have hzl2 : (zs.filter fun p => !anyB p.2.2.2.2 D).length ≤ 30 := Nat.le_trans (List.length_filter_le _ _) hzl1
    have est : (zs.filter fun p => !anyB p.2.2.2.2 D).map (·.2) = unf rs D q0 := by
      unfold unf
      rw [← ers, ← ez1, List.filter_map]; rfl
    generalize (zs.filter fun p => !anyB p.2.2.2.2 D) = zw at hW2 hz2 hzl2 est
    have hneed : ∀ H', Same H H' → (unf rs D q0 = [] ∨ oppS q0 ∈ S) → Q (.bl true) H' := fun H' s' hc => by
      have := q H' s'
      unfold refB at this
      rwa [if_neg c0', if_pos hc] at this
    refine ⟨fun σ' H' => σ' = [some (V.ref s), some (V.ref a1), some (V.ref a2), some (V.ref a3), some (V.str q0), some (V.ref W2), none] ∧ Same H2 H' ∧ ¬ (unf rs D q0 = [] ∨ oppS q0 ∈ S), ?_, ?_⟩
    · try simp only [tIfS, tOr, tTest, tOp, tVar, List.getElem?_cons_succ, List.getElem?_cons_zero, tLst, tNil, tRet, tC, tNext, tCall, tCons, List.append_nil, exSlot]
      refine ⟨by decide, fun N hN => ?_⟩
      obtain ⟨H3, e3, s3, h3'⟩ := newO hN (.lst []); rw [e3]
      refine ⟨W2, N, _, rfl, rfl, SqL.of (s3 _ _ hW2), SqL.of h3', _, rfl, ite2 (fun c1 => ?_) (fun c1 => ?_)⟩
      · refine hneed _ (s02.trans s3) (.inl ?_)
        have : zw.map (·.1) = [] := by simpa using c1
        rw [← est, List.map_eq_nil_iff.mp this]; rfl
      refine ⟨31, q0, rfl, hq, by decide, rIn_lst (SqL.of ((s02.trans s3) _ _ h1)) ⟨_, rfl, ite2 (fun c2 => hneed _ (s02.trans s3) (.inr (by simpa using c2))) (fun c2 => ⟨(by trivial), s3, fun z => z.elim (fun w => c1 ?_) (fun w => c2 (by simpa using w))⟩)⟩⟩
      rw [← est] at w
      have : zw = [] := List.map_eq_nil_iff.mp w
      rw [this]; rfl
    rintro σ' H3 ⟨rfl, s23, hc⟩
    have s03 := s02.trans s23
    try simp only [tSeq, tFor_eq, iList, tCall, tCons, tVar, List.getElem?_cons_zero, List.getElem?_cons_succ, tNil, List.append_nil, exSlot]
    refine ⟨s, T0, P0, E, zr, ps, pl, ev, q0, rfl, hs.same s03, hq, fun B zb H4 s4 hB4 hzb hbl eb => ?_⟩
    rw [ers] at eb
    have s04 := s03.trans s4
    have s24 := s23.trans s4
    refine ⟨B, rfl, ⟨_, SqL.of hB4⟩, ?_⟩
    refine for_list (K := K) (a := B) (xs := zb.map (·.1)) (fun i σ H' => Same H4 H' ∧ (∀ b ∈ zb.take i, subB b.2.2.2.2 U = false ∨ btn pl (zw.map (·.2)) b.2 = true) ∧ ∃ y, σ = [some (V.ref s), some (V.ref a1), some (V.ref a2), some (V.ref a3), some (V.str q0), some (V.ref W2), y]) ⟨Same.refl _, (fun b hb => by simp at hb), _, rfl⟩ (fun i σ H' _ h => SqL.of (h.1 _ _ hB4)) ?_ ?_
    · rintro i v σ H5 hi ⟨s5, hU, y, rfl⟩
      obtain ⟨hi', ev'⟩ := at_map hi
      obtain ⟨⟨x, ex, hx⟩, ho⟩ := hzb _ (List.getElem_mem hi')
      rw [ex] at ev'
      subst ev'
      have hmem : zb[i].2 ∈ hdF rs (oppS q0) := by rw [← eb]; exact List.mem_map.mpr ⟨_, List.getElem_mem hi', rfl⟩
      have s05 := s04.trans s5
      try simp only [gName, tIfS, tAnd, tB, tCall, tCons, tVar, List.set_cons_succ, List.set_cons_zero, List.getElem?_cons_succ, List.getElem?_cons_zero, tNil, List.append_nil, tNot, Bool.not_eq_true', tRet, tC, tNext, exSlot, ite_ft]
      refine ⟨x, a2, _, U, rfl, ⟨x, rfl, hx.same s5⟩, ho, s05 _ _ h2, fun H6 s6 => ?_⟩
      try simp only [exBl]
      have s06 := s05.trans s6
      have s26 := (s24.trans s5).trans s6
      refine ite2 (fun c1 => ?_) (fun c1 => ⟨s5.trans s6, fun b hb => ?_, _, rfl⟩)
      · refine ⟨s, T0, P0, E, x, W2, zr, ps, pl, ev, _, zw, rfl, hs.same s06, ⟨x, rfl, (hx.same s5).same s6⟩, ho, s26 _ _ hW2, hz2.same s26, hzl2, fun H7 s7 => ⟨_, rfl, ite2 (fun c2 => ?_) (fun c2 => ⟨(s5.trans s6).trans s7, fun b hb => ?_, _, rfl⟩)⟩⟩
        · have := q _ (s06.trans s7)
          unfold refB at this
          rw [if_neg c0', if_neg hc, ← est] at this
          rwa [show (List.any _ _) = true from ?_] at this
          exact List.any_eq_true.mpr ⟨_, hmem, by rw [c1, c2]; rfl⟩
        · rcases (mem_take1 hi' b).mp hb with z | z
          · exact hU b z
          · rw [z]; right; simpa using c2
      · rcases (mem_take1 hi' b).mp hb with z | z
        · exact hU b z
        · rw [z]; left; simpa using c1
    · rintro σ H5 ⟨s5, hU, y, rfl⟩
      rw [List.length_map, List.take_length] at hU
      try simp only [tRet, tC]
      have := q _ (s04.trans s5)
      unfold refB at this
      rw [if_neg c0', if_neg hc, ← est, ← eb] at this
      rwa [show (List.any _ _) = false from ?_] at this
      refine Bool.eq_false_iff.mpr fun z => ?_
      obtain ⟨r, h1, h2⟩ := List.any_eq_true.mp z
      obtain ⟨p, hp, rfl⟩ := List.mem_map.mp h1
      rcases hU p hp with w | w
      · rw [w] at h2; cases h2
      · rw [w] at h2; simp at h2
theorem ok_d_l_good (T : Txt K mg t) : FnOk P w K mg base CX0 5 t.f_d_l_good t.fd_d_l_good ["_law_ground", "_law_scene_here", "_law_sures", "_law_rows"] (spGood t) := by
  refine T.F_d_l_good.ok sc_d_l_good (fun vs H Q E h => ?_) (fun cdv A outer s H vs Q E hr h => ?_)
  · obtain ⟨g, s, T0, P0, E, a1, a2, zr, ps, pl, ev, S, qs, rl, rfl, hG, hs, h1, h2, hP, hl, q⟩ := h; rfl
  · obtain ⟨g, s, T0, P0, E, a1, a2, zr, ps, pl, ev, S, qs, rl, rfl, hG, hs, h1, h2, hP, hl, q⟩ := h
    refine ⟨_, (@pss_cons _ _ _ _ _ (@ps_setComp _ _ _ _ _ _ _ _ _ _ _ _ _ (4) _ _ _ (@compOk_of _ (defScope s_d_l_good) (n_d_l_good) (["_law_word", "_law_text"]) ([none, none]) _ rfl rfl (by decide +kernel)) rfl (@pi_list _ _ _ _ (@pv _ 3 _ _ (by rfl) (by first | exact vis0 rfl | exact vis1 rfl | exact vis2 rfl) (by decide) (by decide))) (fun _ _ _ _ _ => (@pg_tupK _ (K) _ _ _ _ (2) rfl rfl (@pgs_cons _ _ _ _ _ (@pg_name _ _ (0) _ (show List.Nodup (["_law_word", "_law_text"] : List Str) by decide +kernel) rfl (by first | exact Or.inl rfl | exact Or.inr rfl) (by first | exact Or.inl rfl | exact Or.inr rfl | assumption)) (@pgs_cons _ _ _ _ _ (@pg_name _ _ (1) _ (show List.Nodup (["_law_word", "_law_text"] : List Str) by decide +kernel) rfl (by first | exact Or.inl rfl | exact Or.inr rfl) (by first | exact Or.inl rfl | exact Or.inr rfl | assumption)) (@pgs_nil _) (by rfl)) (by rfl)) (by rfl) (by rfl))) (fun _ _ _ _ _ => @pts_one _ _ _ (@pt_cmpR _ _ _ _ _ _ _ _ (op_eqK hr.units (K := K) rfl) (@pv _ 0 _ _ (by rfl) (by first | exact vis0 rfl | exact vis1 rfl | exact vis2 rfl) (by decide) (by decide)) (@pe_str _ _ _ _) (nomark _))) (fun _ _ _ _ _ => (@pv _ 1 _ _ (by rfl) (by first | exact vis0 rfl | exact vis1 rfl | exact vis2 rfl) (by decide) (by decide))) sc_d_l_good.nd rfl (by first | exact Or.inl rfl | exact Or.inr rfl) rfl (by intro _ ; rfl) (by first | exact Or.inl rfl | exact Or.inr rfl | assumption)) (@pss_cons _ _ _ _ _ (@ps_setComp _ _ _ _ _ _ _ _ _ _ _ _ _ (5) _ _ _ (@compOk_of _ (defScope s_d_l_good) (n_d_l_good) (["_law_word", "_law_text"]) ([none, none]) _ rfl rfl (by decide +kernel)) rfl (@pi_list _ _ _ _ (@pv _ 3 _ _ (by rfl) (by first | exact vis0 rfl | exact vis1 rfl | exact vis2 rfl) (by decide) (by decide))) (fun _ _ _ _ _ => (@pg_tupK _ (K) _ _ _ _ (2) rfl rfl (@pgs_cons _ _ _ _ _ (@pg_name _ _ (0) _ (show List.Nodup (["_law_word", "_law_text"] : List Str) by decide +kernel) rfl (by first | exact Or.inl rfl | exact Or.inr rfl) (by first | exact Or.inl rfl | exact Or.inr rfl | assumption)) (@pgs_cons _ _ _ _ _ (@pg_name _ _ (1) _ (show List.Nodup (["_law_word", "_law_text"] : List Str) by decide +kernel) rfl (by first | exact Or.inl rfl | exact Or.inr rfl) (by first | exact Or.inl rfl | exact Or.inr rfl | assumption)) (@pgs_nil _) (by rfl)) (by rfl)) (by rfl) (by rfl))) (fun _ _ _ _ _ => @pts_one _ _ _ (@pt_cmpR _ _ _ _ _ _ _ _ (op_eqK hr.units (K := K) rfl) (@pv _ 0 _ _ (by rfl) (by first | exact vis0 rfl | exact vis1 rfl | exact vis2 rfl) (by decide) (by decide)) (@pe_str _ _ _ _) (nomark _))) (fun _ _ _ _ _ => (@pv _ 1 _ _ (by rfl) (by first | exact vis0 rfl | exact vis1 rfl | exact vis2 rfl) (by decide) (by decide))) sc_d_l_good.nd rfl (by first | exact Or.inl rfl | exact Or.inr rfl) rfl (by intro _ ; rfl) (by first | exact Or.inl rfl | exact Or.inr rfl | assumption)) (@pss_cons _ _ _ _ _ (@ps_for _ _ _ _ _ _ _ _ PassesOwn.never rfl (@pi_list _ _ _ _ (@pe_op _ _ _ _ _ _ _ _ op_addA (@pe_ix _ _ _ _ _ _ _ ix_seq (@pv _ 1 _ _ (by rfl) (by first | exact vis0 rfl | exact vis1 rfl | exact vis2 rfl) (by decide) (by decide)) (@pe_int _ _ _ _) (fun _ _ => rfl)) (@pe_lst _ _ _ _ (@pa_cons _ _ _ _ _ (@pe_str _ _ _ _) (@pa_nil _) (by rfl))))) (@pg_name _ _ (6) _ sc_d_l_good.nd rfl (by first | exact Or.inl rfl | exact Or.inr rfl) (by first | exact Or.inl rfl | exact Or.inr rfl | assumption)) (@pss_cons _ _ _ _ _ (@ps_set _ _ (7) _ _ _ _ sc_d_l_good.nd rfl (by first | exact Or.inl rfl | exact Or.inr rfl) (@pe_call _ _ _ _ _ _ _ _ _ _ _ _ _ _ _ _ (ok_d_follows T) (hr.mono (by decide)) rfl T.g_d_follows T.F_d_follows.kp T.b_d_follows .nil pass0 (@pa_cons _ _ _ _ _ (@pv _ 0 _ _ (by rfl) (by first | exact vis0 rfl | exact vis1 rfl | exact vis2 rfl) (by decide) (by decide)) (@pa_cons _ _ _ _ _ (@pe_callTy _ _ _ _ _ _ _ _ _ call_listOf rfl T.z_list boot_listT (@pa_cons _ _ _ _ _ (@pv _ 2 _ _ (by rfl) (by first | exact vis0 rfl | exact vis1 rfl | exact vis2 rfl) (by decide) (by decide)) (@pa_nil _) (by rfl)) (by decide) (by decide) (by rfl) (by rfl)) (@pa_cons _ _ _ _ _ (@pe_callTy _ _ _ _ _ _ _ _ _ call_listOf rfl T.z_list boot_listT (@pa_cons _ _ _ _ _ (@pv _ 3 _ _ (by rfl) (by first | exact vis0 rfl | exact vis1 rfl | exact vis2 rfl) (by decide) (by decide)) (@pa_nil _) (by rfl)) (by decide) (by decide) (by rfl) (by rfl)) (@pa_cons _ _ _ _ _ (@pe_tup _ _ _ _ _ (@pa_cons _ _ _ _ _ (@pe_str _ _ _ _) (@pa_cons _ _ _ _ _ (@pv _ 6 _ _ (by rfl) (by first | exact vis0 rfl | exact vis1 rfl | exact vis2 rfl) (by decide) (by decide)) (@pa_nil _) (by rfl)) (by rfl))) (@pa_nil _) (by rfl)) (by rfl)) (by rfl)) (by rfl)) (by decide) (by rfl) (by rfl)) (by rfl) (by first | exact Or.inl rfl | exact Or.inr rfl | assumption)) (@pss_mid _ _ _ _ _ (@ps_if _ _ _ _ _ _ _ _ (@PW.pt _ _ _ (@pw_or _ _ _ _ _ _ _ (@pt_not _ _ _ _ (@pt_val _ _ _ (@pe_callB _ _ _ _ _ _ _ _ _ call_isinst rfl T.z_isinstance boot_isinstanceT (@pa_cons _ _ _ _ _ (@pv _ 7 _ _ (by rfl) (by first | exact vis0 rfl | exact vis1 rfl | exact vis2 rfl) (by decide) (by decide)) (@pa_cons _ _ _ _ _ (@pe_bltn _ _ (.ty "bool") _ _ rfl T.z_bool boot_boolT rfl (by decide) (by decide)) (@pa_nil _) (by rfl)) (by rfl)) (by decide) (by decide) (by rfl) (by rfl)) (by intro _ ; rfl))) (@pw_or1 _ _ _ _ (@pt_cmpR _ _ _ _ _ _ _ _ (op_neH hr.units) (@pv _ 7 _ _ (by rfl) (by first | exact vis0 rfl | exact vis1 rfl | exact vis2 rfl) (by decide) (by decide)) (@pe_call _ _ _ _ _ _ _ _ _ _ _ _ _ _ _ _ (ok_d_l_may_hold T) (hr.mono (by decide)) rfl T.g_d_l_may_hold T.F_d_l_may_hold.kp T.b_d_l_may_hold .nil pass0 (@pa_cons _ _ _ _ _ (@pv _ 1 _ _ (by rfl) (by first | exact vis0 rfl | exact vis1 rfl | exact vis2 rfl) (by decide) (by decide)) (@pa_cons _ _ _ _ _ (@pv _ 2 _ _ (by rfl) (by first | exact vis0 rfl | exact vis1 rfl | exact vis2 rfl) (by decide) (by decide)) (@pa_cons _ _ _ _ _ (@pv _ 4 _ _ (by rfl) (by first | exact vis0 rfl | exact vis1 rfl | exact vis2 rfl) (by decide) (by decide)) (@pa_cons _ _ _ _ _ (@pv _ 5 _ _ (by rfl) (by first | exact vis0 rfl | exact vis1 rfl | exact vis2 rfl) (by decide) (by decide)) (@pa_cons _ _ _ _ _ (@pv _ 6 _ _ (by rfl) (by first | exact vis0 rfl | exact vis1 rfl | exact vis2 rfl) (by decide) (by decide)) (@pa_nil _) (by rfl)) (by rfl)) (by rfl)) (by rfl)) (by rfl)) (by decide) (by rfl) (by rfl)) (nomark _))))) (@pss_one _ _ _ (@ps_ret _ _ _ _ (@pe_bl _ _ _ _))) (@pss_nil _)) (@pss_cons _ _ _ _ _ (@ps_set _ _ (7) _ _ _ _ sc_d_l_good.nd rfl (by first | exact Or.inl rfl | exact Or.inr rfl) (@pe_call _ _ _ _ _ _ _ _ _ _ _ _ _ _ _ _ (ok_d_follows T) (hr.mono (by decide)) rfl T.g_d_follows T.F_d_follows.kp T.b_d_follows .nil pass0 (@pa_cons _ _ _ _ _ (@pv _ 0 _ _ (by rfl) (by first | exact vis0 rfl | exact vis1 rfl | exact vis2 rfl) (by decide) (by decide)) (@pa_cons _ _ _ _ _ (@pe_callTy _ _ _ _ _ _ _ _ _ call_listOf rfl T.z_list boot_listT (@pa_cons _ _ _ _ _ (@pv _ 2 _ _ (by rfl) (by first | exact vis0 rfl | exact vis1 rfl | exact vis2 rfl) (by decide) (by decide)) (@pa_nil _) (by rfl)) (by decide) (by decide) (by rfl) (by rfl)) (@pa_cons _ _ _ _ _ (@pe_callTy _ _ _ _ _ _ _ _ _ call_listOf rfl T.z_list boot_listT (@pa_cons _ _ _ _ _ (@pv _ 3 _ _ (by rfl) (by first | exact vis0 rfl | exact vis1 rfl | exact vis2 rfl) (by decide) (by decide)) (@pa_nil _) (by rfl)) (by decide) (by decide) (by rfl) (by rfl)) (@pa_cons _ _ _ _ _ (@pe_tup _ _ _ _ _ (@pa_cons _ _ _ _ _ (@pe_str _ _ _ _) (@pa_cons _ _ _ _ _ (@pv _ 6 _ _ (by rfl) (by first | exact vis0 rfl | exact vis1 rfl | exact vis2 rfl) (by decide) (by decide)) (@pa_nil _) (by rfl)) (by rfl))) (@pa_nil _) (by rfl)) (by rfl)) (by rfl)) (by rfl)) (by decide) (by rfl) (by rfl)) (by rfl) (by first | exact Or.inl rfl | exact Or.inr rfl | assumption)) (@pss_one _ _ _ (@ps_if _ _ _ _ _ _ _ _ (@PW.pt _ _ _ (@pw_or _ _ _ _ _ _ _ (@pt_not _ _ _ _ (@pt_val _ _ _ (@pe_callB _ _ _ _ _ _ _ _ _ call_isinst rfl T.z_isinstance boot_isinstanceT (@pa_cons _ _ _ _ _ (@pv _ 7 _ _ (by rfl) (by first | exact vis0 rfl | exact vis1 rfl | exact vis2 rfl) (by decide) (by decide)) (@pa_cons _ _ _ _ _ (@pe_bltn _ _ (.ty "bool") _ _ rfl T.z_bool boot_boolT rfl (by decide) (by decide)) (@pa_nil _) (by rfl)) (by rfl)) (by decide) (by decide) (by rfl) (by rfl)) (by intro _ ; rfl))) (@pw_or1 _ _ _ _ (@pt_cmpR _ _ _ _ _ _ _ _ (op_neH hr.units) (@pv _ 7 _ _ (by rfl) (by first | exact vis0 rfl | exact vis1 rfl | exact vis2 rfl) (by decide) (by decide)) (@pe_call _ _ _ _ _ _ _ _ _ _ _ _ _ _ _ _ (ok_d_l_may_refuse T) (hr.mono (by decide)) rfl T.g_d_l_may_refuse T.F_d_l_may_refuse.kp T.b_d_l_may_refuse .nil pass0 (@pa_cons _ _ _ _ _ (@pv _ 1 _ _ (by rfl) (by first | exact vis0 rfl | exact vis1 rfl | exact vis2 rfl) (by decide) (by decide)) (@pa_cons _ _ _ _ _ (@pv _ 2 _ _ (by rfl) (by first | exact vis0 rfl | exact vis1 rfl | exact vis2 rfl) (by decide) (by decide)) (@pa_cons _ _ _ _ _ (@pv _ 4 _ _ (by rfl) (by first | exact vis0 rfl | exact vis1 rfl | exact vis2 rfl) (by decide) (by decide)) (@pa_cons _ _ _ _ _ (@pv _ 5 _ _ (by rfl) (by first | exact vis0 rfl | exact vis1 rfl | exact vis2 rfl) (by decide) (by decide)) (@pa_cons _ _ _ _ _ (@pv _ 6 _ _ (by rfl) (by first | exact vis0 rfl | exact vis1 rfl | exact vis2 rfl) (by decide) (by decide)) (@pa_nil _) (by rfl)) (by rfl)) (by rfl)) (by rfl)) (by rfl)) (by decide) (by rfl) (by rfl)) (nomark _))))) (@pss_one _ _ _ (@ps_ret _ _ _ _ (@pe_bl _ _ _ _))) (@pss_nil _)))))) (by intro _ ; rfl)) (@pss_one _ _ _ (@ps_ret _ _ _ _ (@pe_bl _ _ _ _)))))), ?_⟩
    rw [show start n_d_l_good [V.ref g, V.ref s, V.ref a1, V.ref a2] = [some (V.ref g), some (V.ref s), some (V.ref a1), some (V.ref a2), none, none, none, none] from rfl]
    try simp only [tSeq, List.set_cons_succ, List.set_cons_zero, tFor_eq, iList, tOp, tVar, List.getElem?_cons_succ, List.getElem?_cons_zero, tC, tLst, tCons, tNil, exSlot, tComp_eq, exRef]
    refine ⟨⟨_, SqL.of h2⟩, ?_⟩
    refine comp_pr2 h2 hP (by omega) rfl "held" fun He H1 hHn s1 hH1 => ?_
    refine ⟨⟨_, SqL.of (s1 _ _ h2)⟩, ?_⟩
    refine comp_pr2 (s1 _ _ h2) (PrsAt.same s1 hP) (by omega) rfl "refused" fun Re H2 hRn s2 hR2 => ?_
    have s02 := s1.trans s2
    refine rIx_lst (SqL.of (s02 _ _ hs.s)) rfl ⟨by decide, fun Z hZ => ?_⟩
    obtain ⟨H3, e3, s3, h3⟩ := newO hZ (.lst ([Str.ofString "nowhere"].map V.str))
    have e3' : upd H2 Z (.lst [V.str (Str.ofString "nowhere")]) = H3 := e3
    rw [e3']
    have s03 := s02.trans s3
    refine cat_strs (s03 _ _ hs.e) h3 (by have := hs.en.2; simp; omega) fun L hL => ?_
    obtain ⟨all, eall⟩ : ∃ all, ev ++ [Str.ofString "nowhere"] = all := ⟨_, rfl⟩
    have hall : ∀ z ∈ all, TxN 31 z := fun z hz => by
      rw [← eall] at hz
      rcases List.mem_append.mp hz with w | w
      · exact hs.eo z w
      · rw [List.mem_singleton.mp w, show (Str.ofString "nowhere") = mk [110, 111, 119, 104, 101, 114, 101] by decide +kernel]
        exact TxN.of (by simp) (by decide) (by decide)
    rw [eall]
    obtain ⟨H4, e4, s4, h4⟩ := newO hL (.lst (all.map V.str)); rw [e4]
    have s04 := s03.trans s4
    have hHe := ((s2.trans s3).trans s4) _ _ hH1
    have hRe := (s3.trans s4) _ _ hR2
    have hO : ∀ r ∈ zr.map (·.2), RwOk r := fun r hr => by
      obtain ⟨p, hp, rfl⟩ := List.mem_map.mp hr
      exact (hs.r.2.2.2 p hp).1
    have hrl : (zr.map (·.2)).length ≤ 63 := by rw [List.length_map]; have := hs.r.2.2.1; omega
    refine ⟨L, rfl, ⟨_, SqL.of h4⟩, ?_⟩
    refine for_list (K := K) (a := L) (xs := all.map V.str) (fun i σ H' => Same H4 H' ∧ ∃ x6 x7, σ = [some (V.ref g), some (V.ref s), some (V.ref a1), some (V.ref a2), some (V.ref He), some (V.ref Re), x6, x7]) ⟨Same.refl _, _, _, rfl⟩ (fun i σ H' _ h => SqL.of (h.1 _ _ h4)) ?_ ?_
    · rintro i v σ H5 hi ⟨s5, x6, x7, rfl⟩
      obtain ⟨hi', rfl⟩ := at_map hi
      have hz := hall _ (List.getElem_mem hi')
      generalize all[i] = z at hz
      have s05 := s04.trans s5
      have ask : ∀ (b : Bool) (w : Str), w = clW b → ∀ (H0 : Hp), Same H H0 → ∀ Q' : VK, (∀ H', Same H0 H' → Q' (.bl (dueB (zr.map (·.2)) pl S rl b z)) H') → rListOf K [V.ref a1] H0 fun x H1 => rListOf K [V.ref a2] H1 fun x_1 H1 => [V.str w, V.str z].length ≤ sizeLine ∧ ∀ p, H1 p = none → spFollows t [V.ref g, x, x_1, V.ref p] (upd H1 p (.tup [V.str w, V.str z])) Q' E0 := fun b w hw H0 k Q' hQ => by
        refine ⟨a1, _, rfl, .inl (SqL.of (k _ _ h1)), fun l1 hl1 => ?_⟩
        obtain ⟨Ha, ea, sa, ha⟩ := newO hl1 (.lst (S.map V.str)); rw [ea]
        refine ⟨a2, _, rfl, .inl (SqL.of (sa _ _ (k _ _ h2))), fun l2 hl2 => ?_⟩
        obtain ⟨Hb, eb, sb, hb⟩ := newO hl2 (.lst qs); rw [eb]
        refine ⟨(show 2 ≤ sizeLine by decide), fun p hp => ?_⟩
        obtain ⟨Hc, ec, sc, hc⟩ := newO hp (.tup [V.str w, V.str z]); rw [ec]
        have sab := (sa.trans sb).trans sc
        exact ⟨g, l2, p, _, _, pl, rl, qs, S, b, z, rfl, hG.same (k.trans sab), hO, hrl, .inl ⟨l1, rfl, sc _ _ (sb _ _ ha)⟩, sc _ _ hb, PrsAt.same (k.trans sab) hP, hl, by rw [← hw]; exact hc, Nat.le_trans hz.len (by decide), fun H' s' => hQ H' (sab.trans s')⟩
      try simp only [gName, tSeq, tAsg, tCall, tCons, tVar, List.set_cons_succ, List.set_cons_zero, List.getElem?_cons_zero, tCB, List.getElem?_cons_succ, tNil, tTup, tC, List.append_nil, exSlot]
      refine ask true _ rfl H5 s05 _ fun H6 s6 => ?_
      have s06 := s05.trans s6
      have s46 := s5.trans s6
      refine ⟨fun σ' H' => Same H4 H' ∧ ∃ x7, σ' = [some (V.ref g), some (V.ref s), some (V.ref a1), some (V.ref a2), some (V.ref He), some (V.ref Re), some (V.str z), x7], ?_, ?_⟩
      · try simp only [tIfS, tOr, tNot, tB, tCB, tCons, tVar, List.getElem?_cons_succ, List.getElem?_cons_zero, tC, tNil, Bool.not_eq_true', tRet, tNext, tTest, tOp, tCall, List.append_nil, exSlot, rIsi_bl_bool, exBl, ite_tf]
        refine ⟨s, T0, P0, E, a1, He, Re, zr, ps, pl, ev, S, _, _, z, rfl, hs.same s06, hz, s06 _ _ h1, s46 _ _ hHe, s46 _ _ hRe, fun H7 s7 => ?_⟩
        try simp only []
        exact ne_same rfl ⟨false, rfl, s46.trans s7, _, rfl⟩
      · rintro σ' H7 ⟨s7, x7, rfl⟩
        have s07 := s04.trans s7
        try simp only [tSeq, tAsg, tCall, tCons, tVar, List.getElem?_cons_zero, tCB, List.getElem?_cons_succ, tNil, tTup, tC, List.append_nil, gName, tIfS, tOr, tNot, tB, List.set_cons_succ, List.set_cons_zero, Bool.not_eq_true', tRet, tNext, tTest, tOp, exSlot]
        refine ask false _ rfl H7 s07 _ fun H8 s8 => ?_
        have s08 := s07.trans s8
        have s48 := s7.trans s8
        try simp only [rIsi_bl_bool, exBl, ite_tf]
        refine ⟨s, T0, P0, E, a1, He, Re, zr, ps, pl, ev, S, _, _, z, rfl, hs.same s08, hz, s08 _ _ h1, s48 _ _ hHe, s48 _ _ hRe, fun H9 s9 => ?_⟩
        try simp only []
        exact ne_same rfl ⟨false, rfl, s48.trans s9, _, _, rfl⟩
    · rintro σ H5 ⟨s5, x6, x7, rfl⟩
      try simp only [tRet, tC]
      exact q _ (s04.trans s5)
theorem ok_d_l_mix (T : Txt K mg t) : FnOk P w K mg base CX0 1 t.f_d_l_mix t.fd_d_l_mix ["_law_cell", "_law_k"] spMix := by
  refine T.F_d_l_mix.ok sc_d_l_mix (fun vs H Q E h => ?_) (fun cdv A outer s H vs Q E hr h => ?_)
  · obtain ⟨c, k, rfl, q⟩ := h; rfl
  · obtain ⟨c, k, rfl, q⟩ := h
    refine ⟨_, (@pss_cons _ _ _ _ _ (@ps_set _ _ (2) _ _ _ _ sc_d_l_mix.nd rfl (by first | exact Or.inl rfl | exact Or.inr rfl) (@pe_op _ _ _ _ _ _ _ _ op_mod (@pe_op _ _ _ _ _ _ _ _ op_addA (@pe_op _ _ _ _ _ _ _ _ op_addA (@pe_op _ _ _ _ _ _ _ _ op_mod (@pv _ 0 _ _ (by rfl) (by first | exact vis0 rfl | exact vis1 rfl | exact vis2 rfl) (by decide) (by decide)) (@pe_int _ _ _ _)) (@pe_op _ _ _ _ _ _ _ _ op_mul (@pe_int _ _ _ _) (@pv _ 1 _ _ (by rfl) (by first | exact vis0 rfl | exact vis1 rfl | exact vis2 rfl) (by decide) (by decide)))) (@pe_int _ _ _ _)) (@pe_int _ _ _ _)) (by rfl) (by first | exact Or.inl rfl | exact Or.inr rfl | assumption)) (@pss_cons _ _ _ _ _ (@ps_set _ _ (2) _ _ _ _ sc_d_l_mix.nd rfl (by first | exact Or.inl rfl | exact Or.inr rfl) (@pe_op _ _ _ _ _ _ _ _ op_mod (@pe_op _ _ _ _ _ _ _ _ op_mul (@pv _ 2 _ _ (by rfl) (by first | exact vis0 rfl | exact vis1 rfl | exact vis2 rfl) (by decide) (by decide)) (@pv _ 2 _ _ (by rfl) (by first | exact vis0 rfl | exact vis1 rfl | exact vis2 rfl) (by decide) (by decide))) (@pe_int _ _ _ _)) (by rfl) (by first | exact Or.inl rfl | exact Or.inr rfl | assumption)) (@pss_cons _ _ _ _ _ (@ps_set _ _ (2) _ _ _ _ sc_d_l_mix.nd rfl (by first | exact Or.inl rfl | exact Or.inr rfl) (@pe_op _ _ _ _ _ _ _ _ op_mod (@pe_op _ _ _ _ _ _ _ _ op_addA (@pe_op _ _ _ _ _ _ _ _ op_mul (@pv _ 2 _ _ (by rfl) (by first | exact vis0 rfl | exact vis1 rfl | exact vis2 rfl) (by decide) (by decide)) (@pe_int _ _ _ _)) (@pv _ 1 _ _ (by rfl) (by first | exact vis0 rfl | exact vis1 rfl | exact vis2 rfl) (by decide) (by decide))) (@pe_int _ _ _ _)) (by rfl) (by first | exact Or.inl rfl | exact Or.inr rfl | assumption)) (@pss_one _ _ _ (@ps_ret _ _ _ _ (@pe_op _ _ _ _ _ _ _ _ op_mod (@pe_op _ _ _ _ _ _ _ _ op_mul (@pv _ 2 _ _ (by rfl) (by first | exact vis0 rfl | exact vis1 rfl | exact vis2 rfl) (by decide) (by decide)) (@pv _ 2 _ _ (by rfl) (by first | exact vis0 rfl | exact vis1 rfl | exact vis2 rfl) (by decide) (by decide))) (@pe_int _ _ _ _))))))), ?_⟩
    rw [show start n_d_l_mix [V.int c, V.int k] = [some (V.int c), some (V.int k), none] from rfl]
    try simp only [tSeq, tAsg, tOp, tVar, List.getElem?_cons_zero, tC, List.getElem?_cons_succ, gName, List.set_cons_succ, List.set_cons_zero, tRet, exSlot, rI_int, CMul, rAddA_int]
    have h1 := mod_lt' (i := c % 2147483647 + 7919 * k + 12345) (j := 2147483647) (by decide)
    generalize (c % 2147483647 + 7919 * k + 12345) % 2147483647 = n at h1 ⊢
    have h2 := mod_lt' (i := n * n) (j := 2147483629) (by decide)
    generalize n * n % 2147483629 = m at h2 ⊢
    have h3 := mod_lt' (i := m * 48271 + k) (j := 2147483647) (by decide)
    generalize (m * 48271 + k) % 2147483647 = l at h3 ⊢
    exact ⟨by decide, .inl (by decide), by decide, .inl (by omega), by decide, .inl (by omega), by decide, .inl (by omega), by decide, q _ (Int.emod_nonneg _ (by decide))⟩
theorem ok_d_l_pairs (T : Txt K mg t) : FnOk P w K mg base CX0 2 t.f_d_l_pairs t.fd_d_l_pairs ["_law_rules", "_law_cell"] (spPairs51 t) := by
  refine T.F_d_l_pairs.ok sc_d_l_pairs (fun vs H Q E h => ?_) (fun cdv A outer s H vs Q E hr h => ?_)
  · obtain ⟨a, c, zr, rfl, hR, q⟩ := h; rfl
  · obtain ⟨a, c, zr, rfl, hR, q⟩ := h
    refine ⟨_, (@pss_cons _ _ _ _ _ (@ps_set _ _ (2) _ _ _ _ sc_d_l_pairs.nd rfl (by first | exact Or.inl rfl | exact Or.inr rfl) (@pe_lst _ _ _ _ (@pa_nil _)) (by rfl) (by first | exact Or.inl rfl | exact Or.inr rfl | assumption)) (@pss_cons _ _ _ _ _ (@ps_for _ _ _ _ _ _ _ _ PassesOwn.never rfl (@pi_range1 _ _ _ _ _ _ rfl T.z_range (@pa_cons _ _ _ _ _ (@pe_callB _ _ _ _ _ _ _ _ _ call_lenA rfl T.z_len boot_lenT (@pa_cons _ _ _ _ _ (@pv _ 0 _ _ (by rfl) (by first | exact vis0 rfl | exact vis1 rfl | exact vis2 rfl) (by decide) (by decide)) (@pa_nil _) (by rfl)) (by decide) (by decide) (by rfl) (by rfl)) (@pa_nil _) (by rfl)) (by rfl)) (@pg_name _ _ (3) _ sc_d_l_pairs.nd rfl (by first | exact Or.inl rfl | exact Or.inr rfl) (by first | exact Or.inl rfl | exact Or.inr rfl | assumption)) (@pss_one _ _ _ (@ps_for _ _ _ _ _ _ _ _ PassesOwn.never rfl (@pi_range2 _ _ _ _ _ _ _ rfl T.z_range (@pa_cons _ _ _ _ _ (@pe_op _ _ _ _ _ _ _ _ op_addA (@pv _ 3 _ _ (by rfl) (by first | exact vis0 rfl | exact vis1 rfl | exact vis2 rfl) (by decide) (by decide)) (@pe_int _ _ _ _)) (@pa_cons _ _ _ _ _ (@pe_callB _ _ _ _ _ _ _ _ _ call_lenA rfl T.z_len boot_lenT (@pa_cons _ _ _ _ _ (@pv _ 0 _ _ (by rfl) (by first | exact vis0 rfl | exact vis1 rfl | exact vis2 rfl) (by decide) (by decide)) (@pa_nil _) (by rfl)) (by decide) (by decide) (by rfl) (by rfl)) (@pa_nil _) (by rfl)) (by rfl)) (by rfl) (by rfl)) (@pg_name _ _ (4) _ sc_d_l_pairs.nd rfl (by first | exact Or.inl rfl | exact Or.inr rfl) (by first | exact Or.inl rfl | exact Or.inr rfl | assumption)) (@pss_one _ _ _ (@ps_if _ _ _ _ _ _ _ _ (@PW.pt _ _ _ (@pw_and _ _ _ _ _ _ _ (@pt_cmpR _ _ _ _ _ _ _ _ (op_eqH hr.units) (@pe_fld _ _ _ _ _ (@pe_ix _ _ _ _ _ _ _ ix_seq (@pv _ 0 _ _ (by rfl) (by first | exact vis0 rfl | exact vis1 rfl | exact vis2 rfl) (by decide) (by decide)) (@pv _ 3 _ _ (by rfl) (by first | exact vis0 rfl | exact vis1 rfl | exact vis2 rfl) (by decide) (by decide)) (fun _ _ => rfl)) rfl) (@pe_call _ _ _ _ _ _ _ _ _ _ _ _ _ _ _ _ (ok_d_l_opposed T) (hr.mono (by decide)) rfl T.g_d_l_opposed T.F_d_l_opposed.kp T.b_d_l_opposed .nil pass0 (@pa_cons _ _ _ _ _ (@pe_fld _ _ _ _ _ (@pe_ix _ _ _ _ _ _ _ ix_seq (@pv _ 0 _ _ (by rfl) (by first | exact vis0 rfl | exact vis1 rfl | exact vis2 rfl) (by decide) (by decide)) (@pv _ 4 _ _ (by rfl) (by first | exact vis0 rfl | exact vis1 rfl | exact vis2 rfl) (by decide) (by decide)) (fun _ _ => rfl)) rfl) (@pa_nil _) (by rfl)) (by decide) (by rfl) (by rfl)) (nomark _)) (@pw_and _ _ _ _ _ _ _ (@pt_cmpR _ _ _ _ _ _ _ _ (op_neH hr.units) (@pe_fld _ _ _ _ _ (@pe_ix _ _ _ _ _ _ _ ix_seq (@pv _ 0 _ _ (by rfl) (by first | exact vis0 rfl | exact vis1 rfl | exact vis2 rfl) (by decide) (by decide)) (@pv _ 3 _ _ (by rfl) (by first | exact vis0 rfl | exact vis1 rfl | exact vis2 rfl) (by decide) (by decide)) (fun _ _ => rfl)) rfl) (@pe_str _ _ _ _) (nomark _)) (@pw_and1 _ _ _ _ (@pt_cmpR _ _ _ _ _ _ _ _ (op_neH hr.units) (@pe_fld _ _ _ _ _ (@pe_ix _ _ _ _ _ _ _ ix_seq (@pv _ 0 _ _ (by rfl) (by first | exact vis0 rfl | exact vis1 rfl | exact vis2 rfl) (by decide) (by decide)) (@pv _ 4 _ _ (by rfl) (by first | exact vis0 rfl | exact vis1 rfl | exact vis2 rfl) (by decide) (by decide)) (fun _ _ => rfl)) rfl) (@pe_str _ _ _ _) (nomark _)))))) (@pss_cons _ _ _ _ _ (@ps_set _ _ (5) _ _ _ _ sc_d_l_pairs.nd rfl (by first | exact Or.inl rfl | exact Or.inr rfl) (@pe_op _ _ _ _ _ _ _ _ op_mod (@pe_call _ _ _ _ _ _ _ _ _ _ _ _ _ _ _ _ (ok_d_l_mix T) (hr.mono (by decide)) rfl T.g_d_l_mix T.F_d_l_mix.kp T.b_d_l_mix .nil pass0 (@pa_cons _ _ _ _ _ (@pv _ 1 _ _ (by rfl) (by first | exact vis0 rfl | exact vis1 rfl | exact vis2 rfl) (by decide) (by decide)) (@pa_cons _ _ _ _ _ (@pe_op _ _ _ _ _ _ _ _ op_addA (@pe_op _ _ _ _ _ _ _ _ op_mul (@pe_int _ _ _ _) (@pv _ 3 _ _ (by rfl) (by first | exact vis0 rfl | exact vis1 rfl | exact vis2 rfl) (by decide) (by decide))) (@pv _ 4 _ _ (by rfl) (by first | exact vis0 rfl | exact vis1 rfl | exact vis2 rfl) (by decide) (by decide))) (@pa_nil _) (by rfl)) (by rfl)) (by decide) (by rfl) (by rfl)) (@pe_int _ _ _ _)) (by rfl) (by first | exact Or.inl rfl | exact Or.inr rfl | assumption)) (@pss_one _ _ _ (@ps_if _ _ _ _ _ _ _ _ (@PW.pt _ _ _ (@pw_and _ _ _ _ _ _ _ (@pt_cmpR _ _ _ _ _ _ _ _ op_ltA (@pv _ 5 _ _ (by rfl) (by first | exact vis0 rfl | exact vis1 rfl | exact vis2 rfl) (by decide) (by decide)) (@pe_int _ _ _ _) (nomark _)) (@pw_and1 _ _ _ _ (@pt_cmpR _ _ _ _ _ _ _ _ op_ltA (@pe_callB _ _ _ _ _ _ _ _ _ call_lenA rfl T.z_len boot_lenT (@pa_cons _ _ _ _ _ (@pv _ 2 _ _ (by rfl) (by first | exact vis0 rfl | exact vis1 rfl | exact vis2 rfl) (by decide) (by decide)) (@pa_nil _) (by rfl)) (by decide) (by decide) (by rfl) (by rfl)) (@pe_int _ _ _ _) (nomark _))))) (@pss_one _ _ _ (@ps_expr _ _ _ _ (@pe_bm _ _ _ _ _ _ _ _ _ _ _ _ PySem.F.plainAttrs_list PySem.F.slot_list_append PySem.F.type_list_append mt_append (@pv _ 2 _ _ (by rfl) (by first | exact vis0 rfl | exact vis1 rfl | exact vis2 rfl) (by decide) (by decide)) (@pa_cons _ _ _ _ _ (@pe_tup _ _ _ _ _ (@pa_cons _ _ _ _ _ (@pe_fld _ _ _ _ _ (@pe_ix _ _ _ _ _ _ _ ix_seq (@pv _ 0 _ _ (by rfl) (by first | exact vis0 rfl | exact vis1 rfl | exact vis2 rfl) (by decide) (by decide)) (@pv _ 3 _ _ (by rfl) (by first | exact vis0 rfl | exact vis1 rfl | exact vis2 rfl) (by decide) (by decide)) (fun _ _ => rfl)) rfl) (@pa_cons _ _ _ _ _ (@pe_fld _ _ _ _ _ (@pe_ix _ _ _ _ _ _ _ ix_seq (@pv _ 0 _ _ (by rfl) (by first | exact vis0 rfl | exact vis1 rfl | exact vis2 rfl) (by decide) (by decide)) (@pv _ 4 _ _ (by rfl) (by first | exact vis0 rfl | exact vis1 rfl | exact vis2 rfl) (by decide) (by decide)) (fun _ _ => rfl)) rfl) (@pa_nil _) (by rfl)) (by rfl))) (@pa_nil _) (by rfl)) (by rfl) (by rfl) (by rfl) (by rfl) (by rfl)) (by rfl))) (@pss_nil _)))) (@pss_nil _))) (by intro _ ; rfl))) (by intro _ ; rfl)) (@pss_one _ _ _ (@ps_ret _ _ _ _ (@pv _ 2 _ _ (by rfl) (by first | exact vis0 rfl | exact vis1 rfl | exact vis2 rfl) (by decide) (by decide)))))), ?_⟩
    rw [show start n_d_l_pairs [V.ref a, V.int c] = [some (V.ref a), some (V.int c), none, none, none, none] from rfl]
    try simp only [tSeq, tAsg, tLst, tNil, gName, List.set_cons_succ, List.set_cons_zero, tFor_eq, iRng1, tCons, tCB, tVar, List.getElem?_cons_zero, exSlot]
    refine ⟨by decide, fun D hD => ?_⟩
    obtain ⟨H1, e1, s1, h1⟩ := newO hD (.lst []); rw [e1]
    have hR1 := hR.same s1
    have hzl := hR.2.2.1
    refine rLenA_lst (SqL.of hR1.1) ?_
    rw [List.length_map]
    refine ⟨_, rfl, by omega, by omega, ?_⟩
    have inv0 : PrsAt H1 [] [] := ⟨[], rfl, rfl, fun i a p e => by cases e⟩
    refine for_range (n := (zr.length : Int).toNat) (lo := 0) (fun i σ H' => ∃ (ps : List V) (pl : List (Str × Str)) (x3 x4 x5 : Option V), σ = [some (V.ref a), some (V.int c), some (V.ref D), x3, x4, x5] ∧ Same H H' ∧ H' D = some (.lst ps) ∧ PrsAt H' ps pl ∧ pl.length ≤ 60 ∧ PlOk pl)
      ⟨[], [], _, _, _, rfl, s1, h1, inv0, by decide, fun p hp => absurd hp List.not_mem_nil⟩ ?_ ?_
    · rintro i σ H2 hi ⟨ps, pl, x3, x4, x5, rfl, s2, hD2, hps, hpl, hpo⟩
      have hR2 := hR.same s2
      try simp only [gName, List.set_cons_succ, List.set_cons_zero, tFor_eq, iRng2, tCons, tOp, tVar, List.getElem?_cons_succ, List.getElem?_cons_zero, tC, tCB, tNil, exSlot, rAddA_int]
      refine rLenA_lst (SqL.of hR2.1) ?_
      rw [List.length_map]
      refine ⟨_, _, rfl, by omega, ?_⟩
      obtain ⟨xa, ra, ea, hxa, hra⟩ := hR.at2 (k := 0 + (i : Int)) (by omega) (by omega)
      have CA := clsF T hra.1.1
      obtain ⟨dxa, ta, fa1, fa2⟩ := hxa
      refine for_range (lo := 0 + (i : Int) + 1) (fun j σ H' => ∃ (ps : List V) (pl : List (Str × Str)) (x4 x5 : Option V), σ = [some (V.ref a), some (V.int c), some (V.ref D), some (V.int (0 + (i : Int))), x4, x5] ∧ Same H H' ∧ H' D = some (.lst ps) ∧ PrsAt H' ps pl ∧ pl.length ≤ 60 ∧ PlOk pl)
        ⟨ps, pl, _, _, rfl, s2, hD2, hps, hpl, hpo⟩ ?_ ?_
      · clear hps hpl hpo hD2
        rintro j σ H3 hj ⟨ps, pl, x4, x5, rfl, s3, hD3, hps, hpl, hpo⟩
        obtain ⟨xb, rb, eb, hxb, hrb⟩ := hR.at2 (k := 0 + (i : Int) + 1 + (j : Int)) (by omega) (by omega)
        have CB := clsF T hrb.1.1
        obtain ⟨dxb, tb, fb1, fb2⟩ := hxb
        have hR3 := (hR.same s3).1
        try simp only [gName, tIfS, tAnd, tTest, tOp, tFld, tVar, List.set_cons_succ, List.set_cons_zero, List.getElem?_cons_zero, List.getElem?_cons_succ, tCall, tCons, tNil, List.append_nil, tC, tSeq, tAsg, tCB, tDrop, tBM, tTup, exSlot, tNext, ite_ft, rI_int, CMul, rAddA_int, spMix_at, rLtA_int, exBl, decide_eq_true_eq]
        refine rIx_lst (SqL.of hR3) ea ⟨xa, _, dxa, _, _, rfl, s3 _ _ fa1, CA.cl, CA.nh, flds_head _ _ _, ?_⟩
        refine rIx_lst (SqL.of hR3) eb ⟨xb, _, dxb, _, _, rfl, s3 _ _ fb1, CB.cl, CB.nh, flds_head _ _ _, 31, _, rfl, hrb.2.1, by decide, ?_⟩
        try simp only [rEqH_str, exBl, decide_eq_true_eq]
        have keep : ∀ x5', ∃ (ps' : List V) (pl' : List (Str × Str)) (x4' x5'' : Option V), [some (V.ref a), some (V.int c), some (V.ref D), some (V.int (0 + (i : Int))), some (V.int (0 + (i : Int) + 1 + (j : Int))), x5'] = [some (V.ref a), some (V.int c), some (V.ref D), some (V.int (0 + (i : Int))), x4', x5''] ∧ Same H H3 ∧ H3 D = some (.lst ps') ∧ PrsAt H3 ps' pl' ∧ pl'.length ≤ 60 ∧ PlOk pl' := fun x5' => ⟨ps, pl, _, _, rfl, s3, hD3, hps, hpl, hpo⟩
        refine ite2 (fun _ => ?_) (fun _ => keep _)
        refine rIx_lst (SqL.of hR3) ea ⟨xa, _, dxa, _, _, rfl, s3 _ _ fa1, CA.cl, CA.nl, flds_label _ _ _, ?_⟩
        try simp only [rNeH_str, exBl, Bool.not_eq_true', decide_eq_false_iff_not]
        refine ite2 (fun _ => ?_) (fun _ => keep _)
        refine rIx_lst (SqL.of hR3) eb ⟨xb, _, dxb, _, _, rfl, s3 _ _ fb1, CB.cl, CB.nl, flds_label _ _ _, ?_⟩
        try simp only [rNeH_str, exBl, Bool.not_eq_true', decide_eq_false_iff_not]
        refine ite2 (fun _ => ?_) (fun _ => keep _)
        refine ⟨.inl (by decide), fun r hr' => ⟨by decide, ite2 (fun _ => ?_) (fun _ => keep _)⟩⟩
        refine rLenA_lst (SqL.of hD3) ?_
        have hpn := PrsAt.len hps
        try simp only [rLtA_int, exBl, decide_eq_true_eq]
        refine ite2 (fun c60 => ?_) (fun _ => keep _)
        refine ⟨.inl ⟨rfl, _, SqL.of hD3⟩, ?_⟩
        refine rIx_lst (SqL.of hR3) ea ⟨xa, _, dxa, _, _, rfl, s3 _ _ fa1, CA.cl, CA.nl, flds_label _ _ _, ?_⟩
        refine rIx_lst (SqL.of hR3) eb ⟨xb, _, dxb, _, _, rfl, s3 _ _ fb1, CB.cl, CB.nl, flds_label _ _ _, (show 2 ≤ sizeLine by decide), fun Z hZ => ?_⟩
        obtain ⟨H4, e4, s4, h4⟩ := newO hZ (.tup [V.str ra.2.1, V.str rb.2.1]); rw [e4]
        refine ⟨D, _, _, rfl, rfl, s4 _ _ hD3, Nat.lt_of_le_of_lt (show ps.length ≤ 1000 by omega) (by decide), ?_⟩
        have hZD : Z ≠ D := fun z => by rw [z, hD3] at hZ; cases hZ
        have hps4 : PrsAt (upd H4 D (.lst (ps ++ [V.ref Z]))) ps pl := prs_mono (PrsAt.same s4 hps) ⟨_, s4 _ _ hD3⟩ fun b o hb e => by rw [upd_ne hb]; exact e
        refine ⟨ps ++ [V.ref Z], pl ++ [(ra.2.1, rb.2.1)], _, _, rfl, fun b o e => by rw [upd_ne (ne_of_none e hD)]; exact s4 _ _ (s3 _ _ e), upd_same, prs_snoc hps4 (by rw [upd_ne hZD]; exact h4), ?_, fun p hp => ?_⟩
        · rw [List.length_append]; simp; omega
        · rcases List.mem_append.mp hp with z | z
          · exact hpo p z
          · rw [List.mem_singleton.mp z]; exact ⟨hra.1.2.2.1.1, hrb.1.2.2.1.1⟩
      · rintro σ H3 ⟨ps, pl, x4, x5, rfl, s3, hD3, hps, hpl, hpo⟩
        exact ⟨ps, pl, _, _, _, rfl, s3, hD3, hps, hpl, hpo⟩
    · rintro σ H2 ⟨ps, pl, x3, x4, x5, rfl, s2, hD2, hps, hpl, hpo⟩
      try simp only [tRet, tVar, List.getElem?_cons_succ, List.getElem?_cons_zero, exSlot]
      exact q D ps pl H2 s2 hD hD2 hps hpl hpo
theorem ok_d_l_words (T : Txt K mg t) : FnOk P w K mg base CX0 2 t.f_d_l_words t.fd_d_l_words ["_law_cell", "_law_many"] spWords := by
  refine T.F_d_l_words.ok sc_d_l_words (fun vs H Q E h => ?_) (fun cdv A outer s H vs Q E hr h => ?_)
  · obtain ⟨c, m, rfl, hm, q⟩ := h; rfl
  · obtain ⟨c, m, rfl, hm, q⟩ := h
    refine ⟨_, (@pss_cons _ _ _ _ _ (@ps_set _ _ (2) _ _ _ _ sc_d_l_words.nd rfl (by first | exact Or.inl rfl | exact Or.inr rfl) (@pe_str _ _ _ _) (by rfl) (by first | exact Or.inl rfl | exact Or.inr rfl | assumption)) (@pss_cons _ _ _ _ _ (@ps_setComp _ _ _ _ _ _ _ _ _ _ _ _ _ (3) _ _ _ (@compOk_of _ (defScope s_d_l_words) (n_d_l_words) (["_law_k", "_law_signs", "_law_cell"]) ([none, some 2, some 0]) _ rfl rfl (by decide +kernel)) rfl (@pi_range1 _ _ _ _ _ _ rfl T.z_range (@pa_cons _ _ _ _ _ (@pe_int _ _ _ _) (@pa_nil _) (by rfl)) (by rfl)) (fun _ _ _ _ _ => (@pg_name _ _ (0) _ (show List.Nodup (["_law_k", "_law_signs", "_law_cell"] : List Str) by decide +kernel) rfl (by first | exact Or.inl rfl | exact Or.inr rfl) (by first | exact Or.inl rfl | exact Or.inr rfl | assumption))) (fun _ _ _ _ _ => @pts_nil _) (fun _ _ _ _ _ => (@pe_ix _ _ _ _ _ _ _ (ix_seqK (K := K) rfl) (@pv _ 1 _ _ (by rfl) (by first | exact vis0 rfl | exact vis1 rfl | exact vis2 rfl) (by decide) (by decide)) (@pe_op _ _ _ _ _ _ _ _ op_mod (@pe_call _ _ _ _ _ _ _ _ _ _ _ _ _ _ _ _ (ok_d_l_mix T) (hr.mono (by decide)) rfl T.g_d_l_mix T.F_d_l_mix.kp T.b_d_l_mix .nil pass0 (@pa_cons _ _ _ _ _ (@pv _ 2 _ _ (by rfl) (by first | exact vis0 rfl | exact vis1 rfl | exact vis2 rfl) (by decide) (by decide)) (@pa_cons _ _ _ _ _ (@pe_op _ _ _ _ _ _ _ _ (op_addK (K := K) rfl) (@pe_int _ _ _ _) (@pv _ 0 _ _ (by rfl) (by first | exact vis0 rfl | exact vis1 rfl | exact vis2 rfl) (by decide) (by decide))) (@pa_nil _) (by rfl)) (by rfl)) (by decide) (by rfl) (by rfl)) (@pe_int _ _ _ _)) (fun _ _ => rfl))) sc_d_l_words.nd rfl (by first | exact Or.inl rfl | exact Or.inr rfl) rfl (by intro _ ; rfl) (by first | exact Or.inl rfl | exact Or.inr rfl | assumption)) (@pss_cons _ _ _ _ _ (@ps_set _ _ (4) _ _ _ _ sc_d_l_words.nd rfl (by first | exact Or.inl rfl | exact Or.inr rfl) (@pe_op _ _ _ _ _ _ _ _ op_addA (@pe_int _ _ _ _) (@pe_op _ _ _ _ _ _ _ _ op_mod (@pe_call _ _ _ _ _ _ _ _ _ _ _ _ _ _ _ _ (ok_d_l_mix T) (hr.mono (by decide)) rfl T.g_d_l_mix T.F_d_l_mix.kp T.b_d_l_mix .nil pass0 (@pa_cons _ _ _ _ _ (@pv _ 0 _ _ (by rfl) (by first | exact vis0 rfl | exact vis1 rfl | exact vis2 rfl) (by decide) (by decide)) (@pa_cons _ _ _ _ _ (@pe_int _ _ _ _) (@pa_nil _) (by rfl)) (by rfl)) (by decide) (by rfl) (by rfl)) (@pe_int _ _ _ _))) (by rfl) (by first | exact Or.inl rfl | exact Or.inr rfl | assumption)) (@pss_cons _ _ _ _ _ (@ps_set _ _ (5) _ _ _ _ sc_d_l_words.nd rfl (by first | exact Or.inl rfl | exact Or.inr rfl) (@pe_op _ _ _ _ _ _ _ _ op_mod (@pe_call _ _ _ _ _ _ _ _ _ _ _ _ _ _ _ _ (ok_d_l_mix T) (hr.mono (by decide)) rfl T.g_d_l_mix T.F_d_l_mix.kp T.b_d_l_mix .nil pass0 (@pa_cons _ _ _ _ _ (@pv _ 0 _ _ (by rfl) (by first | exact vis0 rfl | exact vis1 rfl | exact vis2 rfl) (by decide) (by decide)) (@pa_cons _ _ _ _ _ (@pe_int _ _ _ _) (@pa_nil _) (by rfl)) (by rfl)) (by decide) (by rfl) (by rfl)) (@pv _ 4 _ _ (by rfl) (by first | exact vis0 rfl | exact vis1 rfl | exact vis2 rfl) (by decide) (by decide))) (by rfl) (by first | exact Or.inl rfl | exact Or.inr rfl | assumption)) (@pss_cons _ _ _ _ _ (@ps_set _ _ (6) _ _ _ _ sc_d_l_words.nd rfl (by first | exact Or.inl rfl | exact Or.inr rfl) (@pe_lst _ _ _ _ (@pa_nil _)) (by rfl) (by first | exact Or.inl rfl | exact Or.inr rfl | assumption)) (@pss_cons _ _ _ _ _ (@ps_for _ _ _ _ _ _ _ _ PassesOwn.never rfl (@pi_range1 _ _ _ _ _ _ rfl T.z_range (@pa_cons _ _ _ _ _ (@pv _ 1 _ _ (by rfl) (by first | exact vis0 rfl | exact vis1 rfl | exact vis2 rfl) (by decide) (by decide)) (@pa_nil _) (by rfl)) (by rfl)) (@pg_name _ _ (7) _ sc_d_l_words.nd rfl (by first | exact Or.inl rfl | exact Or.inr rfl) (by first | exact Or.inl rfl | exact Or.inr rfl | assumption)) (@pss_cons _ _ _ _ _ (@ps_set _ _ (8) _ _ _ _ sc_d_l_words.nd rfl (by first | exact Or.inl rfl | exact Or.inr rfl) (@pe_callTy _ _ _ _ _ _ _ _ _ call_listOf rfl T.z_list boot_listT (@pa_cons _ _ _ _ _ (@pv _ 3 _ _ (by rfl) (by first | exact vis0 rfl | exact vis1 rfl | exact vis2 rfl) (by decide) (by decide)) (@pa_nil _) (by rfl)) (by decide) (by decide) (by rfl) (by rfl)) (by rfl) (by first | exact Or.inl rfl | exact Or.inr rfl | assumption)) (@pss_cons _ _ _ _ _ (@ps_asg _ _ _ _ _ _ (@pe_ix _ _ _ _ _ _ _ ix_seq (@pv _ 2 _ _ (by rfl) (by first | exact vis0 rfl | exact vis1 rfl | exact vis2 rfl) (by decide) (by decide)) (@pe_op _ _ _ _ _ _ _ _ op_mod (@pe_op _ _ _ _ _ _ _ _ op_addA (@pe_call _ _ _ _ _ _ _ _ _ _ _ _ _ _ _ _ (ok_d_l_mix T) (hr.mono (by decide)) rfl T.g_d_l_mix T.F_d_l_mix.kp T.b_d_l_mix .nil pass0 (@pa_cons _ _ _ _ _ (@pv _ 0 _ _ (by rfl) (by first | exact vis0 rfl | exact vis1 rfl | exact vis2 rfl) (by decide) (by decide)) (@pa_cons _ _ _ _ _ (@pe_int _ _ _ _) (@pa_nil _) (by rfl)) (by rfl)) (by decide) (by rfl) (by rfl)) (@pv _ 7 _ _ (by rfl) (by first | exact vis0 rfl | exact vis1 rfl | exact vis2 rfl) (by decide) (by decide))) (@pe_int _ _ _ _)) (fun _ _ => rfl)) (@pg_sub _ _ _ _ _ _ _ (@pv _ 8 _ _ (by rfl) (by first | exact vis0 rfl | exact vis1 rfl | exact vis2 rfl) (by decide) (by decide)) (@pv _ 5 _ _ (by rfl) (by first | exact vis0 rfl | exact vis1 rfl | exact vis2 rfl) (by decide) (by decide)) set_list (by intro _ ; rfl)) (by rfl) (by rfl) (by rfl)) (@pss_one _ _ _ (@ps_if _ _ _ _ _ _ _ _ (@pt_cmpR _ _ _ _ _ _ _ _ (op_eqH hr.units) (@pe_op _ _ _ _ _ _ _ _ op_mod (@pv _ 0 _ _ (by rfl) (by first | exact vis0 rfl | exact vis1 rfl | exact vis2 rfl) (by decide) (by decide)) (@pe_int _ _ _ _)) (@pe_int _ _ _ _) (nomark _)) (@pss_one _ _ _ (@ps_expr _ _ _ _ (@pe_bm _ _ _ _ _ _ _ _ _ _ _ _ PySem.F.plainAttrs_list PySem.F.slot_list_append PySem.F.type_list_append mt_append (@pv _ 6 _ _ (by rfl) (by first | exact vis0 rfl | exact vis1 rfl | exact vis2 rfl) (by decide) (by decide)) (@pa_cons _ _ _ _ _ (@pe_bm _ _ _ _ _ _ _ _ _ _ _ _ PySem.F.plainAttrs_str PySem.F.slot_str_join PySem.F.type_str_join mt_join (@pe_str _ _ _ _) (@pa_cons _ _ _ _ _ (@pe_slice _ _ _ _ _ _ _ _ _ _ sl_any (@pv _ 3 _ _ (by rfl) (by first | exact vis0 rfl | exact vis1 rfl | exact vis2 rfl) (by decide) (by decide)) (@po_none _) (@po_some _ _ _ (@pe_op _ _ _ _ _ _ _ _ op_addA (@pe_int _ _ _ _) (@pv _ 7 _ _ (by rfl) (by first | exact vis0 rfl | exact vis1 rfl | exact vis2 rfl) (by decide) (by decide))))) (@pa_nil _) (by rfl)) (by rfl) (by rfl) (by rfl) (by rfl) (by rfl)) (@pa_nil _) (by rfl)) (by rfl) (by rfl) (by rfl) (by rfl) (by rfl)) (by rfl))) (@pss_one _ _ _ (@ps_expr _ _ _ _ (@pe_bm _ _ _ _ _ _ _ _ _ _ _ _ PySem.F.plainAttrs_list PySem.F.slot_list_append PySem.F.type_list_append mt_append (@pv _ 6 _ _ (by rfl) (by first | exact vis0 rfl | exact vis1 rfl | exact vis2 rfl) (by decide) (by decide)) (@pa_cons _ _ _ _ _ (@pe_bm _ _ _ _ _ _ _ _ _ _ _ _ PySem.F.plainAttrs_str PySem.F.slot_str_join PySem.F.type_str_join mt_join (@pe_str _ _ _ _) (@pa_cons _ _ _ _ _ (@pe_slice _ _ _ _ _ _ _ _ _ _ sl_any (@pv _ 8 _ _ (by rfl) (by first | exact vis0 rfl | exact vis1 rfl | exact vis2 rfl) (by decide) (by decide)) (@po_none _) (@po_some _ _ _ (@pv _ 4 _ _ (by rfl) (by first | exact vis0 rfl | exact vis1 rfl | exact vis2 rfl) (by decide) (by decide)))) (@pa_nil _) (by rfl)) (by rfl) (by rfl) (by rfl) (by rfl) (by rfl)) (@pa_nil _) (by rfl)) (by rfl) (by rfl) (by rfl) (by rfl) (by rfl)) (by rfl))))))) (by intro _ ; rfl)) (@pss_one _ _ _ (@ps_ret _ _ _ _ (@pv _ 6 _ _ (by rfl) (by first | exact vis0 rfl | exact vis1 rfl | exact vis2 rfl) (by decide) (by decide)))))))))), ?_⟩
    rw [show start n_d_l_words [V.int c, V.int m] = [some (V.int c), some (V.int m), none, none, none, none, none, none, none] from rfl]
    try simp only [tSeq, tAsg, tC, gName, List.set_cons_succ, List.set_cons_zero, tOp, tCall, tCons, tVar, List.getElem?_cons_zero, tNil, List.append_nil, List.getElem?_cons_succ, tLst, tFor_eq, iRng1, exSlot, spMix_at, rI_int, rAddA_int, tComp_eq]
    rw [low_eq]
    refine ⟨8, rfl, by decide, by decide, ?_⟩
    refine comp_1 src_range (Nat.le_trans (show (8 : Int).toNat ≤ 1000 by decide) (by decide)) [some (V.str (mk lows)), some (V.int c)] rfl (fun i v => ∃ d, v = sv [d] ∧ d ∈ lows) (fun _ _ => trivial) (fun i H' R hi s hR => ?_) (fun B H1 ys hBn s1 hB hl hv => ?_)
    · try simp only [tOp, tVar, List.getElem?_cons_succ, List.getElem?_cons_zero, tCall, tCons, tC, tNil, List.append_nil, exSlot, rAddA_int, spMix_at, rI_int, rIx_str]
      intro r hr
      have m26 := mod_lt' (i := r) (j := 26) (by decide)
      obtain ⟨d, e, hd, _⟩ := atI_in (xs := lows) m26.1 m26.2
      exact ⟨by decide, short_le (by rw [mk_len]; decide), d, e, hR _ _ (Same.refl _) ⟨d, rfl, hd⟩⟩
    obtain ⟨cs, rfl, hcs⟩ := sgl_of hv
    have hcl : cs.length = 8 := by rw [List.length_map, sgl_len] at hl; exact hl
    intro r hr
    have m8 := mod_lt' (i := r) (j := 8) (by decide)
    refine ⟨by decide, fun r1 hr1 => ?_⟩
    have mz := mod_lt' (i := r1) (j := 1 + r % 8) (by omega)
    refine ⟨by omega, by decide, fun F hF => ⟨_, rfl, by omega, by omega, ?_⟩⟩
    have hsz : 1 ≤ 1 + r % 8 ∧ 1 + r % 8 ≤ 8 := by omega
    generalize 1 + r % 8 = sz at mz hsz ⊢
    generalize r1 % sz = at0 at mz ⊢
    obtain ⟨H2, e2, s2, h2⟩ := newO hF (.lst []); rw [e2]
    have hFn : H F = none := none_of s1 hF
    refine for_range (n := m.toNat) (lo := 0) (fun i σ H' => ∃ (ws : List (List Nat)) (x7 x8 : Option V), σ = [some (V.int c), some (V.int m), some (V.str (mk lows)), some (V.ref B), some (V.int sz), some (V.int at0), some (V.ref F), x7, x8] ∧ Same H H' ∧ H' B = some (.lst (pv' (sgl cs))) ∧ H' F = some (.lst (pv' ws)) ∧ ws.length = i ∧ ∀ w ∈ ws, IsW w)
      ⟨[], _, _, rfl, s1.trans s2, s2 _ _ hB, h2, rfl, by simp⟩ ?_ ?_
    · rintro i σ H3 hi ⟨ws, x7, x8, rfl, s3, hB3, hF3, hwl, hww⟩
      have hBF : B ≠ F := ne_of_none hB hF
      try simp only [gName, tSeq, tAsg, tCB, tCons, tVar, List.set_cons_succ, List.set_cons_zero, List.getElem?_cons_succ, List.getElem?_cons_zero, tNil, tOp, tCall, tC, List.append_nil, gSub, tIfS, tTest, tDrop, tBM, tSl, tNoPart, tPart, exSlot, rAddA_int, exInt, tyV_str, rI_int, rEqH_int, exBl, decide_eq_true_eq, spMix_at, rIx_str]
      refine ⟨B, _, rfl, .inl (SqL.of hB3), fun O hO => ?_⟩
      obtain ⟨H4, e4, s4, h4⟩ := newO hO (.lst (pv' (sgl cs))); rw [e4]
      intro r2 hr2
      have m26 := mod_lt' (i := r2 + (0 + (i : Int))) (j := 26) (by decide)
      obtain ⟨d, e, hd, _⟩ := atI_in (xs := lows) m26.1 m26.2
      refine ⟨by decide, short_le (by rw [mk_len]; decide), d, e, ?_⟩
      refine rSetL_of h4 mz.1 (by rw [List.length_map, sgl_len, hcl]; omega) ?_
      rw [show (V.str (⟨#[d]⟩ : Str)) = sv [d] from rfl, set_sgl]
      obtain ⟨H5, e5, s5, h5⟩ : ∃ H5, upd H4 O (.lst (pv' (sgl (cs.set at0.toNat d)))) = H5 ∧ Same H3 H5 ∧ H5 O = some (.lst (pv' (sgl (cs.set at0.toNat d)))) := ⟨_, rfl, fun b o e => by rw [upd_ne (ne_of_none e hO)]; exact s4 _ _ e, upd_same⟩
      rw [e5]
      have hF5 := s5 _ _ hF3
      have hB5 := s5 _ _ hB3
      have fin : ∀ (H6 : Hp) (w : List Nat), Same H5 H6 → IsW w → ∃ (ws' : List (List Nat)) (x7' x8' : Option V), [some (V.int c), some (V.int m), some (V.str (mk lows)), some (V.ref B), some (V.int sz), some (V.int at0), some (V.ref F), some (V.int (0 + (i : Int))), some (V.ref O)] = [some (V.int c), some (V.int m), some (V.str (mk lows)), some (V.ref B), some (V.int sz), some (V.int at0), some (V.ref F), x7', x8'] ∧ Same H (upd H6 F (.lst (pv' ws ++ [sv w]))) ∧ upd H6 F (.lst (pv' ws ++ [sv w])) B = some (.lst (pv' (sgl cs))) ∧ upd H6 F (.lst (pv' ws ++ [sv w])) F = some (.lst (pv' ws')) ∧ ws'.length = i + 1 ∧ ∀ w ∈ ws', IsW w := fun H6 w s6 hw => by
        refine ⟨ws ++ [w], _, _, rfl, fun b o e => by rw [upd_ne (ne_of_none e hFn)]; exact s6 _ _ (s5 _ _ (s3 _ _ e)), by rw [upd_ne hBF]; exact s6 _ _ hB5, by rw [upd_same, pv_app], by simp [hwl], fun x hx => ?_⟩
        rcases List.mem_append.mp hx with z | z
        · exact hww x z
        · rw [List.mem_singleton.mp z]; exact hw
      have hj : ∀ (ds : List Nat), ds.length ≤ 8 → (((sgl ds).map mk).map (·.length)).sum + ((sgl ds).map mk).length * ("" : Str).length ≤ 16777216 := fun ds hd => by
        rw [sgl_sum, show ("" : Str).length = 0 from rfl]; omega
      have hwb : (pv' ws).length < sizeLine := Nat.lt_of_le_of_lt (show _ ≤ 1000 by rw [List.length_map]; omega) (by decide)
      try skip
      refine ⟨by decide, ite2 (fun c1 => ?_) (fun c1 => ?_)⟩
      · refine ⟨.inl ⟨rfl, _, SqL.of hF5⟩, .inr (.inl ⟨B, _, rfl, SqL.of hB5, fun Z hZ => ?_⟩)⟩
        rw [cut_take _ (by omega), pv_take, sgl_take]
        obtain ⟨H6, e6, s6, h6⟩ := newO hZ (.lst (pv' (sgl (cs.take (1 + (0 + (i : Int))).toNat)))); rw [e6]
        have hw := take_w hcl hcs (k := (1 + (0 + (i : Int))).toNat) (by omega) (by omega)
        refine rJoin_of (ys := (sgl (cs.take (1 + (0 + (i : Int))).toNat)).map mk) (.inl (by rw [List.map_map]; exact SqL.of h6)) (hj _ hw.2.1) ?_
        rw [show ("" : Str) = mk [] from rfl, join_mk, join_sgl]
        exact ⟨F, _, _, rfl, rfl, s6 _ _ hF5, hwb, fin H6 _ s6 hw⟩
      · refine ⟨.inl ⟨rfl, _, SqL.of hF5⟩, .inr (.inl ⟨O, _, rfl, SqL.of h5, fun Z hZ => ?_⟩)⟩
        rw [cut_take _ (by omega), pv_take, sgl_take]
        obtain ⟨H6, e6, s6, h6⟩ := newO hZ (.lst (pv' (sgl ((cs.set at0.toNat d).take sz.toNat)))); rw [e6]
        have hw := take_w (cs := cs.set at0.toNat d) (by rw [List.length_set]; exact hcl) (fun x hx => by
          rcases List.mem_or_eq_of_mem_set hx with z | z
          · exact hcs x z
          · rw [z]; exact hd) (k := sz.toNat) (by omega) (by omega)
        refine rJoin_of (ys := (sgl ((cs.set at0.toNat d).take sz.toNat)).map mk) (.inl (by rw [List.map_map]; exact SqL.of h6)) (hj _ hw.2.1) ?_
        rw [show ("" : Str) = mk [] from rfl, join_mk, join_sgl]
        exact ⟨F, _, _, rfl, rfl, s6 _ _ hF5, hwb, fin H6 _ s6 hw⟩
    · rintro σ H3 ⟨ws, x7, x8, rfl, s3, hB3, hF3, hwl, hww⟩
      try simp only [tRet, tVar, List.getElem?_cons_succ, List.getElem?_cons_zero, exSlot]
      exact q F ws H3 s3 hFn hF3 hwl hww
theorem ok_d_l_pool (T : Txt K mg t) : FnOk P w K mg base CX0 3 t.f_d_l_pool t.fd_d_l_pool ["_law_script"] (spPool51 K) := by
  refine T.F_d_l_pool.ok sc_d_l_pool (fun vs H Q E h => ?_) (fun cdv A outer s H vs Q E hr h => ?_)
  · obtain ⟨a, ns, rfl, hS, hl, q⟩ := h; rfl
  · obtain ⟨a, ns, rfl, hS, hl, q⟩ := h
    refine ⟨_, (@pss_cons _ _ _ _ _ (@ps_set _ _ (1) _ _ _ _ sc_d_l_pool.nd rfl (by first | exact Or.inl rfl | exact Or.inr rfl) (@pe_call _ _ _ _ _ _ _ _ _ _ _ _ _ _ _ _ (ok_d_l_words T) (hr.mono (by decide)) rfl T.g_d_l_words T.F_d_l_words.kp T.b_d_l_words .nil pass0 (@pa_cons _ _ _ _ _ (@pe_call _ _ _ _ _ _ _ _ _ _ _ _ _ _ _ _ (ok_d_l_cell_at T) (hr.mono (by decide)) rfl T.g_d_l_cell_at T.F_d_l_cell_at.kp T.b_d_l_cell_at .nil pass0 (@pa_cons _ _ _ _ _ (@pv _ 0 _ _ (by rfl) (by first | exact vis0 rfl | exact vis1 rfl | exact vis2 rfl) (by decide) (by decide)) (@pa_cons _ _ _ _ _ (@pe_int _ _ _ _) (@pa_nil _) (by rfl)) (by rfl)) (by decide) (by rfl) (by rfl)) (@pa_cons _ _ _ _ _ (@pe_int _ _ _ _) (@pa_nil _) (by rfl)) (by rfl)) (by decide) (by rfl) (by rfl)) (by rfl) (by first | exact Or.inl rfl | exact Or.inr rfl | assumption)) (@pss_cons _ _ _ _ _ (@ps_set _ _ (2) _ _ _ _ sc_d_l_pool.nd rfl (by first | exact Or.inl rfl | exact Or.inr rfl) (@pe_call _ _ _ _ _ _ _ _ _ _ _ _ _ _ _ _ (ok_d_l_words T) (hr.mono (by decide)) rfl T.g_d_l_words T.F_d_l_words.kp T.b_d_l_words .nil pass0 (@pa_cons _ _ _ _ _ (@pe_call _ _ _ _ _ _ _ _ _ _ _ _ _ _ _ _ (ok_d_l_mix T) (hr.mono (by decide)) rfl T.g_d_l_mix T.F_d_l_mix.kp T.b_d_l_mix .nil pass0 (@pa_cons _ _ _ _ _ (@pe_call _ _ _ _ _ _ _ _ _ _ _ _ _ _ _ _ (ok_d_l_cell_at T) (hr.mono (by decide)) rfl T.g_d_l_cell_at T.F_d_l_cell_at.kp T.b_d_l_cell_at .nil pass0 (@pa_cons _ _ _ _ _ (@pv _ 0 _ _ (by rfl) (by first | exact vis0 rfl | exact vis1 rfl | exact vis2 rfl) (by decide) (by decide)) (@pa_cons _ _ _ _ _ (@pe_int _ _ _ _) (@pa_nil _) (by rfl)) (by rfl)) (by decide) (by rfl) (by rfl)) (@pa_cons _ _ _ _ _ (@pe_int _ _ _ _) (@pa_nil _) (by rfl)) (by rfl)) (by decide) (by rfl) (by rfl)) (@pa_cons _ _ _ _ _ (@pe_int _ _ _ _) (@pa_nil _) (by rfl)) (by rfl)) (by decide) (by rfl) (by rfl)) (by rfl) (by first | exact Or.inl rfl | exact Or.inr rfl | assumption)) (@pss_cons _ _ _ _ _ (@ps_set _ _ (3) _ _ _ _ sc_d_l_pool.nd rfl (by first | exact Or.inl rfl | exact Or.inr rfl) (@pe_lst _ _ _ _ (@pa_cons _ _ _ _ _ (@pe_ix _ _ _ _ _ _ _ ix_seq (@pv _ 1 _ _ (by rfl) (by first | exact vis0 rfl | exact vis1 rfl | exact vis2 rfl) (by decide) (by decide)) (@pe_int _ _ _ _) (fun _ _ => rfl)) (@pa_cons _ _ _ _ _ (@pe_op _ _ _ _ _ _ _ _ op_addA (@pe_op _ _ _ _ _ _ _ _ op_addA (@pe_op _ _ _ _ _ _ _ _ op_addA (@pe_ix _ _ _ _ _ _ _ ix_seq (@pv _ 1 _ _ (by rfl) (by first | exact vis0 rfl | exact vis1 rfl | exact vis2 rfl) (by decide) (by decide)) (@pe_int _ _ _ _) (fun _ _ => rfl)) (@pe_str _ _ _ _)) (@pe_ix _ _ _ _ _ _ _ ix_seq (@pv _ 2 _ _ (by rfl) (by first | exact vis0 rfl | exact vis1 rfl | exact vis2 rfl) (by decide) (by decide)) (@pe_int _ _ _ _) (fun _ _ => rfl))) (@pe_str _ _ _ _)) (@pa_cons _ _ _ _ _ (@pe_op _ _ _ _ _ _ _ _ op_addA (@pe_op _ _ _ _ _ _ _ _ op_addA (@pe_op _ _ _ _ _ _ _ _ op_addA (@pe_op _ _ _ _ _ _ _ _ op_addA (@pe_op _ _ _ _ _ _ _ _ op_addA (@pe_ix _ _ _ _ _ _ _ ix_seq (@pv _ 1 _ _ (by rfl) (by first | exact vis0 rfl | exact vis1 rfl | exact vis2 rfl) (by decide) (by decide)) (@pe_int _ _ _ _) (fun _ _ => rfl)) (@pe_str _ _ _ _)) (@pe_ix _ _ _ _ _ _ _ ix_seq (@pv _ 2 _ _ (by rfl) (by first | exact vis0 rfl | exact vis1 rfl | exact vis2 rfl) (by decide) (by decide)) (@pe_int _ _ _ _) (fun _ _ => rfl))) (@pe_str _ _ _ _)) (@pe_ix _ _ _ _ _ _ _ ix_seq (@pv _ 2 _ _ (by rfl) (by first | exact vis0 rfl | exact vis1 rfl | exact vis2 rfl) (by decide) (by decide)) (@pe_int _ _ _ _) (fun _ _ => rfl))) (@pe_str _ _ _ _)) (@pa_cons _ _ _ _ _ (@pe_ix _ _ _ _ _ _ _ ix_seq (@pv _ 1 _ _ (by rfl) (by first | exact vis0 rfl | exact vis1 rfl | exact vis2 rfl) (by decide) (by decide)) (@pe_int _ _ _ _) (fun _ _ => rfl)) (@pa_nil _) (by rfl)) (by rfl)) (by rfl)) (by rfl))) (by rfl) (by first | exact Or.inl rfl | exact Or.inr rfl | assumption)) (@pss_cons _ _ _ _ _ (@ps_set _ _ (3) _ _ _ _ sc_d_l_pool.nd rfl (by first | exact Or.inl rfl | exact Or.inr rfl) (@pe_op _ _ _ _ _ _ _ _ op_addA (@pv _ 3 _ _ (by rfl) (by first | exact vis0 rfl | exact vis1 rfl | exact vis2 rfl) (by decide) (by decide)) (@pe_lst _ _ _ _ (@pa_cons _ _ _ _ _ (@pe_op _ _ _ _ _ _ _ _ op_addA (@pe_op _ _ _ _ _ _ _ _ op_addA (@pe_op _ _ _ _ _ _ _ _ op_addA (@pe_ix _ _ _ _ _ _ _ ix_seq (@pv _ 1 _ _ (by rfl) (by first | exact vis0 rfl | exact vis1 rfl | exact vis2 rfl) (by decide) (by decide)) (@pe_int _ _ _ _) (fun _ _ => rfl)) (@pe_str _ _ _ _)) (@pe_ix _ _ _ _ _ _ _ ix_seq (@pv _ 2 _ _ (by rfl) (by first | exact vis0 rfl | exact vis1 rfl | exact vis2 rfl) (by decide) (by decide)) (@pe_int _ _ _ _) (fun _ _ => rfl))) (@pe_str _ _ _ _)) (@pa_cons _ _ _ _ _ (@pe_ix _ _ _ _ _ _ _ ix_seq (@pv _ 1 _ _ (by rfl) (by first | exact vis0 rfl | exact vis1 rfl | exact vis2 rfl) (by decide) (by decide)) (@pe_int _ _ _ _) (fun _ _ => rfl)) (@pa_cons _ _ _ _ _ (@pe_op _ _ _ _ _ _ _ _ op_addA (@pe_op _ _ _ _ _ _ _ _ op_addA (@pe_op _ _ _ _ _ _ _ _ op_addA (@pe_op _ _ _ _ _ _ _ _ op_addA (@pe_op _ _ _ _ _ _ _ _ op_addA (@pe_ix _ _ _ _ _ _ _ ix_seq (@pv _ 1 _ _ (by rfl) (by first | exact vis0 rfl | exact vis1 rfl | exact vis2 rfl) (by decide) (by decide)) (@pe_int _ _ _ _) (fun _ _ => rfl)) (@pe_str _ _ _ _)) (@pe_ix _ _ _ _ _ _ _ ix_seq (@pv _ 2 _ _ (by rfl) (by first | exact vis0 rfl | exact vis1 rfl | exact vis2 rfl) (by decide) (by decide)) (@pe_int _ _ _ _) (fun _ _ => rfl))) (@pe_str _ _ _ _)) (@pe_ix _ _ _ _ _ _ _ ix_seq (@pv _ 2 _ _ (by rfl) (by first | exact vis0 rfl | exact vis1 rfl | exact vis2 rfl) (by decide) (by decide)) (@pe_int _ _ _ _) (fun _ _ => rfl))) (@pe_str _ _ _ _)) (@pa_nil _) (by rfl)) (by rfl)) (by rfl)))) (by rfl) (by first | exact Or.inl rfl | exact Or.inr rfl | assumption)) (@pss_one _ _ _ (@ps_ret _ _ _ _ (@pe_slice _ _ _ _ _ _ _ _ _ _ sl_any (@pv _ 3 _ _ (by rfl) (by first | exact vis0 rfl | exact vis1 rfl | exact vis2 rfl) (by decide) (by decide)) (@po_none _) (@po_some _ _ _ (@pe_op _ _ _ _ _ _ _ _ op_addA (@pe_int _ _ _ _) (@pe_op _ _ _ _ _ _ _ _ op_mod (@pe_call _ _ _ _ _ _ _ _ _ _ _ _ _ _ _ _ (ok_d_l_cell_at T) (hr.mono (by decide)) rfl T.g_d_l_cell_at T.F_d_l_cell_at.kp T.b_d_l_cell_at .nil pass0 (@pa_cons _ _ _ _ _ (@pv _ 0 _ _ (by rfl) (by first | exact vis0 rfl | exact vis1 rfl | exact vis2 rfl) (by decide) (by decide)) (@pa_cons _ _ _ _ _ (@pe_int _ _ _ _) (@pa_nil _) (by rfl)) (by rfl)) (by decide) (by rfl) (by rfl)) (@pe_int _ _ _ _))))))))))), ?_⟩
    rw [show start n_d_l_pool [V.ref a] = [some (V.ref a), none, none, none] from rfl]
    try simp only [tSeq, tAsg, tCall, tCons, tVar, List.getElem?_cons_zero, tC, tNil, List.append_nil, gName, List.set_cons_succ, List.set_cons_zero, tLst, tOp, List.getElem?_cons_succ, tRet, tSl, tNoPart, tPart, exSlot]
    refine ⟨a, ns, 0, rfl, hS, hl, by decide, by decide, fun c0 => ?_⟩
    refine ⟨c0, 3, rfl, by decide, fun Na nm H1 s1 hNn hNa hNl hNw => ?_⟩
    have hS1 : SqL K H1 a (ns.map V.int) := s1.seq hS
    try simp only []
    refine ⟨a, ns, 0, rfl, hS1, hl, by decide, by decide, fun c1 => ?_⟩
    try simp only [spMix_at]
    intro r hr
    refine ⟨r, 2, rfl, by decide, fun Ta th H2 s2 hTn hTa hTl hTw => ?_⟩
    have hN2 := s2 _ _ hNa
    obtain ⟨n0, n1, n2, rfl⟩ : ∃ n0 n1 n2, nm = [n0, n1, n2] := by
      match nm, hNl with
      | [x, y, z], _ => exact ⟨x, y, z, rfl⟩
    obtain ⟨t0, t1, rfl⟩ : ∃ t0 t1, th = [t0, t1] := by
      match th, hTl with
      | [x, y], _ => exact ⟨x, y, rfl⟩
    have w0 := hNw n0 (by simp)
    have w1 := hNw n1 (by simp)
    have w2 := hNw n2 (by simp)
    have u0 := hTw t0 (by simp)
    have u1 := hTw t1 (by simp)
    clear hNl hTl
    have b0 := w0.2.1
    have b1 := w1.2.1
    have b2 := w2.2.1
    have d0 := u0.2.1
    have d1 := u1.2.1
    have lw : ∀ {l : List Nat}, IsW l → ∀ x ∈ l, x < 128 := fun h x hx => low_lt (h.2.2 x hx)
    have ne : ∀ {l : List Nat}, IsW l → l ≠ [] := fun h z => by have := h.1; rw [z] at this; simp at this
    have ap : ∀ {l m : List Nat}, IsW l → m.length ≤ 22 → (∀ x ∈ m, x < 128) → TxN 30 (mk (l ++ m)) := fun {l m} h h1 h2 => TxN.of (fun z => ne h (List.append_eq_nil_iff.mp z).1) (by rw [List.length_append]; have := h.2.1; omega) (fun x hx => (List.mem_append.mp hx).elim (lw h x) (h2 x))
    try simp only []
    rw [show (Str.ofString "(") = mk [40] by decide +kernel, show (Str.ofString ")") = mk [41] by decide +kernel, show (Str.ofString ",") = mk [44] by decide +kernel]
    repeat (first | refine rIx_lst (SqL.of hN2) rfl ?_ | refine rIx_lst (SqL.of hTa) rfl ?_ | refine add_sv (by simp only [List.length_append, List.length_cons, List.length_nil]; omega) ?_)
    refine ⟨by simp only [List.length_cons, List.length_nil]; decide, fun p1 hp1 => ?_⟩
    obtain ⟨H3, e3, s3, h3⟩ := newO hp1 (.lst ([mk n0, mk (n1 ++ [40] ++ t0 ++ [41]), mk (n0 ++ [40] ++ t1 ++ [44] ++ t0 ++ [41]), mk n2].map V.str))
    have e3' : upd H2 p1 (.lst [V.str (mk n0), sv (n1 ++ [40] ++ t0 ++ [41]), sv (n0 ++ [40] ++ t1 ++ [44] ++ t0 ++ [41]), V.str (mk n2)]) = H3 := e3
    rw [e3']
    have hN3 := s3 _ _ hN2
    have hT3 := s3 _ _ hTa
    repeat (first | refine rIx_lst (SqL.of hN3) rfl ?_ | refine rIx_lst (SqL.of hT3) rfl ?_ | refine add_sv (by simp only [List.length_append, List.length_cons, List.length_nil]; omega) ?_)
    refine ⟨by simp only [List.length_cons, List.length_nil]; decide, fun p2 hp2 => ?_⟩
    obtain ⟨H4, e4, s4, h4⟩ := newO hp2 (.lst ([mk (n1 ++ [40] ++ t1 ++ [41]), mk n1, mk (n2 ++ [40] ++ t0 ++ [44] ++ t0 ++ [41])].map V.str))
    have e4' : upd H3 p2 (.lst [sv (n1 ++ [40] ++ t1 ++ [41]), V.str (mk n1), sv (n2 ++ [40] ++ t0 ++ [44] ++ t0 ++ [41])]) = H4 := e4
    rw [e4']
    refine cat_strs (s4 _ _ h3) h4 (by simp) fun p3 hp3 => ?_
    obtain ⟨all, eall⟩ : ∃ all : List Str, [mk n0, mk (n1 ++ [40] ++ t0 ++ [41]), mk (n0 ++ [40] ++ t1 ++ [44] ++ t0 ++ [41]), mk n2] ++ [mk (n1 ++ [40] ++ t1 ++ [41]), mk n1, mk (n2 ++ [40] ++ t0 ++ [44] ++ t0 ++ [41])] = all := ⟨_, rfl⟩
    have hall : ∀ z ∈ all, TxN 30 z := by
      have one : ∀ {l : List Nat}, IsW l → ∀ x ∈ [40] ++ l ++ [41], x < 128 := fun {l} h x hx => by
        simp only [List.mem_append, List.mem_singleton] at hx
        rcases hx with (rfl | e) | rfl
        · decide
        · exact lw h x e
        · decide
      have two : ∀ {l m : List Nat}, IsW l → IsW m → ∀ x ∈ [40] ++ l ++ [44] ++ m ++ [41], x < 128 := fun {l m} h k x hx => by
        simp only [List.mem_append, List.mem_singleton] at hx
        rcases hx with (((rfl | e) | rfl) | e) | rfl
        · decide
        · exact lw h x e
        · decide
        · exact lw k x e
        · decide
      intro z hz
      rw [← eall] at hz
      simp only [List.mem_append, List.mem_cons, List.not_mem_nil, or_false] at hz
      rcases hz with (rfl | rfl | rfl | rfl) | (rfl | rfl | rfl)
      · exact TxN.of (ne w0) (by omega) (lw w0)
      · have := ap (l := n1) (m := [40] ++ t0 ++ [41]) w1 (by simp; omega) (one u0); simpa [List.append_assoc] using this
      · have := ap (l := n0) (m := [40] ++ t1 ++ [44] ++ t0 ++ [41]) w0 (by simp; omega) (two u1 u0); simpa [List.append_assoc] using this
      · exact TxN.of (ne w2) (by omega) (lw w2)
      · have := ap (l := n1) (m := [40] ++ t1 ++ [41]) w1 (by simp; omega) (one u1); simpa [List.append_assoc] using this
      · exact TxN.of (ne w1) (by omega) (lw w1)
      · have := ap (l := n2) (m := [40] ++ t0 ++ [44] ++ t0 ++ [41]) w2 (by simp; omega) (two u0 u0); simpa [List.append_assoc] using this
    have hal : all.length = 7 := by rw [← eall]; rfl
    rw [eall]
    obtain ⟨H5, e5, s5, h5⟩ := newO hp3 (.lst (all.map V.str)); rw [e5]
    have s25 := (s3.trans s4).trans s5
    have hS5 : SqL K H5 a (ns.map V.int) := (s2.trans s25).seq hS1
    try skip
    refine ⟨a, ns, 1, rfl, hS5, hl, by decide, by decide, fun c2 => ?_⟩
    have m6 := mod_lt' (i := c2) (j := 6) (by decide)
    try simp only [rI_int, rAddA_int, exInt]
    refine ⟨by decide, .inr (.inl ⟨p3, _, rfl, SqL.of h5, fun p4 hp4 => ?_⟩)⟩
    rw [cut_take _ (by omega), ← List.map_take]
    obtain ⟨H6, e6, s6, h6⟩ := newO hp4 (.lst ((all.take (2 + c2 % 6).toNat).map V.str)); rw [e6]
    have s06 := ((s1.trans s2).trans s25)
    exact q p4 _ H6 (s06.trans s6) (none_of s06 hp4) h6 (by rw [List.length_take]; omega) (by rw [List.length_take]; omega) fun z hz => hall z (List.mem_of_mem_take hz)
theorem ok_c_Rule_init (T : Txt K mg t) : FnOk P w K mg base CX0 1 t.f_c_Rule_init t.fd_c_Rule_init ["self", "label", "head", "body"] (spInit K) := by
  refine T.F_c_Rule_init.ok sc_c_Rule_init (fun vs H Q E h => ?_) (fun cdv A outer s H vs Q E hr h => ?_)
  · obtain ⟨x, C, dx, lb, hd, b, bs, rfl, hx, hC, hb, q⟩ := h; rfl
  · obtain ⟨x, C, dx, lb, hd, b, bs, rfl, hx, hC, hb, q⟩ := h
    refine ⟨_, (@pss_cons _ _ _ _ _ (@ps_fld _ _ _ _ _ _ _ _ (@pv _ 0 _ _ (by rfl) (by first | exact vis0 rfl | exact vis1 rfl | exact vis2 rfl) (by decide) (by decide)) (@pv _ 1 _ _ (by rfl) (by first | exact vis0 rfl | exact vis1 rfl | exact vis2 rfl) (by decide) (by decide)) rfl) (@pss_cons _ _ _ _ _ (@ps_fld _ _ _ _ _ _ _ _ (@pv _ 0 _ _ (by rfl) (by first | exact vis0 rfl | exact vis1 rfl | exact vis2 rfl) (by decide) (by decide)) (@pv _ 2 _ _ (by rfl) (by first | exact vis0 rfl | exact vis1 rfl | exact vis2 rfl) (by decide) (by decide)) rfl) (@pss_one _ _ _ (@ps_fld _ _ _ _ _ _ _ _ (@pv _ 0 _ _ (by rfl) (by first | exact vis0 rfl | exact vis1 rfl | exact vis2 rfl) (by decide) (by decide)) (@pe_callTy _ _ _ _ _ _ _ _ _ call_tupOf rfl T.z_tuple boot_tupleT (@pa_cons _ _ _ _ _ (@pv _ 3 _ _ (by rfl) (by first | exact vis0 rfl | exact vis1 rfl | exact vis2 rfl) (by decide) (by decide)) (@pa_nil _) (by rfl)) (by decide) (by decide) (by rfl) (by rfl)) rfl)))), ?_⟩
    rw [show start n_c_Rule_init [V.ref x, lb, hd, V.ref b] = [some (V.ref x), some (lb), some (hd), some (V.ref b)] from rfl]
    obtain ⟨cl, n1, n2, n3⟩ := hC
    try simp only [tSeq, sFld, tVar, List.getElem?_cons_succ, List.getElem?_cons_zero, tCB, tCons, tNil, exSlot]
    have cut : ∀ (H0 : Hp), (∀ c o, H c = some o → c ≠ x → H0 c = some o) → H0 x = some (.ins C dx (putF "head" hd (putF "label" lb []))) → ∀ t, H0 t = some (.tup bs) → t ≠ x → (∀ c o, H c = some o → c ≠ x → upd H0 x (.ins C dx (flds lb hd t)) c = some o) ∧ RuleAt (upd H0 x (.ins C dx (flds lb hd t))) x C lb hd bs := fun H0 k0 h0 t ht htx =>
      ⟨fun c o e hc => by rw [upd_ne hc]; exact k0 c o e hc, dx, t, upd_same, by rw [upd_ne htx]; exact ht⟩
    refine ⟨x, C, dx, _, rfl, hx, cl, n1, by show 0 < 1000; decide, x, C, dx, _, rfl, upd_same, cl, n2, by show 1 < 1000; decide, ?_⟩
    rw [upd_upd]
    obtain ⟨H1, e1, k1, h1⟩ : ∃ H', upd H x (.ins C dx (putF "head" hd (putF "label" lb []))) = H' ∧ (∀ c o, H c = some o → c ≠ x → H' c = some o) ∧ H' x = some (.ins C dx (putF "head" hd (putF "label" lb []))) := ⟨_, rfl, fun c o e hc => by rw [upd_ne hc]; exact e, upd_same⟩
    rw [e1]
    have hlen : (putF "head" hd (putF "label" lb [])).length < 1000 := by
      rw [show putF "head" hd (putF "label" lb []) = ([("label", lb), ("head", hd)] : List (Str × V)) from by
        show (if ("label" : Str) = "head" then _ else _) = _
        rw [if_neg (by decide +kernel)]; rfl]
      show 2 < 1000; decide
    rcases hb with hb | ⟨hb, hb'⟩
    · have hb1 : SqL K H1 b bs := by
        rcases hb with (hb | ⟨o, hb⟩) | hb
        · exact .inl (.inl (k1 _ _ hb (ne_of hb hx (by intro z; cases z))))
        · exact .inl (.inr ⟨o, k1 _ _ hb (ne_of hb hx (by intro z; cases z))⟩)
        · exact .inr hb
      refine ⟨b, bs, rfl, .inl ⟨hb1, fun t ht => ?_⟩⟩
      have htx : t ≠ x := fun z => by rw [z, h1] at ht; cases ht
      obtain ⟨H2, e2, s2, h2⟩ := newO ht (.tup bs); rw [e2]
      obtain ⟨a1, a2⟩ := cut H2 (fun c o e hc => s2 _ _ (k1 c o e hc)) (s2 _ _ h1) t h2 htx
      exact ⟨x, C, dx, _, rfl, s2 _ _ h1, cl, n3, hlen, q _ a1 a2⟩
    · have hbx : b ≠ x := ne_of hb' hx (by intro z; cases z)
      have hb1 := k1 _ _ hb' hbx
      refine ⟨b, bs, rfl, .inr ⟨SqT.of hb1, ?_⟩⟩
      obtain ⟨a1, a2⟩ := cut H1 k1 h1 b hb1 hbx
      exact ⟨x, C, dx, _, rfl, h1, cl, n3, hlen, q _ a1 a2⟩
theorem ok_c_Fact_init (T : Txt K mg t) : FnOk P w K mg base CX0 2 t.f_c_Fact_init t.fd_c_Fact_init ["self", "head"] (spFactI K t.C_Fact) := by
  refine T.F_c_Fact_init.ok sc_c_Fact_init (fun vs H Q E h => ?_) (fun cdv A outer s H vs Q E hr h => ?_)
  · obtain ⟨x, dx, hd, rfl, hx, q⟩ := h; rfl
  · obtain ⟨x, dx, hd, rfl, hx, q⟩ := h
    refine ⟨_, (@pss_one _ _ _ (@ps_expr _ _ _ _ (@pe_cmeth _ _ _ _ _ _ _ _ _ _ _ _ _ _ _ _ _ _ _ _ (@pe_glob _ _ (.ref t.C_Rule) _ _ rfl T.g_Rule rfl (by decide)) T.cm_Rule (ok_c_Rule_init T) (hr.mono (by decide)) T.b_c_Rule_init .nil pass0 (@pa_cons _ _ _ _ _ (@pv _ 0 _ _ (by rfl) (by first | exact vis0 rfl | exact vis1 rfl | exact vis2 rfl) (by decide) (by decide)) (@pa_cons _ _ _ _ _ (@pe_str _ _ _ _) (@pa_cons _ _ _ _ _ (@pv _ 1 _ _ (by rfl) (by first | exact vis0 rfl | exact vis1 rfl | exact vis2 rfl) (by decide) (by decide)) (@pa_cons _ _ _ _ _ (@pe_tup _ _ _ _ _ (@pa_nil _)) (@pa_nil _) (by rfl)) (by rfl)) (by rfl)) (by rfl)) (by rfl) (by rfl) (by rfl)) (by rfl))), ?_⟩
    rw [show start n_c_Fact_init [V.ref x, hd] = [some (V.ref x), some (hd)] from rfl]
    try simp only [tDrop, tCMeth, tC, tCons, tVar, List.getElem?_cons_zero, List.getElem?_cons_succ, tTup, tNil, List.append_nil, exSlot]
    refine ⟨(by trivial), by decide, fun b hb => ?_⟩
    obtain ⟨H1, e1, s1, h1⟩ := newO hb (.tup []); rw [e1]
    refine ⟨x, t.C_Fact, dx, _, hd, b, [], rfl, s1 _ _ hx, ⟨T.cl_Fact, T.nf_Fact_label, T.nf_Fact_head, T.nf_Fact_body⟩, .inr ⟨SqT.of h1, h1⟩, fun H' k r => ?_⟩
    exact q _ (fun c o e hc => k c o (s1 _ _ e) hc) r
theorem ok_d_l_drawn (T : Txt K mg t) : FnOk P w K mg base CX0 1 t.f_d_l_drawn t.fd_d_l_drawn ["_law_pool_here", "_law_number"] spDrawn := by
  refine T.F_d_l_drawn.ok sc_d_l_drawn (fun vs H Q E h => ?_) (fun cdv A outer s H vs Q E hr h => ?_)
  · obtain ⟨P0, n, pl, rfl, hP, hp1, hp7, hpo, q⟩ := h; rfl
  · obtain ⟨P0, n, pl, rfl, hP, hp1, hp7, hpo, q⟩ := h
    refine ⟨_, (@pss_cons _ _ _ _ _ (@ps_set _ _ (2) _ _ _ _ sc_d_l_drawn.nd rfl (by first | exact Or.inl rfl | exact Or.inr rfl) (@pe_ix _ _ _ _ _ _ _ ix_seq (@pv _ 0 _ _ (by rfl) (by first | exact vis0 rfl | exact vis1 rfl | exact vis2 rfl) (by decide) (by decide)) (@pe_op _ _ _ _ _ _ _ _ op_mod (@pe_op _ _ _ _ _ _ _ _ op_fdiv (@pv _ 1 _ _ (by rfl) (by first | exact vis0 rfl | exact vis1 rfl | exact vis2 rfl) (by decide) (by decide)) (@pe_int _ _ _ _)) (@pe_callB _ _ _ _ _ _ _ _ _ call_lenA rfl T.z_len boot_lenT (@pa_cons _ _ _ _ _ (@pv _ 0 _ _ (by rfl) (by first | exact vis0 rfl | exact vis1 rfl | exact vis2 rfl) (by decide) (by decide)) (@pa_nil _) (by rfl)) (by decide) (by decide) (by rfl) (by rfl))) (fun _ _ => rfl)) (by rfl) (by first | exact Or.inl rfl | exact Or.inr rfl | assumption)) (@pss_cons _ _ _ _ _ (@ps_if _ _ _ _ _ _ _ _ (@pt_cmpR _ _ _ _ _ _ _ _ (op_eqH hr.units) (@pe_op _ _ _ _ _ _ _ _ op_mod (@pv _ 1 _ _ (by rfl) (by first | exact vis0 rfl | exact vis1 rfl | exact vis2 rfl) (by decide) (by decide)) (@pe_int _ _ _ _)) (@pe_int _ _ _ _) (nomark _)) (@pss_one _ _ _ (@ps_ret _ _ _ _ (@pe_op _ _ _ _ _ _ _ _ op_addA (@pe_str _ _ _ _) (@pv _ 2 _ _ (by rfl) (by first | exact vis0 rfl | exact vis1 rfl | exact vis2 rfl) (by decide) (by decide))))) (@pss_nil _)) (@pss_one _ _ _ (@ps_ret _ _ _ _ (@pv _ 2 _ _ (by rfl) (by first | exact vis0 rfl | exact vis1 rfl | exact vis2 rfl) (by decide) (by decide)))))), ?_⟩
    rw [show start n_d_l_drawn [V.ref P0, V.int n] = [some (V.ref P0), some (V.int n), none] from rfl]
    try simp only [tSeq, tAsg, tOp, tVar, List.getElem?_cons_zero, List.getElem?_cons_succ, tC, tCB, tCons, tNil, gName, tIfS, tTest, List.set_cons_succ, List.set_cons_zero, tRet, exSlot, tNext, rI_int, rEqH_int, exBl, decide_eq_true_eq, CDiv]
    refine ⟨⟨by decide, by decide⟩, rLenA_lst (SqL.of hP) ?_⟩
    rw [List.length_map]
    try simp only [rI_int]
    have m1 := mod_lt' (i := n / 3) (j := (pl.length : Int)) (by omega)
    obtain ⟨v, e, hv, _⟩ := atI_in (xs := pl.map V.str) (i := n / 3 % (pl.length : Int)) m1.1 (by rw [List.length_map]; exact m1.2)
    obtain ⟨z, hz, rfl⟩ := List.mem_map.mp hv
    have hzo := hpo z hz
    have hzl := hzo.len
    refine ⟨by omega, rIx_lst (SqL.of hP) e ⟨by decide, ite2 (fun _ => ?_) (fun _ => q z (hzo.up (by decide)))⟩⟩
    rw [rAddA_str]
    exact ⟨Nat.le_trans (Nat.add_le_add (show (Str.ofString "-").length ≤ 1 by decide +kernel) hzl) (by decide), q _ hzo.neg⟩
theorem ok_d_l_numbers (T : Txt K mg t) : FnOk P w K mg base CX0 2 t.f_d_l_numbers t.fd_d_l_numbers ["_law_cell", "_law_many", "_law_size", "_law_plain"] spNumbers := by
  refine T.F_d_l_numbers.ok sc_d_l_numbers (fun vs H Q E h => ?_) (fun cdv A outer s H vs Q E hr h => ?_)
  · obtain ⟨c, m, sz, p, rfl, hm, hsz, q⟩ := h; rfl
  · obtain ⟨c, m, sz, p, rfl, hm, hsz, q⟩ := h
    refine ⟨_, (@pss_cons _ _ _ _ _ (@ps_set _ _ (4) _ _ _ _ sc_d_l_numbers.nd rfl (by first | exact Or.inl rfl | exact Or.inr rfl) (@pe_lst _ _ _ _ (@pa_nil _)) (by rfl) (by first | exact Or.inl rfl | exact Or.inr rfl | assumption)) (@pss_cons _ _ _ _ _ (@ps_set _ _ (5) _ _ _ _ sc_d_l_numbers.nd rfl (by first | exact Or.inl rfl | exact Or.inr rfl) (@pe_op _ _ _ _ _ _ _ _ op_fdiv (@pv _ 0 _ _ (by rfl) (by first | exact vis0 rfl | exact vis1 rfl | exact vis2 rfl) (by decide) (by decide)) (@pe_int _ _ _ _)) (by rfl) (by first | exact Or.inl rfl | exact Or.inr rfl | assumption)) (@pss_cons _ _ _ _ _ (@ps_for _ _ _ _ _ _ _ _ PassesOwn.never rfl (@pi_range1 _ _ _ _ _ _ rfl T.z_range (@pa_cons _ _ _ _ _ (@pv _ 1 _ _ (by rfl) (by first | exact vis0 rfl | exact vis1 rfl | exact vis2 rfl) (by decide) (by decide)) (@pa_nil _) (by rfl)) (by rfl)) (@pg_name _ _ (6) _ sc_d_l_numbers.nd rfl (by first | exact Or.inl rfl | exact Or.inr rfl) (by first | exact Or.inl rfl | exact Or.inr rfl | assumption)) (@pss_one _ _ _ (@ps_if _ _ _ _ _ _ _ _ (@pt_val _ _ _ (@pv _ 3 _ _ (by rfl) (by first | exact vis0 rfl | exact vis1 rfl | exact vis2 rfl) (by decide) (by decide)) (by intro _ ; rfl)) (@pss_cons _ _ _ _ _ (@ps_expr _ _ _ _ (@pe_bm _ _ _ _ _ _ _ _ _ _ _ _ PySem.F.plainAttrs_list PySem.F.slot_list_append PySem.F.type_list_append mt_append (@pv _ 4 _ _ (by rfl) (by first | exact vis0 rfl | exact vis1 rfl | exact vis2 rfl) (by decide) (by decide)) (@pa_cons _ _ _ _ _ (@pe_op _ _ _ _ _ _ _ _ op_mod (@pv _ 5 _ _ (by rfl) (by first | exact vis0 rfl | exact vis1 rfl | exact vis2 rfl) (by decide) (by decide)) (@pv _ 2 _ _ (by rfl) (by first | exact vis0 rfl | exact vis1 rfl | exact vis2 rfl) (by decide) (by decide))) (@pa_nil _) (by rfl)) (by rfl) (by rfl) (by rfl) (by rfl) (by rfl)) (by rfl)) (@pss_one _ _ _ (@ps_set _ _ (5) _ _ _ _ sc_d_l_numbers.nd rfl (by first | exact Or.inl rfl | exact Or.inr rfl) (@pe_op _ _ _ _ _ _ _ _ op_fdiv (@pv _ 5 _ _ (by rfl) (by first | exact vis0 rfl | exact vis1 rfl | exact vis2 rfl) (by decide) (by decide)) (@pv _ 2 _ _ (by rfl) (by first | exact vis0 rfl | exact vis1 rfl | exact vis2 rfl) (by decide) (by decide))) (by rfl) (by first | exact Or.inl rfl | exact Or.inr rfl | assumption)))) (@pss_one _ _ _ (@ps_expr _ _ _ _ (@pe_bm _ _ _ _ _ _ _ _ _ _ _ _ PySem.F.plainAttrs_list PySem.F.slot_list_append PySem.F.type_list_append mt_append (@pv _ 4 _ _ (by rfl) (by first | exact vis0 rfl | exact vis1 rfl | exact vis2 rfl) (by decide) (by decide)) (@pa_cons _ _ _ _ _ (@pe_call _ _ _ _ _ _ _ _ _ _ _ _ _ _ _ _ (ok_d_l_mix T) (hr.mono (by decide)) rfl T.g_d_l_mix T.F_d_l_mix.kp T.b_d_l_mix .nil pass0 (@pa_cons _ _ _ _ _ (@pv _ 0 _ _ (by rfl) (by first | exact vis0 rfl | exact vis1 rfl | exact vis2 rfl) (by decide) (by decide)) (@pa_cons _ _ _ _ _ (@pe_op _ _ _ _ _ _ _ _ op_addA (@pe_int _ _ _ _) (@pv _ 6 _ _ (by rfl) (by first | exact vis0 rfl | exact vis1 rfl | exact vis2 rfl) (by decide) (by decide))) (@pa_nil _) (by rfl)) (by rfl)) (by decide) (by rfl) (by rfl)) (@pa_nil _) (by rfl)) (by rfl) (by rfl) (by rfl) (by rfl) (by rfl)) (by rfl))))) (by intro _ ; rfl)) (@pss_one _ _ _ (@ps_ret _ _ _ _ (@pv _ 4 _ _ (by rfl) (by first | exact vis0 rfl | exact vis1 rfl | exact vis2 rfl) (by decide) (by decide))))))), ?_⟩
    rw [show start n_d_l_numbers [V.int c, V.int m, V.int sz, V.bl p] = [some (V.int c), some (V.int m), some (V.int sz), some (V.bl p), none, none, none] from rfl]
    try simp only [tSeq, tAsg, tLst, tNil, gName, tOp, tVar, List.set_cons_succ, List.set_cons_zero, List.getElem?_cons_zero, tC, tFor_eq, iRng1, tCons, List.getElem?_cons_succ, exSlot, rI_int, CDiv]
    refine ⟨by decide, fun D hD => ⟨⟨by decide, by decide⟩, _, rfl, by omega, by omega, ?_⟩⟩
    obtain ⟨H1, e1, s1, h1⟩ := newO hD (.lst []); rw [e1]
    refine for_range (n := m.toNat) (lo := 0) (fun i σ H' => ∃ (is : List Int) (rest : Int) (x6 : Option V), σ = [some (V.int c), some (V.int m), some (V.int sz), some (V.bl p), some (V.ref D), some (V.int rest), x6] ∧ Same H H' ∧ H' D = some (.lst (is.map V.int)) ∧ is.length = i)
      ⟨[], _, _, rfl, s1, h1, rfl⟩ ?_ ?_
    · rintro i σ H2 hi ⟨is, rest, x6, rfl, s2, hD2, hil⟩
      have hb : (is.map V.int).length < sizeLine := Nat.lt_of_le_of_lt (show _ ≤ 1000 by rw [List.length_map]; omega) (by decide)
      have fin : ∀ y : Int, Same H (upd H2 D (.lst (is.map V.int ++ [V.int y]))) ∧ upd H2 D (.lst (is.map V.int ++ [V.int y])) D = some (.lst ((is ++ [y]).map V.int)) ∧ (is ++ [y]).length = i + 1 := fun y =>
        ⟨fun b o e => by rw [upd_ne (ne_of_none e hD)]; exact s2 _ _ e, by rw [upd_same, List.map_append]; rfl, by simp [hil]⟩
      try simp only [gName, tIfS, tB, tVar, List.set_cons_succ, List.set_cons_zero, List.getElem?_cons_succ, List.getElem?_cons_zero, tSeq, tDrop, tBM, tCons, tOp, tNil, tAsg, exSlot, rI_int, CDiv, tCall, tC, List.append_nil, rAddA_int, spMix_at, exBl]
      refine ite2 (fun _ => ?_) (fun _ => ?_)
      · refine ⟨.inl ⟨rfl, _, SqL.of hD2⟩, by omega, D, _, _, rfl, rfl, hD2, hb, ⟨by omega, by omega⟩, is ++ [rest % sz], _, _, rfl, (fin _).1, (fin _).2.1, (fin _).2.2⟩
      · refine ⟨.inl ⟨rfl, _, SqL.of hD2⟩, fun r hr => ⟨D, _, _, rfl, rfl, hD2, hb, is ++ [r], _, _, rfl, (fin _).1, (fin _).2.1, (fin _).2.2⟩⟩
    · rintro σ H2 ⟨is, rest, x6, rfl, s2, hD2, hil⟩
      try simp only [tRet, tVar, List.getElem?_cons_succ, List.getElem?_cons_zero, exSlot]
      exact q D is H2 s2 hD hD2 hil
theorem ok_d_l_rule (T : Txt K mg t) : FnOk P w K mg base CX0 4 t.f_d_l_rule t.fd_d_l_rule ["_law_pool_here", "_law_cell", "_law_k", "_law_plain"] (spRule51 t) := by
  refine T.F_d_l_rule.ok sc_d_l_rule (fun vs H Q E h => ?_) (fun cdv A outer s H vs Q E hr h => ?_)
  · obtain ⟨P0, c, k, p, pl, rfl, hP, hp1, hp7, hpo, hk, q⟩ := h; rfl
  · obtain ⟨P0, c, k, p, pl, rfl, hP, hp1, hp7, hpo, hk, q⟩ := h
    refine ⟨_, (@pss_cons _ _ _ _ _ (@ps_set _ _ (4) _ _ _ _ sc_d_l_rule.nd rfl (by first | exact Or.inl rfl | exact Or.inr rfl) (@pe_ix _ _ _ _ _ _ _ ix_seq (@pe_lst _ _ _ _ (@pa_cons _ _ _ _ _ (@pe_int _ _ _ _) (@pa_cons _ _ _ _ _ (@pe_int _ _ _ _) (@pa_cons _ _ _ _ _ (@pe_int _ _ _ _) (@pa_cons _ _ _ _ _ (@pe_int _ _ _ _) (@pa_cons _ _ _ _ _ (@pe_int _ _ _ _) (@pa_cons _ _ _ _ _ (@pe_int _ _ _ _) (@pa_cons _ _ _ _ _ (@pe_int _ _ _ _) (@pa_cons _ _ _ _ _ (@pe_int _ _ _ _) (@pa_nil _) (by rfl)) (by rfl)) (by rfl)) (by rfl)) (by rfl)) (by rfl)) (by rfl)) (by rfl))) (@pe_op _ _ _ _ _ _ _ _ op_mod (@pv _ 1 _ _ (by rfl) (by first | exact vis0 rfl | exact vis1 rfl | exact vis2 rfl) (by decide) (by decide)) (@pe_int _ _ _ _)) (fun _ _ => rfl)) (by rfl) (by first | exact Or.inl rfl | exact Or.inr rfl | assumption)) (@pss_cons _ _ _ _ _ (@ps_setComp _ _ _ _ _ _ _ _ _ _ _ _ _ (5) _ _ _ (@compOk_of _ (defScope s_d_l_rule) (n_d_l_rule) (["_law_number", "_law_pool_here"]) ([none, some 0]) _ rfl rfl (by decide +kernel)) rfl (@pi_list _ _ _ _ (@pe_call _ _ _ _ _ _ _ _ _ _ _ _ _ _ _ _ (ok_d_l_numbers T) (hr.mono (by decide)) rfl T.g_d_l_numbers T.F_d_l_numbers.kp T.b_d_l_numbers .nil pass0 (@pa_cons _ _ _ _ _ (@pv _ 1 _ _ (by rfl) (by first | exact vis0 rfl | exact vis1 rfl | exact vis2 rfl) (by decide) (by decide)) (@pa_cons _ _ _ _ _ (@pe_op _ _ _ _ _ _ _ _ op_addA (@pe_int _ _ _ _) (@pv _ 4 _ _ (by rfl) (by first | exact vis0 rfl | exact vis1 rfl | exact vis2 rfl) (by decide) (by decide))) (@pa_cons _ _ _ _ _ (@pe_op _ _ _ _ _ _ _ _ op_mul (@pe_int _ _ _ _) (@pe_callB _ _ _ _ _ _ _ _ _ call_lenA rfl T.z_len boot_lenT (@pa_cons _ _ _ _ _ (@pv _ 0 _ _ (by rfl) (by first | exact vis0 rfl | exact vis1 rfl | exact vis2 rfl) (by decide) (by decide)) (@pa_nil _) (by rfl)) (by decide) (by decide) (by rfl) (by rfl))) (@pa_cons _ _ _ _ _ (@pv _ 3 _ _ (by rfl) (by first | exact vis0 rfl | exact vis1 rfl | exact vis2 rfl) (by decide) (by decide)) (@pa_nil _) (by rfl)) (by rfl)) (by rfl)) (by rfl)) (by decide) (by rfl) (by rfl))) (fun _ _ _ _ _ => (@pg_name _ _ (0) _ (show List.Nodup (["_law_number", "_law_pool_here"] : List Str) by decide +kernel) rfl (by first | exact Or.inl rfl | exact Or.inr rfl) (by first | exact Or.inl rfl | exact Or.inr rfl | assumption))) (fun _ _ _ _ _ => @pts_nil _) (fun _ _ _ _ _ => (@pe_call _ _ _ _ _ _ _ _ _ _ _ _ _ _ _ _ (ok_d_l_drawn T) (hr.mono (by decide)) rfl T.g_d_l_drawn T.F_d_l_drawn.kp T.b_d_l_drawn .nil pass0 (@pa_cons _ _ _ _ _ (@pv _ 1 _ _ (by rfl) (by first | exact vis0 rfl | exact vis1 rfl | exact vis2 rfl) (by decide) (by decide)) (@pa_cons _ _ _ _ _ (@pv _ 0 _ _ (by rfl) (by first | exact vis0 rfl | exact vis1 rfl | exact vis2 rfl) (by decide) (by decide)) (@pa_nil _) (by rfl)) (by rfl)) (by decide) (by rfl) (by rfl))) sc_d_l_rule.nd rfl (by first | exact Or.inl rfl | exact Or.inr rfl) rfl (by intro _ ; rfl) (by first | exact Or.inl rfl | exact Or.inr rfl | assumption)) (@pss_cons _ _ _ _ _ (@ps_set _ _ (6) _ _ _ _ sc_d_l_rule.nd rfl (by first | exact Or.inl rfl | exact Or.inr rfl) (@pe_op _ _ _ _ _ _ _ _ op_mod (@pe_op _ _ _ _ _ _ _ _ op_fdiv (@pv _ 1 _ _ (by rfl) (by first | exact vis0 rfl | exact vis1 rfl | exact vis2 rfl) (by decide) (by decide)) (@pe_int _ _ _ _)) (@pe_int _ _ _ _)) (by rfl) (by first | exact Or.inl rfl | exact Or.inr rfl | assumption)) (@pss_cons _ _ _ _ _ (@ps_set _ _ (7) _ _ _ _ sc_d_l_rule.nd rfl (by first | exact Or.inl rfl | exact Or.inr rfl) (@pe_op _ _ _ _ _ _ _ _ op_addA (@pe_str _ _ _ _) (@pe_callTy _ _ _ _ _ _ _ _ _ call_str_int rfl T.z_str boot_strT (@pa_cons _ _ _ _ _ (@pv _ 2 _ _ (by rfl) (by first | exact vis0 rfl | exact vis1 rfl | exact vis2 rfl) (by decide) (by decide)) (@pa_nil _) (by rfl)) (by decide) (by decide) (by rfl) (by rfl))) (by rfl) (by first | exact Or.inl rfl | exact Or.inr rfl | assumption)) (@pss_mid _ _ _ _ _ (@ps_if _ _ _ _ _ _ _ _ (@PW.pt _ _ _ (@pw_and _ _ _ _ _ _ _ (@pt_cmpR _ _ _ _ _ _ _ _ (op_eqH hr.units) (@pv _ 6 _ _ (by rfl) (by first | exact vis0 rfl | exact vis1 rfl | exact vis2 rfl) (by decide) (by decide)) (@pe_int _ _ _ _) (nomark _)) (@pw_and1 _ _ _ _ (@pt_cmpR _ _ _ _ _ _ _ _ (op_eqH hr.units) (@pv _ 4 _ _ (by rfl) (by first | exact vis0 rfl | exact vis1 rfl | exact vis2 rfl) (by decide) (by decide)) (@pe_int _ _ _ _) (nomark _))))) (@pss_one _ _ _ (@ps_ret _ _ _ _ (@pe_make _ _ _ _ _ _ _ _ _ _ _ _ _ _ _ _ _ T.mk_Fact (ok_c_Fact_init T) (hr.mono (by decide)) rfl T.g_Fact T.b_c_Fact_init .nil pass0 (@pa_cons _ _ _ _ _ (@pe_ix _ _ _ _ _ _ _ ix_seq (@pv _ 5 _ _ (by rfl) (by first | exact vis0 rfl | exact vis1 rfl | exact vis2 rfl) (by decide) (by decide)) (@pe_int _ _ _ _) (fun _ _ => rfl)) (@pa_nil _) (by rfl)) (by decide) (by rfl) (by rfl)))) (@pss_nil _)) (@pss_cons _ _ _ _ _ (@ps_if _ _ _ _ _ _ _ _ (@pt_cmpR _ _ _ _ _ _ _ _ op_ltA (@pv _ 6 _ _ (by rfl) (by first | exact vis0 rfl | exact vis1 rfl | exact vis2 rfl) (by decide) (by decide)) (@pe_int _ _ _ _) (nomark _)) (@pss_one _ _ _ (@ps_ret _ _ _ _ (@pe_make _ _ _ _ _ _ _ _ _ _ _ _ _ _ _ _ _ T.mk_Sure (ok_c_Rule_init T) (hr.mono (by decide)) rfl T.g_Sure T.b_c_Rule_init .nil pass0 (@pa_cons _ _ _ _ _ (@pv _ 7 _ _ (by rfl) (by first | exact vis0 rfl | exact vis1 rfl | exact vis2 rfl) (by decide) (by decide)) (@pa_cons _ _ _ _ _ (@pe_ix _ _ _ _ _ _ _ ix_seq (@pv _ 5 _ _ (by rfl) (by first | exact vis0 rfl | exact vis1 rfl | exact vis2 rfl) (by decide) (by decide)) (@pe_int _ _ _ _) (fun _ _ => rfl)) (@pa_cons _ _ _ _ _ (@pe_slice _ _ _ _ _ _ _ _ _ _ sl_any (@pv _ 5 _ _ (by rfl) (by first | exact vis0 rfl | exact vis1 rfl | exact vis2 rfl) (by decide) (by decide)) (@po_some _ _ _ (@pe_int _ _ _ _)) (@po_none _)) (@pa_nil _) (by rfl)) (by rfl)) (by rfl)) (by decide) (by rfl) (by rfl)))) (@pss_nil _)) (@pss_cons _ _ _ _ _ (@ps_if _ _ _ _ _ _ _ _ (@pt_cmpR _ _ _ _ _ _ _ _ (op_eqH hr.units) (@pv _ 6 _ _ (by rfl) (by first | exact vis0 rfl | exact vis1 rfl | exact vis2 rfl) (by decide) (by decide)) (@pe_int _ _ _ _) (nomark _)) (@pss_one _ _ _ (@ps_ret _ _ _ _ (@pe_make _ _ _ _ _ _ _ _ _ _ _ _ _ _ _ _ _ T.mk_Block (ok_c_Rule_init T) (hr.mono (by decide)) rfl T.g_Block T.b_c_Rule_init .nil pass0 (@pa_cons _ _ _ _ _ (@pv _ 7 _ _ (by rfl) (by first | exact vis0 rfl | exact vis1 rfl | exact vis2 rfl) (by decide) (by decide)) (@pa_cons _ _ _ _ _ (@pe_ix _ _ _ _ _ _ _ ix_seq (@pv _ 5 _ _ (by rfl) (by first | exact vis0 rfl | exact vis1 rfl | exact vis2 rfl) (by decide) (by decide)) (@pe_int _ _ _ _) (fun _ _ => rfl)) (@pa_cons _ _ _ _ _ (@pe_slice _ _ _ _ _ _ _ _ _ _ sl_any (@pv _ 5 _ _ (by rfl) (by first | exact vis0 rfl | exact vis1 rfl | exact vis2 rfl) (by decide) (by decide)) (@po_some _ _ _ (@pe_int _ _ _ _)) (@po_none _)) (@pa_nil _) (by rfl)) (by rfl)) (by rfl)) (by decide) (by rfl) (by rfl)))) (@pss_nil _)) (@pss_one _ _ _ (@ps_ret _ _ _ _ (@pe_make _ _ _ _ _ _ _ _ _ _ _ _ _ _ _ _ _ T.mk_Most (ok_c_Rule_init T) (hr.mono (by decide)) rfl T.g_Most T.b_c_Rule_init .nil pass0 (@pa_cons _ _ _ _ _ (@pv _ 7 _ _ (by rfl) (by first | exact vis0 rfl | exact vis1 rfl | exact vis2 rfl) (by decide) (by decide)) (@pa_cons _ _ _ _ _ (@pe_ix _ _ _ _ _ _ _ ix_seq (@pv _ 5 _ _ (by rfl) (by first | exact vis0 rfl | exact vis1 rfl | exact vis2 rfl) (by decide) (by decide)) (@pe_int _ _ _ _) (fun _ _ => rfl)) (@pa_cons _ _ _ _ _ (@pe_slice _ _ _ _ _ _ _ _ _ _ sl_any (@pv _ 5 _ _ (by rfl) (by first | exact vis0 rfl | exact vis1 rfl | exact vis2 rfl) (by decide) (by decide)) (@po_some _ _ _ (@pe_int _ _ _ _)) (@po_none _)) (@pa_nil _) (by rfl)) (by rfl)) (by rfl)) (by decide) (by rfl) (by rfl))))))))))), ?_⟩
    rw [show start n_d_l_rule [V.ref P0, V.int c, V.int k, V.bl p] = [some (V.ref P0), some (V.int c), some (V.int k), some (V.bl p), none, none, none, none] from rfl]
    try simp only [tSeq, tAsg, tOp, tLst, tCons, tC, tNil, tVar, List.getElem?_cons_succ, List.getElem?_cons_zero, gName, List.set_cons_succ, List.set_cons_zero, tCB, rAddA_str, exSlot, rI_int, CDiv, tComp_eq, iList, tCall, List.append_nil]
    refine ⟨by simp only [List.length_cons, List.length_nil]; decide, fun p1 hp1' => ?_⟩
    obtain ⟨H1, e1, s1, h1⟩ := newO hp1' (.lst [V.int 0, V.int 1, V.int 1, V.int 1, V.int 2, V.int 2, V.int 3, V.int 4]); rw [e1]
    have m8 := mod_lt' (i := c) (j := 8) (by decide)
    obtain ⟨v8, e8, hv8, _⟩ := atI_in (xs := [V.int 0, V.int 1, V.int 1, V.int 1, V.int 2, V.int 2, V.int 3, V.int 4]) m8.1 m8.2
    obtain ⟨mn, rfl, hmn⟩ : ∃ n : Int, v8 = .int n ∧ (0 ≤ n ∧ n ≤ 4) := by
      simp only [List.mem_cons, List.not_mem_nil, or_false] at hv8
      rcases hv8 with rfl | rfl | rfl | rfl | rfl | rfl | rfl | rfl <;> exact ⟨_, rfl, by decide⟩
    refine ⟨by decide, rIx_lst (SqL.of h1) e8 ?_⟩
    try simp only [rAddA_int]
    have hP1 := s1 _ _ hP
    refine rLenA_lst (SqL.of hP1) ?_
    rw [List.length_map]
    try simp only [rI_int, CMul]
    refine ⟨.inl (by decide), ?_⟩
    refine ⟨c, 1 + mn, _, p, rfl, by omega, by omega, fun D is H2 s2 hDn hD hil => ?_⟩
    have hP2 := s2 _ _ hP1
    try simp only [exRef]
    refine ⟨⟨_, SqL.of hD⟩, ?_⟩
    refine comp_1 (src_list (xs := is.map V.int)) (Nat.le_trans (show (is.map V.int).length ≤ 1000 by rw [List.length_map]; omega) (by decide)) [some (V.ref P0)] rfl (fun i v => ∃ z, v = V.str z ∧ TxN 31 z) (fun H' s => SqL.of (s _ _ hD)) (fun i H' R hi s hR => ?_) (fun X H3 ys hXn s3 hX hyl hv => ?_)
    · have hi' : i < is.length := by simpa using hi
      have e2 : ((is.map V.int)[i]?).getD .non = V.int is[i] := by rw [List.getElem?_map, List.getElem?_eq_getElem hi']; rfl
      rw [e2]
      try simp only [tCall, tCons, tVar, List.getElem?_cons_succ, List.getElem?_cons_zero, tNil, List.append_nil, exSlot]
      exact ⟨P0, is[i], pl, rfl, s _ _ hP2, hp1, hp7, hpo, fun z hz => hR _ _ (Same.refl _) ⟨z, rfl, hz⟩⟩
    obtain ⟨zs, rfl, hzo⟩ := strs_p hv
    have hzl : zs.length = (1 + mn).toNat := by rw [List.length_map, List.length_map] at hyl; omega
    obtain ⟨z0, zr, rfl⟩ : ∃ z0 zr, zs = z0 :: zr := by
      cases zs with
      | nil => simp at hzl; omega
      | cons z0 zr => exact ⟨z0, zr, rfl⟩
    have hzr : zr.length ≤ 4 := by simp at hzl; omega
    have s03 := (s1.trans s2).trans s3
    have o0 := hzo z0 List.mem_cons_self
    have or : ∀ q ∈ zr, TxN 31 q := fun q hq => hzo q (List.mem_cons_of_mem _ hq)
    obtain ⟨kn, rfl⟩ : ∃ kn : Nat, k = (kn : Int) := ⟨k.toNat, by omega⟩
    have hlab := lab_ok kn (by omega)
    try skip
    refine ⟨⟨by decide, by decide⟩, by decide, _, rfl, ?_, ?_, ?_⟩
    · show kn.log2 < 1920
      by_cases h0 : kn = 0
      · rw [h0]; decide
      · exact (Nat.log2_lt h0).mpr (Nat.lt_of_lt_of_le (show kn < 2 ^ 6 by omega) (Nat.pow_le_pow_right (by decide) (by decide)))
    · have := hlab.2
      rw [slen_app] at this
      exact Nat.le_trans this (by decide)
    obtain ⟨lb, elb⟩ : ∃ lb, Str.ofString "r" ++ Str.ofString (toString (kn : Int)) = lb := ⟨_, rfl⟩
    rw [elb] at hlab ⊢
    have okR : ∀ k, 0 < k → k < 4 → RwT (k, lb, z0, zr) := fun k h0 h4 => ⟨⟨h4, fun z => absurd (show k = 0 from z) (by omega), hlab, o0.ok (by decide), fun q hq => (or q hq).ok (by decide), hzr⟩, o0, or⟩
    have okF : RwT (0, "", z0, []) := ⟨⟨show 0 < 4 by decide, fun _ => ⟨rfl, rfl⟩, (⟨by decide +kernel, by decide +kernel⟩ : OkS ""), o0.ok (by decide), (fun q hq => absurd hq List.not_mem_nil), show 0 ≤ 4 by decide⟩, o0, (fun q hq => absurd hq List.not_mem_nil)⟩
    generalize hw : c / 8 % 6 = w0
    refine ⟨fun σ' H' => σ' = [some (V.ref P0), some (V.int c), some (V.int kn), some (V.bl p), some (V.int mn), some (V.ref X), some (V.int w0), some (V.str lb)] ∧ H' = H3, ?_, ?_⟩
    · try simp only [tIfS, tAnd, tTest, tOp, tVar, List.getElem?_cons_succ, List.getElem?_cons_zero, tC, tRet, tMake, tCons, tNil, List.append_nil, exSlot, tNext, rEqH_int, exBl, decide_eq_true_eq, ite_ft]
      refine ite2 (fun _ => ?_) (fun _ => ⟨by trivial, by trivial⟩)
      refine ite2 (fun _ => ?_) (fun _ => ⟨by trivial, by trivial⟩)
      refine rIx_lst (SqL.of hX) (at_head _ _) ?_
      intro x dx nx ndx ne
      obtain ⟨s, hx⟩ := newH (C := t.C_Fact) nx ndx
      exact ⟨x, dx, _, rfl, hx, fun H' k r => ⟨rfl, q x (0, "", z0, []) H' (fun c o e => k c o (s _ _ (s03 _ _ e)) (ne_of_none (s03 _ _ e) nx)) okF r⟩⟩
    rintro σ' H' ⟨rfl, rfl⟩
    try simp only [tSeq, tIfS, tTest, tOp, tVar, List.getElem?_cons_succ, List.getElem?_cons_zero, tC, tRet, tMake, tCons, tSl, tPart, tNoPart, tNil, List.append_nil, exInt, exSlot, tNext, rEqH_int, exBl, decide_eq_true_eq, rLtA_int]
    refine ite2 (fun _ => ?_) (fun _ => ite2 (fun _ => ?_) (fun _ => ?_))
    · refine rIx_lst (SqL.of hX) (at_head _ _) (.inr (.inl ⟨X, _, rfl, SqL.of hX, fun Z hZ => ?_⟩))
      rw [show cutV (List.map V.str (z0 :: zr)) (some 1) none = zr.map V.str from cut_1 _ _]
      obtain ⟨H4, e4, s4, h4⟩ := newO hZ (.lst (zr.map V.str)); rw [e4]
      intro x dx nx ndx ne
      obtain ⟨s, hx⟩ := newH (C := t.C_Sure) nx ndx
      exact ⟨x, t.C_Sure, dx, _, _, Z, _, rfl, hx, ⟨T.cl_Sure, T.nf_Sure_label, T.nf_Sure_head, T.nf_Sure_body⟩, .inl (SqL.of (s _ _ h4)), fun H' k r => ⟨rfl, q x (1, lb, z0, zr) H' (fun c o e => k c o (s _ _ (s4 _ _ (s03 _ _ e))) (ne_of_none (s4 _ _ (s03 _ _ e)) nx)) (okR 1 (by decide) (by decide)) r⟩⟩
    · refine rIx_lst (SqL.of hX) (at_head _ _) (.inr (.inl ⟨X, _, rfl, SqL.of hX, fun Z hZ => ?_⟩))
      rw [show cutV (List.map V.str (z0 :: zr)) (some 1) none = zr.map V.str from cut_1 _ _]
      obtain ⟨H4, e4, s4, h4⟩ := newO hZ (.lst (zr.map V.str)); rw [e4]
      intro x dx nx ndx ne
      obtain ⟨s, hx⟩ := newH (C := t.C_Block) nx ndx
      exact ⟨x, t.C_Block, dx, _, _, Z, _, rfl, hx, ⟨T.cl_Block, T.nf_Block_label, T.nf_Block_head, T.nf_Block_body⟩, .inl (SqL.of (s _ _ h4)), fun H' k r => ⟨rfl, q x (3, lb, z0, zr) H' (fun c o e => k c o (s _ _ (s4 _ _ (s03 _ _ e))) (ne_of_none (s4 _ _ (s03 _ _ e)) nx)) (okR 3 (by decide) (by decide)) r⟩⟩
    · refine rIx_lst (SqL.of hX) (at_head _ _) (.inr (.inl ⟨X, _, rfl, SqL.of hX, fun Z hZ => ?_⟩))
      rw [show cutV (List.map V.str (z0 :: zr)) (some 1) none = zr.map V.str from cut_1 _ _]
      obtain ⟨H4, e4, s4, h4⟩ := newO hZ (.lst (zr.map V.str)); rw [e4]
      intro x dx nx ndx ne
      obtain ⟨s, hx⟩ := newH (C := t.C_Most) nx ndx
      exact ⟨x, t.C_Most, dx, _, _, Z, _, rfl, hx, ⟨T.cl_Most, T.nf_Most_label, T.nf_Most_head, T.nf_Most_body⟩, .inl (SqL.of (s _ _ h4)), fun H' k r => ⟨rfl, q x (2, lb, z0, zr) H' (fun c o e => k c o (s _ _ (s4 _ _ (s03 _ _ e))) (ne_of_none (s4 _ _ (s03 _ _ e)) nx)) (okR 2 (by decide) (by decide)) r⟩⟩
theorem ok_d_l_turned (T : Txt K mg t) : FnOk P w K mg base CX0 1 t.f_d_l_turned t.fd_d_l_turned ["_law_rules", "_law_cell"] (spTurned t) := by
  refine T.F_d_l_turned.ok sc_d_l_turned (fun vs H Q E h => ?_) (fun cdv A outer s H vs Q E hr h => ?_)
  · obtain ⟨a, c, zr, rfl, hR, q⟩ := h; rfl
  · obtain ⟨a, c, zr, rfl, hR, q⟩ := h
    refine ⟨_, (@pss_cons _ _ _ _ _ (@ps_if _ _ _ _ _ _ _ _ (@pt_cmpR _ _ _ _ _ _ _ _ (op_eqH hr.units) (@pe_op _ _ _ _ _ _ _ _ op_mod (@pe_op _ _ _ _ _ _ _ _ op_fdiv (@pv _ 1 _ _ (by rfl) (by first | exact vis0 rfl | exact vis1 rfl | exact vis2 rfl) (by decide) (by decide)) (@pe_int _ _ _ _)) (@pe_int _ _ _ _)) (@pe_int _ _ _ _) (nomark _)) (@pss_one _ _ _ (@ps_ret _ _ _ _ (@pe_listRev _ _ _ _ _ _ _ rfl rfl T.z_list rfl T.z_reversed (@pv _ 0 _ _ (by rfl) (by first | exact vis0 rfl | exact vis1 rfl | exact vis2 rfl) (by decide) (by decide)) (by rfl) (by rfl)))) (@pss_nil _)) (@pss_one _ _ _ (@ps_ret _ _ _ _ (@pe_callTy _ _ _ _ _ _ _ _ _ call_listOf rfl T.z_list boot_listT (@pa_cons _ _ _ _ _ (@pv _ 0 _ _ (by rfl) (by first | exact vis0 rfl | exact vis1 rfl | exact vis2 rfl) (by decide) (by decide)) (@pa_nil _) (by rfl)) (by decide) (by decide) (by rfl) (by rfl))))), ?_⟩
    rw [show start n_d_l_turned [V.ref a, V.int c] = [some (V.ref a), some (V.int c)] from rfl]
    have fin : ∀ (p : Addr) (zs : List VR), H p = none → (∀ x ∈ zs, x ∈ zr) → zs.length = zr.length → Q (.ref p) (upd H p (.lst (zs.map (·.1)))) := fun p zs hp hm hl => by
      obtain ⟨H1, e1, s1, h1⟩ := newO hp (.lst (zs.map (·.1))); rw [e1]
      exact q p zs H1 s1 hp ⟨h1, fun x hx => (hR.2.1.same s1) x (hm x hx), by rw [hl]; exact hR.2.2.1, fun x hx => hR.2.2.2 x (hm x hx)⟩
    try simp only [tSeq, tIfS, tTest, tOp, tVar, List.getElem?_cons_succ, List.getElem?_cons_zero, tC, tRet, tNext, tCB, tCons, tNil, exSlot, rI_int, CDiv, rEqH_int, exBl, decide_eq_true_eq]
    refine ⟨⟨by decide, by decide⟩, by decide, ite2 (fun _ => ?_) (fun _ => ?_)⟩
    · refine ⟨V.ref a, rfl, a, _, rfl, SqL.of hR.1, fun p hp => ?_⟩
      rw [← List.map_reverse]
      exact fin p zr.reverse hp (fun x hx => List.mem_reverse.mp hx) (List.length_reverse)
    · exact ⟨a, _, rfl, .inl (SqL.of hR.1), fun p hp => fin p zr hp (fun x hx => hx) rfl⟩
theorem ok_d_l_scene (T : Txt K mg t) : FnOk P w K mg base CX0 5 t.f_d_l_scene t.fd_d_l_scene ["_law_script", "_law_many"] (spScene K t) := by
  refine T.F_d_l_scene.ok sc_d_l_scene (fun vs H Q E h => ?_) (fun cdv A outer s H vs Q E hr h => ?_)
  · obtain ⟨a, ns, rfl, hS, hl, q⟩ := h; rfl
  · obtain ⟨a, ns, rfl, hS, hl, q⟩ := h
    refine ⟨_, (@pss_cons _ _ _ _ _ (@ps_set _ _ (2) _ _ _ _ sc_d_l_scene.nd rfl (by first | exact Or.inl rfl | exact Or.inr rfl) (@pe_call _ _ _ _ _ _ _ _ _ _ _ _ _ _ _ _ (ok_d_l_pool T) (hr.mono (by decide)) rfl T.g_d_l_pool T.F_d_l_pool.kp T.b_d_l_pool .nil pass0 (@pa_cons _ _ _ _ _ (@pv _ 0 _ _ (by rfl) (by first | exact vis0 rfl | exact vis1 rfl | exact vis2 rfl) (by decide) (by decide)) (@pa_nil _) (by rfl)) (by decide) (by rfl) (by rfl)) (by rfl) (by first | exact Or.inl rfl | exact Or.inr rfl | assumption)) (@pss_cons _ _ _ _ _ (@ps_set _ _ (3) _ _ _ _ sc_d_l_scene.nd rfl (by first | exact Or.inl rfl | exact Or.inr rfl) (@pe_slice _ _ _ _ _ _ _ _ _ _ sl_any (@pv _ 0 _ _ (by rfl) (by first | exact vis0 rfl | exact vis1 rfl | exact vis2 rfl) (by decide) (by decide)) (@po_some _ _ _ (@pe_int _ _ _ _)) (@po_some _ _ _ (@pe_op _ _ _ _ _ _ _ _ op_addA (@pe_int _ _ _ _) (@pv _ 1 _ _ (by rfl) (by first | exact vis0 rfl | exact vis1 rfl | exact vis2 rfl) (by decide) (by decide))))) (by rfl) (by first | exact Or.inl rfl | exact Or.inr rfl | assumption)) (@pss_cons _ _ _ _ _ (@ps_set _ _ (4) _ _ _ _ sc_d_l_scene.nd rfl (by first | exact Or.inl rfl | exact Or.inr rfl) (@pe_cmpR _ _ _ _ _ _ _ _ (op_eqH hr.units) (@pe_op _ _ _ _ _ _ _ _ op_mod (@pe_op _ _ _ _ _ _ _ _ op_fdiv (@pe_call _ _ _ _ _ _ _ _ _ _ _ _ _ _ _ _ (ok_d_l_cell_at T) (hr.mono (by decide)) rfl T.g_d_l_cell_at T.F_d_l_cell_at.kp T.b_d_l_cell_at .nil pass0 (@pa_cons _ _ _ _ _ (@pv _ 0 _ _ (by rfl) (by first | exact vis0 rfl | exact vis1 rfl | exact vis2 rfl) (by decide) (by decide)) (@pa_cons _ _ _ _ _ (@pe_int _ _ _ _) (@pa_nil _) (by rfl)) (by rfl)) (by decide) (by rfl) (by rfl)) (@pe_int _ _ _ _)) (@pe_int _ _ _ _)) (@pe_int _ _ _ _) (nomark _)) (by rfl) (by first | exact Or.inl rfl | exact Or.inr rfl | assumption)) (@pss_cons _ _ _ _ _ (@ps_setComp _ _ _ _ _ _ _ _ _ _ _ _ _ (5) _ _ _ (@compOk_of _ (defScope s_d_l_scene) (n_d_l_scene) (["_law_k", "_law_pool_here", "_law_plain", "_law_cells"]) ([none, some 2, some 4, some 3]) _ rfl rfl (by decide +kernel)) rfl (@pi_range1 _ _ _ _ _ _ rfl T.z_range (@pa_cons _ _ _ _ _ (@pe_callB _ _ _ _ _ _ _ _ _ call_lenA rfl T.z_len boot_lenT (@pa_cons _ _ _ _ _ (@pv _ 3 _ _ (by rfl) (by first | exact vis0 rfl | exact vis1 rfl | exact vis2 rfl) (by decide) (by decide)) (@pa_nil _) (by rfl)) (by decide) (by decide) (by rfl) (by rfl)) (@pa_nil _) (by rfl)) (by rfl)) (fun _ _ _ _ _ => (@pg_name _ _ (0) _ (show List.Nodup (["_law_k", "_law_pool_here", "_law_plain", "_law_cells"] : List Str) by decide +kernel) rfl (by first | exact Or.inl rfl | exact Or.inr rfl) (by first | exact Or.inl rfl | exact Or.inr rfl | assumption))) (fun _ _ _ _ _ => @pts_nil _) (fun _ _ _ _ _ => (@pe_call _ _ _ _ _ _ _ _ _ _ _ _ _ _ _ _ (ok_d_l_rule T) (hr.mono (by decide)) rfl T.g_d_l_rule T.F_d_l_rule.kp T.b_d_l_rule .nil pass0 (@pa_cons _ _ _ _ _ (@pv _ 1 _ _ (by rfl) (by first | exact vis0 rfl | exact vis1 rfl | exact vis2 rfl) (by decide) (by decide)) (@pa_cons _ _ _ _ _ (@pe_ix _ _ _ _ _ _ _ (ix_seqK (K := K) rfl) (@pv _ 3 _ _ (by rfl) (by first | exact vis0 rfl | exact vis1 rfl | exact vis2 rfl) (by decide) (by decide)) (@pv _ 0 _ _ (by rfl) (by first | exact vis0 rfl | exact vis1 rfl | exact vis2 rfl) (by decide) (by decide)) (fun _ _ => rfl)) (@pa_cons _ _ _ _ _ (@pv _ 0 _ _ (by rfl) (by first | exact vis0 rfl | exact vis1 rfl | exact vis2 rfl) (by decide) (by decide)) (@pa_cons _ _ _ _ _ (@pv _ 2 _ _ (by rfl) (by first | exact vis0 rfl | exact vis1 rfl | exact vis2 rfl) (by decide) (by decide)) (@pa_nil _) (by rfl)) (by rfl)) (by rfl)) (by rfl)) (by decide) (by rfl) (by rfl))) sc_d_l_scene.nd rfl (by first | exact Or.inl rfl | exact Or.inr rfl) rfl (by intro _ ; rfl) (by first | exact Or.inl rfl | exact Or.inr rfl | assumption)) (@pss_cons _ _ _ _ _ (@ps_set _ _ (6) _ _ _ _ sc_d_l_scene.nd rfl (by first | exact Or.inl rfl | exact Or.inr rfl) (@pe_call _ _ _ _ _ _ _ _ _ _ _ _ _ _ _ _ (ok_d_l_pairs T) (hr.mono (by decide)) rfl T.g_d_l_pairs T.F_d_l_pairs.kp T.b_d_l_pairs .nil pass0 (@pa_cons _ _ _ _ _ (@pv _ 5 _ _ (by rfl) (by first | exact vis0 rfl | exact vis1 rfl | exact vis2 rfl) (by decide) (by decide)) (@pa_cons _ _ _ _ _ (@pe_call _ _ _ _ _ _ _ _ _ _ _ _ _ _ _ _ (ok_d_l_cell_at T) (hr.mono (by decide)) rfl T.g_d_l_cell_at T.F_d_l_cell_at.kp T.b_d_l_cell_at .nil pass0 (@pa_cons _ _ _ _ _ (@pv _ 0 _ _ (by rfl) (by first | exact vis0 rfl | exact vis1 rfl | exact vis2 rfl) (by decide) (by decide)) (@pa_cons _ _ _ _ _ (@pe_int _ _ _ _) (@pa_nil _) (by rfl)) (by rfl)) (by decide) (by rfl) (by rfl)) (@pa_nil _) (by rfl)) (by rfl)) (by decide) (by rfl) (by rfl)) (by rfl) (by first | exact Or.inl rfl | exact Or.inr rfl | assumption)) (@pss_cons _ _ _ _ _ (@ps_set _ _ (7) _ _ _ _ sc_d_l_scene.nd rfl (by first | exact Or.inl rfl | exact Or.inr rfl) (@pe_lst _ _ _ _ (@pa_nil _)) (by rfl) (by first | exact Or.inl rfl | exact Or.inr rfl | assumption)) (@pss_cons _ _ _ _ _ (@ps_for _ _ _ _ _ _ _ _ PassesOwn.never rfl (@pi_list _ _ _ _ (@pv _ 2 _ _ (by rfl) (by first | exact vis0 rfl | exact vis1 rfl | exact vis2 rfl) (by decide) (by decide))) (@pg_name _ _ (8) _ sc_d_l_scene.nd rfl (by first | exact Or.inl rfl | exact Or.inr rfl) (by first | exact Or.inl rfl | exact Or.inr rfl | assumption)) (@pss_one _ _ _ (@ps_expr _ _ _ _ (@pe_bm _ _ _ _ _ _ _ _ _ _ _ _ PySem.F.plainAttrs_list PySem.F.slot_list_extend PySem.F.type_list_extend mt_extend (@pv _ 7 _ _ (by rfl) (by first | exact vis0 rfl | exact vis1 rfl | exact vis2 rfl) (by decide) (by decide)) (@pa_cons _ _ _ _ _ (@pe_lst _ _ _ _ (@pa_cons _ _ _ _ _ (@pv _ 8 _ _ (by rfl) (by first | exact vis0 rfl | exact vis1 rfl | exact vis2 rfl) (by decide) (by decide)) (@pa_cons _ _ _ _ _ (@pe_op _ _ _ _ _ _ _ _ op_addA (@pe_str _ _ _ _) (@pv _ 8 _ _ (by rfl) (by first | exact vis0 rfl | exact vis1 rfl | exact vis2 rfl) (by decide) (by decide))) (@pa_nil _) (by rfl)) (by rfl))) (@pa_nil _) (by rfl)) (by rfl) (by rfl) (by rfl) (by rfl) (by rfl)) (by rfl))) (by intro _ ; rfl)) (@pss_one _ _ _ (@ps_ret _ _ _ _ (@pe_lst _ _ _ _ (@pa_cons _ _ _ _ _ (@pe_call _ _ _ _ _ _ _ _ _ _ _ _ _ _ _ _ (ok_d_l_turned T) (hr.mono (by decide)) rfl T.g_d_l_turned T.F_d_l_turned.kp T.b_d_l_turned .nil pass0 (@pa_cons _ _ _ _ _ (@pv _ 5 _ _ (by rfl) (by first | exact vis0 rfl | exact vis1 rfl | exact vis2 rfl) (by decide) (by decide)) (@pa_cons _ _ _ _ _ (@pe_call _ _ _ _ _ _ _ _ _ _ _ _ _ _ _ _ (ok_d_l_cell_at T) (hr.mono (by decide)) rfl T.g_d_l_cell_at T.F_d_l_cell_at.kp T.b_d_l_cell_at .nil pass0 (@pa_cons _ _ _ _ _ (@pv _ 0 _ _ (by rfl) (by first | exact vis0 rfl | exact vis1 rfl | exact vis2 rfl) (by decide) (by decide)) (@pa_cons _ _ _ _ _ (@pe_int _ _ _ _) (@pa_nil _) (by rfl)) (by rfl)) (by decide) (by rfl) (by rfl)) (@pa_nil _) (by rfl)) (by rfl)) (by decide) (by rfl) (by rfl)) (@pa_cons _ _ _ _ _ (@pv _ 6 _ _ (by rfl) (by first | exact vis0 rfl | exact vis1 rfl | exact vis2 rfl) (by decide) (by decide)) (@pa_cons _ _ _ _ _ (@pv _ 7 _ _ (by rfl) (by first | exact vis0 rfl | exact vis1 rfl | exact vis2 rfl) (by decide) (by decide)) (@pa_nil _) (by rfl)) (by rfl)) (by rfl)))))))))))), ?_⟩
    rw [show start n_d_l_scene [V.ref a, V.int 30] = [some (V.ref a), some (V.int 30), none, none, none, none, none, none, none] from rfl]
    try simp only [tSeq, tAsg, tCall, tCons, tVar, List.getElem?_cons_zero, tNil, List.append_nil, gName, tSl, List.set_cons_succ, List.set_cons_zero, tPart, tC, tOp, List.getElem?_cons_succ, tLst, tFor_eq, iList, exSlot, tComp_eq, iRng1, tCB, rAddA_int, exInt]
    refine ⟨a, ns, rfl, hS, hl, fun Pa pl H1 s1 hPn hP1 hp1 hp7 hpo => ?_⟩
    have hS1 : SqL K H1 a (ns.map V.int) := s1.seq hS
    refine .inr (.inl ⟨a, _, rfl, hS1, fun Ca hCa => ?_⟩)
    obtain ⟨cs, ecs, hcl⟩ := cut_3 ns
    rw [ecs]
    obtain ⟨H2, e2, s2, h2⟩ := newO hCa (.lst (cs.map V.int)); rw [e2]
    have hS2 : SqL K H2 a (ns.map V.int) := s2.seq hS1
    refine ⟨a, ns, 1, rfl, hS2, hl, by decide, by decide, fun c1 => ?_⟩
    try simp only [exRef, rI_int, CDiv, rEqH_int]
    refine ⟨by decide, by decide, rLenA_lst (SqL.of h2) ?_⟩
    rw [List.length_map]
    refine ⟨_, rfl, by omega, by omega, ?_⟩
    have hP2 := s2 _ _ hP1
    refine comp_1d src_range (Nat.le_trans (show (cs.length : Int).toNat ≤ 1000 by omega) (by decide)) [some (V.ref Pa), some (V.bl (decide (c1 / 12 % 2 = 1))), some (V.ref Ca)] rfl (fun D i v H' => ∃ r, RwT r ∧ RuD t D v r H') ?_ (fun _ _ => trivial) (fun D i H' R hi hDn s hD hR => ?_) (fun Ru H3 ys hRn s3 hR3 hyl hv => ?_)
    · rintro D i v Ha Hb up ⟨r, hr, p, dx, t0, e, n1, n2, g1, g2⟩
      exact ⟨r, hr, p, dx, t0, e, n1, n2, up _ _ n1 g1, up _ _ n2 g2⟩
    · obtain ⟨zs, hD⟩ := hD
      have hi' : i < cs.length := by omega
      obtain ⟨v, e, hv, _⟩ := atI_in (xs := cs.map V.int) (i := (0 + (i : Int))) (by omega) (by rw [List.length_map]; omega)
      obtain ⟨n, _, rfl⟩ := List.mem_map.mp hv
      try simp only [tCall, tCons, tVar, List.getElem?_cons_succ, List.getElem?_cons_zero, tOp, tNil, List.append_nil, exSlot]
      refine rIx_lst (SqL.of (s _ _ h2)) e ⟨Pa, n, _, _, pl, rfl, s _ _ hP2, hp1, hp7, hpo, by omega, fun x r H' s' hr hx => ?_⟩
      obtain ⟨dx, t0, f1, f2⟩ := hx
      have hD' := s' _ _ hD
      exact hR _ _ s' ⟨r, hr, x, dx, t0, rfl, ne_of f1 hD' (by intro z; cases z), ne_of f2 hD' (by intro z; cases z), f1, f2⟩
    obtain ⟨zr, ezr, hzw, hzt⟩ := zr_of hv
    have hzl : zr.length ≤ 30 := by rw [← ezr, List.length_map] at hyl; omega
    clear hv hyl
    subst ezr
    have hR : RulesL t H3 Ru zr := ⟨hR3, hzw, hzl, hzt⟩
    have hS3 : SqL K H3 a (ns.map V.int) := s3.seq hS2
    refine ⟨a, ns, 2, rfl, hS3, hl, by decide, by decide, fun c2 => ?_⟩
    refine ⟨Ru, c2, zr, rfl, hR, fun Pr ps prl H4 s4 hPrn hPr4 hprs hprl hpro => ?_⟩
    refine ⟨by decide, fun E hE => ?_⟩
    obtain ⟨H5, e5, s5, h5⟩ := newO hE (.lst []); rw [e5]
    have s25 := (s3.trans s4).trans s5
    have hP5 := s25 _ _ hP2
    refine ⟨⟨_, SqL.of hP5⟩, ?_⟩
    refine for_list (K := K) (a := Pa) (xs := pl.map V.str) (fun i σ H' => ∃ (ev : List Str) (x8 : Option V), σ = [some (V.ref a), some (V.int 30), some (V.ref Pa), some (V.ref Ca), some (V.bl (decide (c1 / 12 % 2 = 1))), some (V.ref Ru), some (V.ref Pr), some (V.ref E), x8] ∧ Same H4 H' ∧ H' E = some (.lst (ev.map V.str)) ∧ ev.length = 2 * i ∧ ∀ z ∈ ev, TxN 31 z)
      ⟨[], _, rfl, s5, h5, rfl, fun z hz => absurd hz List.not_mem_nil⟩ (fun i σ H' _ h => by obtain ⟨_, _, _, s, _⟩ := h; exact SqL.of (s _ _ (s4 _ _ (s3 _ _ hP2)))) ?_ ?_
    · rintro i v σ H6 hi ⟨ev, x8, rfl, s6, hE6, hel, heo⟩
      obtain ⟨hi', rfl⟩ := at_map hi
      have hz := hpo _ (List.getElem_mem hi')
      try simp only [gName, tDrop, tBM, tVar, List.set_cons_succ, List.set_cons_zero, List.getElem?_cons_succ, List.getElem?_cons_zero, tCons, tLst, tOp, tC, tNil, exSlot, rAddA_str]
      refine ⟨.inl ⟨rfl, _, SqL.of hE6⟩, ?_⟩
      refine ⟨Nat.le_trans (Nat.add_le_add (show (Str.ofString "-").length ≤ 1 by decide +kernel) hz.len) (by decide), (show 2 ≤ sizeLine by decide), fun Z hZ => ?_⟩
      obtain ⟨H7, e7, s7, h7⟩ := newO hZ (.lst [V.str pl[i], V.str (Str.ofString "-" ++ pl[i])]); rw [e7]
      refine ⟨E, Z, _, _, rfl, rfl, s7 _ _ hE6, h7, Nat.le_trans (show _ ≤ 1000 by rw [List.length_map]; simp; omega) (by decide), ?_⟩
      refine ⟨ev ++ [pl[i], "-" ++ pl[i]], _, rfl, fun b o e => by rw [upd_ne (ne_of_none e hE)]; exact s7 _ _ (s6 _ _ e), by rw [upd_same, List.map_append]; rfl, by simp; omega, fun z hz' => ?_⟩
      rcases List.mem_append.mp hz' with w | w
      · exact heo z w
      · rcases List.mem_cons.mp w with w | w
        · rw [w]; exact hz.up (by decide)
        · rw [List.mem_singleton.mp w]; exact hz.neg
    · rintro σ H6 ⟨ev, x8, rfl, s6, hE6, hel, heo⟩
      have s36 := s4.trans s6
      try simp only [tRet, tLst, tCons, tCall, tVar, List.getElem?_cons_succ, List.getElem?_cons_zero, tC, tNil, List.append_nil, exSlot]
      refine ⟨a, ns, 1, rfl, s36.seq hS3, hl, by decide, by decide, fun c3 => ?_⟩
      refine ⟨Ru, c3, zr, rfl, hR.same s36, fun T0 zr' H7 s7 hTn hT => ?_⟩
      refine ⟨(show 3 ≤ sizeLine by decide), fun Z hZ => ?_⟩
      obtain ⟨H8, e8, s8, h8⟩ := newO hZ (.lst [V.ref T0, V.ref Pr, V.ref E]); rw [e8]
      have s78 := s7.trans s8
      have s68 := s6.trans s78
      rw [List.length_map] at hel
      exact q Z T0 Pr E zr' ps prl ev H8 ((((s1.trans s2).trans s3).trans s4).trans s68) ⟨h8, hT.same s8, s68 _ _ hPr4, PrsAt.same s68 hprs, hpro, hprl, s78 _ _ hE6, heo, by omega⟩
theorem ok_d_law (T : Txt K mg t) : FnOk P w K mg base CX0 8 t.f_d_law t.fd_d_law ["_law_script"] (spLaw K) := by
  refine T.F_d_law.ok sc_d_law (fun vs H Q E h => ?_) (fun cdv A outer s H vs Q E hr h => ?_)
  · obtain ⟨a, ns, rfl, hS, hl, q⟩ := h; rfl
  · obtain ⟨a, ns, rfl, hS, hl, q⟩ := h
    refine ⟨_, (@pss_cons _ _ _ _ _ (@ps_set _ _ (1) _ _ _ _ sc_d_law.nd rfl (by first | exact Or.inl rfl | exact Or.inr rfl) (@pe_call _ _ _ _ _ _ _ _ _ _ _ _ _ _ _ _ (ok_d_l_scene T) (hr.mono (by decide)) rfl T.g_d_l_scene T.F_d_l_scene.kp T.b_d_l_scene .nil pass0 (@pa_cons _ _ _ _ _ (@pv _ 0 _ _ (by rfl) (by first | exact vis0 rfl | exact vis1 rfl | exact vis2 rfl) (by decide) (by decide)) (@pa_cons _ _ _ _ _ (@pe_int _ _ _ _) (@pa_nil _) (by rfl)) (by rfl)) (by decide) (by rfl) (by rfl)) (by rfl) (by first | exact Or.inl rfl | exact Or.inr rfl | assumption)) (@pss_cons _ _ _ _ _ (@ps_set _ _ (2) _ _ _ _ sc_d_law.nd rfl (by first | exact Or.inl rfl | exact Or.inr rfl) (@pe_make _ _ _ _ _ _ _ _ _ _ _ _ _ _ _ _ _ T.mk_Ground (ok_c_Ground_init T) (hr.mono (by decide)) rfl T.g_Ground T.b_c_Ground_init .nil pass0 (@pa_cons _ _ _ _ _ (@pe_callTy _ _ _ _ _ _ _ _ _ call_listOf rfl T.z_list boot_listT (@pa_cons _ _ _ _ _ (@pe_ix _ _ _ _ _ _ _ ix_seq (@pv _ 1 _ _ (by rfl) (by first | exact vis0 rfl | exact vis1 rfl | exact vis2 rfl) (by decide) (by decide)) (@pe_int _ _ _ _) (fun _ _ => rfl)) (@pa_nil _) (by rfl)) (by decide) (by decide) (by rfl) (by rfl)) (@pa_cons _ _ _ _ _ (@pe_callTy _ _ _ _ _ _ _ _ _ call_listOf rfl T.z_list boot_listT (@pa_cons _ _ _ _ _ (@pe_ix _ _ _ _ _ _ _ ix_seq (@pv _ 1 _ _ (by rfl) (by first | exact vis0 rfl | exact vis1 rfl | exact vis2 rfl) (by decide) (by decide)) (@pe_int _ _ _ _) (fun _ _ => rfl)) (@pa_nil _) (by rfl)) (by decide) (by decide) (by rfl) (by rfl)) (@pa_nil _) (by rfl)) (by rfl)) (by decide) (by rfl) (by rfl)) (by rfl) (by first | exact Or.inl rfl | exact Or.inr rfl | assumption)) (@pss_cons _ _ _ _ _ (@ps_set _ _ (3) _ _ _ _ sc_d_law.nd rfl (by first | exact Or.inl rfl | exact Or.inr rfl) (@pe_call _ _ _ _ _ _ _ _ _ _ _ _ _ _ _ _ (ok_d_l_cell_at T) (hr.mono (by decide)) rfl T.g_d_l_cell_at T.F_d_l_cell_at.kp T.b_d_l_cell_at .nil pass0 (@pa_cons _ _ _ _ _ (@pv _ 0 _ _ (by rfl) (by first | exact vis0 rfl | exact vis1 rfl | exact vis2 rfl) (by decide) (by decide)) (@pa_cons _ _ _ _ _ (@pe_int _ _ _ _) (@pa_nil _) (by rfl)) (by rfl)) (by decide) (by rfl) (by rfl)) (by rfl) (by first | exact Or.inl rfl | exact Or.inr rfl | assumption)) (@pss_cons _ _ _ _ _ (@ps_set _ _ (4) _ _ _ _ sc_d_law.nd rfl (by first | exact Or.inl rfl | exact Or.inr rfl) (@pe_lst _ _ _ _ (@pa_nil _)) (by rfl) (by first | exact Or.inl rfl | exact Or.inr rfl | assumption)) (@pss_cons _ _ _ _ _ (@ps_for _ _ _ _ _ _ _ _ PassesOwn.never rfl (@pi_list _ _ _ _ (@pe_ix _ _ _ _ _ _ _ ix_seq (@pv _ 1 _ _ (by rfl) (by first | exact vis0 rfl | exact vis1 rfl | exact vis2 rfl) (by decide) (by decide)) (@pe_int _ _ _ _) (fun _ _ => rfl))) (@pg_name _ _ (5) _ sc_d_law.nd rfl (by first | exact Or.inl rfl | exact Or.inr rfl) (by first | exact Or.inl rfl | exact Or.inr rfl | assumption)) (@pss_one _ _ _ (@ps_if _ _ _ _ _ _ _ _ (@pt_cmpR _ _ _ _ _ _ _ _ (op_eqH hr.units) (@pe_op _ _ _ _ _ _ _ _ op_mod (@pe_call _ _ _ _ _ _ _ _ _ _ _ _ _ _ _ _ (ok_d_l_mix T) (hr.mono (by decide)) rfl T.g_d_l_mix T.F_d_l_mix.kp T.b_d_l_mix .nil pass0 (@pa_cons _ _ _ _ _ (@pv _ 3 _ _ (by rfl) (by first | exact vis0 rfl | exact vis1 rfl | exact vis2 rfl) (by decide) (by decide)) (@pa_cons _ _ _ _ _ (@pe_op _ _ _ _ _ _ _ _ op_addA (@pe_callB _ _ _ _ _ _ _ _ _ call_lenA rfl T.z_len boot_lenT (@pa_cons _ _ _ _ _ (@pv _ 4 _ _ (by rfl) (by first | exact vis0 rfl | exact vis1 rfl | exact vis2 rfl) (by decide) (by decide)) (@pa_nil _) (by rfl)) (by decide) (by decide) (by rfl) (by rfl)) (@pe_callB _ _ _ _ _ _ _ _ _ call_lenA rfl T.z_len boot_lenT (@pa_cons _ _ _ _ _ (@pv _ 5 _ _ (by rfl) (by first | exact vis0 rfl | exact vis1 rfl | exact vis2 rfl) (by decide) (by decide)) (@pa_nil _) (by rfl)) (by decide) (by decide) (by rfl) (by rfl))) (@pa_nil _) (by rfl)) (by rfl)) (by decide) (by rfl) (by rfl)) (@pe_int _ _ _ _)) (@pe_int _ _ _ _) (nomark _)) (@pss_one _ _ _ (@ps_expr _ _ _ _ (@pe_bm _ _ _ _ _ _ _ _ _ _ _ _ PySem.F.plainAttrs_list PySem.F.slot_list_append PySem.F.type_list_append mt_append (@pv _ 4 _ _ (by rfl) (by first | exact vis0 rfl | exact vis1 rfl | exact vis2 rfl) (by decide) (by decide)) (@pa_cons _ _ _ _ _ (@pv _ 5 _ _ (by rfl) (by first | exact vis0 rfl | exact vis1 rfl | exact vis2 rfl) (by decide) (by decide)) (@pa_nil _) (by rfl)) (by rfl) (by rfl) (by rfl) (by rfl) (by rfl)) (by rfl))) (@pss_nil _))) (by intro _ ; rfl)) (@pss_cons _ _ _ _ _ (@ps_set _ _ (6) _ _ _ _ sc_d_law.nd rfl (by first | exact Or.inl rfl | exact Or.inr rfl) (@pe_lst _ _ _ _ (@pa_nil _)) (by rfl) (by first | exact Or.inl rfl | exact Or.inr rfl | assumption)) (@pss_cons _ _ _ _ _ (@ps_for _ _ _ _ _ _ _ _ PassesOwn.never rfl (@pi_range1 _ _ _ _ _ _ rfl T.z_range (@pa_cons _ _ _ _ _ (@pe_op _ _ _ _ _ _ _ _ op_mod (@pe_call _ _ _ _ _ _ _ _ _ _ _ _ _ _ _ _ (ok_d_l_cell_at T) (hr.mono (by decide)) rfl T.g_d_l_cell_at T.F_d_l_cell_at.kp T.b_d_l_cell_at .nil pass0 (@pa_cons _ _ _ _ _ (@pv _ 0 _ _ (by rfl) (by first | exact vis0 rfl | exact vis1 rfl | exact vis2 rfl) (by decide) (by decide)) (@pa_cons _ _ _ _ _ (@pe_int _ _ _ _) (@pa_nil _) (by rfl)) (by rfl)) (by decide) (by rfl) (by rfl)) (@pe_int _ _ _ _)) (@pa_nil _) (by rfl)) (by rfl)) (@pg_name _ _ (7) _ sc_d_law.nd rfl (by first | exact Or.inl rfl | exact Or.inr rfl) (by first | exact Or.inl rfl | exact Or.inr rfl | assumption)) (@pss_cons _ _ _ _ _ (@ps_set _ _ (8) _ _ _ _ sc_d_law.nd rfl (by first | exact Or.inl rfl | exact Or.inr rfl) (@pe_call _ _ _ _ _ _ _ _ _ _ _ _ _ _ _ _ (ok_d_l_mix T) (hr.mono (by decide)) rfl T.g_d_l_mix T.F_d_l_mix.kp T.b_d_l_mix .nil pass0 (@pa_cons _ _ _ _ _ (@pe_call _ _ _ _ _ _ _ _ _ _ _ _ _ _ _ _ (ok_d_l_cell_at T) (hr.mono (by decide)) rfl T.g_d_l_cell_at T.F_d_l_cell_at.kp T.b_d_l_cell_at .nil pass0 (@pa_cons _ _ _ _ _ (@pv _ 0 _ _ (by rfl) (by first | exact vis0 rfl | exact vis1 rfl | exact vis2 rfl) (by decide) (by decide)) (@pa_cons _ _ _ _ _ (@pe_int _ _ _ _) (@pa_nil _) (by rfl)) (by rfl)) (by decide) (by rfl) (by rfl)) (@pa_cons _ _ _ _ _ (@pv _ 7 _ _ (by rfl) (by first | exact vis0 rfl | exact vis1 rfl | exact vis2 rfl) (by decide) (by decide)) (@pa_nil _) (by rfl)) (by rfl)) (by decide) (by rfl) (by rfl)) (by rfl) (by first | exact Or.inl rfl | exact Or.inr rfl | assumption)) (@pss_one _ _ _ (@ps_expr _ _ _ _ (@pe_bm _ _ _ _ _ _ _ _ _ _ _ _ PySem.F.plainAttrs_list PySem.F.slot_list_append PySem.F.type_list_append mt_append (@pv _ 6 _ _ (by rfl) (by first | exact vis0 rfl | exact vis1 rfl | exact vis2 rfl) (by decide) (by decide)) (@pa_cons _ _ _ _ _ (@pe_tup _ _ _ _ _ (@pa_cons _ _ _ _ _ (@pe_ix _ _ _ _ _ _ _ ix_seq (@pe_lst _ _ _ _ (@pa_cons _ _ _ _ _ (@pe_str _ _ _ _) (@pa_cons _ _ _ _ _ (@pe_str _ _ _ _) (@pa_nil _) (by rfl)) (by rfl))) (@pe_op _ _ _ _ _ _ _ _ op_mod (@pv _ 8 _ _ (by rfl) (by first | exact vis0 rfl | exact vis1 rfl | exact vis2 rfl) (by decide) (by decide)) (@pe_int _ _ _ _)) (fun _ _ => rfl)) (@pa_cons _ _ _ _ _ (@pe_ix _ _ _ _ _ _ _ ix_seq (@pe_ix _ _ _ _ _ _ _ ix_seq (@pv _ 1 _ _ (by rfl) (by first | exact vis0 rfl | exact vis1 rfl | exact vis2 rfl) (by decide) (by decide)) (@pe_int _ _ _ _) (fun _ _ => rfl)) (@pe_op _ _ _ _ _ _ _ _ op_mod (@pe_op _ _ _ _ _ _ _ _ op_fdiv (@pv _ 8 _ _ (by rfl) (by first | exact vis0 rfl | exact vis1 rfl | exact vis2 rfl) (by decide) (by decide)) (@pe_int _ _ _ _)) (@pe_callB _ _ _ _ _ _ _ _ _ call_lenA rfl T.z_len boot_lenT (@pa_cons _ _ _ _ _ (@pe_ix _ _ _ _ _ _ _ ix_seq (@pv _ 1 _ _ (by rfl) (by first | exact vis0 rfl | exact vis1 rfl | exact vis2 rfl) (by decide) (by decide)) (@pe_int _ _ _ _) (fun _ _ => rfl)) (@pa_nil _) (by rfl)) (by decide) (by decide) (by rfl) (by rfl))) (fun _ _ => rfl)) (@pa_nil _) (by rfl)) (by rfl))) (@pa_nil _) (by rfl)) (by rfl) (by rfl) (by rfl) (by rfl) (by rfl)) (by rfl)))) (by intro _ ; rfl)) (@pss_mid _ _ _ _ _ (@ps_if _ _ _ _ _ _ _ _ (@PW.pt _ _ _ (@pw_or _ _ _ _ _ _ _ (@pt_not _ _ _ _ (@pt_val _ _ _ (@pe_call _ _ _ _ _ _ _ _ _ _ _ _ _ _ _ _ (ok_d_l_good T) (hr.mono (by decide)) rfl T.g_d_l_good T.F_d_l_good.kp T.b_d_l_good .nil pass0 (@pa_cons _ _ _ _ _ (@pv _ 2 _ _ (by rfl) (by first | exact vis0 rfl | exact vis1 rfl | exact vis2 rfl) (by decide) (by decide)) (@pa_cons _ _ _ _ _ (@pv _ 1 _ _ (by rfl) (by first | exact vis0 rfl | exact vis1 rfl | exact vis2 rfl) (by decide) (by decide)) (@pa_cons _ _ _ _ _ (@pv _ 4 _ _ (by rfl) (by first | exact vis0 rfl | exact vis1 rfl | exact vis2 rfl) (by decide) (by decide)) (@pa_cons _ _ _ _ _ (@pv _ 6 _ _ (by rfl) (by first | exact vis0 rfl | exact vis1 rfl | exact vis2 rfl) (by decide) (by decide)) (@pa_nil _) (by rfl)) (by rfl)) (by rfl)) (by rfl)) (by decide) (by rfl) (by rfl)) (by intro _ ; rfl))) (@pw_or1 _ _ _ _ (@pt_not _ _ _ _ (@pt_val _ _ _ (@pe_call _ _ _ _ _ _ _ _ _ _ _ _ _ _ _ _ (ok_d_l_good T) (hr.mono (by decide)) rfl T.g_d_l_good T.F_d_l_good.kp T.b_d_l_good .nil pass0 (@pa_cons _ _ _ _ _ (@pv _ 2 _ _ (by rfl) (by first | exact vis0 rfl | exact vis1 rfl | exact vis2 rfl) (by decide) (by decide)) (@pa_cons _ _ _ _ _ (@pv _ 1 _ _ (by rfl) (by first | exact vis0 rfl | exact vis1 rfl | exact vis2 rfl) (by decide) (by decide)) (@pa_cons _ _ _ _ _ (@pe_lst _ _ _ _ (@pa_nil _)) (@pa_cons _ _ _ _ _ (@pe_listRev _ _ _ _ _ _ _ rfl rfl T.z_list rfl T.z_reversed (@pv _ 6 _ _ (by rfl) (by first | exact vis0 rfl | exact vis1 rfl | exact vis2 rfl) (by decide) (by decide)) (by rfl) (by rfl)) (@pa_nil _) (by rfl)) (by rfl)) (by rfl)) (by rfl)) (by decide) (by rfl) (by rfl)) (by intro _ ; rfl)))))) (@pss_one _ _ _ (@ps_ret _ _ _ _ (@pe_bl _ _ _ _))) (@pss_nil _)) (@pss_cons _ _ _ _ _ (@ps_set _ _ (9) _ _ _ _ sc_d_law.nd rfl (by first | exact Or.inl rfl | exact Or.inr rfl) (@pe_callTy _ _ _ _ _ _ _ _ _ call_listOf rfl T.z_list boot_listT (@pa_cons _ _ _ _ _ (@pv _ 6 _ _ (by rfl) (by first | exact vis0 rfl | exact vis1 rfl | exact vis2 rfl) (by decide) (by decide)) (@pa_nil _) (by rfl)) (by decide) (by decide) (by rfl) (by rfl)) (by rfl) (by first | exact Or.inl rfl | exact Or.inr rfl | assumption)) (@pss_cons _ _ _ _ _ (@ps_expr _ _ _ _ (@pe_call _ _ _ _ _ _ _ _ _ _ _ _ _ _ _ _ (ok_d_follows T) (hr.mono (by decide)) rfl T.g_d_follows T.F_d_follows.kp T.b_d_follows .nil pass0 (@pa_cons _ _ _ _ _ (@pv _ 2 _ _ (by rfl) (by first | exact vis0 rfl | exact vis1 rfl | exact vis2 rfl) (by decide) (by decide)) (@pa_cons _ _ _ _ _ (@pv _ 4 _ _ (by rfl) (by first | exact vis0 rfl | exact vis1 rfl | exact vis2 rfl) (by decide) (by decide)) (@pa_cons _ _ _ _ _ (@pv _ 9 _ _ (by rfl) (by first | exact vis0 rfl | exact vis1 rfl | exact vis2 rfl) (by decide) (by decide)) (@pa_cons _ _ _ _ _ (@pe_tup _ _ _ _ _ (@pa_cons _ _ _ _ _ (@pe_str _ _ _ _) (@pa_cons _ _ _ _ _ (@pe_ix _ _ _ _ _ _ _ ix_seq (@pe_ix _ _ _ _ _ _ _ ix_seq (@pv _ 1 _ _ (by rfl) (by first | exact vis0 rfl | exact vis1 rfl | exact vis2 rfl) (by decide) (by decide)) (@pe_int _ _ _ _) (fun _ _ => rfl)) (@pe_int _ _ _ _) (fun _ _ => rfl)) (@pa_nil _) (by rfl)) (by rfl))) (@pa_nil _) (by rfl)) (by rfl)) (by rfl)) (by rfl)) (by decide) (by rfl) (by rfl)) (by rfl)) (@pss_one _ _ _ (@ps_ret _ _ _ _ (@pe_and _ _ _ _ _ _ _ (@pe_cmpR _ _ _ _ _ _ _ _ (op_eqH hr.units) (@pv _ 9 _ _ (by rfl) (by first | exact vis0 rfl | exact vis1 rfl | exact vis2 rfl) (by decide) (by decide)) (@pv _ 6 _ _ (by rfl) (by first | exact vis0 rfl | exact vis1 rfl | exact vis2 rfl) (by decide) (by decide)) (nomark _)) (@pe_one _ _ _ _ _ (@pe_call _ _ _ _ _ _ _ _ _ _ _ _ _ _ _ _ (ok_d_l_good T) (hr.mono (by decide)) rfl T.g_d_l_good T.F_d_l_good.kp T.b_d_l_good .nil pass0 (@pa_cons _ _ _ _ _ (@pv _ 2 _ _ (by rfl) (by first | exact vis0 rfl | exact vis1 rfl | exact vis2 rfl) (by decide) (by decide)) (@pa_cons _ _ _ _ _ (@pv _ 1 _ _ (by rfl) (by first | exact vis0 rfl | exact vis1 rfl | exact vis2 rfl) (by decide) (by decide)) (@pa_cons _ _ _ _ _ (@pv _ 4 _ _ (by rfl) (by first | exact vis0 rfl | exact vis1 rfl | exact vis2 rfl) (by decide) (by decide)) (@pa_cons _ _ _ _ _ (@pe_lst _ _ _ _ (@pa_nil _)) (@pa_nil _) (by rfl)) (by rfl)) (by rfl)) (by rfl)) (by decide) (by rfl) (by rfl)))))))))))))))), ?_⟩
    rw [show start n_d_law [V.ref a] = [some (V.ref a), none, none, none, none, none, none, none, none, none] from rfl]
    try simp only [tSeq, tAsg, tCall, tCons, tVar, List.getElem?_cons_zero, tC, tNil, List.append_nil, gName, tMake, tCB, tOp, List.set_cons_succ, List.set_cons_zero, List.getElem?_cons_succ, tLst, tFor_eq, iList, exSlot]
    refine ⟨a, ns, rfl, hS, hl, fun s T0 P0 E zr ps pl ev H1 s1 hs => ?_⟩
    have hS1 : SqL K H1 a (ns.map V.int) := s1.seq hS
    refine rIx_lst (SqL.of hs.s) rfl ⟨T0, _, rfl, .inl (SqL.of hs.r.1), fun Rl hRl => ?_⟩
    obtain ⟨H2, e2, s2, h2⟩ := newO hRl (.lst (zr.map (·.1))); rw [e2]
    refine rIx_lst (SqL.of (s2 _ _ hs.s)) rfl ⟨P0, _, rfl, .inl (SqL.of (s2 _ _ hs.p)), fun Pl hPl => ?_⟩
    obtain ⟨H3, e3, s3, h3⟩ := newO hPl (.lst ps); rw [e3]
    have s13 := s2.trans s3
    intro g dx ng ndx ne
    obtain ⟨s4, h4⟩ := newH (C := t.C_Ground) ng ndx
    obtain ⟨H4, e4⟩ : ∃ H4, upd (upd H3 dx (.own g)) g (.ins t.C_Ground dx []) = H4 := ⟨_, rfl⟩
    rw [e4] at s4 h4 ⊢
    have hU : RuAll t H1 (zr.map (·.1)) (zr.map (·.2)) := ⟨by simp, fun i r e => by
      rw [List.getElem?_map] at e
      obtain ⟨p, ep, rfl⟩ := Option.map_eq_some_iff.mp e
      exact ⟨p.1, by rw [List.getElem?_map, ep]; rfl, (hs.r.2.1 p (List.mem_of_getElem? ep)).1⟩⟩
    have s14 := s13.trans s4
    have hO : ∀ r ∈ zr.map (·.2), RwOk r := fun r hr => by
      obtain ⟨p, hp, rfl⟩ := List.mem_map.mp hr
      exact (hs.r.2.2.2 p hp).1
    have hrl := hs.r.2.2.1
    refine ⟨g, dx, Rl, Pl, _, _, ps, pl, rfl, h4, s4 _ _ (s3 _ _ h2), hU.same s14, hO, by rw [List.length_map]; omega, s4 _ _ h3, PrsAt.same s14 hs.prs, by have := hs.pn; omega, fun H5 k5 hG5 => ⟨rfl, ?_⟩⟩
    have s35 : Same H3 H5 := fun b o e => k5 b o (s4 _ _ e) (ne_of_none e ng)
    have s15 := s13.trans s35
    have hS5 : SqL K H5 a (ns.map V.int) := s15.seq hS1
    have hs5 := hs.same s15
    refine ⟨a, ns, 33, rfl, hS5, hl, by decide, by decide, fun c => ?_⟩
    refine ⟨by decide, fun Su hSu => ?_⟩
    obtain ⟨H6, e6, s6, h6⟩ := newO hSu (.lst []); rw [e6]
    have hs6 := hs5.same s6
    refine rIx_lst (SqL.of hs6.s) rfl ⟨E, rfl, ⟨_, SqL.of hs6.e⟩, ?_⟩
    refine for_list (K := K) (a := E) (xs := ev.map V.str) (fun i σ H' => ∃ (S : List Str) (x5 : Option V), σ = [some (V.ref a), some (V.ref s), some (V.ref g), some (V.int c), some (V.ref Su), x5, none, none, none, none] ∧ Same H5 H' ∧ H' Su = some (.lst (S.map V.str)) ∧ S.length ≤ i)
      ⟨[], _, rfl, s6, h6, Nat.le_refl _⟩ (fun i σ H' _ h => by obtain ⟨_, _, _, s, _⟩ := h; exact SqL.of (s _ _ hs5.e)) ?_ ?_
    · rintro i v σ H7 hi ⟨S, x5, rfl, s7, hS7, hSl⟩
      obtain ⟨hi', rfl⟩ := at_map hi
      have hz := hs.eo _ (List.getElem_mem hi')
      have hil : i < 14 := by have := hs.en.2; omega
      generalize ev[i] = z at hz
      try simp only [gName, tIfS, tTest, tOp, tCall, tCons, tVar, List.set_cons_succ, List.set_cons_zero, List.getElem?_cons_succ, List.getElem?_cons_zero, tCB, tNil, List.append_nil, tC, tDrop, tBM, exSlot, tNext, rLenA_str]
      refine rLenA_lst (SqL.of hS7) ⟨short_le (Nat.le_trans hz.len (by decide)), ?_⟩
      try simp only [rAddA_int, spMix_at, rI_int, rEqH_int, exBl, decide_eq_true_eq]
      intro r hr'
      refine ⟨by decide, ite2 (fun _ => ?_) (fun _ => ⟨S, _, rfl, s7, hS7, by omega⟩)⟩
      refine ⟨.inl ⟨rfl, _, SqL.of hS7⟩, Su, _, _, rfl, rfl, hS7, Nat.lt_of_le_of_lt (show _ ≤ 1000 by rw [List.length_map]; omega) (by decide), S ++ [z], _, rfl, fun b o e => by rw [upd_ne (ne_of_none e hSu)]; exact s7 _ _ e, by rw [upd_same, List.map_append]; rfl, by simp; omega⟩
    rintro σ H7 ⟨S, x5, rfl, s7, hS7, hSl⟩
    try simp only [tSeq, tAsg, tLst, tNil, gName, List.set_cons_succ, List.set_cons_zero, tFor_eq, iRng1, tCons, tOp, tCall, tVar, List.getElem?_cons_zero, tC, List.append_nil, exSlot]
    refine ⟨by decide, fun Rw hRw => ?_⟩
    obtain ⟨H8, e8, s8, h8⟩ := newO hRw (.lst []); rw [e8]
    have s58 := s7.trans s8
    refine ⟨a, ns, 34, rfl, s58.seq hS5, hl, by decide, by decide, fun c34 => ?_⟩
    have m14 := mod_lt' (i := c34) (j := 14) (by decide)
    try simp only [rI_int]
    refine ⟨by decide, _, rfl, by omega, by omega, ?_⟩
    have hen := hs.en
    have inv0 : PrsAt H8 [] [] := ⟨[], rfl, rfl, fun i a p e => by cases e⟩
    have hs7 := hs5.same s7
    refine for_range (n := (c34 % 14).toNat) (lo := 0) (fun i σ H' => ∃ (qs : List V) (rl : List (Str × Str)) (x7 x8 : Option V), σ = [some (V.ref a), some (V.ref s), some (V.ref g), some (V.int c), some (V.ref Su), x5, some (V.ref Rw), x7, x8, none] ∧ Same H7 H' ∧ H' Rw = some (.lst qs) ∧ PrsAt H' qs rl ∧ rl.length = i ∧ PlOk rl)
      ⟨[], [], _, _, rfl, s8, h8, inv0, rfl, fun p hp => absurd hp List.not_mem_nil⟩ ?_ ?_
    · rintro i σ H9 hi ⟨qs, rl, x7, x8, rfl, s9, hR9, hps, hrl9, hpo⟩
      have hpn := PrsAt.len hps
      have hs9 := hs7.same s9
      try simp only [gName, tSeq, tAsg, tCall, tCons, tVar, List.set_cons_succ, List.set_cons_zero, List.getElem?_cons_zero, tC, tNil, List.append_nil, List.getElem?_cons_succ, tDrop, tBM, tTup, tOp, tLst, tCB, exSlot]
      refine ⟨a, ns, 35, rfl, (s7.trans s9).seq hS5, hl, by decide, by decide, fun c35 => ?_⟩
      try simp only [spMix_at, rI_int, CDiv]
      intro r hr'
      refine ⟨.inl ⟨rfl, _, SqL.of hR9⟩, (show 2 ≤ sizeLine by decide), fun W hW => ?_⟩
      obtain ⟨H10, e10, s10, h10⟩ := newO hW (.lst [V.str (Str.ofString "held"), V.str (Str.ofString "refused")]); rw [e10]
      have m2 := mod_lt' (i := r) (j := 2) (by decide)
      obtain ⟨vw, ew, hvw, _⟩ := atI_in (xs := [V.str (Str.ofString "held"), V.str (Str.ofString "refused")]) m2.1 m2.2
      obtain ⟨ww, rfl, hww⟩ : ∃ ww : Str, vw = V.str ww ∧ PyData.strOk ww = true := by
        simp only [List.mem_cons, List.not_mem_nil, or_false] at hvw
        rcases hvw with rfl | rfl <;> exact ⟨_, rfl, by decide +kernel⟩
      refine ⟨by decide, rIx_lst (SqL.of h10) ew ?_⟩
      have hs10 := hs9.same s10
      refine rIx_lst (SqL.of hs10.s) rfl ⟨by decide, rIx_lst (SqL.of hs10.s) rfl (rLenA_lst (SqL.of hs10.e) ?_)⟩
      rw [List.length_map]
      try simp only [rI_int]
      have me := mod_lt' (i := r / 2) (j := (ev.length : Int)) (by omega)
      obtain ⟨ve, ee, hve, _⟩ := atI_in (xs := ev.map V.str) (i := r / 2 % (ev.length : Int)) me.1 (by rw [List.length_map]; exact me.2)
      obtain ⟨ze, hze, rfl⟩ := List.mem_map.mp hve
      refine ⟨by omega, rIx_lst (SqL.of hs10.e) ee ⟨(show 2 ≤ sizeLine by decide), fun Z hZ => ?_⟩⟩
      obtain ⟨H11, e11, s11, h11⟩ := newO hZ (.tup [V.str ww, V.str ze]); rw [e11]
      have s9b := s10.trans s11
      have hR11 := s9b _ _ hR9
      refine ⟨Rw, _, _, rfl, rfl, hR11, Nat.lt_of_le_of_lt (show qs.length ≤ 1000 by omega) (by decide), ?_⟩
      have hZR : Z ≠ Rw := fun z => by rw [z, s10 _ _ hR9] at hZ; cases hZ
      have hps4 : PrsAt (upd H11 Rw (.lst (qs ++ [V.ref Z]))) qs rl := prs_mono (PrsAt.same s9b hps) ⟨_, hR11⟩ fun b o hb e => by rw [upd_ne hb]; exact e
      refine ⟨qs ++ [V.ref Z], rl ++ [(ww, ze)], _, _, rfl, fun b o e => by rw [upd_ne (ne_of_none e hRw)]; exact s9b _ _ (s9 _ _ e), upd_same, prs_snoc hps4 (by rw [upd_ne hZR]; exact h11), by rw [List.length_append, hrl9]; rfl, fun p hp => ?_⟩
      rcases List.mem_append.mp hp with z | z
      · exact hpo p z
      · rw [List.mem_singleton.mp z]; exact ⟨hww, ((hs.eo ze hze).ok (by decide)).1⟩
    rintro σ H9 ⟨qs, rl, x7, x8, rfl, s9, hR9, hps, hrl9, hpo⟩
    have hpn := PrsAt.len hps
    have s59 := s7.trans s9
    have hs9 := hs7.same s9
    have hG9 := hG5.same s59
    have hS9 := s9 _ _ hS7
    refine ⟨fun σ' H' => Same H9 H' ∧ σ' = [some (V.ref a), some (V.ref s), some (V.ref g), some (V.int c), some (V.ref Su), x5, some (V.ref Rw), x7, x8, none], ?_, ?_⟩
    · try simp only [tIfS, tOr, tNot, tB, tCall, tCons, tVar, List.getElem?_cons_succ, List.getElem?_cons_zero, tNil, List.append_nil, Bool.not_eq_true', tRet, tC, tNext, tLst, exSlot]
      refine ⟨g, s, T0, P0, E, Su, Rw, zr, ps, pl, ev, S, qs, rl, rfl, hG9, hs9, hS9, hR9, hps, by omega, fun H10 s10 => ?_⟩
      try simp only [exBl, ite_tf]
      refine ⟨by decide, fun N hN => ?_⟩
      obtain ⟨H11, e11, s11, h11⟩ := newO hN (.lst ([].map V.str))
      have e11' : upd H10 N (.lst []) = H11 := e11
      rw [e11']
      have s9b := s10.trans s11
      refine ⟨V.ref Rw, rfl, Rw, _, rfl, SqL.of (s9b _ _ hR9), fun Rv hRv => ?_⟩
      obtain ⟨H12, e12, s12, h12⟩ := newO hRv (.lst qs.reverse); rw [e12]
      have s9c := s9b.trans s12
      refine ⟨g, s, T0, P0, E, N, Rv, zr, ps, pl, ev, [], qs.reverse, rl.reverse, rfl, hG9.same s9c, hs9.same s9c, s12 _ _ h11, h12, PrsAt.rev (PrsAt.same s9c hps), by rw [List.length_reverse]; omega, fun H13 s13' => ?_⟩
      try simp only [exBl, ite_tf]
      exact ⟨s9c.trans s13', by trivial⟩
    rintro σ' H10 ⟨s10, rfl⟩
    try simp only [tSeq, tAsg, tCB, tCons, tVar, List.getElem?_cons_succ, List.getElem?_cons_zero, tNil, gName, tDrop, tCall, List.set_cons_succ, List.set_cons_zero, tTup, tC, tOp, List.append_nil, tRet, tAndV, tLst, exSlot]
    have s09 := s10
    refine ⟨Rw, _, rfl, .inl (SqL.of (s10 _ _ hR9)), fun Hd hHd => ?_⟩
    obtain ⟨H11, e11, s11, h11⟩ := newO hHd (.lst qs); rw [e11]
    have s9b := s10.trans s11
    have hsb := hs9.same s9b
    obtain ⟨z0, er, eev⟩ : ∃ z0 er, ev = z0 :: er := by
      cases ev with
      | nil => simp at hen
      | cons z0 er => exact ⟨z0, er, rfl⟩
    refine rIx_lst (SqL.of hsb.s) rfl (rIx_lst (v := V.str z0) (SqL.of hsb.e) (by rw [eev]; exact at_head _ _) ⟨(show 2 ≤ sizeLine by decide), fun Z hZ => ?_⟩)
    obtain ⟨H12, e12, s12, h12⟩ := newO hZ (.tup [V.str (Str.ofString "held"), V.str z0]); rw [e12]
    have s9c := s9b.trans s12
    have hz0 := hs.eo z0 (by rw [eev]; exact List.mem_cons_self)
    refine ⟨g, Hd, Z, _, _, pl, rl, qs, S, true, z0, rfl, hG9.same s9c, hO, by rw [List.length_map]; omega, .inl ⟨Su, rfl, s9c _ _ hS9⟩, s12 _ _ h11, PrsAt.same s9c hps, by omega, h12, Nat.le_trans hz0.len (by decide), fun H13 s13' => ?_⟩
    have s9d := s9c.trans s13'
    refine rEqD_same (.lst (SqL.of ((s12.trans s13') _ _ h11)) (denPrs (PrsAt.same s9d hps))) (.lst (SqL.of (s9d _ _ hR9)) (denPrs (PrsAt.same s9d hps))) (shapedP hpo) ⟨true, rfl, ?_⟩
    rw [if_pos rfl]
    refine ⟨by decide, fun N hN => ?_⟩
    obtain ⟨H14, e14, s14', h14⟩ := newO hN (.lst []); rw [e14]
    have s9e := s9d.trans s14'
    exact ⟨g, s, T0, P0, E, Su, N, zr, ps, pl, ev, S, [], [], rfl, hG9.same s9e, hs9.same s9e, s9e _ _ hS9, h14, ⟨[], rfl, rfl, fun i a p e => by cases e⟩, by decide, fun H15 _ => q _⟩
end
end K51
open PySem PySem.W PyProof.Rows
namespace K51
open PySem PySem.W L2
noncomputable section
abbrev kE (P : Params) (x : String) (t : Nat) (v : Value) : DictEntry := ⟨PyData.keyHash P x, .str x t, v⟩
abbrev kC (n q : String) (s : Stmt) : Obj := ⟨.none, none, (.func ⟨n, q, defArgs s, .stmts (defBody s), defScope s, 0, [], .none, .none, .none, .none, none, .none, .none, 0⟩), #[]⟩
def o0 (P : Params) : Obj := ⟨(.type "dict"), none, (.dict #[kE P "__name__" 1 (.str "builtins" 160), kE P "__doc__" 2 (.builtin "builtins.__doc__:str#opaque"), kE P "__package__" 3 (.builtin "builtins.__package__:str#opaque"), kE P "__loader__" 4 (.builtin "builtins.__loader__:shared#opaque"), kE P "__spec__" 5 (.builtin "builtins.__spec__#opaque"), kE P "__build_class__" 6 (.builtin "__build_class__"), kE P "__import__" 7 (.builtin "__import__"), kE P "abs" 8 (.builtin "abs"), kE P "all" 9 (.builtin "all"), kE P "any" 10 (.builtin "any"), kE P "ascii" 11 (.builtin "ascii"), kE P "bin" 12 (.builtin "bin"), kE P "breakpoint" 13 (.builtin "breakpoint"), kE P "callable" 14 (.builtin "callable"), kE P "chr" 15 (.builtin "chr"), kE P "compile" 16 (.builtin "compile"), kE P "delattr" 17 (.builtin "delattr"), kE P "dir" 18 (.builtin "dir"), kE P "divmod" 19 (.builtin "divmod"), kE P "eval" 20 (.builtin "eval"), kE P "exec" 21 (.builtin "exec"), kE P "format" 22 (.builtin "format"), kE P "getattr" 23 (.builtin "getattr"), kE P "globals" 24 (.builtin "globals"), kE P "hasattr" 25 (.builtin "hasattr"), kE P "hash" 26 (.builtin "hash"), kE P "hex" 27 (.builtin "hex"), kE P "id" 28 (.builtin "id"), kE P "input" 29 (.builtin "input"), kE P "isinstance" 30 (.builtin "isinstance"), kE P "issubclass" 31 (.builtin "issubclass"), kE P "iter" 32 (.builtin "iter"), kE P "aiter" 33 (.builtin "aiter"), kE P "len" 34 (.builtin "len"), kE P "locals" 35 (.builtin "locals"), kE P "max" 36 (.builtin "max"), kE P "min" 37 (.builtin "min"), kE P "next" 38 (.builtin "next"), kE P "anext" 39 (.builtin "anext"), kE P "oct" 40 (.builtin "oct"), kE P "ord" 41 (.builtin "ord"), kE P "pow" 42 (.builtin "pow"), kE P "print" 43 (.builtin "print"), kE P "repr" 44 (.builtin "repr"), kE P "round" 45 (.builtin "round"), kE P "setattr" 46 (.builtin "setattr"), kE P "sorted" 47 (.builtin "sorted"), kE P "sum" 48 (.builtin "sum"), kE P "vars" 49 (.builtin "vars"), kE P "None" 50 .none, kE P "Ellipsis" 51 .ellipsis, kE P "NotImplemented" 52 .notImplemented, kE P "False" 53 (.bool false), kE P "True" 54 (.bool true), kE P "bool" 55 (.type "bool"), kE P "memoryview" 56 (.type "memoryview"), kE P "bytearray" 57 (.type "bytearray"), kE P "bytes" 58 (.type "bytes"), kE P "classmethod" 59 (.type "classmethod"), kE P "complex" 60 (.type "complex"), kE P "dict" 61 (.type "dict"), kE P "enumerate" 62 (.type "enumerate"), kE P "filter" 63 (.type "filter"), kE P "float" 64 (.type "float"), kE P "frozenset" 65 (.type "frozenset"), kE P "property" 66 (.type "property"), kE P "int" 67 (.type "int"), kE P "list" 68 (.type "list"), kE P "map" 69 (.type "map"), kE P "object" 70 (.type "object"), kE P "range" 71 (.type "range"), kE P "reversed" 72 (.type "reversed"), kE P "set" 73 (.type "set"), kE P "slice" 74 (.type "slice"), kE P "staticmethod" 75 (.type "staticmethod"), kE P "str" 76 (.type "str"), kE P "super" 77 (.type "super"), kE P "tuple" 78 (.type "tuple"), kE P "type" 79 (.type "type"), kE P "zip" 80 (.type "zip"), kE P "__debug__" 81 (.bool true), kE P "BaseException" 82 (.type "BaseException"), kE P "BaseExceptionGroup" 83 (.type "BaseExceptionGroup"), kE P "Exception" 84 (.type "Exception"), kE P "GeneratorExit" 85 (.type "GeneratorExit"), kE P "KeyboardInterrupt" 86 (.type "KeyboardInterrupt"), kE P "SystemExit" 87 (.type "SystemExit"), kE P "ArithmeticError" 88 (.type "ArithmeticError"), kE P "AssertionError" 89 (.type "AssertionError"), kE P "AttributeError" 90 (.type "AttributeError"), kE P "BufferError" 91 (.type "BufferError"), kE P "EOFError" 92 (.type "EOFError"), kE P "ImportError" 93 (.type "ImportError"), kE P "LookupError" 94 (.type "LookupError"), kE P "MemoryError" 95 (.type "MemoryError"), kE P "NameError" 96 (.type "NameError"), kE P "OSError" 97 (.type "OSError"), kE P "ReferenceError" 98 (.type "ReferenceError"), kE P "RuntimeError" 99 (.type "RuntimeError"), kE P "StopAsyncIteration" 100 (.type "StopAsyncIteration"), kE P "StopIteration" 101 (.type "StopIteration"), kE P "SyntaxError" 102 (.type "SyntaxError"), kE P "SystemError" 103 (.type "SystemError"), kE P "TypeError" 104 (.type "TypeError"), kE P "ValueError" 105 (.type "ValueError"), kE P "Warning" 106 (.type "Warning"), kE P "FloatingPointError" 107 (.type "FloatingPointError"), kE P "OverflowError" 108 (.type "OverflowError"), kE P "ZeroDivisionError" 109 (.type "ZeroDivisionError"), kE P "BytesWarning" 110 (.type "BytesWarning"), kE P "DeprecationWarning" 111 (.type "DeprecationWarning"), kE P "EncodingWarning" 112 (.type "EncodingWarning"), kE P "FutureWarning" 113 (.type "FutureWarning"), kE P "ImportWarning" 114 (.type "ImportWarning"), kE P "PendingDeprecationWarning" 115 (.type "PendingDeprecationWarning"), kE P "ResourceWarning" 116 (.type "ResourceWarning"), kE P "RuntimeWarning" 117 (.type "RuntimeWarning"), kE P "SyntaxWarning" 118 (.type "SyntaxWarning"), kE P "UnicodeWarning" 119 (.type "UnicodeWarning"), kE P "UserWarning" 120 (.type "UserWarning"), kE P "BlockingIOError" 121 (.type "BlockingIOError"), kE P "ChildProcessError" 122 (.type "ChildProcessError"), kE P "ConnectionError" 123 (.type "ConnectionError"), kE P "FileExistsError" 124 (.type "FileExistsError"), kE P "FileNotFoundError" 125 (.type "FileNotFoundError"), kE P "InterruptedError" 126 (.type "InterruptedError"), kE P "IsADirectoryError" 127 (.type "IsADirectoryError"), kE P "NotADirectoryError" 128 (.type "NotADirectoryError"), kE P "PermissionError" 129 (.type "PermissionError"), kE P "ProcessLookupError" 130 (.type "ProcessLookupError"), kE P "TimeoutError" 131 (.type "TimeoutError"), kE P "IndentationError" 132 (.type "IndentationError"), kE P "_IncompleteInputError" 133 (.type "_IncompleteInputError"), kE P "IndexError" 134 (.type "IndexError"), kE P "KeyError" 135 (.type "KeyError"), kE P "ModuleNotFoundError" 136 (.type "ModuleNotFoundError"), kE P "NotImplementedError" 137 (.type "NotImplementedError"), kE P "PythonFinalizationError" 138 (.type "PythonFinalizationError"), kE P "RecursionError" 139 (.type "RecursionError"), kE P "UnboundLocalError" 140 (.type "UnboundLocalError"), kE P "UnicodeError" 141 (.type "UnicodeError"), kE P "BrokenPipeError" 142 (.type "BrokenPipeError"), kE P "ConnectionAbortedError" 143 (.type "ConnectionAbortedError"), kE P "ConnectionRefusedError" 144 (.type "ConnectionRefusedError"), kE P "ConnectionResetError" 145 (.type "ConnectionResetError"), kE P "TabError" 146 (.type "TabError"), kE P "UnicodeDecodeError" 147 (.type "UnicodeDecodeError"), kE P "UnicodeEncodeError" 148 (.type "UnicodeEncodeError"), kE P "UnicodeTranslateError" 149 (.type "UnicodeTranslateError"), kE P "ExceptionGroup" 150 (.type "ExceptionGroup"), kE P "EnvironmentError" 151 (.type "OSError"), kE P "IOError" 152 (.type "OSError"), kE P "open" 153 (.builtin "open"), kE P "quit" 154 (.builtin "builtins.quit#opaque"), kE P "exit" 155 (.builtin "builtins.exit#opaque"), kE P "copyright" 156 (.builtin "builtins.copyright#opaque"), kE P "credits" 157 (.builtin "builtins.credits#opaque"), kE P "license" 158 (.builtin "builtins.license#opaque"), kE P "help" 159 (.builtin "builtins.help#opaque")] 159), #[]⟩
def o1 (P : Params) : Obj := ⟨(.type "dict"), none, (.dict #[kE P "builtins" 162 (.ref 4), kE P "__main__" 163 (.ref 5)] 2), #[]⟩
def o2 (P : Params) : Obj := ⟨.none, none, (.dict #[] 0), #[]⟩
def o3 (P : Params) : Obj := ⟨(.type "dict"), none, (.dict #[kE P "__name__" 165 (.str "law_mostwise_k51_what_follows" 614), kE P "__doc__" 166 .none, kE P "__package__" 167 .none, kE P "__loader__" 168 (.builtin "__main__.__loader__#opaque"), kE P "__spec__" 169 .none, kE P "__annotations__" 170 (.ref 6), kE P "__builtins__" 171 (.ref 4), kE P "__file__" 173 (.str "/claim/cut.py" 172), kE P "__cached__" 174 .none, kE P "_wall" 193 (.ref 21), kE P "keyed" 204 (.ref 28), kE P "all_among" 210 (.ref 33), kE P "any_among" 216 (.ref 38), kE P "opposite" 225 (.ref 45), kE P "HELD" 229 (.str "held" 228), kE P "REFUSED" 231 (.str "refused" 230), kE P "is_beaten" 237 (.ref 50), kE P "holds_by" 243 (.ref 55), kE P "refused_by" 249 (.ref 60), kE P "with_word" 257 (.ref 65), kE P "follows" 269 (.ref 72), kE P "Rule" 357 (.ref 138), kE P "Fact" 411 (.ref 187), kE P "Sure" 450 (.ref 220), kE P "Most" 482 (.ref 246), kE P "Block" 521 (.ref 279), kE P "Ground" 613 (.ref 345), kE P "_law_cell_at" 623 (.ref 356), kE P "_law_mix" 632 (.ref 363), kE P "_law_words" 638 (.ref 368), kE P "_law_opposed" 645 (.ref 375), kE P "_law_pool" 655 (.ref 382), kE P "_law_drawn" 664 (.ref 389), kE P "_law_numbers" 677 (.ref 396), kE P "_law_rule" 683 (.ref 401), kE P "_law_pairs" 695 (.ref 408), kE P "_law_turned" 703 (.ref 415), kE P "_law_scene" 709 (.ref 420), kE P "_law_firm" 716 (.ref 427), kE P "_law_stands" 725 (.ref 434), kE P "_law_falls" 734 (.ref 441), kE P "_law_speaking" 740 (.ref 446), kE P "_law_against" 746 (.ref 451), kE P "_law_beaten" 756 (.ref 458), kE P "_law_may_hold" 762 (.ref 463), kE P "_law_may_refuse" 768 (.ref 468), kE P "_law_good" 774 (.ref 473), kE P "law" 790 (.ref 480)] 48), #[]⟩
def o4 (P : Params) : Obj := ⟨(.type "module"), (some 0), .plain, #[]⟩
def o5 (P : Params) : Obj := ⟨(.type "module"), (some 3), .plain, #[]⟩
def o6 (P : Params) : Obj := ⟨(.type "dict"), none, (.dict #[] 0), #[]⟩
def o7 (P : Params) : Obj := ⟨(.type "tuple"), none, (.seq #[] 0), #[]⟩
def o8 (P : Params) : Obj := ⟨.none, none, (.fields #[]), #[]⟩
def o9 (P : Params) : Obj := ⟨(.type "code"), none, (.fields #[(.str "<module>" 176), (.str "<module>" 177), (.str "/claim/cut.py" 178), (.int (1) 0), (.int (0) 0), (.int (0) 0), (.int (0) 0), (.int (0) 0), (.ref 7), (.bool false), (.int (175) 0), (.ref 8), .none, .none, .none, .none, (.int (179) 0), (.int (1) 0), (.str "/claim/cut.py" 180)]), #[]⟩
def o10 (P : Params) : Obj := ⟨(.type "frame"), none, .plain, #[(some (.ref 9)), (some (.ref 3)), (some (.ref 3)), none, (some (.str "__main__" 164)), none, (some (.ref 0))]⟩
def o11 (P : Params) : Obj := ⟨(.type "tuple"), none, (.seq #[] 0), #[]⟩
def o12 (P : Params) : Obj := ⟨.none, none, (.fields #[(.int (1) 0), (.int (0) 0), (.ref 20), (.int (5) 0), (.int (0) 0), (.ref 27), (.int (10) 0), (.int (0) 0), (.ref 32), (.int (12) 0), (.int (0) 0), (.ref 37), (.int (15) 0), (.int (0) 0), (.ref 44), (.int (20) 0), (.int (0) 0), (.ref 49), (.int (22) 0), (.int (0) 0), (.ref 54), (.int (29) 0), (.int (0) 0), (.ref 59), (.int (37) 0), (.int (0) 0), (.ref 64), (.int (39) 0), (.int (0) 0), (.ref 71), (.int (48) 0), (.int (0) 0), (.ref 78), (.int (78) 0), (.int (0) 0), (.ref 148), (.int (94) 0), (.int (0) 0), (.ref 195), (.int (104) 0), (.int (0) 0), (.ref 228), (.int (111) 0), (.int (0) 0), (.ref 254), (.int (122) 0), (.int (0) 0), (.ref 287), (.int (159) 0), (.int (0) 0), (.ref 355), (.int (163) 0), (.int (0) 0), (.ref 362), (.int (168) 0), (.int (0) 0), (.ref 367), (.int (182) 0), (.int (0) 0), (.ref 374), (.int (186) 0), (.int (0) 0), (.ref 381), (.int (192) 0), (.int (0) 0), (.ref 388), (.int (197) 0), (.int (0) 0), (.ref 395), (.int (207) 0), (.int (0) 0), (.ref 400), (.int (219) 0), (.int (0) 0), (.ref 407), (.int (228) 0), (.int (0) 0), (.ref 414), (.int (232) 0), (.int (0) 0), (.ref 419), (.int (242) 0), (.int (0) 0), (.ref 426), (.int (244) 0), (.int (0) 0), (.ref 433), (.int (249) 0), (.int (0) 0), (.ref 440), (.int (254) 0), (.int (0) 0), (.ref 445), (.int (256) 0), (.int (0) 0), (.ref 450), (.int (258) 0), (.int (0) 0), (.ref 457), (.int (263) 0), (.int (0) 0), (.ref 462), (.int (273) 0), (.int (0) 0), (.ref 467), (.int (283) 0), (.int (0) 0), (.ref 472), (.int (294) 0), (.int (0) 0), (.ref 479)]), #[]⟩
def o13 (P : Params) : Obj := ⟨(.type "code"), none, (.fields #[(.str "<module>" 182), (.str "<module>" 183), (.str "/claim/cut.py" 184), (.int (1) 0), (.int (0) 0), (.int (0) 0), (.int (0) 0), (.int (0) 0), (.ref 11), (.bool false), (.int (181) 0), (.ref 12), .none, .none, .none, .none, (.int (185) 0), (.int (1) 0), (.str "/claim/cut.py" 186)]), #[]⟩
def o14 (P : Params) : Obj := ⟨(.type "frame"), none, .plain, #[(some (.ref 13)), (some (.ref 3)), (some (.ref 3)), none, (some (.str "__main__" 164)), none, (some (.ref 0))]⟩
def o15 (P : Params) : Obj := ⟨(.type "tuple"), none, (.seq #[] 0), #[]⟩
def o16 (P : Params) : Obj := ⟨.none, none, (.fields #[]), #[]⟩
def o17 (P : Params) : Obj := ⟨(.type "tuple"), none, (.seq #[(.str "k" 190)] 0), #[]⟩
def o18 (P : Params) : Obj := ⟨(.type "tuple"), none, (.seq #[] 0), #[]⟩
def o19 (P : Params) : Obj := kC "_wall" "_wall" (top 0)
def o20 (P : Params) : Obj := ⟨(.type "code"), none, (.fields #[(.str "_wall" 187), (.str "_wall" 188), (.str "/claim/cut.py" 189), (.int (1) 0), (.int (1) 0), (.int (0) 0), (.int (0) 0), (.int (3) 0), (.ref 15), (.bool true), (.int (181) 0), (.ref 16), .none, (.ref 17), (.ref 18), (.ref 19), (.int (191) 0), (.int (1) 0), (.str "/claim/cut.py" 192)]), #[]⟩
def o21 (P : Params) : Obj := ⟨(.type "function"), none, (.func (PySem.W.fnOf "_wall" "_wall" (defArgs (top 0)) (defBody (top 0)) (defScope (top 0)) .none .none .none (.str "__main__" 164) none (.ref 20) .none)), #[]⟩
def o22 (P : Params) : Obj := ⟨(.type "tuple"), none, (.seq #[] 0), #[]⟩
def o23 (P : Params) : Obj := ⟨.none, none, (.fields #[]), #[]⟩
def o24 (P : Params) : Obj := ⟨(.type "tuple"), none, (.seq #[(.str "some" 199), (.str "told" 200), (.str "statement" 201)] 0), #[]⟩
def o25 (P : Params) : Obj := ⟨(.type "tuple"), none, (.seq #[] 0), #[]⟩
def o26 (P : Params) : Obj := kC "keyed" "keyed" s_d_keyed
def o27 (P : Params) : Obj := ⟨(.type "code"), none, (.fields #[(.str "keyed" 196), (.str "keyed" 197), (.str "/claim/cut.py" 198), (.int (5) 0), (.int (1) 0), (.int (0) 0), (.int (0) 0), (.int (3) 0), (.ref 22), (.bool true), (.int (181) 0), (.ref 23), .none, (.ref 24), (.ref 25), (.ref 26), (.int (202) 0), (.int (5) 0), (.str "/claim/cut.py" 203)]), #[]⟩
def o28 (P : Params) : Obj := ⟨(.type "function"), none, (.func (PySem.W.fnOf "keyed" "keyed" (defArgs s_d_keyed) (defBody s_d_keyed) (defScope s_d_keyed) .none .none .none (.str "mostwise.among" 194) none (.ref 27) .none)), #[]⟩
def o29 (P : Params) : Obj := ⟨(.type "tuple"), none, (.seq #[] 0), #[]⟩
def o30 (P : Params) : Obj := ⟨.none, none, (.fields #[]), #[]⟩
def o31 (P : Params) : Obj := kC "all_among" "all_among" s_d_all_among
def o32 (P : Params) : Obj := ⟨(.type "code"), none, (.fields #[(.str "all_among" 205), (.str "all_among" 206), (.str "/claim/cut.py" 207), (.int (10) 0), (.int (2) 0), (.int (0) 0), (.int (0) 0), (.int (3) 0), (.ref 29), (.bool true), (.int (181) 0), (.ref 30), .none, .none, .none, (.ref 31), (.int (208) 0), (.int (10) 0), (.str "/claim/cut.py" 209)]), #[]⟩
def o33 (P : Params) : Obj := ⟨(.type "function"), none, (.func (PySem.W.fnOf "all_among" "all_among" (defArgs s_d_all_among) (defBody s_d_all_among) (defScope s_d_all_among) .none .none .none (.str "mostwise.among" 194) none (.ref 32) .none)), #[]⟩
def o34 (P : Params) : Obj := ⟨(.type "tuple"), none, (.seq #[] 0), #[]⟩
def o35 (P : Params) : Obj := ⟨.none, none, (.fields #[]), #[]⟩
def o36 (P : Params) : Obj := kC "any_among" "any_among" s_d_any_among
def o37 (P : Params) : Obj := ⟨(.type "code"), none, (.fields #[(.str "any_among" 211), (.str "any_among" 212), (.str "/claim/cut.py" 213), (.int (12) 0), (.int (2) 0), (.int (0) 0), (.int (0) 0), (.int (3) 0), (.ref 34), (.bool true), (.int (181) 0), (.ref 35), .none, .none, .none, (.ref 36), (.int (214) 0), (.int (12) 0), (.str "/claim/cut.py" 215)]), #[]⟩
def o38 (P : Params) : Obj := ⟨(.type "function"), none, (.func (PySem.W.fnOf "any_among" "any_among" (defArgs s_d_any_among) (defBody s_d_any_among) (defScope s_d_any_among) .none .none .none (.str "mostwise.among" 194) none (.ref 37) .none)), #[]⟩
def o39 (P : Params) : Obj := ⟨(.type "tuple"), none, (.seq #[] 0), #[]⟩
def o40 (P : Params) : Obj := ⟨.none, none, (.fields #[]), #[]⟩
def o41 (P : Params) : Obj := ⟨(.type "tuple"), none, (.seq #[(.str "statement" 222)] 0), #[]⟩
def o42 (P : Params) : Obj := ⟨(.type "tuple"), none, (.seq #[] 0), #[]⟩
def o43 (P : Params) : Obj := kC "opposite" "opposite" s_d_opposite
def o44 (P : Params) : Obj := ⟨(.type "code"), none, (.fields #[(.str "opposite" 219), (.str "opposite" 220), (.str "/claim/cut.py" 221), (.int (15) 0), (.int (1) 0), (.int (0) 0), (.int (0) 0), (.int (3) 0), (.ref 39), (.bool true), (.int (181) 0), (.ref 40), .none, (.ref 41), (.ref 42), (.ref 43), (.int (223) 0), (.int (15) 0), (.str "/claim/cut.py" 224)]), #[]⟩
def o45 (P : Params) : Obj := ⟨(.type "function"), none, (.func (PySem.W.fnOf "opposite" "opposite" (defArgs s_d_opposite) (defBody s_d_opposite) (defScope s_d_opposite) .none .none .none (.str "mostwise.words" 217) none (.ref 44) .none)), #[]⟩
def o46 (P : Params) : Obj := ⟨(.type "tuple"), none, (.seq #[] 0), #[]⟩
def o47 (P : Params) : Obj := ⟨.none, none, (.fields #[]), #[]⟩
def o48 (P : Params) : Obj := kC "is_beaten" "is_beaten" s_d_is_beaten
def o49 (P : Params) : Obj := ⟨(.type "code"), none, (.fields #[(.str "is_beaten" 232), (.str "is_beaten" 233), (.str "/claim/cut.py" 234), (.int (20) 0), (.int (3) 0), (.int (0) 0), (.int (0) 0), (.int (3) 0), (.ref 46), (.bool true), (.int (181) 0), (.ref 47), .none, .none, .none, (.ref 48), (.int (235) 0), (.int (20) 0), (.str "/claim/cut.py" 236)]), #[]⟩
def o50 (P : Params) : Obj := ⟨(.type "function"), none, (.func (PySem.W.fnOf "is_beaten" "is_beaten" (defArgs s_d_is_beaten) (defBody s_d_is_beaten) (defScope s_d_is_beaten) .none .none .none (.str "mostwise.mostly" 226) none (.ref 49) .none)), #[]⟩
def o51 (P : Params) : Obj := ⟨(.type "tuple"), none, (.seq #[] 0), #[]⟩
def o52 (P : Params) : Obj := ⟨.none, none, (.fields #[]), #[]⟩
def o53 (P : Params) : Obj := kC "holds_by" "holds_by" s_d_holds_by
def o54 (P : Params) : Obj := ⟨(.type "code"), none, (.fields #[(.str "holds_by" 238), (.str "holds_by" 239), (.str "/claim/cut.py" 240), (.int (22) 0), (.int (5) 0), (.int (0) 0), (.int (0) 0), (.int (3) 0), (.ref 51), (.bool true), (.int (181) 0), (.ref 52), .none, .none, .none, (.ref 53), (.int (241) 0), (.int (22) 0), (.str "/claim/cut.py" 242)]), #[]⟩
def o55 (P : Params) : Obj := ⟨(.type "function"), none, (.func (PySem.W.fnOf "holds_by" "holds_by" (defArgs s_d_holds_by) (defBody s_d_holds_by) (defScope s_d_holds_by) .none .none .none (.str "mostwise.mostly" 226) none (.ref 54) .none)), #[]⟩
def o56 (P : Params) : Obj := ⟨(.type "tuple"), none, (.seq #[] 0), #[]⟩
def o57 (P : Params) : Obj := ⟨.none, none, (.fields #[]), #[]⟩
def o58 (P : Params) : Obj := kC "refused_by" "refused_by" s_d_refused_by
def o59 (P : Params) : Obj := ⟨(.type "code"), none, (.fields #[(.str "refused_by" 244), (.str "refused_by" 245), (.str "/claim/cut.py" 246), (.int (29) 0), (.int (5) 0), (.int (0) 0), (.int (0) 0), (.int (3) 0), (.ref 56), (.bool true), (.int (181) 0), (.ref 57), .none, .none, .none, (.ref 58), (.int (247) 0), (.int (29) 0), (.str "/claim/cut.py" 248)]), #[]⟩
def o60 (P : Params) : Obj := ⟨(.type "function"), none, (.func (PySem.W.fnOf "refused_by" "refused_by" (defArgs s_d_refused_by) (defBody s_d_refused_by) (defScope s_d_refused_by) .none .none .none (.str "mostwise.mostly" 226) none (.ref 59) .none)), #[]⟩
def o61 (P : Params) : Obj := ⟨(.type "tuple"), none, (.seq #[] 0), #[]⟩
def o62 (P : Params) : Obj := ⟨.none, none, (.fields #[]), #[]⟩
def o63 (P : Params) : Obj := kC "with_word" "with_word" s_d_with_word
def o64 (P : Params) : Obj := ⟨(.type "code"), none, (.fields #[(.str "with_word" 252), (.str "with_word" 253), (.str "/claim/cut.py" 254), (.int (37) 0), (.int (2) 0), (.int (0) 0), (.int (0) 0), (.int (3) 0), (.ref 61), (.bool true), (.int (181) 0), (.ref 62), .none, .none, .none, (.ref 63), (.int (255) 0), (.int (37) 0), (.str "/claim/cut.py" 256)]), #[]⟩
def o65 (P : Params) : Obj := ⟨(.type "function"), none, (.func (PySem.W.fnOf "with_word" "with_word" (defArgs s_d_with_word) (defBody s_d_with_word) (defScope s_d_with_word) .none .none .none (.str "mostwise.papers" 250) none (.ref 64) .none)), #[]⟩
def o66 (P : Params) : Obj := ⟨(.type "tuple"), none, (.seq #[] 0), #[]⟩
def o67 (P : Params) : Obj := ⟨.none, none, (.fields #[]), #[]⟩
def o68 (P : Params) : Obj := ⟨(.type "tuple"), none, (.seq #[(.str "ground" 261), (.str "sures" 262), (.str "rows" 263), (.str "claim" 264), (.str "held" 265), (.str "refused" 266)] 0), #[]⟩
def o69 (P : Params) : Obj := ⟨(.type "tuple"), none, (.seq #[] 0), #[]⟩
def o70 (P : Params) : Obj := kC "follows" "follows" s_d_follows
def o71 (P : Params) : Obj := ⟨(.type "code"), none, (.fields #[(.str "follows" 258), (.str "follows" 259), (.str "/claim/cut.py" 260), (.int (39) 0), (.int (4) 0), (.int (0) 0), (.int (0) 0), (.int (3) 0), (.ref 66), (.bool true), (.int (181) 0), (.ref 67), .none, (.ref 68), (.ref 69), (.ref 70), (.int (267) 0), (.int (39) 0), (.str "/claim/cut.py" 268)]), #[]⟩
def o72 (P : Params) : Obj := ⟨(.type "function"), none, (.func (PySem.W.fnOf "follows" "follows" (defArgs s_d_follows) (defBody s_d_follows) (defScope s_d_follows) .none .none .none (.str "mostwise.papers" 250) none (.ref 71) .none)), #[]⟩
def o73 (P : Params) : Obj := ⟨(.type "tuple"), none, (.seq #[] 0), #[]⟩
def o74 (P : Params) : Obj := ⟨(.type "builtin_function_or_method"), none, (.fields #[(.builtin "type.__prepare__"), (.type "type")]), #[]⟩
def o75 (P : Params) : Obj := ⟨(.type "dict"), none, (.dict #[kE P "__module__" 279 (.str "mostwise.rules" 270), kE P "__qualname__" 281 (.str "Rule" 280), ⟨PyData.keyHash P "__firstlineno__", (.str "__firstlineno__" 283), (.int (48) 282)⟩, kE P "__init__" 293 (.ref 86), kE P "word" 300 (.ref 93), kE P "speaks" 307 (.ref 100), kE P "is_sure" 314 (.ref 107), kE P "letters" 321 (.ref 114), kE P "again" 330 (.ref 121), kE P "filled" 338 (.ref 128), kE P "row" 346 (.ref 135), kE P "__static_attributes__" 350 (.ref 136)] 12), #[]⟩
def o76 (P : Params) : Obj := ⟨(.type "tuple"), none, (.seq #[] 0), #[]⟩
def o77 (P : Params) : Obj := ⟨.none, none, (.fields #[(.int (50) 0), (.int (4) 0), (.ref 85), (.int (55) 0), (.int (4) 0), (.ref 92), (.int (58) 0), (.int (4) 0), (.ref 99), (.int (61) 0), (.int (4) 0), (.ref 106), (.int (64) 0), (.int (4) 0), (.ref 113), (.int (67) 0), (.int (4) 0), (.ref 120), (.int (70) 0), (.int (4) 0), (.ref 127), (.int (73) 0), (.int (4) 0), (.ref 134)]), #[]⟩
def o78 (P : Params) : Obj := ⟨(.type "code"), none, (.fields #[(.str "Rule" 274), (.str "Rule" 275), (.str "/claim/cut.py" 276), (.int (48) 0), (.int (0) 0), (.int (0) 0), (.int (0) 0), (.int (0) 0), (.ref 76), (.bool false), (.int (181) 0), (.ref 77), .none, .none, .none, .none, (.int (277) 0), (.int (48) 0), (.str "/claim/cut.py" 278)]), #[]⟩
def o79 (P : Params) : Obj := ⟨(.type "frame"), none, .plain, #[(some (.ref 78)), (some (.ref 3)), (some (.ref 75)), none, (some (.str "mostwise.rules" 270)), none, (some (.ref 0))]⟩
def o80 (P : Params) : Obj := ⟨(.type "tuple"), none, (.seq #[] 0), #[]⟩
def o81 (P : Params) : Obj := ⟨.none, none, (.fields #[]), #[]⟩
def o82 (P : Params) : Obj := ⟨(.type "tuple"), none, (.seq #[(.str "self" 287), (.str "label" 288), (.str "head" 289), (.str "body" 290)] 0), #[]⟩
def o83 (P : Params) : Obj := ⟨(.type "tuple"), none, (.seq #[] 0), #[]⟩
def o84 (P : Params) : Obj := kC "__init__" "Rule.__init__" s_c_Rule_init
def o85 (P : Params) : Obj := ⟨(.type "code"), none, (.fields #[(.str "__init__" 284), (.str "Rule.__init__" 285), (.str "/claim/cut.py" 286), (.int (50) 0), (.int (4) 0), (.int (0) 0), (.int (0) 0), (.int (3) 0), (.ref 80), (.bool true), (.int (181) 0), (.ref 81), .none, (.ref 82), (.ref 83), (.ref 84), (.int (291) 0), (.int (50) 0), (.str "/claim/cut.py" 292)]), #[]⟩
def o86 (P : Params) : Obj := ⟨(.type "function"), none, (.func (PySem.W.fnOf "__init__" "Rule.__init__" (defArgs s_c_Rule_init) (defBody s_c_Rule_init) (defScope s_c_Rule_init) .none .none .none (.str "mostwise.rules" 270) none (.ref 85) .none)), #[]⟩
def o87 (P : Params) : Obj := ⟨(.type "tuple"), none, (.seq #[] 0), #[]⟩
def o88 (P : Params) : Obj := ⟨.none, none, (.fields #[]), #[]⟩
def o89 (P : Params) : Obj := ⟨(.type "tuple"), none, (.seq #[(.str "self" 297)] 0), #[]⟩
def o90 (P : Params) : Obj := ⟨(.type "tuple"), none, (.seq #[] 0), #[]⟩
def o91 (P : Params) : Obj := kC "word" "Rule.word" (inClass (top 17) 1)
def o92 (P : Params) : Obj := ⟨(.type "code"), none, (.fields #[(.str "word" 294), (.str "Rule.word" 295), (.str "/claim/cut.py" 296), (.int (55) 0), (.int (1) 0), (.int (0) 0), (.int (0) 0), (.int (3) 0), (.ref 87), (.bool true), (.int (181) 0), (.ref 88), .none, (.ref 89), (.ref 90), (.ref 91), (.int (298) 0), (.int (55) 0), (.str "/claim/cut.py" 299)]), #[]⟩
def o93 (P : Params) : Obj := ⟨(.type "function"), none, (.func (PySem.W.fnOf "word" "Rule.word" (defArgs (inClass (top 17) 1)) (defBody (inClass (top 17) 1)) (defScope (inClass (top 17) 1)) .none .none .none (.str "mostwise.rules" 270) none (.ref 92) .none)), #[]⟩
def o94 (P : Params) : Obj := ⟨(.type "tuple"), none, (.seq #[] 0), #[]⟩
def o95 (P : Params) : Obj := ⟨.none, none, (.fields #[]), #[]⟩
def o96 (P : Params) : Obj := ⟨(.type "tuple"), none, (.seq #[(.str "self" 304)] 0), #[]⟩
def o97 (P : Params) : Obj := ⟨(.type "tuple"), none, (.seq #[] 0), #[]⟩
def o98 (P : Params) : Obj := kC "speaks" "Rule.speaks" s_c_Rule_speaks
def o99 (P : Params) : Obj := ⟨(.type "code"), none, (.fields #[(.str "speaks" 301), (.str "Rule.speaks" 302), (.str "/claim/cut.py" 303), (.int (58) 0), (.int (1) 0), (.int (0) 0), (.int (0) 0), (.int (3) 0), (.ref 94), (.bool true), (.int (181) 0), (.ref 95), .none, (.ref 96), (.ref 97), (.ref 98), (.int (305) 0), (.int (58) 0), (.str "/claim/cut.py" 306)]), #[]⟩
def o100 (P : Params) : Obj := ⟨(.type "function"), none, (.func (PySem.W.fnOf "speaks" "Rule.speaks" (defArgs s_c_Rule_speaks) (defBody s_c_Rule_speaks) (defScope s_c_Rule_speaks) .none .none .none (.str "mostwise.rules" 270) none (.ref 99) .none)), #[]⟩
def o101 (P : Params) : Obj := ⟨(.type "tuple"), none, (.seq #[] 0), #[]⟩
def o102 (P : Params) : Obj := ⟨.none, none, (.fields #[]), #[]⟩
def o103 (P : Params) : Obj := ⟨(.type "tuple"), none, (.seq #[(.str "self" 311)] 0), #[]⟩
def o104 (P : Params) : Obj := ⟨(.type "tuple"), none, (.seq #[] 0), #[]⟩
def o105 (P : Params) : Obj := kC "is_sure" "Rule.is_sure" (inClass (top 17) 3)
def o106 (P : Params) : Obj := ⟨(.type "code"), none, (.fields #[(.str "is_sure" 308), (.str "Rule.is_sure" 309), (.str "/claim/cut.py" 310), (.int (61) 0), (.int (1) 0), (.int (0) 0), (.int (0) 0), (.int (3) 0), (.ref 101), (.bool true), (.int (181) 0), (.ref 102), .none, (.ref 103), (.ref 104), (.ref 105), (.int (312) 0), (.int (61) 0), (.str "/claim/cut.py" 313)]), #[]⟩
def o107 (P : Params) : Obj := ⟨(.type "function"), none, (.func (PySem.W.fnOf "is_sure" "Rule.is_sure" (defArgs (inClass (top 17) 3)) (defBody (inClass (top 17) 3)) (defScope (inClass (top 17) 3)) .none .none .none (.str "mostwise.rules" 270) none (.ref 106) .none)), #[]⟩
def o108 (P : Params) : Obj := ⟨(.type "tuple"), none, (.seq #[] 0), #[]⟩
def o109 (P : Params) : Obj := ⟨.none, none, (.fields #[]), #[]⟩
def o110 (P : Params) : Obj := ⟨(.type "tuple"), none, (.seq #[(.str "self" 318)] 0), #[]⟩
def o111 (P : Params) : Obj := ⟨(.type "tuple"), none, (.seq #[] 0), #[]⟩
def o112 (P : Params) : Obj := kC "letters" "Rule.letters" (inClass (top 17) 4)
def o113 (P : Params) : Obj := ⟨(.type "code"), none, (.fields #[(.str "letters" 315), (.str "Rule.letters" 316), (.str "/claim/cut.py" 317), (.int (64) 0), (.int (1) 0), (.int (0) 0), (.int (0) 0), (.int (3) 0), (.ref 108), (.bool true), (.int (181) 0), (.ref 109), .none, (.ref 110), (.ref 111), (.ref 112), (.int (319) 0), (.int (64) 0), (.str "/claim/cut.py" 320)]), #[]⟩
def o114 (P : Params) : Obj := ⟨(.type "function"), none, (.func (PySem.W.fnOf "letters" "Rule.letters" (defArgs (inClass (top 17) 4)) (defBody (inClass (top 17) 4)) (defScope (inClass (top 17) 4)) .none .none .none (.str "mostwise.rules" 270) none (.ref 113) .none)), #[]⟩
def o115 (P : Params) : Obj := ⟨(.type "tuple"), none, (.seq #[] 0), #[]⟩
def o116 (P : Params) : Obj := ⟨.none, none, (.fields #[]), #[]⟩
def o117 (P : Params) : Obj := ⟨(.type "tuple"), none, (.seq #[(.str "self" 325), (.str "head" 326), (.str "body" 327)] 0), #[]⟩
def o118 (P : Params) : Obj := ⟨(.type "tuple"), none, (.seq #[] 0), #[]⟩
def o119 (P : Params) : Obj := kC "again" "Rule.again" (inClass (top 17) 5)
def o120 (P : Params) : Obj := ⟨(.type "code"), none, (.fields #[(.str "again" 322), (.str "Rule.again" 323), (.str "/claim/cut.py" 324), (.int (67) 0), (.int (3) 0), (.int (0) 0), (.int (0) 0), (.int (3) 0), (.ref 115), (.bool true), (.int (181) 0), (.ref 116), .none, (.ref 117), (.ref 118), (.ref 119), (.int (328) 0), (.int (67) 0), (.str "/claim/cut.py" 329)]), #[]⟩
def o121 (P : Params) : Obj := ⟨(.type "function"), none, (.func (PySem.W.fnOf "again" "Rule.again" (defArgs (inClass (top 17) 5)) (defBody (inClass (top 17) 5)) (defScope (inClass (top 17) 5)) .none .none .none (.str "mostwise.rules" 270) none (.ref 120) .none)), #[]⟩
def o122 (P : Params) : Obj := ⟨(.type "tuple"), none, (.seq #[] 0), #[]⟩
def o123 (P : Params) : Obj := ⟨.none, none, (.fields #[]), #[]⟩
def o124 (P : Params) : Obj := ⟨(.type "tuple"), none, (.seq #[(.str "self" 334), (.str "given" 335)] 0), #[]⟩
def o125 (P : Params) : Obj := ⟨(.type "tuple"), none, (.seq #[] 0), #[]⟩
def o126 (P : Params) : Obj := kC "filled" "Rule.filled" (inClass (top 17) 6)
def o127 (P : Params) : Obj := ⟨(.type "code"), none, (.fields #[(.str "filled" 331), (.str "Rule.filled" 332), (.str "/claim/cut.py" 333), (.int (70) 0), (.int (2) 0), (.int (0) 0), (.int (0) 0), (.int (3) 0), (.ref 122), (.bool true), (.int (181) 0), (.ref 123), .none, (.ref 124), (.ref 125), (.ref 126), (.int (336) 0), (.int (70) 0), (.str "/claim/cut.py" 337)]), #[]⟩
def o128 (P : Params) : Obj := ⟨(.type "function"), none, (.func (PySem.W.fnOf "filled" "Rule.filled" (defArgs (inClass (top 17) 6)) (defBody (inClass (top 17) 6)) (defScope (inClass (top 17) 6)) .none .none .none (.str "mostwise.rules" 270) none (.ref 127) .none)), #[]⟩
def o129 (P : Params) : Obj := ⟨(.type "tuple"), none, (.seq #[] 0), #[]⟩
def o130 (P : Params) : Obj := ⟨.none, none, (.fields #[]), #[]⟩
def o131 (P : Params) : Obj := ⟨(.type "tuple"), none, (.seq #[(.str "self" 342), (.str "words" 343)] 0), #[]⟩
def o132 (P : Params) : Obj := ⟨(.type "tuple"), none, (.seq #[] 0), #[]⟩
def o133 (P : Params) : Obj := kC "row" "Rule.row" (inClass (top 17) 7)
def o134 (P : Params) : Obj := ⟨(.type "code"), none, (.fields #[(.str "row" 339), (.str "Rule.row" 340), (.str "/claim/cut.py" 341), (.int (73) 0), (.int (1) 0), (.int (0) 0), (.int (0) 0), (.int (3) 0), (.ref 129), (.bool true), (.int (181) 0), (.ref 130), .none, (.ref 131), (.ref 132), (.ref 133), (.int (344) 0), (.int (73) 0), (.str "/claim/cut.py" 345)]), #[]⟩
def o135 (P : Params) : Obj := ⟨(.type "function"), none, (.func (PySem.W.fnOf "row" "Rule.row" (defArgs (inClass (top 17) 7)) (defBody (inClass (top 17) 7)) (defScope (inClass (top 17) 7)) .none .none .none (.str "mostwise.rules" 270) none (.ref 134) .none)), #[]⟩
def o136 (P : Params) : Obj := ⟨(.type "tuple"), none, (.seq #[(.str "body" 347), (.str "head" 348), (.str "label" 349)] 0), #[]⟩
def o137 (P : Params) : Obj := ⟨(.type "dict"), none, (.dict #[kE P "__module__" 279 (.str "mostwise.rules" 270), ⟨PyData.keyHash P "__firstlineno__", (.str "__firstlineno__" 283), (.int (48) 282)⟩, kE P "__init__" 293 (.ref 86), kE P "word" 300 (.ref 93), kE P "speaks" 307 (.ref 100), kE P "is_sure" 314 (.ref 107), kE P "letters" 321 (.ref 114), kE P "again" 330 (.ref 121), kE P "filled" 338 (.ref 128), kE P "row" 346 (.ref 135), kE P "__static_attributes__" 350 (.ref 136), kE P "__dict__" 352 (.ref 139), kE P "__weakref__" 354 (.ref 140), kE P "__doc__" 355 .none] 4), #[]⟩
def o138 (P : Params) : Obj := ⟨(.type "type"), none, (.cls ⟨"Rule", [(.type "object")], [(.ref 138), (.type "object")], 137, "Rule", true, [], [(.ref 187), (.ref 220), (.ref 246), (.ref 279)], false, none, false⟩), #[none, none, (some (.str "Rule" 272)), (some (.str "Rule" 280)), (some (.builtin "object.__new__")), (some (.bool true))]⟩
def o139 (P : Params) : Obj := ⟨(.type "getset_descriptor"), none, (.fields #[(.str "__dict__" 351), (.ref 138), (.builtin "function.__dict__"), (.builtin "function.__dict__#set")]), #[]⟩
def o140 (P : Params) : Obj := ⟨(.type "getset_descriptor"), none, (.fields #[(.str "__weakref__" 353), (.ref 138), (.builtin "ExceptionGroup.__weakref__"), .none]), #[]⟩
def o141 (P : Params) : Obj := ⟨(.type "super"), none, (.fields #[(.ref 138), (.ref 138), (.ref 138)]), #[]⟩
def o142 (P : Params) : Obj := ⟨(.type "builtin_function_or_method"), none, (.fields #[(.builtin "object.__init_subclass__"), (.ref 138)]), #[]⟩
def o143 (P : Params) : Obj := ⟨(.type "tuple"), none, (.seq #[(.ref 138)] 0), #[]⟩
def o144 (P : Params) : Obj := ⟨(.type "builtin_function_or_method"), none, (.fields #[(.builtin "type.__prepare__"), (.type "type")]), #[]⟩
def o145 (P : Params) : Obj := ⟨(.type "dict"), none, (.dict #[kE P "__module__" 365 (.str "mostwise.rules" 270), kE P "__qualname__" 367 (.str "Fact" 366), ⟨PyData.keyHash P "__firstlineno__", (.str "__firstlineno__" 369), (.int (78) 368)⟩, kE P "__init__" 377 (.ref 156), kE P "word" 384 (.ref 163), kE P "is_sure" 391 (.ref 170), kE P "again" 400 (.ref 177), kE P "row" 407 (.ref 184), kE P "__static_attributes__" 408 (.ref 185)] 9), #[]⟩
def o146 (P : Params) : Obj := ⟨(.type "tuple"), none, (.seq #[] 0), #[]⟩
def o147 (P : Params) : Obj := ⟨.none, none, (.fields #[(.int (80) 0), (.int (4) 0), (.ref 155), (.int (83) 0), (.int (4) 0), (.ref 162), (.int (86) 0), (.int (4) 0), (.ref 169), (.int (89) 0), (.int (4) 0), (.ref 176), (.int (92) 0), (.int (4) 0), (.ref 183)]), #[]⟩
def o148 (P : Params) : Obj := ⟨(.type "code"), none, (.fields #[(.str "Fact" 360), (.str "Fact" 361), (.str "/claim/cut.py" 362), (.int (78) 0), (.int (0) 0), (.int (0) 0), (.int (0) 0), (.int (0) 0), (.ref 146), (.bool false), (.int (181) 0), (.ref 147), .none, .none, .none, .none, (.int (363) 0), (.int (78) 0), (.str "/claim/cut.py" 364)]), #[]⟩
def o149 (P : Params) : Obj := ⟨(.type "frame"), none, .plain, #[(some (.ref 148)), (some (.ref 3)), (some (.ref 145)), none, (some (.str "mostwise.rules" 270)), none, (some (.ref 0))]⟩
def o150 (P : Params) : Obj := ⟨(.type "tuple"), none, (.seq #[] 0), #[]⟩
def o151 (P : Params) : Obj := ⟨.none, none, (.fields #[]), #[]⟩
def o152 (P : Params) : Obj := ⟨(.type "tuple"), none, (.seq #[(.str "self" 373), (.str "head" 374)] 0), #[]⟩
def o153 (P : Params) : Obj := ⟨(.type "tuple"), none, (.seq #[] 0), #[]⟩
def o154 (P : Params) : Obj := kC "__init__" "Fact.__init__" s_c_Fact_init
def o155 (P : Params) : Obj := ⟨(.type "code"), none, (.fields #[(.str "__init__" 370), (.str "Fact.__init__" 371), (.str "/claim/cut.py" 372), (.int (80) 0), (.int (2) 0), (.int (0) 0), (.int (0) 0), (.int (3) 0), (.ref 150), (.bool true), (.int (181) 0), (.ref 151), .none, (.ref 152), (.ref 153), (.ref 154), (.int (375) 0), (.int (80) 0), (.str "/claim/cut.py" 376)]), #[]⟩
def o156 (P : Params) : Obj := ⟨(.type "function"), none, (.func (PySem.W.fnOf "__init__" "Fact.__init__" (defArgs s_c_Fact_init) (defBody s_c_Fact_init) (defScope s_c_Fact_init) .none .none .none (.str "mostwise.rules" 270) none (.ref 155) .none)), #[]⟩
def o157 (P : Params) : Obj := ⟨(.type "tuple"), none, (.seq #[] 0), #[]⟩
def o158 (P : Params) : Obj := ⟨.none, none, (.fields #[]), #[]⟩
def o159 (P : Params) : Obj := ⟨(.type "tuple"), none, (.seq #[(.str "self" 381)] 0), #[]⟩
def o160 (P : Params) : Obj := ⟨(.type "tuple"), none, (.seq #[] 0), #[]⟩
def o161 (P : Params) : Obj := kC "word" "Fact.word" s_c_Fact_word
def o162 (P : Params) : Obj := ⟨(.type "code"), none, (.fields #[(.str "word" 378), (.str "Fact.word" 379), (.str "/claim/cut.py" 380), (.int (83) 0), (.int (1) 0), (.int (0) 0), (.int (0) 0), (.int (3) 0), (.ref 157), (.bool true), (.int (181) 0), (.ref 158), .none, (.ref 159), (.ref 160), (.ref 161), (.int (382) 0), (.int (83) 0), (.str "/claim/cut.py" 383)]), #[]⟩
def o163 (P : Params) : Obj := ⟨(.type "function"), none, (.func (PySem.W.fnOf "word" "Fact.word" (defArgs s_c_Fact_word) (defBody s_c_Fact_word) (defScope s_c_Fact_word) .none .none .none (.str "mostwise.rules" 270) none (.ref 162) .none)), #[]⟩
def o164 (P : Params) : Obj := ⟨(.type "tuple"), none, (.seq #[] 0), #[]⟩
def o165 (P : Params) : Obj := ⟨.none, none, (.fields #[]), #[]⟩
def o166 (P : Params) : Obj := ⟨(.type "tuple"), none, (.seq #[(.str "self" 388)] 0), #[]⟩
def o167 (P : Params) : Obj := ⟨(.type "tuple"), none, (.seq #[] 0), #[]⟩
def o168 (P : Params) : Obj := kC "is_sure" "Fact.is_sure" (inClass (top 18) 2)
def o169 (P : Params) : Obj := ⟨(.type "code"), none, (.fields #[(.str "is_sure" 385), (.str "Fact.is_sure" 386), (.str "/claim/cut.py" 387), (.int (86) 0), (.int (1) 0), (.int (0) 0), (.int (0) 0), (.int (3) 0), (.ref 164), (.bool true), (.int (181) 0), (.ref 165), .none, (.ref 166), (.ref 167), (.ref 168), (.int (389) 0), (.int (86) 0), (.str "/claim/cut.py" 390)]), #[]⟩
def o170 (P : Params) : Obj := ⟨(.type "function"), none, (.func (PySem.W.fnOf "is_sure" "Fact.is_sure" (defArgs (inClass (top 18) 2)) (defBody (inClass (top 18) 2)) (defScope (inClass (top 18) 2)) .none .none .none (.str "mostwise.rules" 270) none (.ref 169) .none)), #[]⟩
def o171 (P : Params) : Obj := ⟨(.type "tuple"), none, (.seq #[] 0), #[]⟩
def o172 (P : Params) : Obj := ⟨.none, none, (.fields #[]), #[]⟩
def o173 (P : Params) : Obj := ⟨(.type "tuple"), none, (.seq #[(.str "self" 395), (.str "head" 396), (.str "body" 397)] 0), #[]⟩
def o174 (P : Params) : Obj := ⟨(.type "tuple"), none, (.seq #[] 0), #[]⟩
def o175 (P : Params) : Obj := kC "again" "Fact.again" (inClass (top 18) 3)
def o176 (P : Params) : Obj := ⟨(.type "code"), none, (.fields #[(.str "again" 392), (.str "Fact.again" 393), (.str "/claim/cut.py" 394), (.int (89) 0), (.int (3) 0), (.int (0) 0), (.int (0) 0), (.int (3) 0), (.ref 171), (.bool true), (.int (181) 0), (.ref 172), .none, (.ref 173), (.ref 174), (.ref 175), (.int (398) 0), (.int (89) 0), (.str "/claim/cut.py" 399)]), #[]⟩
def o177 (P : Params) : Obj := ⟨(.type "function"), none, (.func (PySem.W.fnOf "again" "Fact.again" (defArgs (inClass (top 18) 3)) (defBody (inClass (top 18) 3)) (defScope (inClass (top 18) 3)) .none .none .none (.str "mostwise.rules" 270) none (.ref 176) .none)), #[]⟩
def o178 (P : Params) : Obj := ⟨(.type "tuple"), none, (.seq #[] 0), #[]⟩
def o179 (P : Params) : Obj := ⟨.none, none, (.fields #[]), #[]⟩
def o180 (P : Params) : Obj := ⟨(.type "tuple"), none, (.seq #[(.str "self" 404)] 0), #[]⟩
def o181 (P : Params) : Obj := ⟨(.type "tuple"), none, (.seq #[] 0), #[]⟩
def o182 (P : Params) : Obj := kC "row" "Fact.row" (inClass (top 18) 4)
def o183 (P : Params) : Obj := ⟨(.type "code"), none, (.fields #[(.str "row" 401), (.str "Fact.row" 402), (.str "/claim/cut.py" 403), (.int (92) 0), (.int (1) 0), (.int (0) 0), (.int (0) 0), (.int (3) 0), (.ref 178), (.bool true), (.int (181) 0), (.ref 179), .none, (.ref 180), (.ref 181), (.ref 182), (.int (405) 0), (.int (92) 0), (.str "/claim/cut.py" 406)]), #[]⟩
def o184 (P : Params) : Obj := ⟨(.type "function"), none, (.func (PySem.W.fnOf "row" "Fact.row" (defArgs (inClass (top 18) 4)) (defBody (inClass (top 18) 4)) (defScope (inClass (top 18) 4)) .none .none .none (.str "mostwise.rules" 270) none (.ref 183) .none)), #[]⟩
def o185 (P : Params) : Obj := ⟨(.type "tuple"), none, (.seq #[] 0), #[]⟩
def o186 (P : Params) : Obj := ⟨(.type "dict"), none, (.dict #[kE P "__module__" 365 (.str "mostwise.rules" 270), ⟨PyData.keyHash P "__firstlineno__", (.str "__firstlineno__" 369), (.int (78) 368)⟩, kE P "__init__" 377 (.ref 156), kE P "word" 384 (.ref 163), kE P "is_sure" 391 (.ref 170), kE P "again" 400 (.ref 177), kE P "row" 407 (.ref 184), kE P "__static_attributes__" 408 (.ref 185), kE P "__doc__" 409 .none] 2), #[]⟩
def o187 (P : Params) : Obj := ⟨(.type "type"), none, (.cls ⟨"Fact", [(.ref 138)], [(.ref 187), (.ref 138), (.type "object")], 186, "Fact", true, [], [], false, none, false⟩), #[(some (.ref 143)), none, (some (.str "Fact" 358)), (some (.str "Fact" 366)), (some (.builtin "object.__new__")), (some (.bool true))]⟩
def o188 (P : Params) : Obj := ⟨(.type "super"), none, (.fields #[(.ref 187), (.ref 187), (.ref 187)]), #[]⟩
def o189 (P : Params) : Obj := ⟨(.type "builtin_function_or_method"), none, (.fields #[(.builtin "object.__init_subclass__"), (.ref 187)]), #[]⟩
def o190 (P : Params) : Obj := ⟨(.type "tuple"), none, (.seq #[(.ref 138)] 0), #[]⟩
def o191 (P : Params) : Obj := ⟨(.type "builtin_function_or_method"), none, (.fields #[(.builtin "type.__prepare__"), (.type "type")]), #[]⟩
def o192 (P : Params) : Obj := ⟨(.type "dict"), none, (.dict #[kE P "__module__" 419 (.str "mostwise.rules" 270), kE P "__qualname__" 421 (.str "Sure" 420), ⟨PyData.keyHash P "__firstlineno__", (.str "__firstlineno__" 423), (.int (94) 422)⟩, kE P "word" 430 (.ref 203), kE P "is_sure" 437 (.ref 210), kE P "again" 446 (.ref 217), kE P "__static_attributes__" 447 (.ref 218)] 7), #[]⟩
def o193 (P : Params) : Obj := ⟨(.type "tuple"), none, (.seq #[] 0), #[]⟩
def o194 (P : Params) : Obj := ⟨.none, none, (.fields #[(.int (96) 0), (.int (4) 0), (.ref 202), (.int (99) 0), (.int (4) 0), (.ref 209), (.int (102) 0), (.int (4) 0), (.ref 216)]), #[]⟩
def o195 (P : Params) : Obj := ⟨(.type "code"), none, (.fields #[(.str "Sure" 414), (.str "Sure" 415), (.str "/claim/cut.py" 416), (.int (94) 0), (.int (0) 0), (.int (0) 0), (.int (0) 0), (.int (0) 0), (.ref 193), (.bool false), (.int (181) 0), (.ref 194), .none, .none, .none, .none, (.int (417) 0), (.int (94) 0), (.str "/claim/cut.py" 418)]), #[]⟩
def o196 (P : Params) : Obj := ⟨(.type "frame"), none, .plain, #[(some (.ref 195)), (some (.ref 3)), (some (.ref 192)), none, (some (.str "mostwise.rules" 270)), none, (some (.ref 0))]⟩
def o197 (P : Params) : Obj := ⟨(.type "tuple"), none, (.seq #[] 0), #[]⟩
def o198 (P : Params) : Obj := ⟨.none, none, (.fields #[]), #[]⟩
def o199 (P : Params) : Obj := ⟨(.type "tuple"), none, (.seq #[(.str "self" 427)] 0), #[]⟩
def o200 (P : Params) : Obj := ⟨(.type "tuple"), none, (.seq #[] 0), #[]⟩
def o201 (P : Params) : Obj := kC "word" "Sure.word" s_c_Sure_word
def o202 (P : Params) : Obj := ⟨(.type "code"), none, (.fields #[(.str "word" 424), (.str "Sure.word" 425), (.str "/claim/cut.py" 426), (.int (96) 0), (.int (1) 0), (.int (0) 0), (.int (0) 0), (.int (3) 0), (.ref 197), (.bool true), (.int (181) 0), (.ref 198), .none, (.ref 199), (.ref 200), (.ref 201), (.int (428) 0), (.int (96) 0), (.str "/claim/cut.py" 429)]), #[]⟩
def o203 (P : Params) : Obj := ⟨(.type "function"), none, (.func (PySem.W.fnOf "word" "Sure.word" (defArgs s_c_Sure_word) (defBody s_c_Sure_word) (defScope s_c_Sure_word) .none .none .none (.str "mostwise.rules" 270) none (.ref 202) .none)), #[]⟩
def o204 (P : Params) : Obj := ⟨(.type "tuple"), none, (.seq #[] 0), #[]⟩
def o205 (P : Params) : Obj := ⟨.none, none, (.fields #[]), #[]⟩
def o206 (P : Params) : Obj := ⟨(.type "tuple"), none, (.seq #[(.str "self" 434)] 0), #[]⟩
def o207 (P : Params) : Obj := ⟨(.type "tuple"), none, (.seq #[] 0), #[]⟩
def o208 (P : Params) : Obj := kC "is_sure" "Sure.is_sure" (inClass (top 19) 1)
def o209 (P : Params) : Obj := ⟨(.type "code"), none, (.fields #[(.str "is_sure" 431), (.str "Sure.is_sure" 432), (.str "/claim/cut.py" 433), (.int (99) 0), (.int (1) 0), (.int (0) 0), (.int (0) 0), (.int (3) 0), (.ref 204), (.bool true), (.int (181) 0), (.ref 205), .none, (.ref 206), (.ref 207), (.ref 208), (.int (435) 0), (.int (99) 0), (.str "/claim/cut.py" 436)]), #[]⟩
def o210 (P : Params) : Obj := ⟨(.type "function"), none, (.func (PySem.W.fnOf "is_sure" "Sure.is_sure" (defArgs (inClass (top 19) 1)) (defBody (inClass (top 19) 1)) (defScope (inClass (top 19) 1)) .none .none .none (.str "mostwise.rules" 270) none (.ref 209) .none)), #[]⟩
def o211 (P : Params) : Obj := ⟨(.type "tuple"), none, (.seq #[] 0), #[]⟩
def o212 (P : Params) : Obj := ⟨.none, none, (.fields #[]), #[]⟩
def o213 (P : Params) : Obj := ⟨(.type "tuple"), none, (.seq #[(.str "self" 441), (.str "head" 442), (.str "body" 443)] 0), #[]⟩
def o214 (P : Params) : Obj := ⟨(.type "tuple"), none, (.seq #[] 0), #[]⟩
def o215 (P : Params) : Obj := kC "again" "Sure.again" (inClass (top 19) 2)
def o216 (P : Params) : Obj := ⟨(.type "code"), none, (.fields #[(.str "again" 438), (.str "Sure.again" 439), (.str "/claim/cut.py" 440), (.int (102) 0), (.int (3) 0), (.int (0) 0), (.int (0) 0), (.int (3) 0), (.ref 211), (.bool true), (.int (181) 0), (.ref 212), .none, (.ref 213), (.ref 214), (.ref 215), (.int (444) 0), (.int (102) 0), (.str "/claim/cut.py" 445)]), #[]⟩
def o217 (P : Params) : Obj := ⟨(.type "function"), none, (.func (PySem.W.fnOf "again" "Sure.again" (defArgs (inClass (top 19) 2)) (defBody (inClass (top 19) 2)) (defScope (inClass (top 19) 2)) .none .none .none (.str "mostwise.rules" 270) none (.ref 216) .none)), #[]⟩
def o218 (P : Params) : Obj := ⟨(.type "tuple"), none, (.seq #[] 0), #[]⟩
def o219 (P : Params) : Obj := ⟨(.type "dict"), none, (.dict #[kE P "__module__" 419 (.str "mostwise.rules" 270), ⟨PyData.keyHash P "__firstlineno__", (.str "__firstlineno__" 423), (.int (94) 422)⟩, kE P "word" 430 (.ref 203), kE P "is_sure" 437 (.ref 210), kE P "again" 446 (.ref 217), kE P "__static_attributes__" 447 (.ref 218), kE P "__doc__" 448 .none] 2), #[]⟩
def o220 (P : Params) : Obj := ⟨(.type "type"), none, (.cls ⟨"Sure", [(.ref 138)], [(.ref 220), (.ref 138), (.type "object")], 219, "Sure", true, [], [], false, none, false⟩), #[(some (.ref 190)), none, (some (.str "Sure" 412)), (some (.str "Sure" 420)), (some (.builtin "object.__new__")), (some (.bool true))]⟩
def o221 (P : Params) : Obj := ⟨(.type "super"), none, (.fields #[(.ref 220), (.ref 220), (.ref 220)]), #[]⟩
def o222 (P : Params) : Obj := ⟨(.type "builtin_function_or_method"), none, (.fields #[(.builtin "object.__init_subclass__"), (.ref 220)]), #[]⟩
def o223 (P : Params) : Obj := ⟨(.type "tuple"), none, (.seq #[(.ref 138)] 0), #[]⟩
def o224 (P : Params) : Obj := ⟨(.type "builtin_function_or_method"), none, (.fields #[(.builtin "type.__prepare__"), (.type "type")]), #[]⟩
def o225 (P : Params) : Obj := ⟨(.type "dict"), none, (.dict #[kE P "__module__" 458 (.str "mostwise.rules" 270), kE P "__qualname__" 460 (.str "Most" 459), ⟨PyData.keyHash P "__firstlineno__", (.str "__firstlineno__" 462), (.int (104) 461)⟩, kE P "word" 469 (.ref 236), kE P "again" 478 (.ref 243), kE P "__static_attributes__" 479 (.ref 244)] 6), #[]⟩
def o226 (P : Params) : Obj := ⟨(.type "tuple"), none, (.seq #[] 0), #[]⟩
def o227 (P : Params) : Obj := ⟨.none, none, (.fields #[(.int (106) 0), (.int (4) 0), (.ref 235), (.int (109) 0), (.int (4) 0), (.ref 242)]), #[]⟩
def o228 (P : Params) : Obj := ⟨(.type "code"), none, (.fields #[(.str "Most" 453), (.str "Most" 454), (.str "/claim/cut.py" 455), (.int (104) 0), (.int (0) 0), (.int (0) 0), (.int (0) 0), (.int (0) 0), (.ref 226), (.bool false), (.int (181) 0), (.ref 227), .none, .none, .none, .none, (.int (456) 0), (.int (104) 0), (.str "/claim/cut.py" 457)]), #[]⟩
def o229 (P : Params) : Obj := ⟨(.type "frame"), none, .plain, #[(some (.ref 228)), (some (.ref 3)), (some (.ref 225)), none, (some (.str "mostwise.rules" 270)), none, (some (.ref 0))]⟩
def o230 (P : Params) : Obj := ⟨(.type "tuple"), none, (.seq #[] 0), #[]⟩
def o231 (P : Params) : Obj := ⟨.none, none, (.fields #[]), #[]⟩
def o232 (P : Params) : Obj := ⟨(.type "tuple"), none, (.seq #[(.str "self" 466)] 0), #[]⟩
def o233 (P : Params) : Obj := ⟨(.type "tuple"), none, (.seq #[] 0), #[]⟩
def o234 (P : Params) : Obj := kC "word" "Most.word" s_c_Most_word
def o235 (P : Params) : Obj := ⟨(.type "code"), none, (.fields #[(.str "word" 463), (.str "Most.word" 464), (.str "/claim/cut.py" 465), (.int (106) 0), (.int (1) 0), (.int (0) 0), (.int (0) 0), (.int (3) 0), (.ref 230), (.bool true), (.int (181) 0), (.ref 231), .none, (.ref 232), (.ref 233), (.ref 234), (.int (467) 0), (.int (106) 0), (.str "/claim/cut.py" 468)]), #[]⟩
def o236 (P : Params) : Obj := ⟨(.type "function"), none, (.func (PySem.W.fnOf "word" "Most.word" (defArgs s_c_Most_word) (defBody s_c_Most_word) (defScope s_c_Most_word) .none .none .none (.str "mostwise.rules" 270) none (.ref 235) .none)), #[]⟩
def o237 (P : Params) : Obj := ⟨(.type "tuple"), none, (.seq #[] 0), #[]⟩
def o238 (P : Params) : Obj := ⟨.none, none, (.fields #[]), #[]⟩
def o239 (P : Params) : Obj := ⟨(.type "tuple"), none, (.seq #[(.str "self" 473), (.str "head" 474), (.str "body" 475)] 0), #[]⟩
def o240 (P : Params) : Obj := ⟨(.type "tuple"), none, (.seq #[] 0), #[]⟩
def o241 (P : Params) : Obj := kC "again" "Most.again" (inClass (top 20) 1)
def o242 (P : Params) : Obj := ⟨(.type "code"), none, (.fields #[(.str "again" 470), (.str "Most.again" 471), (.str "/claim/cut.py" 472), (.int (109) 0), (.int (3) 0), (.int (0) 0), (.int (0) 0), (.int (3) 0), (.ref 237), (.bool true), (.int (181) 0), (.ref 238), .none, (.ref 239), (.ref 240), (.ref 241), (.int (476) 0), (.int (109) 0), (.str "/claim/cut.py" 477)]), #[]⟩
def o243 (P : Params) : Obj := ⟨(.type "function"), none, (.func (PySem.W.fnOf "again" "Most.again" (defArgs (inClass (top 20) 1)) (defBody (inClass (top 20) 1)) (defScope (inClass (top 20) 1)) .none .none .none (.str "mostwise.rules" 270) none (.ref 242) .none)), #[]⟩
def o244 (P : Params) : Obj := ⟨(.type "tuple"), none, (.seq #[] 0), #[]⟩
def o245 (P : Params) : Obj := ⟨(.type "dict"), none, (.dict #[kE P "__module__" 458 (.str "mostwise.rules" 270), ⟨PyData.keyHash P "__firstlineno__", (.str "__firstlineno__" 462), (.int (104) 461)⟩, kE P "word" 469 (.ref 236), kE P "again" 478 (.ref 243), kE P "__static_attributes__" 479 (.ref 244), kE P "__doc__" 480 .none] 2), #[]⟩
def o246 (P : Params) : Obj := ⟨(.type "type"), none, (.cls ⟨"Most", [(.ref 138)], [(.ref 246), (.ref 138), (.type "object")], 245, "Most", true, [], [], false, none, false⟩), #[(some (.ref 223)), none, (some (.str "Most" 451)), (some (.str "Most" 459)), (some (.builtin "object.__new__")), (some (.bool true))]⟩
def o247 (P : Params) : Obj := ⟨(.type "super"), none, (.fields #[(.ref 246), (.ref 246), (.ref 246)]), #[]⟩
def o248 (P : Params) : Obj := ⟨(.type "builtin_function_or_method"), none, (.fields #[(.builtin "object.__init_subclass__"), (.ref 246)]), #[]⟩
def o249 (P : Params) : Obj := ⟨(.type "tuple"), none, (.seq #[(.ref 138)] 0), #[]⟩
def o250 (P : Params) : Obj := ⟨(.type "builtin_function_or_method"), none, (.fields #[(.builtin "type.__prepare__"), (.type "type")]), #[]⟩
def o251 (P : Params) : Obj := ⟨(.type "dict"), none, (.dict #[kE P "__module__" 490 (.str "mostwise.rules" 270), kE P "__qualname__" 492 (.str "Block" 491), ⟨PyData.keyHash P "__firstlineno__", (.str "__firstlineno__" 494), (.int (111) 493)⟩, kE P "word" 501 (.ref 262), kE P "speaks" 508 (.ref 269), kE P "again" 517 (.ref 276), kE P "__static_attributes__" 518 (.ref 277)] 7), #[]⟩
def o252 (P : Params) : Obj := ⟨(.type "tuple"), none, (.seq #[] 0), #[]⟩
def o253 (P : Params) : Obj := ⟨.none, none, (.fields #[(.int (113) 0), (.int (4) 0), (.ref 261), (.int (116) 0), (.int (4) 0), (.ref 268), (.int (119) 0), (.int (4) 0), (.ref 275)]), #[]⟩
def o254 (P : Params) : Obj := ⟨(.type "code"), none, (.fields #[(.str "Block" 485), (.str "Block" 486), (.str "/claim/cut.py" 487), (.int (111) 0), (.int (0) 0), (.int (0) 0), (.int (0) 0), (.int (0) 0), (.ref 252), (.bool false), (.int (181) 0), (.ref 253), .none, .none, .none, .none, (.int (488) 0), (.int (111) 0), (.str "/claim/cut.py" 489)]), #[]⟩
def o255 (P : Params) : Obj := ⟨(.type "frame"), none, .plain, #[(some (.ref 254)), (some (.ref 3)), (some (.ref 251)), none, (some (.str "mostwise.rules" 270)), none, (some (.ref 0))]⟩
def o256 (P : Params) : Obj := ⟨(.type "tuple"), none, (.seq #[] 0), #[]⟩
def o257 (P : Params) : Obj := ⟨.none, none, (.fields #[]), #[]⟩
def o258 (P : Params) : Obj := ⟨(.type "tuple"), none, (.seq #[(.str "self" 498)] 0), #[]⟩
def o259 (P : Params) : Obj := ⟨(.type "tuple"), none, (.seq #[] 0), #[]⟩
def o260 (P : Params) : Obj := kC "word" "Block.word" s_c_Block_word
def o261 (P : Params) : Obj := ⟨(.type "code"), none, (.fields #[(.str "word" 495), (.str "Block.word" 496), (.str "/claim/cut.py" 497), (.int (113) 0), (.int (1) 0), (.int (0) 0), (.int (0) 0), (.int (3) 0), (.ref 256), (.bool true), (.int (181) 0), (.ref 257), .none, (.ref 258), (.ref 259), (.ref 260), (.int (499) 0), (.int (113) 0), (.str "/claim/cut.py" 500)]), #[]⟩
def o262 (P : Params) : Obj := ⟨(.type "function"), none, (.func (PySem.W.fnOf "word" "Block.word" (defArgs s_c_Block_word) (defBody s_c_Block_word) (defScope s_c_Block_word) .none .none .none (.str "mostwise.rules" 270) none (.ref 261) .none)), #[]⟩
def o263 (P : Params) : Obj := ⟨(.type "tuple"), none, (.seq #[] 0), #[]⟩
def o264 (P : Params) : Obj := ⟨.none, none, (.fields #[]), #[]⟩
def o265 (P : Params) : Obj := ⟨(.type "tuple"), none, (.seq #[(.str "self" 505)] 0), #[]⟩
def o266 (P : Params) : Obj := ⟨(.type "tuple"), none, (.seq #[] 0), #[]⟩
def o267 (P : Params) : Obj := kC "speaks" "Block.speaks" s_c_Block_speaks
def o268 (P : Params) : Obj := ⟨(.type "code"), none, (.fields #[(.str "speaks" 502), (.str "Block.speaks" 503), (.str "/claim/cut.py" 504), (.int (116) 0), (.int (1) 0), (.int (0) 0), (.int (0) 0), (.int (3) 0), (.ref 263), (.bool true), (.int (181) 0), (.ref 264), .none, (.ref 265), (.ref 266), (.ref 267), (.int (506) 0), (.int (116) 0), (.str "/claim/cut.py" 507)]), #[]⟩
def o269 (P : Params) : Obj := ⟨(.type "function"), none, (.func (PySem.W.fnOf "speaks" "Block.speaks" (defArgs s_c_Block_speaks) (defBody s_c_Block_speaks) (defScope s_c_Block_speaks) .none .none .none (.str "mostwise.rules" 270) none (.ref 268) .none)), #[]⟩
def o270 (P : Params) : Obj := ⟨(.type "tuple"), none, (.seq #[] 0), #[]⟩
def o271 (P : Params) : Obj := ⟨.none, none, (.fields #[]), #[]⟩
def o272 (P : Params) : Obj := ⟨(.type "tuple"), none, (.seq #[(.str "self" 512), (.str "head" 513), (.str "body" 514)] 0), #[]⟩
def o273 (P : Params) : Obj := ⟨(.type "tuple"), none, (.seq #[] 0), #[]⟩
def o274 (P : Params) : Obj := kC "again" "Block.again" (inClass (top 21) 2)
def o275 (P : Params) : Obj := ⟨(.type "code"), none, (.fields #[(.str "again" 509), (.str "Block.again" 510), (.str "/claim/cut.py" 511), (.int (119) 0), (.int (3) 0), (.int (0) 0), (.int (0) 0), (.int (3) 0), (.ref 270), (.bool true), (.int (181) 0), (.ref 271), .none, (.ref 272), (.ref 273), (.ref 274), (.int (515) 0), (.int (119) 0), (.str "/claim/cut.py" 516)]), #[]⟩
def o276 (P : Params) : Obj := ⟨(.type "function"), none, (.func (PySem.W.fnOf "again" "Block.again" (defArgs (inClass (top 21) 2)) (defBody (inClass (top 21) 2)) (defScope (inClass (top 21) 2)) .none .none .none (.str "mostwise.rules" 270) none (.ref 275) .none)), #[]⟩
def o277 (P : Params) : Obj := ⟨(.type "tuple"), none, (.seq #[] 0), #[]⟩
def o278 (P : Params) : Obj := ⟨(.type "dict"), none, (.dict #[kE P "__module__" 490 (.str "mostwise.rules" 270), ⟨PyData.keyHash P "__firstlineno__", (.str "__firstlineno__" 494), (.int (111) 493)⟩, kE P "word" 501 (.ref 262), kE P "speaks" 508 (.ref 269), kE P "again" 517 (.ref 276), kE P "__static_attributes__" 518 (.ref 277), kE P "__doc__" 519 .none] 2), #[]⟩
def o279 (P : Params) : Obj := ⟨(.type "type"), none, (.cls ⟨"Block", [(.ref 138)], [(.ref 279), (.ref 138), (.type "object")], 278, "Block", true, [], [], false, none, false⟩), #[(some (.ref 249)), none, (some (.str "Block" 483)), (some (.str "Block" 491)), (some (.builtin "object.__new__")), (some (.bool true))]⟩
def o280 (P : Params) : Obj := ⟨(.type "super"), none, (.fields #[(.ref 279), (.ref 279), (.ref 279)]), #[]⟩
def o281 (P : Params) : Obj := ⟨(.type "builtin_function_or_method"), none, (.fields #[(.builtin "object.__init_subclass__"), (.ref 279)]), #[]⟩
def o282 (P : Params) : Obj := ⟨(.type "tuple"), none, (.seq #[] 0), #[]⟩
def o283 (P : Params) : Obj := ⟨(.type "builtin_function_or_method"), none, (.fields #[(.builtin "type.__prepare__"), (.type "type")]), #[]⟩
def o284 (P : Params) : Obj := ⟨(.type "dict"), none, (.dict #[kE P "__module__" 531 (.str "mostwise.ground" 522), kE P "__qualname__" 533 (.str "Ground" 532), ⟨PyData.keyHash P "__firstlineno__", (.str "__firstlineno__" 535), (.int (122) 534)⟩, kE P "__init__" 546 (.ref 295), kE P "rules" 553 (.ref 302), kE P "ruling" 561 (.ref 309), kE P "speaking" 567 (.ref 314), kE P "against" 575 (.ref 321), kE P "beats" 584 (.ref 328), kE P "statements" 594 (.ref 335), kE P "part" 602 (.ref 342), kE P "__static_attributes__" 606 (.ref 343)] 12), #[]⟩
def o285 (P : Params) : Obj := ⟨(.type "tuple"), none, (.seq #[] 0), #[]⟩
def o286 (P : Params) : Obj := ⟨.none, none, (.fields #[(.int (124) 0), (.int (4) 0), (.ref 294), (.int (133) 0), (.int (4) 0), (.ref 301), (.int (136) 0), (.int (4) 0), (.ref 308), (.int (139) 0), (.int (4) 0), (.ref 313), (.int (142) 0), (.int (4) 0), (.ref 320), (.int (145) 0), (.int (4) 0), (.ref 327), (.int (148) 0), (.int (4) 0), (.ref 334), (.int (156) 0), (.int (4) 0), (.ref 341)]), #[]⟩
def o287 (P : Params) : Obj := ⟨(.type "code"), none, (.fields #[(.str "Ground" 526), (.str "Ground" 527), (.str "/claim/cut.py" 528), (.int (122) 0), (.int (0) 0), (.int (0) 0), (.int (0) 0), (.int (0) 0), (.ref 285), (.bool false), (.int (181) 0), (.ref 286), .none, .none, .none, .none, (.int (529) 0), (.int (122) 0), (.str "/claim/cut.py" 530)]), #[]⟩
def o288 (P : Params) : Obj := ⟨(.type "frame"), none, .plain, #[(some (.ref 287)), (some (.ref 3)), (some (.ref 284)), none, (some (.str "mostwise.ground" 522)), none, (some (.ref 0))]⟩
def o289 (P : Params) : Obj := ⟨(.type "tuple"), none, (.seq #[] 0), #[]⟩
def o290 (P : Params) : Obj := ⟨.none, none, (.fields #[]), #[]⟩
def o291 (P : Params) : Obj := ⟨(.type "tuple"), none, (.seq #[(.str "self" 539), (.str "rules" 540), (.str "pairs" 541), (.str "rule" 542), (.str "pair" 543)] 0), #[]⟩
def o292 (P : Params) : Obj := ⟨(.type "tuple"), none, (.seq #[] 0), #[]⟩
def o293 (P : Params) : Obj := kC "__init__" "Ground.__init__" s_c_Ground_init
def o294 (P : Params) : Obj := ⟨(.type "code"), none, (.fields #[(.str "__init__" 536), (.str "Ground.__init__" 537), (.str "/claim/cut.py" 538), (.int (124) 0), (.int (3) 0), (.int (0) 0), (.int (0) 0), (.int (3) 0), (.ref 289), (.bool true), (.int (181) 0), (.ref 290), .none, (.ref 291), (.ref 292), (.ref 293), (.int (544) 0), (.int (124) 0), (.str "/claim/cut.py" 545)]), #[]⟩
def o295 (P : Params) : Obj := ⟨(.type "function"), none, (.func (PySem.W.fnOf "__init__" "Ground.__init__" (defArgs s_c_Ground_init) (defBody s_c_Ground_init) (defScope s_c_Ground_init) .none .none .none (.str "mostwise.ground" 522) none (.ref 294) .none)), #[]⟩
def o296 (P : Params) : Obj := ⟨(.type "tuple"), none, (.seq #[] 0), #[]⟩
def o297 (P : Params) : Obj := ⟨.none, none, (.fields #[]), #[]⟩
def o298 (P : Params) : Obj := ⟨(.type "tuple"), none, (.seq #[(.str "self" 550)] 0), #[]⟩
def o299 (P : Params) : Obj := ⟨(.type "tuple"), none, (.seq #[] 0), #[]⟩
def o300 (P : Params) : Obj := kC "rules" "Ground.rules" (inClass (top 23) 1)
def o301 (P : Params) : Obj := ⟨(.type "code"), none, (.fields #[(.str "rules" 547), (.str "Ground.rules" 548), (.str "/claim/cut.py" 549), (.int (133) 0), (.int (1) 0), (.int (0) 0), (.int (0) 0), (.int (3) 0), (.ref 296), (.bool true), (.int (181) 0), (.ref 297), .none, (.ref 298), (.ref 299), (.ref 300), (.int (551) 0), (.int (133) 0), (.str "/claim/cut.py" 552)]), #[]⟩
def o302 (P : Params) : Obj := ⟨(.type "function"), none, (.func (PySem.W.fnOf "rules" "Ground.rules" (defArgs (inClass (top 23) 1)) (defBody (inClass (top 23) 1)) (defScope (inClass (top 23) 1)) .none .none .none (.str "mostwise.ground" 522) none (.ref 301) .none)), #[]⟩
def o303 (P : Params) : Obj := ⟨(.type "tuple"), none, (.seq #[] 0), #[]⟩
def o304 (P : Params) : Obj := ⟨.none, none, (.fields #[]), #[]⟩
def o305 (P : Params) : Obj := ⟨(.type "tuple"), none, (.seq #[(.str "self" 557), (.str "statement" 558)] 0), #[]⟩
def o306 (P : Params) : Obj := ⟨(.type "tuple"), none, (.seq #[] 0), #[]⟩
def o307 (P : Params) : Obj := kC "ruling" "Ground.ruling" s_c_Ground_ruling
def o308 (P : Params) : Obj := ⟨(.type "code"), none, (.fields #[(.str "ruling" 554), (.str "Ground.ruling" 555), (.str "/claim/cut.py" 556), (.int (136) 0), (.int (2) 0), (.int (0) 0), (.int (0) 0), (.int (3) 0), (.ref 303), (.bool true), (.int (181) 0), (.ref 304), .none, (.ref 305), (.ref 306), (.ref 307), (.int (559) 0), (.int (136) 0), (.str "/claim/cut.py" 560)]), #[]⟩
def o309 (P : Params) : Obj := ⟨(.type "function"), none, (.func (PySem.W.fnOf "ruling" "Ground.ruling" (defArgs s_c_Ground_ruling) (defBody s_c_Ground_ruling) (defScope s_c_Ground_ruling) .none .none .none (.str "mostwise.ground" 522) none (.ref 308) .none)), #[]⟩
def o310 (P : Params) : Obj := ⟨(.type "tuple"), none, (.seq #[] 0), #[]⟩
def o311 (P : Params) : Obj := ⟨.none, none, (.fields #[]), #[]⟩
def o312 (P : Params) : Obj := kC "speaking" "Ground.speaking" s_c_Ground_speaking
def o313 (P : Params) : Obj := ⟨(.type "code"), none, (.fields #[(.str "speaking" 562), (.str "Ground.speaking" 563), (.str "/claim/cut.py" 564), (.int (139) 0), (.int (2) 0), (.int (0) 0), (.int (0) 0), (.int (3) 0), (.ref 310), (.bool true), (.int (181) 0), (.ref 311), .none, .none, .none, (.ref 312), (.int (565) 0), (.int (139) 0), (.str "/claim/cut.py" 566)]), #[]⟩
def o314 (P : Params) : Obj := ⟨(.type "function"), none, (.func (PySem.W.fnOf "speaking" "Ground.speaking" (defArgs s_c_Ground_speaking) (defBody s_c_Ground_speaking) (defScope s_c_Ground_speaking) .none .none .none (.str "mostwise.ground" 522) none (.ref 313) .none)), #[]⟩
def o315 (P : Params) : Obj := ⟨(.type "tuple"), none, (.seq #[] 0), #[]⟩
def o316 (P : Params) : Obj := ⟨.none, none, (.fields #[]), #[]⟩
def o317 (P : Params) : Obj := ⟨(.type "tuple"), none, (.seq #[(.str "self" 571), (.str "statement" 572)] 0), #[]⟩
def o318 (P : Params) : Obj := ⟨(.type "tuple"), none, (.seq #[] 0), #[]⟩
def o319 (P : Params) : Obj := kC "against" "Ground.against" s_c_Ground_against
def o320 (P : Params) : Obj := ⟨(.type "code"), none, (.fields #[(.str "against" 568), (.str "Ground.against" 569), (.str "/claim/cut.py" 570), (.int (142) 0), (.int (2) 0), (.int (0) 0), (.int (0) 0), (.int (3) 0), (.ref 315), (.bool true), (.int (181) 0), (.ref 316), .none, (.ref 317), (.ref 318), (.ref 319), (.int (573) 0), (.int (142) 0), (.str "/claim/cut.py" 574)]), #[]⟩
def o321 (P : Params) : Obj := ⟨(.type "function"), none, (.func (PySem.W.fnOf "against" "Ground.against" (defArgs s_c_Ground_against) (defBody s_c_Ground_against) (defScope s_c_Ground_against) .none .none .none (.str "mostwise.ground" 522) none (.ref 320) .none)), #[]⟩
def o322 (P : Params) : Obj := ⟨(.type "tuple"), none, (.seq #[] 0), #[]⟩
def o323 (P : Params) : Obj := ⟨.none, none, (.fields #[]), #[]⟩
def o324 (P : Params) : Obj := ⟨(.type "tuple"), none, (.seq #[(.str "self" 579), (.str "one" 580), (.str "other" 581)] 0), #[]⟩
def o325 (P : Params) : Obj := ⟨(.type "tuple"), none, (.seq #[] 0), #[]⟩
def o326 (P : Params) : Obj := kC "beats" "Ground.beats" s_c_Ground_beats
def o327 (P : Params) : Obj := ⟨(.type "code"), none, (.fields #[(.str "beats" 576), (.str "Ground.beats" 577), (.str "/claim/cut.py" 578), (.int (145) 0), (.int (3) 0), (.int (0) 0), (.int (0) 0), (.int (3) 0), (.ref 322), (.bool true), (.int (181) 0), (.ref 323), .none, (.ref 324), (.ref 325), (.ref 326), (.int (582) 0), (.int (145) 0), (.str "/claim/cut.py" 583)]), #[]⟩
def o328 (P : Params) : Obj := ⟨(.type "function"), none, (.func (PySem.W.fnOf "beats" "Ground.beats" (defArgs s_c_Ground_beats) (defBody s_c_Ground_beats) (defScope s_c_Ground_beats) .none .none .none (.str "mostwise.ground" 522) none (.ref 327) .none)), #[]⟩
def o329 (P : Params) : Obj := ⟨(.type "tuple"), none, (.seq #[] 0), #[]⟩
def o330 (P : Params) : Obj := ⟨.none, none, (.fields #[]), #[]⟩
def o331 (P : Params) : Obj := ⟨(.type "tuple"), none, (.seq #[(.str "self" 588), (.str "told" 589), (.str "rule" 590), (.str "statement" 591)] 0), #[]⟩
def o332 (P : Params) : Obj := ⟨(.type "tuple"), none, (.seq #[] 0), #[]⟩
def o333 (P : Params) : Obj := kC "statements" "Ground.statements" (inClass (top 23) 6)
def o334 (P : Params) : Obj := ⟨(.type "code"), none, (.fields #[(.str "statements" 585), (.str "Ground.statements" 586), (.str "/claim/cut.py" 587), (.int (148) 0), (.int (1) 0), (.int (0) 0), (.int (0) 0), (.int (3) 0), (.ref 329), (.bool true), (.int (181) 0), (.ref 330), .none, (.ref 331), (.ref 332), (.ref 333), (.int (592) 0), (.int (148) 0), (.str "/claim/cut.py" 593)]), #[]⟩
def o335 (P : Params) : Obj := ⟨(.type "function"), none, (.func (PySem.W.fnOf "statements" "Ground.statements" (defArgs (inClass (top 23) 6)) (defBody (inClass (top 23) 6)) (defScope (inClass (top 23) 6)) .none .none .none (.str "mostwise.ground" 522) none (.ref 334) .none)), #[]⟩
def o336 (P : Params) : Obj := ⟨(.type "tuple"), none, (.seq #[] 0), #[]⟩
def o337 (P : Params) : Obj := ⟨.none, none, (.fields #[]), #[]⟩
def o338 (P : Params) : Obj := ⟨(.type "tuple"), none, (.seq #[(.str "self" 598), (.str "some" 599)] 0), #[]⟩
def o339 (P : Params) : Obj := ⟨(.type "tuple"), none, (.seq #[] 0), #[]⟩
def o340 (P : Params) : Obj := kC "part" "Ground.part" (inClass (top 23) 7)
def o341 (P : Params) : Obj := ⟨(.type "code"), none, (.fields #[(.str "part" 595), (.str "Ground.part" 596), (.str "/claim/cut.py" 597), (.int (156) 0), (.int (2) 0), (.int (0) 0), (.int (0) 0), (.int (3) 0), (.ref 336), (.bool true), (.int (181) 0), (.ref 337), .none, (.ref 338), (.ref 339), (.ref 340), (.int (600) 0), (.int (156) 0), (.str "/claim/cut.py" 601)]), #[]⟩
def o342 (P : Params) : Obj := ⟨(.type "function"), none, (.func (PySem.W.fnOf "part" "Ground.part" (defArgs (inClass (top 23) 7)) (defBody (inClass (top 23) 7)) (defScope (inClass (top 23) 7)) .none .none .none (.str "mostwise.ground" 522) none (.ref 341) .none)), #[]⟩
def o343 (P : Params) : Obj := ⟨(.type "tuple"), none, (.seq #[(.str "by_head" 603), (.str "in_order" 604), (.str "pairs" 605)] 0), #[]⟩
def o344 (P : Params) : Obj := ⟨(.type "dict"), none, (.dict #[kE P "__module__" 531 (.str "mostwise.ground" 522), ⟨PyData.keyHash P "__firstlineno__", (.str "__firstlineno__" 535), (.int (122) 534)⟩, kE P "__init__" 546 (.ref 295), kE P "rules" 553 (.ref 302), kE P "ruling" 561 (.ref 309), kE P "speaking" 567 (.ref 314), kE P "against" 575 (.ref 321), kE P "beats" 584 (.ref 328), kE P "statements" 594 (.ref 335), kE P "part" 602 (.ref 342), kE P "__static_attributes__" 606 (.ref 343), kE P "__dict__" 608 (.ref 346), kE P "__weakref__" 610 (.ref 347), kE P "__doc__" 611 .none] 4), #[]⟩
def o345 (P : Params) : Obj := ⟨(.type "type"), none, (.cls ⟨"Ground", [(.type "object")], [(.ref 345), (.type "object")], 344, "Ground", true, [], [], false, none, false⟩), #[none, none, (some (.str "Ground" 524)), (some (.str "Ground" 532)), (some (.builtin "object.__new__")), (some (.bool true))]⟩
def o346 (P : Params) : Obj := ⟨(.type "getset_descriptor"), none, (.fields #[(.str "__dict__" 607), (.ref 345), (.builtin "function.__dict__"), (.builtin "function.__dict__#set")]), #[]⟩
def o347 (P : Params) : Obj := ⟨(.type "getset_descriptor"), none, (.fields #[(.str "__weakref__" 609), (.ref 345), (.builtin "ExceptionGroup.__weakref__"), .none]), #[]⟩
def o348 (P : Params) : Obj := ⟨(.type "super"), none, (.fields #[(.ref 345), (.ref 345), (.ref 345)]), #[]⟩
def o349 (P : Params) : Obj := ⟨(.type "builtin_function_or_method"), none, (.fields #[(.builtin "object.__init_subclass__"), (.ref 345)]), #[]⟩
def o350 (P : Params) : Obj := ⟨(.type "tuple"), none, (.seq #[] 0), #[]⟩
def o351 (P : Params) : Obj := ⟨.none, none, (.fields #[]), #[]⟩
def o352 (P : Params) : Obj := ⟨(.type "tuple"), none, (.seq #[(.str "_law_script" 619), (.str "_law_k" 620)] 0), #[]⟩
def o353 (P : Params) : Obj := ⟨(.type "tuple"), none, (.seq #[] 0), #[]⟩
def o354 (P : Params) : Obj := kC "_law_cell_at" "_law_cell_at" s_d_l_cell_at
def o355 (P : Params) : Obj := ⟨(.type "code"), none, (.fields #[(.str "_law_cell_at" 616), (.str "_law_cell_at" 617), (.str "/claim/cut.py" 618), (.int (159) 0), (.int (2) 0), (.int (0) 0), (.int (0) 0), (.int (3) 0), (.ref 350), (.bool true), (.int (181) 0), (.ref 351), .none, (.ref 352), (.ref 353), (.ref 354), (.int (621) 0), (.int (159) 0), (.str "/claim/cut.py" 622)]), #[]⟩
def o356 (P : Params) : Obj := ⟨(.type "function"), none, (.func (PySem.W.fnOf "_law_cell_at" "_law_cell_at" (defArgs s_d_l_cell_at) (defBody s_d_l_cell_at) (defScope s_d_l_cell_at) .none .none .none (.str "law_mostwise_k51_what_follows" 614) none (.ref 355) .none)), #[]⟩
def o357 (P : Params) : Obj := ⟨(.type "tuple"), none, (.seq #[] 0), #[]⟩
def o358 (P : Params) : Obj := ⟨.none, none, (.fields #[]), #[]⟩
def o359 (P : Params) : Obj := ⟨(.type "tuple"), none, (.seq #[(.str "_law_cell" 627), (.str "_law_k" 628), (.str "_law_number" 629)] 0), #[]⟩
def o360 (P : Params) : Obj := ⟨(.type "tuple"), none, (.seq #[] 0), #[]⟩
def o361 (P : Params) : Obj := kC "_law_mix" "_law_mix" s_d_l_mix
def o362 (P : Params) : Obj := ⟨(.type "code"), none, (.fields #[(.str "_law_mix" 624), (.str "_law_mix" 625), (.str "/claim/cut.py" 626), (.int (163) 0), (.int (2) 0), (.int (0) 0), (.int (0) 0), (.int (3) 0), (.ref 357), (.bool true), (.int (181) 0), (.ref 358), .none, (.ref 359), (.ref 360), (.ref 361), (.int (630) 0), (.int (163) 0), (.str "/claim/cut.py" 631)]), #[]⟩
def o363 (P : Params) : Obj := ⟨(.type "function"), none, (.func (PySem.W.fnOf "_law_mix" "_law_mix" (defArgs s_d_l_mix) (defBody s_d_l_mix) (defScope s_d_l_mix) .none .none .none (.str "law_mostwise_k51_what_follows" 614) none (.ref 362) .none)), #[]⟩
def o364 (P : Params) : Obj := ⟨(.type "tuple"), none, (.seq #[] 0), #[]⟩
def o365 (P : Params) : Obj := ⟨.none, none, (.fields #[]), #[]⟩
def o366 (P : Params) : Obj := kC "_law_words" "_law_words" s_d_l_words
def o367 (P : Params) : Obj := ⟨(.type "code"), none, (.fields #[(.str "_law_words" 633), (.str "_law_words" 634), (.str "/claim/cut.py" 635), (.int (168) 0), (.int (2) 0), (.int (0) 0), (.int (0) 0), (.int (3) 0), (.ref 364), (.bool true), (.int (181) 0), (.ref 365), .none, .none, .none, (.ref 366), (.int (636) 0), (.int (168) 0), (.str "/claim/cut.py" 637)]), #[]⟩
def o368 (P : Params) : Obj := ⟨(.type "function"), none, (.func (PySem.W.fnOf "_law_words" "_law_words" (defArgs s_d_l_words) (defBody s_d_l_words) (defScope s_d_l_words) .none .none .none (.str "law_mostwise_k51_what_follows" 614) none (.ref 367) .none)), #[]⟩
def o369 (P : Params) : Obj := ⟨(.type "tuple"), none, (.seq #[] 0), #[]⟩
def o370 (P : Params) : Obj := ⟨.none, none, (.fields #[]), #[]⟩
def o371 (P : Params) : Obj := ⟨(.type "tuple"), none, (.seq #[(.str "_law_text" 642)] 0), #[]⟩
def o372 (P : Params) : Obj := ⟨(.type "tuple"), none, (.seq #[] 0), #[]⟩
def o373 (P : Params) : Obj := kC "_law_opposed" "_law_opposed" s_d_l_opposed
def o374 (P : Params) : Obj := ⟨(.type "code"), none, (.fields #[(.str "_law_opposed" 639), (.str "_law_opposed" 640), (.str "/claim/cut.py" 641), (.int (182) 0), (.int (1) 0), (.int (0) 0), (.int (0) 0), (.int (3) 0), (.ref 369), (.bool true), (.int (181) 0), (.ref 370), .none, (.ref 371), (.ref 372), (.ref 373), (.int (643) 0), (.int (182) 0), (.str "/claim/cut.py" 644)]), #[]⟩
def o375 (P : Params) : Obj := ⟨(.type "function"), none, (.func (PySem.W.fnOf "_law_opposed" "_law_opposed" (defArgs s_d_l_opposed) (defBody s_d_l_opposed) (defScope s_d_l_opposed) .none .none .none (.str "law_mostwise_k51_what_follows" 614) none (.ref 374) .none)), #[]⟩
def o376 (P : Params) : Obj := ⟨(.type "tuple"), none, (.seq #[] 0), #[]⟩
def o377 (P : Params) : Obj := ⟨.none, none, (.fields #[]), #[]⟩
def o378 (P : Params) : Obj := ⟨(.type "tuple"), none, (.seq #[(.str "_law_script" 649), (.str "_law_names" 650), (.str "_law_things" 651), (.str "_law_some" 652)] 0), #[]⟩
def o379 (P : Params) : Obj := ⟨(.type "tuple"), none, (.seq #[] 0), #[]⟩
def o380 (P : Params) : Obj := kC "_law_pool" "_law_pool" s_d_l_pool
def o381 (P : Params) : Obj := ⟨(.type "code"), none, (.fields #[(.str "_law_pool" 646), (.str "_law_pool" 647), (.str "/claim/cut.py" 648), (.int (186) 0), (.int (1) 0), (.int (0) 0), (.int (0) 0), (.int (3) 0), (.ref 376), (.bool true), (.int (181) 0), (.ref 377), .none, (.ref 378), (.ref 379), (.ref 380), (.int (653) 0), (.int (186) 0), (.str "/claim/cut.py" 654)]), #[]⟩
def o382 (P : Params) : Obj := ⟨(.type "function"), none, (.func (PySem.W.fnOf "_law_pool" "_law_pool" (defArgs s_d_l_pool) (defBody s_d_l_pool) (defScope s_d_l_pool) .none .none .none (.str "law_mostwise_k51_what_follows" 614) none (.ref 381) .none)), #[]⟩
def o383 (P : Params) : Obj := ⟨(.type "tuple"), none, (.seq #[] 0), #[]⟩
def o384 (P : Params) : Obj := ⟨.none, none, (.fields #[]), #[]⟩
def o385 (P : Params) : Obj := ⟨(.type "tuple"), none, (.seq #[(.str "_law_pool_here" 659), (.str "_law_number" 660), (.str "_law_text" 661)] 0), #[]⟩
def o386 (P : Params) : Obj := ⟨(.type "tuple"), none, (.seq #[] 0), #[]⟩
def o387 (P : Params) : Obj := kC "_law_drawn" "_law_drawn" s_d_l_drawn
def o388 (P : Params) : Obj := ⟨(.type "code"), none, (.fields #[(.str "_law_drawn" 656), (.str "_law_drawn" 657), (.str "/claim/cut.py" 658), (.int (192) 0), (.int (2) 0), (.int (0) 0), (.int (0) 0), (.int (3) 0), (.ref 383), (.bool true), (.int (181) 0), (.ref 384), .none, (.ref 385), (.ref 386), (.ref 387), (.int (662) 0), (.int (192) 0), (.str "/claim/cut.py" 663)]), #[]⟩
def o389 (P : Params) : Obj := ⟨(.type "function"), none, (.func (PySem.W.fnOf "_law_drawn" "_law_drawn" (defArgs s_d_l_drawn) (defBody s_d_l_drawn) (defScope s_d_l_drawn) .none .none .none (.str "law_mostwise_k51_what_follows" 614) none (.ref 388) .none)), #[]⟩
def o390 (P : Params) : Obj := ⟨(.type "tuple"), none, (.seq #[] 0), #[]⟩
def o391 (P : Params) : Obj := ⟨.none, none, (.fields #[]), #[]⟩
def o392 (P : Params) : Obj := ⟨(.type "tuple"), none, (.seq #[(.str "_law_cell" 668), (.str "_law_many" 669), (.str "_law_size" 670), (.str "_law_plain" 671), (.str "_law_found" 672), (.str "_law_rest" 673), (.str "_law_j" 674)] 0), #[]⟩
def o393 (P : Params) : Obj := ⟨(.type "tuple"), none, (.seq #[] 0), #[]⟩
def o394 (P : Params) : Obj := kC "_law_numbers" "_law_numbers" s_d_l_numbers
def o395 (P : Params) : Obj := ⟨(.type "code"), none, (.fields #[(.str "_law_numbers" 665), (.str "_law_numbers" 666), (.str "/claim/cut.py" 667), (.int (197) 0), (.int (4) 0), (.int (0) 0), (.int (0) 0), (.int (3) 0), (.ref 390), (.bool true), (.int (181) 0), (.ref 391), .none, (.ref 392), (.ref 393), (.ref 394), (.int (675) 0), (.int (197) 0), (.str "/claim/cut.py" 676)]), #[]⟩
def o396 (P : Params) : Obj := ⟨(.type "function"), none, (.func (PySem.W.fnOf "_law_numbers" "_law_numbers" (defArgs s_d_l_numbers) (defBody s_d_l_numbers) (defScope s_d_l_numbers) .none .none .none (.str "law_mostwise_k51_what_follows" 614) none (.ref 395) .none)), #[]⟩
def o397 (P : Params) : Obj := ⟨(.type "tuple"), none, (.seq #[] 0), #[]⟩
def o398 (P : Params) : Obj := ⟨.none, none, (.fields #[]), #[]⟩
def o399 (P : Params) : Obj := kC "_law_rule" "_law_rule" s_d_l_rule
def o400 (P : Params) : Obj := ⟨(.type "code"), none, (.fields #[(.str "_law_rule" 678), (.str "_law_rule" 679), (.str "/claim/cut.py" 680), (.int (207) 0), (.int (4) 0), (.int (0) 0), (.int (0) 0), (.int (3) 0), (.ref 397), (.bool true), (.int (181) 0), (.ref 398), .none, .none, .none, (.ref 399), (.int (681) 0), (.int (207) 0), (.str "/claim/cut.py" 682)]), #[]⟩
def o401 (P : Params) : Obj := ⟨(.type "function"), none, (.func (PySem.W.fnOf "_law_rule" "_law_rule" (defArgs s_d_l_rule) (defBody s_d_l_rule) (defScope s_d_l_rule) .none .none .none (.str "law_mostwise_k51_what_follows" 614) none (.ref 400) .none)), #[]⟩
def o402 (P : Params) : Obj := ⟨(.type "tuple"), none, (.seq #[] 0), #[]⟩
def o403 (P : Params) : Obj := ⟨.none, none, (.fields #[]), #[]⟩
def o404 (P : Params) : Obj := ⟨(.type "tuple"), none, (.seq #[(.str "_law_rules" 687), (.str "_law_cell" 688), (.str "_law_pairs_here" 689), (.str "_law_k" 690), (.str "_law_j" 691), (.str "_law_way" 692)] 0), #[]⟩
def o405 (P : Params) : Obj := ⟨(.type "tuple"), none, (.seq #[] 0), #[]⟩
def o406 (P : Params) : Obj := kC "_law_pairs" "_law_pairs" s_d_l_pairs
def o407 (P : Params) : Obj := ⟨(.type "code"), none, (.fields #[(.str "_law_pairs" 684), (.str "_law_pairs" 685), (.str "/claim/cut.py" 686), (.int (219) 0), (.int (2) 0), (.int (0) 0), (.int (0) 0), (.int (3) 0), (.ref 402), (.bool true), (.int (181) 0), (.ref 403), .none, (.ref 404), (.ref 405), (.ref 406), (.int (693) 0), (.int (219) 0), (.str "/claim/cut.py" 694)]), #[]⟩
def o408 (P : Params) : Obj := ⟨(.type "function"), none, (.func (PySem.W.fnOf "_law_pairs" "_law_pairs" (defArgs s_d_l_pairs) (defBody s_d_l_pairs) (defScope s_d_l_pairs) .none .none .none (.str "law_mostwise_k51_what_follows" 614) none (.ref 407) .none)), #[]⟩
def o409 (P : Params) : Obj := ⟨(.type "tuple"), none, (.seq #[] 0), #[]⟩
def o410 (P : Params) : Obj := ⟨.none, none, (.fields #[]), #[]⟩
def o411 (P : Params) : Obj := ⟨(.type "tuple"), none, (.seq #[(.str "_law_rules" 699), (.str "_law_cell" 700)] 0), #[]⟩
def o412 (P : Params) : Obj := ⟨(.type "tuple"), none, (.seq #[] 0), #[]⟩
def o413 (P : Params) : Obj := kC "_law_turned" "_law_turned" s_d_l_turned
def o414 (P : Params) : Obj := ⟨(.type "code"), none, (.fields #[(.str "_law_turned" 696), (.str "_law_turned" 697), (.str "/claim/cut.py" 698), (.int (228) 0), (.int (2) 0), (.int (0) 0), (.int (0) 0), (.int (3) 0), (.ref 409), (.bool true), (.int (181) 0), (.ref 410), .none, (.ref 411), (.ref 412), (.ref 413), (.int (701) 0), (.int (228) 0), (.str "/claim/cut.py" 702)]), #[]⟩
def o415 (P : Params) : Obj := ⟨(.type "function"), none, (.func (PySem.W.fnOf "_law_turned" "_law_turned" (defArgs s_d_l_turned) (defBody s_d_l_turned) (defScope s_d_l_turned) .none .none .none (.str "law_mostwise_k51_what_follows" 614) none (.ref 414) .none)), #[]⟩
def o416 (P : Params) : Obj := ⟨(.type "tuple"), none, (.seq #[] 0), #[]⟩
def o417 (P : Params) : Obj := ⟨.none, none, (.fields #[]), #[]⟩
def o418 (P : Params) : Obj := kC "_law_scene" "_law_scene" s_d_l_scene
def o419 (P : Params) : Obj := ⟨(.type "code"), none, (.fields #[(.str "_law_scene" 704), (.str "_law_scene" 705), (.str "/claim/cut.py" 706), (.int (232) 0), (.int (2) 0), (.int (0) 0), (.int (0) 0), (.int (3) 0), (.ref 416), (.bool true), (.int (181) 0), (.ref 417), .none, .none, .none, (.ref 418), (.int (707) 0), (.int (232) 0), (.str "/claim/cut.py" 708)]), #[]⟩
def o420 (P : Params) : Obj := ⟨(.type "function"), none, (.func (PySem.W.fnOf "_law_scene" "_law_scene" (defArgs s_d_l_scene) (defBody s_d_l_scene) (defScope s_d_l_scene) .none .none .none (.str "law_mostwise_k51_what_follows" 614) none (.ref 419) .none)), #[]⟩
def o421 (P : Params) : Obj := ⟨(.type "tuple"), none, (.seq #[] 0), #[]⟩
def o422 (P : Params) : Obj := ⟨.none, none, (.fields #[]), #[]⟩
def o423 (P : Params) : Obj := ⟨(.type "tuple"), none, (.seq #[(.str "_law_rule_here" 713)] 0), #[]⟩
def o424 (P : Params) : Obj := ⟨(.type "tuple"), none, (.seq #[] 0), #[]⟩
def o425 (P : Params) : Obj := kC "_law_firm" "_law_firm" (top 36)
def o426 (P : Params) : Obj := ⟨(.type "code"), none, (.fields #[(.str "_law_firm" 710), (.str "_law_firm" 711), (.str "/claim/cut.py" 712), (.int (242) 0), (.int (1) 0), (.int (0) 0), (.int (0) 0), (.int (3) 0), (.ref 421), (.bool true), (.int (181) 0), (.ref 422), .none, (.ref 423), (.ref 424), (.ref 425), (.int (714) 0), (.int (242) 0), (.str "/claim/cut.py" 715)]), #[]⟩
def o427 (P : Params) : Obj := ⟨(.type "function"), none, (.func (PySem.W.fnOf "_law_firm" "_law_firm" (defArgs (top 36)) (defBody (top 36)) (defScope (top 36)) .none .none .none (.str "law_mostwise_k51_what_follows" 614) none (.ref 426) .none)), #[]⟩
def o428 (P : Params) : Obj := ⟨(.type "tuple"), none, (.seq #[] 0), #[]⟩
def o429 (P : Params) : Obj := ⟨.none, none, (.fields #[]), #[]⟩
def o430 (P : Params) : Obj := ⟨(.type "tuple"), none, (.seq #[(.str "_law_rule_here" 720), (.str "_law_held" 721), (.str "_law_text" 722)] 0), #[]⟩
def o431 (P : Params) : Obj := ⟨(.type "tuple"), none, (.seq #[] 0), #[]⟩
def o432 (P : Params) : Obj := kC "_law_stands" "_law_stands" s_d_l_stands
def o433 (P : Params) : Obj := ⟨(.type "code"), none, (.fields #[(.str "_law_stands" 717), (.str "_law_stands" 718), (.str "/claim/cut.py" 719), (.int (244) 0), (.int (2) 0), (.int (0) 0), (.int (0) 0), (.int (3) 0), (.ref 428), (.bool true), (.int (181) 0), (.ref 429), .none, (.ref 430), (.ref 431), (.ref 432), (.int (723) 0), (.int (244) 0), (.str "/claim/cut.py" 724)]), #[]⟩
def o434 (P : Params) : Obj := ⟨(.type "function"), none, (.func (PySem.W.fnOf "_law_stands" "_law_stands" (defArgs s_d_l_stands) (defBody s_d_l_stands) (defScope s_d_l_stands) .none .none .none (.str "law_mostwise_k51_what_follows" 614) none (.ref 433) .none)), #[]⟩
def o435 (P : Params) : Obj := ⟨(.type "tuple"), none, (.seq #[] 0), #[]⟩
def o436 (P : Params) : Obj := ⟨.none, none, (.fields #[]), #[]⟩
def o437 (P : Params) : Obj := ⟨(.type "tuple"), none, (.seq #[(.str "_law_rule_here" 729), (.str "_law_refused" 730), (.str "_law_text" 731)] 0), #[]⟩
def o438 (P : Params) : Obj := ⟨(.type "tuple"), none, (.seq #[] 0), #[]⟩
def o439 (P : Params) : Obj := kC "_law_falls" "_law_falls" s_d_l_falls
def o440 (P : Params) : Obj := ⟨(.type "code"), none, (.fields #[(.str "_law_falls" 726), (.str "_law_falls" 727), (.str "/claim/cut.py" 728), (.int (249) 0), (.int (2) 0), (.int (0) 0), (.int (0) 0), (.int (3) 0), (.ref 435), (.bool true), (.int (181) 0), (.ref 436), .none, (.ref 437), (.ref 438), (.ref 439), (.int (732) 0), (.int (249) 0), (.str "/claim/cut.py" 733)]), #[]⟩
def o441 (P : Params) : Obj := ⟨(.type "function"), none, (.func (PySem.W.fnOf "_law_falls" "_law_falls" (defArgs s_d_l_falls) (defBody s_d_l_falls) (defScope s_d_l_falls) .none .none .none (.str "law_mostwise_k51_what_follows" 614) none (.ref 440) .none)), #[]⟩
def o442 (P : Params) : Obj := ⟨(.type "tuple"), none, (.seq #[] 0), #[]⟩
def o443 (P : Params) : Obj := ⟨.none, none, (.fields #[]), #[]⟩
def o444 (P : Params) : Obj := kC "_law_speaking" "_law_speaking" s_d_l_speaking
def o445 (P : Params) : Obj := ⟨(.type "code"), none, (.fields #[(.str "_law_speaking" 735), (.str "_law_speaking" 736), (.str "/claim/cut.py" 737), (.int (254) 0), (.int (2) 0), (.int (0) 0), (.int (0) 0), (.int (3) 0), (.ref 442), (.bool true), (.int (181) 0), (.ref 443), .none, .none, .none, (.ref 444), (.int (738) 0), (.int (254) 0), (.str "/claim/cut.py" 739)]), #[]⟩
def o446 (P : Params) : Obj := ⟨(.type "function"), none, (.func (PySem.W.fnOf "_law_speaking" "_law_speaking" (defArgs s_d_l_speaking) (defBody s_d_l_speaking) (defScope s_d_l_speaking) .none .none .none (.str "law_mostwise_k51_what_follows" 614) none (.ref 445) .none)), #[]⟩
def o447 (P : Params) : Obj := ⟨(.type "tuple"), none, (.seq #[] 0), #[]⟩
def o448 (P : Params) : Obj := ⟨.none, none, (.fields #[]), #[]⟩
def o449 (P : Params) : Obj := kC "_law_against" "_law_against" s_d_l_against
def o450 (P : Params) : Obj := ⟨(.type "code"), none, (.fields #[(.str "_law_against" 741), (.str "_law_against" 742), (.str "/claim/cut.py" 743), (.int (256) 0), (.int (2) 0), (.int (0) 0), (.int (0) 0), (.int (3) 0), (.ref 447), (.bool true), (.int (181) 0), (.ref 448), .none, .none, .none, (.ref 449), (.int (744) 0), (.int (256) 0), (.str "/claim/cut.py" 745)]), #[]⟩
def o451 (P : Params) : Obj := ⟨(.type "function"), none, (.func (PySem.W.fnOf "_law_against" "_law_against" (defArgs s_d_l_against) (defBody s_d_l_against) (defScope s_d_l_against) .none .none .none (.str "law_mostwise_k51_what_follows" 614) none (.ref 450) .none)), #[]⟩
def o452 (P : Params) : Obj := ⟨(.type "tuple"), none, (.seq #[] 0), #[]⟩
def o453 (P : Params) : Obj := ⟨.none, none, (.fields #[]), #[]⟩
def o454 (P : Params) : Obj := ⟨(.type "tuple"), none, (.seq #[(.str "_law_scene_here" 750), (.str "_law_rule_here" 751), (.str "_law_others" 752), (.str "_law_other" 753)] 0), #[]⟩
def o455 (P : Params) : Obj := ⟨(.type "tuple"), none, (.seq #[] 0), #[]⟩
def o456 (P : Params) : Obj := kC "_law_beaten" "_law_beaten" s_d_l_beaten
def o457 (P : Params) : Obj := ⟨(.type "code"), none, (.fields #[(.str "_law_beaten" 747), (.str "_law_beaten" 748), (.str "/claim/cut.py" 749), (.int (258) 0), (.int (3) 0), (.int (0) 0), (.int (0) 0), (.int (3) 0), (.ref 452), (.bool true), (.int (181) 0), (.ref 453), .none, (.ref 454), (.ref 455), (.ref 456), (.int (754) 0), (.int (258) 0), (.str "/claim/cut.py" 755)]), #[]⟩
def o458 (P : Params) : Obj := ⟨(.type "function"), none, (.func (PySem.W.fnOf "_law_beaten" "_law_beaten" (defArgs s_d_l_beaten) (defBody s_d_l_beaten) (defScope s_d_l_beaten) .none .none .none (.str "law_mostwise_k51_what_follows" 614) none (.ref 457) .none)), #[]⟩
def o459 (P : Params) : Obj := ⟨(.type "tuple"), none, (.seq #[] 0), #[]⟩
def o460 (P : Params) : Obj := ⟨.none, none, (.fields #[]), #[]⟩
def o461 (P : Params) : Obj := kC "_law_may_hold" "_law_may_hold" s_d_l_may_hold
def o462 (P : Params) : Obj := ⟨(.type "code"), none, (.fields #[(.str "_law_may_hold" 757), (.str "_law_may_hold" 758), (.str "/claim/cut.py" 759), (.int (263) 0), (.int (5) 0), (.int (0) 0), (.int (0) 0), (.int (3) 0), (.ref 459), (.bool true), (.int (181) 0), (.ref 460), .none, .none, .none, (.ref 461), (.int (760) 0), (.int (263) 0), (.str "/claim/cut.py" 761)]), #[]⟩
def o463 (P : Params) : Obj := ⟨(.type "function"), none, (.func (PySem.W.fnOf "_law_may_hold" "_law_may_hold" (defArgs s_d_l_may_hold) (defBody s_d_l_may_hold) (defScope s_d_l_may_hold) .none .none .none (.str "law_mostwise_k51_what_follows" 614) none (.ref 462) .none)), #[]⟩
def o464 (P : Params) : Obj := ⟨(.type "tuple"), none, (.seq #[] 0), #[]⟩
def o465 (P : Params) : Obj := ⟨.none, none, (.fields #[]), #[]⟩
def o466 (P : Params) : Obj := kC "_law_may_refuse" "_law_may_refuse" s_d_l_may_refuse
def o467 (P : Params) : Obj := ⟨(.type "code"), none, (.fields #[(.str "_law_may_refuse" 763), (.str "_law_may_refuse" 764), (.str "/claim/cut.py" 765), (.int (273) 0), (.int (5) 0), (.int (0) 0), (.int (0) 0), (.int (3) 0), (.ref 464), (.bool true), (.int (181) 0), (.ref 465), .none, .none, .none, (.ref 466), (.int (766) 0), (.int (273) 0), (.str "/claim/cut.py" 767)]), #[]⟩
def o468 (P : Params) : Obj := ⟨(.type "function"), none, (.func (PySem.W.fnOf "_law_may_refuse" "_law_may_refuse" (defArgs s_d_l_may_refuse) (defBody s_d_l_may_refuse) (defScope s_d_l_may_refuse) .none .none .none (.str "law_mostwise_k51_what_follows" 614) none (.ref 467) .none)), #[]⟩
def o469 (P : Params) : Obj := ⟨(.type "tuple"), none, (.seq #[] 0), #[]⟩
def o470 (P : Params) : Obj := ⟨.none, none, (.fields #[]), #[]⟩
def o471 (P : Params) : Obj := kC "_law_good" "_law_good" s_d_l_good
def o472 (P : Params) : Obj := ⟨(.type "code"), none, (.fields #[(.str "_law_good" 769), (.str "_law_good" 770), (.str "/claim/cut.py" 771), (.int (283) 0), (.int (4) 0), (.int (0) 0), (.int (0) 0), (.int (3) 0), (.ref 469), (.bool true), (.int (181) 0), (.ref 470), .none, .none, .none, (.ref 471), (.int (772) 0), (.int (283) 0), (.str "/claim/cut.py" 773)]), #[]⟩
def o473 (P : Params) : Obj := ⟨(.type "function"), none, (.func (PySem.W.fnOf "_law_good" "_law_good" (defArgs s_d_l_good) (defBody s_d_l_good) (defScope s_d_l_good) .none .none .none (.str "law_mostwise_k51_what_follows" 614) none (.ref 472) .none)), #[]⟩
def o474 (P : Params) : Obj := ⟨(.type "tuple"), none, (.seq #[] 0), #[]⟩
def o475 (P : Params) : Obj := ⟨.none, none, (.fields #[]), #[]⟩
def o476 (P : Params) : Obj := ⟨(.type "tuple"), none, (.seq #[(.str "_law_script" 778), (.str "_law_scene_here" 779), (.str "_law_ground" 780), (.str "_law_cell" 781), (.str "_law_sures" 782), (.str "_law_text" 783), (.str "_law_rows" 784), (.str "_law_k" 785), (.str "_law_number" 786), (.str "_law_handed" 787)] 0), #[]⟩
def o477 (P : Params) : Obj := ⟨(.type "tuple"), none, (.seq #[] 0), #[]⟩
def o478 (P : Params) : Obj := kC "law" "law" s_d_law
def o479 (P : Params) : Obj := ⟨(.type "code"), none, (.fields #[(.str "law" 775), (.str "law" 776), (.str "/claim/cut.py" 777), (.int (294) 0), (.int (1) 0), (.int (0) 0), (.int (0) 0), (.int (3) 0), (.ref 474), (.bool true), (.int (181) 0), (.ref 475), .none, (.ref 476), (.ref 477), (.ref 478), (.int (788) 0), (.int (294) 0), (.str "/claim/cut.py" 789)]), #[]⟩
def o480 (P : Params) : Obj := ⟨(.type "function"), none, (.func (PySem.W.fnOf "law" "law" (defArgs s_d_law) (defBody s_d_law) (defScope s_d_law) .none .none .none (.str "law_mostwise_k51_what_follows" 614) none (.ref 479) .none)), #[]⟩
def p3 (P : Params) : Obj := ⟨(.type "dict"), none, (.dict #[kE P "__name__" 165 (.str "__main__" 164), kE P "__doc__" 166 .none, kE P "__package__" 167 .none, kE P "__loader__" 168 (.builtin "__main__.__loader__#opaque"), kE P "__spec__" 169 .none, kE P "__annotations__" 170 (.ref 6), kE P "__builtins__" 171 (.ref 4), kE P "__file__" 173 (.str "/claim/cut.py" 172), kE P "__cached__" 174 .none] 9), #[]⟩
def H0 (P : Params) : Heap := ⟨⟨o0 P :: o1 P :: o2 P :: p3 P :: o4 P :: o5 P :: o6 P :: o7 P :: o8 P :: o9 P :: o10 P :: []⟩, {}⟩
def H1 (P : Params) : Heap := ⟨⟨o0 P :: o1 P :: o2 P :: o3 P :: o4 P :: o5 P :: o6 P :: o7 P :: o8 P :: o9 P :: o10 P :: o11 P :: o12 P :: o13 P :: o14 P :: o15 P :: o16 P :: o17 P :: o18 P :: o19 P :: o20 P :: o21 P :: o22 P :: o23 P :: o24 P :: o25 P :: o26 P :: o27 P :: o28 P :: o29 P :: o30 P :: o31 P :: o32 P :: o33 P :: o34 P :: o35 P :: o36 P :: o37 P :: o38 P :: o39 P :: o40 P :: o41 P :: o42 P :: o43 P :: o44 P :: o45 P :: o46 P :: o47 P :: o48 P :: o49 P :: o50 P :: o51 P :: o52 P :: o53 P :: o54 P :: o55 P :: o56 P :: o57 P :: o58 P :: o59 P :: o60 P :: o61 P :: o62 P :: o63 P :: o64 P :: o65 P :: o66 P :: o67 P :: o68 P :: o69 P :: o70 P :: o71 P :: o72 P :: o73 P :: o74 P :: o75 P :: o76 P :: o77 P :: o78 P :: o79 P :: o80 P :: o81 P :: o82 P :: o83 P :: o84 P :: o85 P :: o86 P :: o87 P :: o88 P :: o89 P :: o90 P :: o91 P :: o92 P :: o93 P :: o94 P :: o95 P :: o96 P :: o97 P :: o98 P :: o99 P :: o100 P :: o101 P :: o102 P :: o103 P :: o104 P :: o105 P :: o106 P :: o107 P :: o108 P :: o109 P :: o110 P :: o111 P :: o112 P :: o113 P :: o114 P :: o115 P :: o116 P :: o117 P :: o118 P :: o119 P :: o120 P :: o121 P :: o122 P :: o123 P :: o124 P :: o125 P :: o126 P :: o127 P :: o128 P :: o129 P :: o130 P :: o131 P :: o132 P :: o133 P :: o134 P :: o135 P :: o136 P :: o137 P :: o138 P :: o139 P :: o140 P :: o141 P :: o142 P :: o143 P :: o144 P :: o145 P :: o146 P :: o147 P :: o148 P :: o149 P :: o150 P :: o151 P :: o152 P :: o153 P :: o154 P :: o155 P :: o156 P :: o157 P :: o158 P :: o159 P :: o160 P :: o161 P :: o162 P :: o163 P :: o164 P :: o165 P :: o166 P :: o167 P :: o168 P :: o169 P :: o170 P :: o171 P :: o172 P :: o173 P :: o174 P :: o175 P :: o176 P :: o177 P :: o178 P :: o179 P :: o180 P :: o181 P :: o182 P :: o183 P :: o184 P :: o185 P :: o186 P :: o187 P :: o188 P :: o189 P :: o190 P :: o191 P :: o192 P :: o193 P :: o194 P :: o195 P :: o196 P :: o197 P :: o198 P :: o199 P :: o200 P :: o201 P :: o202 P :: o203 P :: o204 P :: o205 P :: o206 P :: o207 P :: o208 P :: o209 P :: o210 P :: o211 P :: o212 P :: o213 P :: o214 P :: o215 P :: o216 P :: o217 P :: o218 P :: o219 P :: o220 P :: o221 P :: o222 P :: o223 P :: o224 P :: o225 P :: o226 P :: o227 P :: o228 P :: o229 P :: o230 P :: o231 P :: o232 P :: o233 P :: o234 P :: o235 P :: o236 P :: o237 P :: o238 P :: o239 P :: o240 P :: o241 P :: o242 P :: o243 P :: o244 P :: o245 P :: o246 P :: o247 P :: o248 P :: o249 P :: o250 P :: o251 P :: o252 P :: o253 P :: o254 P :: o255 P :: o256 P :: o257 P :: o258 P :: o259 P :: o260 P :: o261 P :: o262 P :: o263 P :: o264 P :: o265 P :: o266 P :: o267 P :: o268 P :: o269 P :: o270 P :: o271 P :: o272 P :: o273 P :: o274 P :: o275 P :: o276 P :: o277 P :: o278 P :: o279 P :: o280 P :: o281 P :: o282 P :: o283 P :: o284 P :: o285 P :: o286 P :: o287 P :: o288 P :: o289 P :: o290 P :: o291 P :: o292 P :: o293 P :: o294 P :: o295 P :: o296 P :: o297 P :: o298 P :: o299 P :: o300 P :: o301 P :: o302 P :: o303 P :: o304 P :: o305 P :: o306 P :: o307 P :: o308 P :: o309 P :: o310 P :: o311 P :: o312 P :: o313 P :: o314 P :: o315 P :: o316 P :: o317 P :: o318 P :: o319 P :: o320 P :: o321 P :: o322 P :: o323 P :: o324 P :: o325 P :: o326 P :: o327 P :: o328 P :: o329 P :: o330 P :: o331 P :: o332 P :: o333 P :: o334 P :: o335 P :: o336 P :: o337 P :: o338 P :: o339 P :: o340 P :: o341 P :: o342 P :: o343 P :: o344 P :: o345 P :: o346 P :: o347 P :: o348 P :: o349 P :: o350 P :: o351 P :: o352 P :: o353 P :: o354 P :: o355 P :: o356 P :: o357 P :: o358 P :: o359 P :: o360 P :: o361 P :: o362 P :: o363 P :: o364 P :: o365 P :: o366 P :: o367 P :: o368 P :: o369 P :: o370 P :: o371 P :: o372 P :: o373 P :: o374 P :: o375 P :: o376 P :: o377 P :: o378 P :: o379 P :: o380 P :: o381 P :: o382 P :: o383 P :: o384 P :: o385 P :: o386 P :: o387 P :: o388 P :: o389 P :: o390 P :: o391 P :: o392 P :: o393 P :: o394 P :: o395 P :: o396 P :: o397 P :: o398 P :: o399 P :: o400 P :: o401 P :: o402 P :: o403 P :: o404 P :: o405 P :: o406 P :: o407 P :: o408 P :: o409 P :: o410 P :: o411 P :: o412 P :: o413 P :: o414 P :: o415 P :: o416 P :: o417 P :: o418 P :: o419 P :: o420 P :: o421 P :: o422 P :: o423 P :: o424 P :: o425 P :: o426 P :: o427 P :: o428 P :: o429 P :: o430 P :: o431 P :: o432 P :: o433 P :: o434 P :: o435 P :: o436 P :: o437 P :: o438 P :: o439 P :: o440 P :: o441 P :: o442 P :: o443 P :: o444 P :: o445 P :: o446 P :: o447 P :: o448 P :: o449 P :: o450 P :: o451 P :: o452 P :: o453 P :: o454 P :: o455 P :: o456 P :: o457 P :: o458 P :: o459 P :: o460 P :: o461 P :: o462 P :: o463 P :: o464 P :: o465 P :: o466 P :: o467 P :: o468 P :: o469 P :: o470 P :: o471 P :: o472 P :: o473 P :: o474 P :: o475 P :: o476 P :: o477 P :: o478 P :: o479 P :: o480 P :: []⟩, {}⟩
def heapK : Params → PySem.W.Frag := fun P =>
(nat_lit 2, o2 P) :: (nat_lit 3, o3 P) :: (nat_lit 15, o15 P) :: (nat_lit 17, o17 P) :: (nat_lit 18, o18 P) :: (nat_lit 20, o20 P) :: (nat_lit 22, o22 P) :: (nat_lit 24, o24 P) :: (nat_lit 25, o25 P) :: (nat_lit 27, o27 P) :: (nat_lit 28, o28 P) :: (nat_lit 29, o29 P) :: (nat_lit 32, o32 P) :: (nat_lit 33, o33 P) :: (nat_lit 34, o34 P) :: (nat_lit 37, o37 P) :: (nat_lit 38, o38 P) :: (nat_lit 39, o39 P) :: (nat_lit 41, o41 P) :: (nat_lit 42, o42 P) :: (nat_lit 44, o44 P) :: (nat_lit 45, o45 P) :: (nat_lit 46, o46 P) :: (nat_lit 49, o49 P) :: (nat_lit 50, o50 P) :: (nat_lit 51, o51 P) :: (nat_lit 54, o54 P) :: (nat_lit 55, o55 P) :: (nat_lit 56, o56 P) :: (nat_lit 59, o59 P) :: (nat_lit 60, o60 P) :: (nat_lit 61, o61 P) :: (nat_lit 64, o64 P) :: (nat_lit 65, o65 P) :: (nat_lit 66, o66 P) :: (nat_lit 68, o68 P) :: (nat_lit 69, o69 P) :: (nat_lit 71, o71 P) :: (nat_lit 72, o72 P) :: (nat_lit 80, o80 P) :: (nat_lit 82, o82 P) :: (nat_lit 83, o83 P) :: (nat_lit 85, o85 P) :: (nat_lit 86, o86 P) :: (nat_lit 87, o87 P) :: (nat_lit 89, o89 P) :: (nat_lit 90, o90 P) :: (nat_lit 92, o92 P) :: (nat_lit 94, o94 P) :: (nat_lit 96, o96 P) :: (nat_lit 97, o97 P) :: (nat_lit 99, o99 P) :: (nat_lit 100, o100 P) :: (nat_lit 101, o101 P) :: (nat_lit 103, o103 P) :: (nat_lit 104, o104 P) :: (nat_lit 106, o106 P) :: (nat_lit 108, o108 P) :: (nat_lit 110, o110 P) :: (nat_lit 111, o111 P) :: (nat_lit 113, o113 P) :: (nat_lit 115, o115 P) :: (nat_lit 117, o117 P) :: (nat_lit 118, o118 P) :: (nat_lit 120, o120 P) :: (nat_lit 122, o122 P) :: (nat_lit 124, o124 P) :: (nat_lit 125, o125 P) :: (nat_lit 127, o127 P) :: (nat_lit 129, o129 P) :: (nat_lit 131, o131 P) :: (nat_lit 132, o132 P) :: (nat_lit 134, o134 P) :: (nat_lit 136, o136 P) :: (nat_lit 137, o137 P) :: (nat_lit 138, o138 P) :: (nat_lit 139, o139 P) :: (nat_lit 140, o140 P) :: (nat_lit 143, o143 P) :: (nat_lit 150, o150 P) :: (nat_lit 152, o152 P) :: (nat_lit 153, o153 P) :: (nat_lit 155, o155 P) :: (nat_lit 156, o156 P) :: (nat_lit 157, o157 P) :: (nat_lit 159, o159 P) :: (nat_lit 160, o160 P) :: (nat_lit 162, o162 P) :: (nat_lit 163, o163 P) :: (nat_lit 164, o164 P) :: (nat_lit 166, o166 P) :: (nat_lit 167, o167 P) :: (nat_lit 169, o169 P) :: (nat_lit 171, o171 P) :: (nat_lit 173, o173 P) :: (nat_lit 174, o174 P) :: (nat_lit 176, o176 P) :: (nat_lit 178, o178 P) :: (nat_lit 180, o180 P) :: (nat_lit 181, o181 P) :: (nat_lit 183, o183 P) :: (nat_lit 185, o185 P) :: (nat_lit 186, o186 P) :: (nat_lit 187, o187 P) :: (nat_lit 190, o190 P) :: (nat_lit 197, o197 P) :: (nat_lit 199, o199 P) :: (nat_lit 200, o200 P) :: (nat_lit 202, o202 P) :: (nat_lit 203, o203 P) :: (nat_lit 204, o204 P) :: (nat_lit 206, o206 P) :: (nat_lit 207, o207 P) :: (nat_lit 209, o209 P) :: (nat_lit 211, o211 P) :: (nat_lit 213, o213 P) :: (nat_lit 214, o214 P) :: (nat_lit 216, o216 P) :: (nat_lit 218, o218 P) :: (nat_lit 219, o219 P) :: (nat_lit 220, o220 P) :: (nat_lit 223, o223 P) :: (nat_lit 230, o230 P) :: (nat_lit 232, o232 P) :: (nat_lit 233, o233 P) :: (nat_lit 235, o235 P) :: (nat_lit 236, o236 P) :: (nat_lit 237, o237 P) :: (nat_lit 239, o239 P) :: (nat_lit 240, o240 P) :: (nat_lit 242, o242 P) :: (nat_lit 244, o244 P) :: (nat_lit 245, o245 P) :: (nat_lit 246, o246 P) :: (nat_lit 249, o249 P) :: (nat_lit 256, o256 P) :: (nat_lit 258, o258 P) :: (nat_lit 259, o259 P) :: (nat_lit 261, o261 P) :: (nat_lit 262, o262 P) :: (nat_lit 263, o263 P) :: (nat_lit 265, o265 P) :: (nat_lit 266, o266 P) :: (nat_lit 268, o268 P) :: (nat_lit 269, o269 P) :: (nat_lit 270, o270 P) :: (nat_lit 272, o272 P) :: (nat_lit 273, o273 P) :: (nat_lit 275, o275 P) :: (nat_lit 277, o277 P) :: (nat_lit 278, o278 P) :: (nat_lit 279, o279 P) :: (nat_lit 289, o289 P) :: (nat_lit 291, o291 P) :: (nat_lit 292, o292 P) :: (nat_lit 294, o294 P) :: (nat_lit 295, o295 P) :: (nat_lit 296, o296 P) :: (nat_lit 298, o298 P) :: (nat_lit 299, o299 P) :: (nat_lit 301, o301 P) :: (nat_lit 303, o303 P) :: (nat_lit 305, o305 P) :: (nat_lit 306, o306 P) :: (nat_lit 308, o308 P) :: (nat_lit 309, o309 P) :: (nat_lit 310, o310 P) :: (nat_lit 313, o313 P) :: (nat_lit 314, o314 P) :: (nat_lit 315, o315 P) :: (nat_lit 317, o317 P) :: (nat_lit 318, o318 P) :: (nat_lit 320, o320 P) :: (nat_lit 321, o321 P) :: (nat_lit 322, o322 P) :: (nat_lit 324, o324 P) :: (nat_lit 325, o325 P) :: (nat_lit 327, o327 P) :: (nat_lit 328, o328 P) :: (nat_lit 329, o329 P) :: (nat_lit 331, o331 P) :: (nat_lit 332, o332 P) :: (nat_lit 334, o334 P) :: (nat_lit 336, o336 P) :: (nat_lit 338, o338 P) :: (nat_lit 339, o339 P) :: (nat_lit 341, o341 P) :: (nat_lit 343, o343 P) :: (nat_lit 344, o344 P) :: (nat_lit 345, o345 P) :: (nat_lit 346, o346 P) :: (nat_lit 347, o347 P) :: (nat_lit 350, o350 P) :: (nat_lit 352, o352 P) :: (nat_lit 353, o353 P) :: (nat_lit 355, o355 P) :: (nat_lit 356, o356 P) :: (nat_lit 357, o357 P) :: (nat_lit 359, o359 P) :: (nat_lit 360, o360 P) :: (nat_lit 362, o362 P) :: (nat_lit 363, o363 P) :: (nat_lit 364, o364 P) :: (nat_lit 367, o367 P) :: (nat_lit 368, o368 P) :: (nat_lit 369, o369 P) :: (nat_lit 371, o371 P) :: (nat_lit 372, o372 P) :: (nat_lit 374, o374 P) :: (nat_lit 375, o375 P) :: (nat_lit 376, o376 P) :: (nat_lit 378, o378 P) :: (nat_lit 379, o379 P) :: (nat_lit 381, o381 P) :: (nat_lit 382, o382 P) :: (nat_lit 383, o383 P) :: (nat_lit 385, o385 P) :: (nat_lit 386, o386 P) :: (nat_lit 388, o388 P) :: (nat_lit 389, o389 P) :: (nat_lit 390, o390 P) :: (nat_lit 392, o392 P) :: (nat_lit 393, o393 P) :: (nat_lit 395, o395 P) :: (nat_lit 396, o396 P) :: (nat_lit 397, o397 P) :: (nat_lit 400, o400 P) :: (nat_lit 401, o401 P) :: (nat_lit 402, o402 P) :: (nat_lit 404, o404 P) :: (nat_lit 405, o405 P) :: (nat_lit 407, o407 P) :: (nat_lit 408, o408 P) :: (nat_lit 409, o409 P) :: (nat_lit 411, o411 P) :: (nat_lit 412, o412 P) :: (nat_lit 414, o414 P) :: (nat_lit 415, o415 P) :: (nat_lit 416, o416 P) :: (nat_lit 419, o419 P) :: (nat_lit 420, o420 P) :: (nat_lit 428, o428 P) :: (nat_lit 430, o430 P) :: (nat_lit 431, o431 P) :: (nat_lit 433, o433 P) :: (nat_lit 434, o434 P) :: (nat_lit 435, o435 P) :: (nat_lit 437, o437 P) :: (nat_lit 438, o438 P) :: (nat_lit 440, o440 P) :: (nat_lit 441, o441 P) :: (nat_lit 442, o442 P) :: (nat_lit 445, o445 P) :: (nat_lit 446, o446 P) :: (nat_lit 447, o447 P) :: (nat_lit 450, o450 P) :: (nat_lit 451, o451 P) :: (nat_lit 452, o452 P) :: (nat_lit 454, o454 P) :: (nat_lit 455, o455 P) :: (nat_lit 457, o457 P) :: (nat_lit 458, o458 P) :: (nat_lit 459, o459 P) :: (nat_lit 462, o462 P) :: (nat_lit 463, o463 P) :: (nat_lit 464, o464 P) :: (nat_lit 467, o467 P) :: (nat_lit 468, o468 P) :: (nat_lit 469, o469 P) :: (nat_lit 472, o472 P) :: (nat_lit 473, o473 P) :: (nat_lit 474, o474 P) :: (nat_lit 476, o476 P) :: (nat_lit 477, o477 P) :: (nat_lit 479, o479 P) :: (nat_lit 480, o480 P) :: []
abbrev heapA : List Addr := [2, 3, 15, 17, 18, 20, 22, 24, 25, 27, 28, 29, 32, 33, 34, 37, 38, 39, 41, 42, 44, 45, 46, 49, 50, 51, 54, 55, 56, 59, 60, 61, 64, 65, 66, 68, 69, 71, 72, 80, 82, 83, 85, 86, 87, 89, 90, 92, 94, 96, 97, 99, 100, 101, 103, 104, 106, 108, 110, 111, 113, 115, 117, 118, 120, 122, 124, 125, 127, 129, 131, 132, 134, 136, 137, 138, 139, 140, 143, 150, 152, 153, 155, 156, 157, 159, 160, 162, 163, 164, 166, 167, 169, 171, 173, 174, 176, 178, 180, 181, 183, 185, 186, 187, 190, 197, 199, 200, 202, 203, 204, 206, 207, 209, 211, 213, 214, 216, 218, 219, 220, 223, 230, 232, 233, 235, 236, 237, 239, 240, 242, 244, 245, 246, 249, 256, 258, 259, 261, 262, 263, 265, 266, 268, 269, 270, 272, 273, 275, 277, 278, 279, 289, 291, 292, 294, 295, 296, 298, 299, 301, 303, 305, 306, 308, 309, 310, 313, 314, 315, 317, 318, 320, 321, 322, 324, 325, 327, 328, 329, 331, 332, 334, 336, 338, 339, 341, 343, 344, 345, 346, 347, 350, 352, 353, 355, 356, 357, 359, 360, 362, 363, 364, 367, 368, 369, 371, 372, 374, 375, 376, 378, 379, 381, 382, 383, 385, 386, 388, 389, 390, 392, 393, 395, 396, 397, 400, 401, 402, 404, 405, 407, 408, 409, 411, 412, 414, 415, 416, 419, 420, 428, 430, 431, 433, 434, 435, 437, 438, 440, 441, 442, 445, 446, 447, 450, 451, 452, 454, 455, 457, 458, 459, 462, 463, 464, 467, 468, 469, 472, 473, 474, 476, 477, 479, 480]
theorem heapE : ∀ P, heapA = (heapK P).map (·.1) := fun _ => by kernel_rfl
def viewQ : Program := PySem.W.view PySem.Challenge.pw_mostwise_k51_what_follows [0, 2, 3, 4, 6, 8, 9, 10, 11, 12, 14, 15, 17, 18, 19, 20, 21, 23, 25, 26, 27, 28, 29, 30, 31, 32, 33, 34, 35, 36, 37, 38, 39, 40, 41, 42, 43, 44, 45]
theorem l_open : ∀ w : World, (fencedOpening treeTable PySem.Challenge.pw_mostwise_k51_what_follows w 6400).map (fun s => (s.heap, s.gens, s.drawn, s.toks)) = some (H0 w.params, #[], {}, 181) := fun w => by kernel_rfl
theorem piece_take {tb : String → Option Builtin} {p : Program} {w : World} {n₀ : Nat} {ann : Option Value} {env : Env} {q : Pos} {n N a l : Nat} {s s' r : Shared} {b : List Stmt} {c : Code} {pos p' : Pos} (h : segRun tb p w n₀ ann 1 n s (piecesOf ((b.drop a).take l) env c pos [topFrame q]) = some (.next, s', c, p'))
    (k : topRun tb p w n₀ ann N s' (restOf (b.drop (a + l)) env c p' [topFrame q]) = some r) : topRun tb p w n₀ ann (n + N) s (restOf (b.drop a) env c pos [topFrame q]) = some r := by
  have e := piece_app h k
  rwa [← List.drop_drop, List.take_append_drop] at e
def pre12 (P : Params) : Obj := ⟨.none, none, (.fields #[]), #[]⟩
def H_pre (P : Params) : Heap := ⟨⟨o0 P :: o1 P :: o2 P :: p3 P :: o4 P :: o5 P :: o6 P :: o7 P :: o8 P :: o9 P :: o10 P :: o11 P :: pre12 P :: o13 P :: o14 P :: []⟩, {}⟩
def block12 (P : Params) : Obj := ⟨.none, none, (.fields #[]), #[]⟩
def H_block (P : Params) : Heap := ⟨⟨o0 P :: o1 P :: o2 P :: p3 P :: o4 P :: o5 P :: o6 P :: o7 P :: o8 P :: o9 P :: o10 P :: o11 P :: block12 P :: o13 P :: o14 P :: []⟩, {}⟩
def tEnv : Env := { scope := PySem.Challenge.pw_mostwise_k51_what_follows.main.scope, locals := mainNs, globals := mainNs, cells := [], code := (.ref 13), frame := some 14 }
def tCode : Code := .body (behindTheImports PySem.Challenge.pw_mostwise_k51_what_follows) tEnv
abbrev tFr : List Frame := [topFrame ⟨0, 0, 0, 0⟩]
abbrev tRest (i : Nat) (q : Pos) : Thread := restOf ((behindTheImports PySem.Challenge.pw_mostwise_k51_what_follows).drop i) tEnv tCode q tFr
theorem l_pre : ∀ (w : World) (os : OsState), topGo treeTable PySem.Challenge.pw_mostwise_k51_what_follows w 11 (some (.ref 6)) 12 ⟨H0 w.params, #[], {}, 181, os⟩ (topStub PySem.Challenge.pw_mostwise_k51_what_follows) = some (⟨H_pre w.params, #[], {}, 187, os⟩, ⟨denote treeTable tCode, tCode, ⟨0, 0, 0, 0⟩, tFr⟩) := fun w os => by kernel_rfl
theorem l_block : ∀ (w : World) (os : OsState), segRun treeTable PySem.Challenge.pw_mostwise_k51_what_follows w 11 (some (.ref 6)) 1 1 ⟨H_pre w.params, #[], {}, 187, os⟩ (blockOf (behindTheImports PySem.Challenge.pw_mostwise_k51_what_follows) tEnv tCode ⟨0, 0, 0, 0⟩ tFr) = some (.next, ⟨H_block w.params, #[], {}, 187, os⟩, tCode, ⟨0, 0, 0, 0⟩) := fun w os => by kernel_rfl
def g13 (P : Params) : Obj := ⟨(.type "dict"), none, (.dict #[kE P "__name__" 165 (.str "mostwise.rules" 270), kE P "__doc__" 166 .none, kE P "__package__" 167 .none, kE P "__loader__" 168 (.builtin "__main__.__loader__#opaque"), kE P "__spec__" 169 .none, kE P "__annotations__" 170 (.ref 6), kE P "__builtins__" 171 (.ref 4), kE P "__file__" 173 (.str "/claim/cut.py" 172), kE P "__cached__" 174 .none, kE P "_wall" 193 (.ref 21), kE P "keyed" 204 (.ref 28), kE P "all_among" 210 (.ref 33), kE P "any_among" 216 (.ref 38), kE P "opposite" 225 (.ref 45), kE P "HELD" 229 (.str "held" 228), kE P "REFUSED" 231 (.str "refused" 230), kE P "is_beaten" 237 (.ref 50), kE P "holds_by" 243 (.ref 55), kE P "refused_by" 249 (.ref 60), kE P "with_word" 257 (.ref 65), kE P "follows" 269 (.ref 72), kE P "Rule" 357 (.ref 138), kE P "Fact" 411 (.ref 187), kE P "Sure" 450 (.ref 220), kE P "Most" 482 (.ref 246)] 25), #[]⟩
def g112 (P : Params) : Obj := ⟨.none, none, (.fields #[(.int (1) 0), (.int (0) 0), (.ref 20), (.int (5) 0), (.int (0) 0), (.ref 27), (.int (10) 0), (.int (0) 0), (.ref 32), (.int (12) 0), (.int (0) 0), (.ref 37), (.int (15) 0), (.int (0) 0), (.ref 44), (.int (20) 0), (.int (0) 0), (.ref 49), (.int (22) 0), (.int (0) 0), (.ref 54), (.int (29) 0), (.int (0) 0), (.ref 59), (.int (37) 0), (.int (0) 0), (.ref 64), (.int (39) 0), (.int (0) 0), (.ref 71), (.int (48) 0), (.int (0) 0), (.ref 78), (.int (78) 0), (.int (0) 0), (.ref 148), (.int (94) 0), (.int (0) 0), (.ref 195), (.int (104) 0), (.int (0) 0), (.ref 228)]), #[]⟩
def g1138 (P : Params) : Obj := ⟨(.type "type"), none, (.cls ⟨"Rule", [(.type "object")], [(.ref 138), (.type "object")], 137, "Rule", true, [], [(.ref 187), (.ref 220), (.ref 246)], false, none, false⟩), #[none, none, (some (.str "Rule" 272)), (some (.str "Rule" 280)), (some (.builtin "object.__new__")), (some (.bool true))]⟩
def H_g1 (P : Params) : Heap := ⟨⟨o0 P :: o1 P :: o2 P :: g13 P :: o4 P :: o5 P :: o6 P :: o7 P :: o8 P :: o9 P :: o10 P :: o11 P :: g112 P :: o13 P :: o14 P :: o15 P :: o16 P :: o17 P :: o18 P :: o19 P :: o20 P :: o21 P :: o22 P :: o23 P :: o24 P :: o25 P :: o26 P :: o27 P :: o28 P :: o29 P :: o30 P :: o31 P :: o32 P :: o33 P :: o34 P :: o35 P :: o36 P :: o37 P :: o38 P :: o39 P :: o40 P :: o41 P :: o42 P :: o43 P :: o44 P :: o45 P :: o46 P :: o47 P :: o48 P :: o49 P :: o50 P :: o51 P :: o52 P :: o53 P :: o54 P :: o55 P :: o56 P :: o57 P :: o58 P :: o59 P :: o60 P :: o61 P :: o62 P :: o63 P :: o64 P :: o65 P :: o66 P :: o67 P :: o68 P :: o69 P :: o70 P :: o71 P :: o72 P :: o73 P :: o74 P :: o75 P :: o76 P :: o77 P :: o78 P :: o79 P :: o80 P :: o81 P :: o82 P :: o83 P :: o84 P :: o85 P :: o86 P :: o87 P :: o88 P :: o89 P :: o90 P :: o91 P :: o92 P :: o93 P :: o94 P :: o95 P :: o96 P :: o97 P :: o98 P :: o99 P :: o100 P :: o101 P :: o102 P :: o103 P :: o104 P :: o105 P :: o106 P :: o107 P :: o108 P :: o109 P :: o110 P :: o111 P :: o112 P :: o113 P :: o114 P :: o115 P :: o116 P :: o117 P :: o118 P :: o119 P :: o120 P :: o121 P :: o122 P :: o123 P :: o124 P :: o125 P :: o126 P :: o127 P :: o128 P :: o129 P :: o130 P :: o131 P :: o132 P :: o133 P :: o134 P :: o135 P :: o136 P :: o137 P :: g1138 P :: o139 P :: o140 P :: o141 P :: o142 P :: o143 P :: o144 P :: o145 P :: o146 P :: o147 P :: o148 P :: o149 P :: o150 P :: o151 P :: o152 P :: o153 P :: o154 P :: o155 P :: o156 P :: o157 P :: o158 P :: o159 P :: o160 P :: o161 P :: o162 P :: o163 P :: o164 P :: o165 P :: o166 P :: o167 P :: o168 P :: o169 P :: o170 P :: o171 P :: o172 P :: o173 P :: o174 P :: o175 P :: o176 P :: o177 P :: o178 P :: o179 P :: o180 P :: o181 P :: o182 P :: o183 P :: o184 P :: o185 P :: o186 P :: o187 P :: o188 P :: o189 P :: o190 P :: o191 P :: o192 P :: o193 P :: o194 P :: o195 P :: o196 P :: o197 P :: o198 P :: o199 P :: o200 P :: o201 P :: o202 P :: o203 P :: o204 P :: o205 P :: o206 P :: o207 P :: o208 P :: o209 P :: o210 P :: o211 P :: o212 P :: o213 P :: o214 P :: o215 P :: o216 P :: o217 P :: o218 P :: o219 P :: o220 P :: o221 P :: o222 P :: o223 P :: o224 P :: o225 P :: o226 P :: o227 P :: o228 P :: o229 P :: o230 P :: o231 P :: o232 P :: o233 P :: o234 P :: o235 P :: o236 P :: o237 P :: o238 P :: o239 P :: o240 P :: o241 P :: o242 P :: o243 P :: o244 P :: o245 P :: o246 P :: o247 P :: o248 P :: []⟩, {}⟩
theorem l_g1 : ∀ (w : World) (os : OsState), segRun treeTable PySem.Challenge.pw_mostwise_k51_what_follows w 11 (some (.ref 6)) 1 1743 ⟨H_block w.params, #[], {}, 187, os⟩ (piecesOf (((behindTheImports PySem.Challenge.pw_mostwise_k51_what_follows).drop 0).take 21) tEnv tCode ⟨0, 0, 0, 0⟩ tFr) = some (.next, ⟨H_g1 w.params, #[], {}, 483, os⟩, tCode, ⟨104, 0, 110, 16⟩) := fun w os => by kernel_rfl
theorem l_end : ∀ (w : World) (os : OsState), topRun treeTable PySem.Challenge.pw_mostwise_k51_what_follows w 11 (some (.ref 6)) 1398 ⟨H_g1 w.params, #[], {}, 483, os⟩ (tRest 21 ⟨104, 0, 110, 16⟩) = some ⟨H1 w.params, #[], {}, 791, os⟩ := fun w os => by kernel_rfl
theorem l_run : ∀ (w : World) (os : OsState), topRun treeTable PySem.Challenge.pw_mostwise_k51_what_follows w 11 (some (.ref 6)) 3154 ⟨H0 w.params, #[], {}, 181, os⟩ (topStub PySem.Challenge.pw_mostwise_k51_what_follows) = some ⟨H1 w.params, #[], {}, 791, os⟩ := fun w os => go_top (n := 12) (l_pre w os) (piece_block (n := 1) (l_block w os) (piece_take (l_g1 w os) (l_end w os)))
end
end K51
set_option maxRecDepth 100000 in
set_option maxHeartbeats 0 in
theorem PySem.Challenge.cw_mostwise_k51_what_follows_holds : PySem.Challenge.rw_mostwise_k51_what_follows.Holds := by
  w_on; o_law
  refine PySem.W.holds_open (q := K51.viewQ) (loose := []) (Xt := fun s => PySem.W.xlAt K51.viewQ [] s && PySem.W.recOk (PySem.W.RowW.records (PySem.W.OpenRow.toRowW PySem.Challenge.rw_mostwise_k51_what_follows.row)) s) (XP := PySem.W.XL K51.viewQ []) (Yf := PySem.W.Hook.obs (PySem.W.kHook K51.heapK K51.heapA K51.heapE)) (Ya := PySem.W.Hook.val (PySem.W.kHook K51.heapK K51.heapA K51.heapE)) (YP := PySem.W.Hook.says (PySem.W.kHook K51.heapK K51.heapA K51.heapE)) (N := 6400) ?hl (PySem.W.Hook.of (PySem.W.kHook K51.heapK K51.heapA K51.heapE)) (PySem.W.Hook.keeps (PySem.W.kHook K51.heapK K51.heapA K51.heapE)) (fun s e => PySem.W.xl_of s (Bool.and_eq_true_iff.mp e).1) PySem.W.XL.keeps (by rfl) (by rfl) (by rfl) (fun s e => PySem.W.recFacts_of (Bool.and_eq_true_iff.mp e).2) (by rfl) (by first | assumption | decide +kernel) (by decide +kernel) ⟨rfl, rfl, rfl, rfl, rfl, by decide +kernel⟩ ?hw ?hc
  (case hl => refine PySem.W.LeftO.of_pieces (H₀ := K51.H0) (H₁ := K51.H1) (gs₀ := #[]) (gs₁ := #[]) (d₀ := {}) (d₁ := {}) (k₀ := 181) (k₁ := 791) (m₀ := 11) (ann := (some (.ref 6))) (M := 3154) K51.l_open ?_ K51.l_run rfl ?_ <;> (intro w; kernel_rfl))
  (case hw => w_witness2)
  k_fill
  refine L2.walk_ofK (l := PySem.Challenge.rw_mostwise_k51_what_follows) (n := 63) (k := 8) (x := "_law_script") (CX := L2.CX0) (sp := K51.spLaw) rfl (by decide) rfl ⟨rfl, by decide, by decide⟩ (fun w h Y => PySem.W.kIn_of Y) ?F (fun K H a ns hl hO hS => K51.spLaw_of hl hO hS) (fun _ _ _ _ z => z)
  case F =>
    intro w mg fa h KX G hmg
    have T : ∃ t : K51.Adr, K51.Txt (L2.KOf KX) mg t := by
      dsimp only [L2.KOf]
      refine' Exists.imp (fun _ h => h.2.2) (K51.txt_mk KX G ?a_Rule ?a_Fact ?a_Sure ?a_Most ?a_Block ?a_Ground ?a_d_keyed ?l_d_keyed ?c_d_keyed ?p_d_keyed ?a_d_all_among ?l_d_all_among ?c_d_all_among ?p_d_all_among ?a_d_any_among ?l_d_any_among ?c_d_any_among ?p_d_any_among ?a_d_opposite ?l_d_opposite ?c_d_opposite ?p_d_opposite ?a_d_is_beaten ?l_d_is_beaten ?c_d_is_beaten ?p_d_is_beaten ?a_d_holds_by ?l_d_holds_by ?c_d_holds_by ?p_d_holds_by ?a_d_refused_by ?l_d_refused_by ?c_d_refused_by ?p_d_refused_by ?a_d_with_word ?l_d_with_word ?c_d_with_word ?p_d_with_word ?a_d_follows ?l_d_follows ?c_d_follows ?p_d_follows ?a_c_Rule_init ?l_c_Rule_init ?c_c_Rule_init ?p_c_Rule_init ?a_c_Rule_speaks ?l_c_Rule_speaks ?c_c_Rule_speaks ?p_c_Rule_speaks ?a_c_Fact_init ?l_c_Fact_init ?c_c_Fact_init ?p_c_Fact_init ?a_c_Fact_word ?l_c_Fact_word ?c_c_Fact_word ?p_c_Fact_word ?a_c_Sure_word ?l_c_Sure_word ?c_c_Sure_word ?p_c_Sure_word ?a_c_Most_word ?l_c_Most_word ?c_c_Most_word ?p_c_Most_word ?a_c_Block_word ?l_c_Block_word ?c_c_Block_word ?p_c_Block_word ?a_c_Block_speaks ?l_c_Block_speaks ?c_c_Block_speaks ?p_c_Block_speaks ?a_c_Ground_init ?l_c_Ground_init ?c_c_Ground_init ?p_c_Ground_init ?a_c_Ground_ruling ?l_c_Ground_ruling ?c_c_Ground_ruling ?p_c_Ground_ruling ?a_c_Ground_speaking ?l_c_Ground_speaking ?c_c_Ground_speaking ?p_c_Ground_speaking ?a_c_Ground_against ?l_c_Ground_against ?c_c_Ground_against ?p_c_Ground_against ?a_c_Ground_beats ?l_c_Ground_beats ?c_c_Ground_beats ?p_c_Ground_beats ?a_d_l_cell_at ?l_d_l_cell_at ?c_d_l_cell_at ?p_d_l_cell_at ?a_d_l_mix ?l_d_l_mix ?c_d_l_mix ?p_d_l_mix ?a_d_l_words ?l_d_l_words ?c_d_l_words ?p_d_l_words ?a_d_l_opposed ?l_d_l_opposed ?c_d_l_opposed ?p_d_l_opposed ?a_d_l_pool ?l_d_l_pool ?c_d_l_pool ?p_d_l_pool ?a_d_l_drawn ?l_d_l_drawn ?c_d_l_drawn ?p_d_l_drawn ?a_d_l_numbers ?l_d_l_numbers ?c_d_l_numbers ?p_d_l_numbers ?a_d_l_rule ?l_d_l_rule ?c_d_l_rule ?p_d_l_rule ?a_d_l_pairs ?l_d_l_pairs ?c_d_l_pairs ?p_d_l_pairs ?a_d_l_turned ?l_d_l_turned ?c_d_l_turned ?p_d_l_turned ?a_d_l_scene ?l_d_l_scene ?c_d_l_scene ?p_d_l_scene ?a_d_l_stands ?l_d_l_stands ?c_d_l_stands ?p_d_l_stands ?a_d_l_falls ?l_d_l_falls ?c_d_l_falls ?p_d_l_falls ?a_d_l_speaking ?l_d_l_speaking ?c_d_l_speaking ?p_d_l_speaking ?a_d_l_against ?l_d_l_against ?c_d_l_against ?p_d_l_against ?a_d_l_beaten ?l_d_l_beaten ?c_d_l_beaten ?p_d_l_beaten ?a_d_l_may_hold ?l_d_l_may_hold ?c_d_l_may_hold ?p_d_l_may_hold ?a_d_l_may_refuse ?l_d_l_may_refuse ?c_d_l_may_refuse ?p_d_l_may_refuse ?a_d_l_good ?l_d_l_good ?c_d_l_good ?p_d_l_good ?a_d_law ?l_d_law ?c_d_law ?p_d_law ?k_HELD ?k_REFUSED ?z_NotImplementedError ?z_all ?z_any ?z_bool ?z_isinstance ?z_len ?z_list ?z_range ?z_reversed ?z_sorted ?z_str ?z_tuple ?kc_Rule ?kt_Rule ?cg_Rule ?cr_Rule ?ca_Rule ?kc_Fact ?kt_Fact ?pg_Fact ?hd_Fact ?po_Fact ?sa_Fact ?th_Fact ?tn_Fact ?tt_Fact ?tm_Fact ?nf_Fact_label ?nf_Fact_head ?nf_Fact_body ?mm_Fact ?mi_Fact ?mf_Fact ?mq_Fact ?ma_Fact_word ?mb_Fact_word ?ma_Fact_speaks ?mb_Fact_speaks ?ks_Fact_Rule ?ks_Fact_Fact ?kc_Sure ?kt_Sure ?pg_Sure ?hd_Sure ?po_Sure ?sa_Sure ?th_Sure ?tn_Sure ?tt_Sure ?tm_Sure ?nf_Sure_label ?nf_Sure_head ?nf_Sure_body ?mm_Sure ?mi_Sure ?mf_Sure ?mq_Sure ?ma_Sure_word ?mb_Sure_word ?ma_Sure_speaks ?mb_Sure_speaks ?ks_Sure_Rule ?ks_Sure_Sure ?kc_Most ?kt_Most ?pg_Most ?hd_Most ?po_Most ?sa_Most ?th_Most ?tn_Most ?tt_Most ?tm_Most ?nf_Most_label ?nf_Most_head ?nf_Most_body ?mm_Most ?mi_Most ?mf_Most ?mq_Most ?ma_Most_word ?mb_Most_word ?ma_Most_speaks ?mb_Most_speaks ?ks_Most_Rule ?ks_Most_Most ?kc_Block ?kt_Block ?pg_Block ?hd_Block ?po_Block ?sa_Block ?th_Block ?tn_Block ?tt_Block ?tm_Block ?nf_Block_label ?nf_Block_head ?nf_Block_body ?mm_Block ?mi_Block ?mf_Block ?mq_Block ?ma_Block_word ?mb_Block_word ?ma_Block_speaks ?mb_Block_speaks ?ks_Block_Rule ?ks_Block_Block ?kc_Ground ?kt_Ground ?pg_Ground ?hd_Ground ?po_Ground ?sa_Ground ?th_Ground ?tn_Ground ?tt_Ground ?tm_Ground ?nf_Ground_in_order ?nf_Ground_by_head ?nf_Ground_pairs ?mm_Ground ?mi_Ground ?mf_Ground ?mq_Ground ?ma_Ground_ruling ?mb_Ground_ruling ?ma_Ground_speaking ?mb_Ground_speaking ?ma_Ground_against ?mb_Ground_against ?ma_Ground_beats ?mb_Ground_beats ?ks_Ground_Ground)
      (case a_Rule => k_is); (case a_Fact => k_is); (case a_Sure => k_is); (case a_Most => k_is); (case a_Block => k_is); (case a_Ground => k_is); (case a_d_keyed => k_is); (case l_d_keyed => k_is); (case c_d_keyed => k_is); (case p_d_keyed => k_is); (case a_d_all_among => k_is); (case l_d_all_among => k_is); (case c_d_all_among => k_is); (case p_d_all_among => k_is); (case a_d_any_among => k_is); (case l_d_any_among => k_is); (case c_d_any_among => k_is); (case p_d_any_among => k_is); (case a_d_opposite => k_is); (case l_d_opposite => k_is)
      (case c_d_opposite => k_is); (case p_d_opposite => k_is); (case a_d_is_beaten => k_is); (case l_d_is_beaten => k_is); (case c_d_is_beaten => k_is); (case p_d_is_beaten => k_is); (case a_d_holds_by => k_is); (case l_d_holds_by => k_is); (case c_d_holds_by => k_is); (case p_d_holds_by => k_is); (case a_d_refused_by => k_is); (case l_d_refused_by => k_is); (case c_d_refused_by => k_is); (case p_d_refused_by => k_is); (case a_d_with_word => k_is); (case l_d_with_word => k_is); (case c_d_with_word => k_is); (case p_d_with_word => k_is); (case a_d_follows => k_is); (case l_d_follows => k_is)
      (case c_d_follows => k_is); (case p_d_follows => k_is); (case a_c_Rule_init => k_is); (case l_c_Rule_init => k_is); (case c_c_Rule_init => k_is); (case p_c_Rule_init => k_is); (case a_c_Rule_speaks => k_is); (case l_c_Rule_speaks => k_is); (case c_c_Rule_speaks => k_is); (case p_c_Rule_speaks => k_is); (case a_c_Fact_init => k_is); (case l_c_Fact_init => k_is); (case c_c_Fact_init => k_is); (case p_c_Fact_init => k_is); (case a_c_Fact_word => k_is); (case l_c_Fact_word => k_is); (case c_c_Fact_word => k_is); (case p_c_Fact_word => k_is); (case a_c_Sure_word => k_is); (case l_c_Sure_word => k_is)
      (case c_c_Sure_word => k_is); (case p_c_Sure_word => k_is); (case a_c_Most_word => k_is); (case l_c_Most_word => k_is); (case c_c_Most_word => k_is); (case p_c_Most_word => k_is); (case a_c_Block_word => k_is); (case l_c_Block_word => k_is); (case c_c_Block_word => k_is); (case p_c_Block_word => k_is); (case a_c_Block_speaks => k_is); (case l_c_Block_speaks => k_is); (case c_c_Block_speaks => k_is); (case p_c_Block_speaks => k_is); (case a_c_Ground_init => k_is); (case l_c_Ground_init => k_is); (case c_c_Ground_init => k_is); (case p_c_Ground_init => k_is); (case a_c_Ground_ruling => k_is); (case l_c_Ground_ruling => k_is)
      (case c_c_Ground_ruling => k_is); (case p_c_Ground_ruling => k_is); (case a_c_Ground_speaking => k_is); (case l_c_Ground_speaking => k_is); (case c_c_Ground_speaking => k_is); (case p_c_Ground_speaking => k_is); (case a_c_Ground_against => k_is); (case l_c_Ground_against => k_is); (case c_c_Ground_against => k_is); (case p_c_Ground_against => k_is); (case a_c_Ground_beats => k_is); (case l_c_Ground_beats => k_is); (case c_c_Ground_beats => k_is); (case p_c_Ground_beats => k_is); (case a_d_l_cell_at => k_is); (case l_d_l_cell_at => k_is); (case c_d_l_cell_at => k_is); (case p_d_l_cell_at => k_is); (case a_d_l_mix => k_is); (case l_d_l_mix => k_is)
      (case c_d_l_mix => k_is); (case p_d_l_mix => k_is); (case a_d_l_words => k_is); (case l_d_l_words => k_is); (case c_d_l_words => k_is); (case p_d_l_words => k_is); (case a_d_l_opposed => k_is); (case l_d_l_opposed => k_is); (case c_d_l_opposed => k_is); (case p_d_l_opposed => k_is); (case a_d_l_pool => k_is); (case l_d_l_pool => k_is); (case c_d_l_pool => k_is); (case p_d_l_pool => k_is); (case a_d_l_drawn => k_is); (case l_d_l_drawn => k_is); (case c_d_l_drawn => k_is); (case p_d_l_drawn => k_is); (case a_d_l_numbers => k_is); (case l_d_l_numbers => k_is)
      (case c_d_l_numbers => k_is); (case p_d_l_numbers => k_is); (case a_d_l_rule => k_is); (case l_d_l_rule => k_is); (case c_d_l_rule => k_is); (case p_d_l_rule => k_is); (case a_d_l_pairs => k_is); (case l_d_l_pairs => k_is); (case c_d_l_pairs => k_is); (case p_d_l_pairs => k_is); (case a_d_l_turned => k_is); (case l_d_l_turned => k_is); (case c_d_l_turned => k_is); (case p_d_l_turned => k_is); (case a_d_l_scene => k_is); (case l_d_l_scene => k_is); (case c_d_l_scene => k_is); (case p_d_l_scene => k_is); (case a_d_l_stands => k_is); (case l_d_l_stands => k_is)
      (case c_d_l_stands => k_is); (case p_d_l_stands => k_is); (case a_d_l_falls => k_is); (case l_d_l_falls => k_is); (case c_d_l_falls => k_is); (case p_d_l_falls => k_is); (case a_d_l_speaking => k_is); (case l_d_l_speaking => k_is); (case c_d_l_speaking => k_is); (case p_d_l_speaking => k_is); (case a_d_l_against => k_is); (case l_d_l_against => k_is); (case c_d_l_against => k_is); (case p_d_l_against => k_is); (case a_d_l_beaten => k_is); (case l_d_l_beaten => k_is); (case c_d_l_beaten => k_is); (case p_d_l_beaten => k_is); (case a_d_l_may_hold => k_is); (case l_d_l_may_hold => k_is)
      (case c_d_l_may_hold => k_is); (case p_d_l_may_hold => k_is); (case a_d_l_may_refuse => k_is); (case l_d_l_may_refuse => k_is); (case c_d_l_may_refuse => k_is); (case p_d_l_may_refuse => k_is); (case a_d_l_good => k_is); (case l_d_l_good => k_is); (case c_d_l_good => k_is); (case p_d_l_good => k_is); (case a_d_law => k_is); (case l_d_law => k_is); (case c_d_law => k_is); (case p_d_law => k_is); (case k_HELD => k_is); (case k_REFUSED => k_is); (case z_NotImplementedError => k_is); (case z_all => k_is); (case z_any => k_is); (case z_bool => k_is)
      (case z_isinstance => k_is); (case z_len => k_is); (case z_list => k_is); (case z_range => k_is); (case z_reversed => k_is); (case z_sorted => k_is); (case z_str => k_is); (case z_tuple => k_is); (case kc_Rule => k_is); (case kt_Rule => k_is); (case cg_Rule => k_is); (case cr_Rule => k_is); (case ca_Rule => k_is); (case kc_Fact => k_is); (case kt_Fact => k_is); (case pg_Fact => k_is); (case hd_Fact => k_is); (case po_Fact => k_is); (case sa_Fact => k_is); (case th_Fact => k_is)
      (case tn_Fact => k_is); (case tt_Fact => k_is); (case tm_Fact => k_is); (case nf_Fact_label => k_is); (case nf_Fact_head => k_is); (case nf_Fact_body => k_is); (case mm_Fact => k_is); (case mi_Fact => k_is); (case mf_Fact => k_is); (case mq_Fact => k_is); (case ma_Fact_word => k_is); (case mb_Fact_word => k_is); (case ma_Fact_speaks => k_is); (case mb_Fact_speaks => k_is); (case ks_Fact_Rule => k_is); (case ks_Fact_Fact => k_is); (case kc_Sure => k_is); (case kt_Sure => k_is); (case pg_Sure => k_is); (case hd_Sure => k_is)
      (case po_Sure => k_is); (case sa_Sure => k_is); (case th_Sure => k_is); (case tn_Sure => k_is); (case tt_Sure => k_is); (case tm_Sure => k_is); (case nf_Sure_label => k_is); (case nf_Sure_head => k_is); (case nf_Sure_body => k_is); (case mm_Sure => k_is); (case mi_Sure => k_is); (case mf_Sure => k_is); (case mq_Sure => k_is); (case ma_Sure_word => k_is); (case mb_Sure_word => k_is); (case ma_Sure_speaks => k_is); (case mb_Sure_speaks => k_is); (case ks_Sure_Rule => k_is); (case ks_Sure_Sure => k_is); (case kc_Most => k_is)
      (case kt_Most => k_is); (case pg_Most => k_is); (case hd_Most => k_is); (case po_Most => k_is); (case sa_Most => k_is); (case th_Most => k_is); (case tn_Most => k_is); (case tt_Most => k_is); (case tm_Most => k_is); (case nf_Most_label => k_is); (case nf_Most_head => k_is); (case nf_Most_body => k_is); (case mm_Most => k_is); (case mi_Most => k_is); (case mf_Most => k_is); (case mq_Most => k_is); (case ma_Most_word => k_is); (case mb_Most_word => k_is); (case ma_Most_speaks => k_is); (case mb_Most_speaks => k_is)
      (case ks_Most_Rule => k_is); (case ks_Most_Most => k_is); (case kc_Block => k_is); (case kt_Block => k_is); (case pg_Block => k_is); (case hd_Block => k_is); (case po_Block => k_is); (case sa_Block => k_is); (case th_Block => k_is); (case tn_Block => k_is); (case tt_Block => k_is); (case tm_Block => k_is); (case nf_Block_label => k_is); (case nf_Block_head => k_is); (case nf_Block_body => k_is); (case mm_Block => k_is); (case mi_Block => k_is); (case mf_Block => k_is); (case mq_Block => k_is); (case ma_Block_word => k_is)
      (case mb_Block_word => k_is); (case ma_Block_speaks => k_is); (case mb_Block_speaks => k_is); (case ks_Block_Rule => k_is); (case ks_Block_Block => k_is); (case kc_Ground => k_is); (case kt_Ground => k_is); (case pg_Ground => k_is); (case hd_Ground => k_is); (case po_Ground => k_is); (case sa_Ground => k_is); (case th_Ground => k_is); (case tn_Ground => k_is); (case tt_Ground => k_is); (case tm_Ground => k_is); (case nf_Ground_in_order => k_is); (case nf_Ground_by_head => k_is); (case nf_Ground_pairs => k_is); (case mm_Ground => k_is); (case mi_Ground => k_is)
      (case mf_Ground => k_is); (case mq_Ground => k_is); (case ma_Ground_ruling => k_is); (case mb_Ground_ruling => k_is); (case ma_Ground_speaking => k_is); (case mb_Ground_speaking => k_is); (case ma_Ground_against => k_is); (case mb_Ground_against => k_is); (case ma_Ground_beats => k_is); (case mb_Ground_beats => k_is); (case ks_Ground_Ground => k_is)
    obtain ⟨t, T⟩ := T
    obtain ⟨_, _, _, _, _, _, _, _, _, e2, _, _⟩ := T.F_d_law.ex
    have e0 := hmg.symm.trans T.g_d_law
    cases e0
    exact ⟨t.fd_d_law, fun s u => by rw [e2]; exact .of_eq rfl, fun base kb nb => K51.ok_d_law T⟩
