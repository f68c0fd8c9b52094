import PyProof.Rows.All
import Wide.All
import OpenK.AllK
import Wide.FinOn
import Lean
import PyProof.EqAt
import PyProof.EqKinds
import PyProof.TupleCall
import PyProof.StrLawsChain
import PyProof.StrLawsIn
import PyProof.Rows.StrNews2
import PyProof.StrBlockL
import PyProof.Rows.StrClose3
import PyProof.Rows.StrClose5
import PyProof.Rows.StrFirst
import PyProof.WalkInts
import PyProof.StrOps
import PyProof.WalksEnum
import PyProof.EnumMake
import PyProof.NeKinds
import KE.KEqDict
import KE.KRevIter
import PyProof.DictWalks
import PyProof.DictValues
import PyProof.ListRange
import PyProof.CollectIter
import PyProof.ZipIter
import PyProof.Rows.ZipGen
import PyProof.FString5
import KE.KDictLaws
import KE.KDictSum
import KE.KSortTup
import PyProof.Rows.SortStr
import PyProof.DictItems
import KE.KPairComp
import PySem.Challenge.RW_mostwise_k21_written_out
set_option Elab.async false
set_option linter.all false
set_option maxRecDepth 100000
set_option maxHeartbeats 4000000
namespace L2
open PySem PySem.Spec PyProof.Rows
abbrev Key := Sum Int Str
def keyIs : Key → Value → Bool
  | .inl k, v => Value.isInt k v
  | .inr x, v => Value.isStrOf x v
def keyH (w : World) : Key → Int
  | .inl k => hashInt k
  | .inr x => hashStr w x
theorem keyIs_shape : ∀ {k : Key} {v : Value}, keyIs k v = true → (∃ i t, k = Sum.inl i ∧ v = Value.int i t) ∨ (∃ x t, k = Sum.inr x ∧ v = Value.str x t)
  | .inl i, v, h => by
    obtain ⟨t, e⟩ := Value.isInt_shape (k := i) (v := v) h
    exact .inl ⟨i, t, rfl, e⟩
  | .inr x, v, h => by
    obtain ⟨t, e⟩ := Value.isStrOf_shape (x := x) (v := v) h
    exact .inr ⟨x, t, rfl, e⟩
theorem keyIs_int (i : Int) (t : Tok) : keyIs (.inl i) (.int i t) = true := by simp [keyIs, Value.isInt]
theorem keyIs_str (x : Str) (t : Tok) : keyIs (.inr x) (.str x t) = true := by simp [keyIs, Value.isStrOf]
theorem key_ll (a b : Int) : decide ((Sum.inl a : Key) = Sum.inl b) = (a == b) := by
  by_cases e : a = b
  · subst e; simp
  · have h : ¬ (Sum.inl a : Key) = Sum.inl b := fun q => e (Sum.inl.inj q)
    rw [decide_eq_false h]
    exact (beq_eq_false_iff_ne.mpr e).symm
theorem key_rr (a b : Str) : decide ((Sum.inr a : Key) = Sum.inr b) = decide (a = b) := by
  by_cases e : a = b
  · subst e; simp
  · have h : ¬ (Sum.inr a : Key) = Sum.inr b := fun q => e (Sum.inr.inj q)
    rw [decide_eq_false h, decide_eq_false e]
theorem key_lr (a : Int) (b : Str) : decide ((Sum.inl a : Key) = Sum.inr b) = false := decide_eq_false (fun q => nomatch q)
theorem key_rl (a : Str) (b : Int) : decide ((Sum.inr a : Key) = Sum.inl b) = false := decide_eq_false (fun q => nomatch q)
def mixKind (prog : Program) (w : World) : PySem.KeyKind prog w Key where
  is := keyIs
  hash := keyH w
  inj := fun v a b ha hb => by
    rcases keyIs_shape ha with ⟨i, t, rfl, rfl⟩ | ⟨x, t, rfl, rfl⟩
    · rcases keyIs_shape hb with ⟨j, u, rfl, e⟩ | ⟨y, u, rfl, e⟩
      · injection e with e1 _; rw [e1]
      · exact nomatch e
    · rcases keyIs_shape hb with ⟨j, u, rfl, e⟩ | ⟨y, u, rfl, e⟩
      · exact nomatch e
      · injection e with e1 _; rw [e1]
  byValue := fun k v h => by
    rcases keyIs_shape h with ⟨i, t, rfl, rfl⟩ | ⟨x, t, rfl, rfl⟩ <;> rfl
  pyHash := fun hv h => by
    rcases keyIs_shape hv with ⟨i, t, rfl, rfl⟩ | ⟨x, t, rfl, rfl⟩
    · exact wpAny_pyHash_int h
    · exact wpAny_pyHash_str h
  eqBool := fun hu hv h => by
    rcases keyIs_shape hu with ⟨i, t, rfl, rfl⟩ | ⟨x, t, rfl, rfl⟩
    · rcases keyIs_shape hv with ⟨j, u, rfl, rfl⟩ | ⟨y, u, rfl, rfl⟩
      · rw [key_ll] at h; exact wpAny_eqBool_int h
      · rw [key_lr] at h; exact SeqAt.EqAt.int_str i t y u _ _ _ _ h
    · rcases keyIs_shape hv with ⟨j, u, rfl, rfl⟩ | ⟨y, u, rfl, rfl⟩
      · rw [key_rl] at h; exact SeqAt.EqAt.str_int x t j u _ _ _ _ h
      · rw [key_rr] at h; exact wpAny_eqBool_str h
  «strs» := fun k x t v h => by
    rcases keyIs_shape h with ⟨i, u, rfl, e⟩ | ⟨y, u, rfl, e⟩
    · exact nomatch e
    · injection e with e1 _
      subst e1
      cases v <;> rfl
theorem mixKind_int (prog : Program) (w : World) (i : Int) (t : Tok) : (mixKind prog w).is (.inl i) (.int i t) = true := keyIs_int i t
theorem mixKind_str (prog : Program) (w : World) (x : Str) (t : Tok) : (mixKind prog w).is (.inr x) (.str x t) = true := keyIs_str x t
end L2
namespace L2
open PySem PySem.Spec PyProof.Rows
inductive V where
  | non | bl (b : Bool) | int (i : Int) | str (x : Str) | byt (b : Array UInt8) | flt (b : UInt64) | ref (a : Addr) | ty (n : String)
  deriving DecidableEq
def RelV : V → Value → Prop
  | .non, u => u = Value.none
  | .bl b, u => u = Value.bool b
  | .int i, u => ∃ t, u = Value.int i t
  | .str x, u => ∃ t, u = Value.str x t
  | .byt b, u => ∃ t, u = Value.bytes b t
  | .flt b, u => ∃ t, u = Value.float b t
  | .ref a, u => u = Value.ref a
  | .ty n, u => u = Value.type n
abbrev Vals : List V → List Value → Prop := Paired RelV
theorem Vals.length {xs : List V} {us : List Value} (r : Vals xs us) : xs.length = us.length := Paired.length r
theorem Vals.get : ∀ {xs : List V} {us : List Value} {i : Nat} {x : V}, Vals xs us → xs[i]? = some x → ∃ u, us[i]? = some u ∧ RelV x u
  | _, _, _, _, .nil, e => by simp at e
  | _, _, 0, _, .cons r _, e => by simp at e; subst e; exact ⟨_, rfl, r⟩
  | _, _, i + 1, x, .cons _ t, e => by
    obtain ⟨u, h1, h2⟩ := Vals.get (i := i) (x := x) t (by simpa using e)
    exact ⟨u, by simpa using h1, h2⟩
theorem Vals.set {x : V} {u : Value} (r : RelV x u) : ∀ {xs : List V} {us : List Value} (i : Nat), Vals xs us → Vals (xs.set i x) (us.set i u)
  | _, _, _, .nil => .nil
  | _, _, 0, .cons _ t => .cons r t
  | _, _, i + 1, .cons q t => .cons q (Vals.set r i t)
theorem Vals.append : ∀ {xs ys : List V} {us ws : List Value}, Vals xs us → Vals ys ws → Vals (xs ++ ys) (us ++ ws)
  | _, _, _, _, .nil, s => s
  | _, _, _, _, .cons r t, s => .cons r (Vals.append t s)
theorem Vals.take : ∀ {xs : List V} {us : List Value} (n : Nat), Vals xs us → Vals (xs.take n) (us.take n)
  | _, _, 0, _ => .nil
  | _, _, _ + 1, .nil => .nil
  | _, _, n + 1, .cons r t => .cons r (Vals.take n t)
theorem Vals.drop : ∀ {xs : List V} {us : List Value} (n : Nat), Vals xs us → Vals (xs.drop n) (us.drop n)
  | _, _, 0, r => r
  | _, _, _ + 1, .nil => .nil
  | _, _, n + 1, .cons _ t => Vals.drop n t
theorem Vals.none_of : ∀ {xs : List V} {us : List Value} {i : Nat}, Vals xs us → xs[i]? = none → us[i]? = none := fun {xs us i} r e => by
  have h1 := r.length
  have h2 : xs.length ≤ i := List.getElem?_eq_none_iff.mp e
  exact List.getElem?_eq_none_iff.mpr (by omega)
def RelO : Option V → Option Value → Prop
  | some v, some u => RelV v u
  | none, none => True
  | _, _ => False
def KV {κ : Type} : List (κ × V) → List (κ × Value) → Prop := Paired fun (p : κ × V) (q : κ × Value) => p.1 = q.1 ∧ RelV p.2 q.2
def kV : Key → V
  | .inl i => .int i
  | .inr x => .str x
inductive HO where
  | lst (xs : List V)
  | tup (xs : List V)
  | dK (kvs : List (Key × V)) | dT (kvs : List (List Key × V))
  | set (S : Int → Bool) (n : Nat)
  | ins (C dx : Addr) (fs : List (Str × V))
  | own (x : Addr)
  | xd (fs : List (Str × V))
  | met (f x : Addr)
  | rng (lo hi : Int)
  | frz (o : Obj) (u : HO)
  | tbl (ps : Array Value)
  | ext (φ : Heap → Prop)
abbrev Hp := Addr → Option HO
def upd (H : Hp) (a : Addr) (o : HO) : Hp := fun b => if b = a then some o else H b
theorem upd_same {H : Hp} {a : Addr} {o : HO} : upd H a o a = some o := by unfold upd; rw [if_pos rfl]
theorem upd_ne {H : Hp} {a b : Addr} {o : HO} (h : b ≠ a) : upd H a o b = H b := by unfold upd; rw [if_neg h]
theorem upd_upd {H : Hp} {a : Addr} {o u : HO} : upd (upd H a o) a u = upd H a u := by
  funext b; unfold upd; split <;> rfl
theorem ne_of {H : Hp} {a b : Addr} {o u : HO} (h : H a = some o) (h' : H b = some u) (d : o ≠ u) : a ≠ b := by
  intro e; subst e; rw [h] at h'; exact d (Option.some.inj h')
theorem ne_of_none {H : Hp} {a b : Addr} {o : HO} (h : H a = some o) (h' : H b = none) : a ≠ b := by
  intro e; subst e; rw [h] at h'; cases h'
section
variable (P : Program) (w : World)
def ObjOk (H : Hp) (h : Heap) (a : Addr) : HO → Prop
  | .lst xs => xs.length ≤ sizeLine ∧ ∃ (its : List Value) (n : Nat), Vals xs its ∧ h.get? a = some { cls := .type "list", data := .seq its.toArray n }
  | .tup xs => xs.length ≤ sizeLine ∧ ∃ its : List Value, Vals xs its ∧ IsTup h a its.toArray
  | .dK kvs => kvs.length ≤ sizeLine ∧ (a == sysModules) = false ∧ ∃ vs, KV kvs vs ∧ h.DictOf (mixKind P w) a vs
  | .dT kvs => kvs.length ≤ sizeLine ∧ (a == sysModules) = false ∧ ∃ xs : List (List Key × Addr × Value),
      Paired (fun (p : List Key × V) (q : List Key × Addr × Value) => p.1 = q.1 ∧ H q.2.1 = some (.tup (p.1.map kV)) ∧ RelV p.2 q.2.2) kvs xs ∧
      ∃ o es ep, h.get? a = some o ∧ o.ExactDict ∧ o.data = .dict es ep ∧ es.toList = xs.map (entryOfKey (tupleKind (mixKind P w))) ∧ (xs.map (·.1)).Nodup
  | .set S n => h.SetOf (intKind P w) a S n
  | .ins C dx fs => H dx = some (.own a) ∧ fs.length ≤ 1000 ∧ dx ≠ a ∧ h.get? a = some (PySem.W.instObj C dx) ∧
      ∃ mA, h.Ns1 dx mA ∧ (∀ f, RelO (fs.lookup f) (mA f)) ∧ PySem.Within mA (fs.map (·.1))
  | .own _ => ∃ o, h.get? a = some o
  | .xd fs => ∃ mA, h.Ns1 a mA ∧ ∀ f, RelO (fs.lookup f) (mA f)
  | .rng lo hi => ∃ t u v, h.get? a = some { cls := .type "range", data := .fields #[.int lo t, .int hi u, .int 1 v] }
  | .frz o u => h.get? a = some o ∧ ObjOk H h a u
  | .tbl ps => h.get? a = some { cls := .none, data := .fields ps }
  | .met f x => h.get? a = some (PySem.W.methodObj (.ref f) (.ref x))
  | .ext φ => φ h ∧ (∃ o, h.get? a = some o) ∧ ∀ h1 h2 : Heap, φ h1 → (∀ o, h1.get? a = some o → h2.get? a = some o) → φ h2
def HOk (H : Hp) (h : Heap) : Prop := ∀ a o, H a = some o → ObjOk P w H h a o
end
section
variable {P : Program} {w : World} {H H' : Hp} {h h' : Heap} {a : Addr} {o : HO}
theorem ObjOk.lt (x : ObjOk P w H h a o) : a < h.objs.size := by
  cases o with
  | lst xs => obtain ⟨_, _, _, _, e⟩ := x; exact Heap.lt_size e
  | tup xs => obtain ⟨_, _, _, p⟩ := x; exact p.lt
  | dK kvs => obtain ⟨_, _, _, _, o, _, _, e, _⟩ := x; exact Heap.lt_size e
  | dT kvs => obtain ⟨_, _, _, _, o, _, _, e, _⟩ := x; exact Heap.lt_size e
  | set S n => obtain ⟨o, _, _, _, e, _⟩ := x; exact Heap.lt_size e
  | ins C dx fs => obtain ⟨_, _, _, e, _⟩ := x; exact Heap.lt_size e
  | own y => obtain ⟨_, e⟩ := x; exact Heap.lt_size e
  | xd fs => obtain ⟨_, ⟨_, _, _, e, _⟩, _⟩ := x; exact Heap.lt_size e
  | rng lo hi => obtain ⟨_, _, _, e⟩ := x; exact Heap.lt_size e
  | frz ob u => obtain ⟨e, _⟩ := x; exact Heap.lt_size e
  | tbl ps => exact Heap.lt_size (show h.get? a = some _ from x)
  | met f y => exact Heap.lt_size (show h.get? a = some _ from x)
  | ext φ => obtain ⟨_, ⟨_, e⟩, _⟩ := x; exact Heap.lt_size e
theorem Paired.mapP {α β : Type} {F G : α → β → Prop} : ∀ {l₁ : List α} {l₂ : List β}, Paired F l₁ l₂ → (∀ a b, F a b → G a b) → Paired G l₁ l₂
  | _, _, .nil, _ => .nil
  | _, _, .cons r t, f => .cons (f _ _ r) (Paired.mapP t f)
theorem ObjOk.stay (x : ObjOk P w H h a o) (k : ∀ b u, (b = a ∨ H b = some (.own a)) → h.get? b = some u → h'.get? b = some u)
    (ho : ∀ b, H b = some (.own a) → H' b = some (.own a)) (ht : ∀ b xs, H b = some (.tup xs) → H' b = some (.tup xs)) : ObjOk P w H' h' a o := by
  induction o with
  | lst xs => obtain ⟨z, its, n, r, e⟩ := x; exact ⟨z, its, n, r, k _ _ (.inl rfl) e⟩
  | tup xs => obtain ⟨z, its, r, ob, e, c⟩ := x; exact ⟨z, its, r, ob, k _ _ (.inl rfl) e, c⟩
  | dK kvs => obtain ⟨z, y, vs, r, ob, es, ep, e, c⟩ := x; exact ⟨z, y, vs, r, ob, es, ep, k _ _ (.inl rfl) e, c⟩
  | dT kvs =>
    obtain ⟨z, y, xs, r, ob, es, ep, e, c⟩ := x
    exact ⟨z, y, xs, Paired.mapP r fun p q z => ⟨z.1, ht _ _ z.2.1, z.2.2⟩, ob, es, ep, k _ _ (.inl rfl) e, c⟩
  | set S n => obtain ⟨ob, es, ep, t, e, c⟩ := x; exact ⟨ob, es, ep, t, k _ _ (.inl rfl) e, c⟩
  | ins C dx fs =>
    obtain ⟨d, z, ne, e, mA, ⟨od, es, ep, e2, c⟩, r⟩ := x
    exact ⟨ho _ d, z, ne, k _ _ (.inl rfl) e, mA, ⟨od, es, ep, k _ _ (.inr d) e2, c⟩, r⟩
  | own y => obtain ⟨ob, e⟩ := x; exact ⟨ob, k _ _ (.inl rfl) e⟩
  | xd fs => obtain ⟨mA, ⟨od, es, ep, e, c⟩, r⟩ := x; exact ⟨mA, ⟨od, es, ep, k _ _ (.inl rfl) e, c⟩, r⟩
  | rng lo hi => obtain ⟨t, u, v, e⟩ := x; exact ⟨t, u, v, k _ _ (.inl rfl) e⟩
  | frz ob u ih => obtain ⟨e, q⟩ := x; exact ⟨k _ _ (.inl rfl) e, ih q⟩
  | tbl ps =>
    have e : h.get? a = some { cls := .none, data := .fields ps } := x
    show h'.get? a = some { cls := .none, data := .fields ps }
    exact k a _ (.inl rfl) e
  | met f y =>
    have e : h.get? a = some (PySem.W.methodObj (.ref f) (.ref y)) := x
    show h'.get? a = some (PySem.W.methodObj (.ref f) (.ref y))
    exact k a _ (.inl rfl) e
  | ext φ => obtain ⟨p, ⟨o, e⟩, st⟩ := x; exact ⟨st _ _ p fun o q => k _ _ (.inl rfl) q, ⟨o, k _ _ (.inl rfl) e⟩, st⟩
theorem HOk.lt (x : HOk P w H h) (e : H a = some o) : a < h.objs.size := (x a o e).lt
theorem HOk.fresh (x : HOk P w H h) (e : h.objs.size ≤ a) : H a = none := by
  cases q : H a with
  | none => rfl
  | some u => exact absurd (Nat.lt_of_lt_of_le (x.lt q) e) (Nat.lt_irrefl _)
theorem HOk.kept (x : HOk P w H h) (k : ∀ b u, h.get? b = some u → h'.get? b = some u) : HOk P w H h' := fun a o e =>
  (x a o e).stay (fun b u _ q => k b u q) (fun _ q => q) fun _ _ q => q
theorem HOk.laid (x : HOk P w H h) (k : ∀ b u, h.get? b = some u → h'.get? b = some u) (hp : h.objs.size ≤ a) (new : ObjOk P w (upd H a o) h' a o) : HOk P w (upd H a o) h' := fun b u e => by
  have hn := x.fresh hp
  by_cases hb : b = a
  · subst hb; rw [upd_same] at e; cases e; exact new
  · rw [upd_ne hb] at e
    exact (x b u e).stay (fun c v _ q => k c v q) (fun c q => by rw [upd_ne (ne_of_none q hn)]; exact q) fun c xs q => by rw [upd_ne (ne_of_none q hn)]; exact q
end
def Rd (H : Hp) (a : Addr) (u : HO) : Prop := H a = some u ∨ ∃ o, H a = some (.frz o u)
theorem Rd.of {H : Hp} {a : Addr} {u : HO} (h : H a = some u) : Rd H a u := .inl h
theorem Rd.ok {P : Program} {w : World} {H : Hp} {h : Heap} {a : Addr} {u : HO} (r : Rd H a u) (x : HOk P w H h) : ObjOk P w H h a u := by
  rcases r with r | ⟨o, r⟩
  · exact x a u r
  · obtain ⟨_, q⟩ := x a _ r
    exact q
def Mut : Option HO → Prop
  | some (.lst _) => True
  | some (.dK _) => True
  | some (.dT _) => True
  | some (.set _ _) => True
  | some (.ins _ _ _) => True
  | some (.ext _) => True
  | _ => False
section
variable {P : Program} {w : World} {H : Hp} {h h' : Heap} {x e : Addr} {o' : HO}
theorem HOk.write (ok : HOk P w H h) (mu : Mut (H x)) (he : e = x ∨ H e = some (.own x)) (k : ∀ b u, b ≠ e → h.get? b = some u → h'.get? b = some u) (heo : ∃ u, h'.get? e = some u)
    (new : ObjOk P w (upd H x o') h' x o') : HOk P w (upd H x o') h' := fun b u q => by
  have nown : ∀ c y, H c = some (.own y) → c ≠ x := fun c y r z => by subst z; rw [r] at mu; exact mu
  have ntup : ∀ c xs, H c = some (.tup xs) → c ≠ x := fun c xs r z => by subst z; rw [r] at mu; exact mu
  by_cases hb : b = x
  · subst hb; rw [upd_same] at q; cases q; exact new
  · rw [upd_ne hb] at q
    by_cases hbe : b = e
    · have q' : H b = some (.own x) := by
        rcases he with z | z
        · exact absurd (hbe.trans z) hb
        · rw [hbe]; exact z
      rw [q] at q'; cases q'
      obtain ⟨v, hv⟩ := heo
      exact ⟨v, by rw [hbe]; exact hv⟩
    · refine (ok b u q).stay (fun c v hc r => k c v ?_ r) (fun c r => by rw [upd_ne (nown c b r)]; exact r) fun c xs r => by rw [upd_ne (ntup c xs r)]; exact r
      rcases hc with rfl | hc
      · exact hbe
      · rintro rfl
        rcases he with z | z
        · exact nown c b hc z
        · rw [hc] at z; cases z; exact hb rfl
end
structure Un (fs ex : List Addr) (H H' : Hp) (h h' : Heap) : Prop where
  keep : ∀ b o, h.get? b = some o → H b = none → b ∉ fs → b ∉ ex → h'.get? b = some o
  slot : ∀ b o, h.get? b = some o → H b = none → b ∈ fs → b ∉ ex → ∃ sl, h'.get? b = some { o with slots := sl }
  free : ∀ b o, h.get? b = some o → H b = none → b ∉ ex → H' b = none
  there : ∀ b o, h.get? b = some o → b ∉ ex → ∃ o', h'.get? b = some o'
  tups : ∀ b xs, H b = some (.tup xs) → H' b = some (.tup xs)
  frzs : ∀ b o u, H b = some (.frz o u) → H' b = some (.frz o u)
  tbls : ∀ b ps, H b = some (.tbl ps) → ∃ more, H' b = some (.tbl (ps ++ more))
section
variable {fs fs' ex ex' : List Addr} {H H1 H2 : Hp} {h h1 h2 h' : Heap} {a x e : Addr} {o : HO}
theorem Un.any (u : Un fs ex H H1 h h1) {b : Addr} {ob : Obj} (q : h.get? b = some ob) (n : H b = none) (hx : b ∉ ex) : ∃ sl, h1.get? b = some { ob with slots := sl } := by
  by_cases hb : b ∈ fs
  · exact u.slot b ob q n hb hx
  · exact ⟨ob.slots, u.keep b ob q n hb hx⟩
theorem Un.trans (a : Un fs ex H H1 h h1) (b : Un fs ex H1 H2 h1 h2) : Un fs ex H H2 h h2 where
  keep := fun c ob q n hc hx => b.keep c ob (a.keep c ob q n hc hx) (a.free c ob q n hx) hc hx
  slot := fun c ob q n hc hx => by
    obtain ⟨sl, e1⟩ := a.slot c ob q n hc hx
    obtain ⟨sl', e2⟩ := b.slot c _ e1 (a.free c ob q n hx) hc hx
    exact ⟨sl', e2⟩
  free := fun c ob q n hx => by
    obtain ⟨o', e1⟩ := a.there c ob q hx
    exact b.free c o' e1 (a.free c ob q n hx) hx
  there := fun c ob q hx => by
    obtain ⟨o', e1⟩ := a.there c ob q hx
    exact b.there c o' e1 hx
  tups := fun c xs q => b.tups c xs (a.tups c xs q)
  frzs := fun c ob xs q => b.frzs c ob xs (a.frzs c ob xs q)
  tbls := fun c ps q => by
    obtain ⟨m1, e1⟩ := a.tbls c ps q
    obtain ⟨m2, e2⟩ := b.tbls c _ e1
    exact ⟨m1 ++ m2, by rw [e2, Array.append_assoc]⟩
theorem Un.kept (k : ∀ b u, h.get? b = some u → h'.get? b = some u) : Un fs ex H H h h' :=
  ⟨fun b ob q _ _ _ => k b ob q, fun b ob q _ _ _ => ⟨ob.slots, k b ob q⟩, fun _ _ _ n _ => n, fun b ob q _ => ⟨ob, k b ob q⟩, fun _ _ q => q, fun _ _ _ q => q, fun _ ps q => ⟨#[], by rw [q]; simp⟩⟩
theorem Un.refl : Un fs ex H H h h := Un.kept fun _ _ q => q
theorem Un.laid (k : ∀ b u, h.get? b = some u → h'.get? b = some u) (hp : h.objs.size ≤ a) (hn : H a = none) : Un fs ex H (upd H a o) h h' where
  keep := fun b u q _ _ _ => k b u q
  slot := fun b u q _ _ _ => ⟨u.slots, k b u q⟩
  free := fun b u q n _ => by rw [upd_ne (Nat.ne_of_lt (Nat.lt_of_lt_of_le (Heap.lt_size q) hp))]; exact n
  there := fun b u q _ => ⟨u, k b u q⟩
  tups := fun b xs q => by rw [upd_ne (ne_of_none q hn)]; exact q
  frzs := fun b u xs q => by rw [upd_ne (ne_of_none q hn)]; exact q
  tbls := fun b ps q => ⟨#[], by rw [upd_ne (ne_of_none q hn), q]; simp⟩
theorem Un.write (mu : Mut (H x)) (he : e = x ∨ H e = some (.own x)) (k : ∀ b u, b ≠ e → h.get? b = some u → h'.get? b = some u) (heo : ∃ u, h'.get? e = some u) : Un fs ex H (upd H x o) h h' := by
  have hx : ∀ b, H b = none → b ≠ x := fun b n z => by subst z; rw [n] at mu; exact mu
  have hb : ∀ b, H b = none → b ≠ e := fun b n z => by
    subst z
    rcases he with r | r
    · exact hx b n r
    · rw [n] at r; cases r
  have hm : ∀ b u, H b = some u → ¬ Mut (some u) → b ≠ x := fun b u q nm z => by subst z; rw [q] at mu; exact nm mu
  refine ⟨fun b u q n _ _ => k b u (hb b n) q, fun b u q n _ _ => ⟨u.slots, k b u (hb b n) q⟩, fun b u q n _ => by rw [upd_ne (hx b n)]; exact n, fun b u q _ => ?_,
    fun b xs q => by rw [upd_ne (hm b _ q fun z => z)]; exact q, fun b u xs q => by rw [upd_ne (hm b _ q fun z => z)]; exact q, fun b ps q => ⟨#[], by rw [upd_ne (hm b _ q fun z => z), q]; simp⟩⟩
  by_cases hbe : b = e
  · subst hbe; exact heo
  · exact ⟨u, k b u hbe q⟩
theorem Un.mono (u : Un fs ex H H1 h h1) (hs : ∀ b ∈ fs, b ∈ fs') (hx : ∀ b ∈ ex, b ∈ ex') : Un fs' ex' H H1 h h1 :=
  ⟨fun b ob q n hb he => u.keep b ob q n (fun z => hb (hs b z)) fun z => he (hx b z), fun _ _ q n _ he => u.any q n fun z => he (hx _ z), fun b ob q n he => u.free b ob q n fun z => he (hx b z), fun b ob q he => u.there b ob q fun z => he (hx b z), u.tups, u.frzs, u.tbls⟩
end
def trk (h : Heap) (H : Hp) : List Addr := (List.range h.objs.size).filter fun a => (H a).isSome
def hidT (h : Heap) (H : Hp) : Heap := PySem.W.hideAll h (trk h H)
theorem hidT_size (h : Heap) (H : Hp) : (hidT h H).objs.size = h.objs.size := PySem.W.hideAll_size _ _
theorem hidT_get {h : Heap} {H : Hp} {b : Addr} {o : Obj} (e : h.get? b = some o) (n : H b = none) : (hidT h H).get? b = some o :=
  PySem.W.hideAll_get _ e fun hm => by
    have q : (H b).isSome = true := (List.mem_filter.mp hm).2
    rw [n] at q; simp at q
theorem of_hidT {h : Heap} {H : Hp} {b : Addr} {o : Obj} (e : (hidT h H).get? b = some o) : h.get? b = some o ∧ H b = none := by
  have e' : h.get? b = some o := PySem.W.of_hideAll (trk h H) e
  refine ⟨e', ?_⟩
  cases q : H b with
  | none => rfl
  | some x =>
    have hm : b ∈ trk h H := List.mem_filter.mpr ⟨List.mem_range.mpr (Heap.lt_size e'), by simp [q]⟩
    have z : (hidT h H).get? b = none := PySem.W.hideAll_none (trk h H) hm
    rw [z] at e; cases e
def allNews (g h : Heap) (L : Addr) : List (Addr × Obj) := (List.range h.objs.size).filterMap fun a => if a = L ∨ (g.get? a).isSome = true then none else (h.get? a).map fun o => (a, o)
def rest (g h : Heap) (L d : Addr) : List (Addr × Obj) := (allNews g h L).filter fun p => decide (p.1 ≠ d)
end L2
namespace L2
open PySem PySem.Spec PyProof.Rows
structure Mod (K : PySem.W.Frag) (mg : Str → Option Value) (base : Heap) : Prop where
  kin : K.In base
  glob : base.Ns mainGlobals mg
  blt : ∃ mb, base.Ns builtinsNs mb ∧ ∀ x : Str, x ≠ "__name__" → mb x = bootBuiltins x
  nolimit : base.NoLimit
structure Cx where
  prog : Program
  w : World
  K : PySem.W.Frag
  mg : Str → Option Value
  base : Heap
  A : Around
  N : List Str
  s₀ : Shared
  H₀ : Hp
  env : Env
  outer : List Env
  stack : List Env
  ex : List Addr
  fn : Str → Bool
  calm : Bool
  pn : List (Addr × Obj)
  xe : Value → Shared → Prop
def frs (l : List Env) : List Addr := l.filterMap (·.frame)
abbrev Cx.fs (X : Cx) : List Addr := frs X.outer
def Vis (sc : Scope) (x : Str) : Prop := sc.names.lookup x = some .local ∨ sc.names.lookup x = some .cell ∨ sc.names.lookup x = some .free
def Loc (sc : Scope) (x : Str) : Prop := sc.names.lookup x = some .local ∨ sc.names.lookup x = some .cell
def Look (env : Env) (h : Heap) (m : Str → Option Value) (x : Str) (u : Value) : Prop :=
  (env.kindOf x = some .local ∧ m x = some u) ∨ ((env.kindOf x = some .cell ∨ env.kindOf x = some .free) ∧ ∃ c, env.cells.lookup x = some c ∧ h.IsCell c (some u))
structure Cx.Ok (X : Cx) : Prop where
  mod : Mod X.K X.mg X.base
  kind : X.env.scope.kind = .function
  glob : X.env.globals = mainGlobals
  blt : X.env.builtins = builtinsNs
  above : X.s₀.heap.objs.size ≤ X.env.locals
  inj : ∀ x y c, X.env.cells.lookup x = some c → X.env.cells.lookup y = some c → x = y
  has : ∀ x, (X.env.kindOf x = some .cell ∨ X.env.kindOf x = some .free) → ∃ c, X.env.cells.lookup x = some c
  cab : ∀ x c, X.fn x = true → X.env.cells.lookup x = some c → X.s₀.heap.objs.size ≤ c
  hd : X.calm = true → X.A.handled = none
  frames : X.A.frames = some X.stack
  stk : X.stack = X.outer ∨ (X.stack = X.env :: X.outer ∧ X.env.frame = some X.env.locals)
  exf : ∀ b ∈ X.ex, b ≠ X.env.locals ∧ ∀ x c, X.env.cells.lookup x = some c → c ≠ b
  bs : ∀ b o, X.base.get? b = some o → X.s₀.heap.get? b = some o ∧ X.H₀ b = none
  bsz : X.base.objs.size ≤ X.s₀.heap.objs.size
  noex : ∀ b o, X.base.get? b = some o → b ∉ X.ex
  exfs : ∀ b ∈ X.ex, b ∉ X.fs
  funs : X.s₀.heap.FunFrames X.base X.outer
  frf : ∀ b ∈ X.fs, X.H₀ b = none
structure Inv (X : Cx) (pins : List (Addr × Obj)) (σ : List (Option V)) (H : Hp) (s : Shared) : Prop where
  ok : X.Ok
  os : s.os = X.s₀.os
  bare : AllBare s.gens
  base : Un X.fs X.ex X.H₀ H X.s₀.heap s.heap
  loc : ∃ m, s.heap.Ns X.env.locals m ∧ ∀ (i : Nat) (x : Str) (v : V), X.N[i]? = some x → σ[i]? = some (some v) → Vis X.env.scope x → ∃ u, RelV v u ∧ Look X.env s.heap m x u
  cell : ∀ x c, X.env.cells.lookup x = some c → ∃ v, s.heap.IsCell c v
  free : H X.env.locals = none
  freeC : ∀ x c, X.env.cells.lookup x = some c → H c = none
  pin : ∀ p ∈ X.pn ++ pins, s.heap.get? p.1 = some p.2 ∧ H p.1 = none ∧ p.1 ≠ X.env.locals ∧ p.1 ∉ X.fs ∧ ∀ v, p.2.data ≠ .cell v
  hok : HOk X.prog X.w H s.heap
  len : σ.length = X.N.length
section
variable {X : Cx} {pins : List (Addr × Obj)} {σ : List (Option V)} {H H' : Hp} {s : Shared} {h' : Heap}
theorem Cx.Ok.nofr (ok : X.Ok) {b : Addr} {o : Obj} (e : X.base.get? b = some o) : b ∉ X.fs := fun hb => by
  have := (ok.funs.mem hb).1
  rw [e] at this; cases this
theorem Inv.bs (I : Inv X pins σ H s) : ∀ b o, X.base.get? b = some o → s.heap.get? b = some o ∧ H b = none := fun b o e =>
  ⟨I.base.keep b o (I.ok.bs b o e).1 (I.ok.bs b o e).2 (I.ok.nofr e) (I.ok.noex b o e), I.base.free b o (I.ok.bs b o e).1 (I.ok.bs b o e).2 (I.ok.noex b o e)⟩
theorem Inv.bk (I : Inv X pins σ H s) : ∀ b o, X.base.get? b = some o → s.heap.get? b = some o := fun b o e => (I.bs b o e).1
theorem Inv.mod (I : Inv X pins σ H s) : Mod X.K X.mg X.base := I.ok.mod
theorem Inv.kIn (I : Inv X pins σ H s) : X.K.In s.heap := I.ok.mod.kin.keeps I.bk
theorem Inv.nolimit (I : Inv X pins σ H s) : s.heap.NoLimit := I.ok.mod.nolimit.keeps I.bk
theorem Inv.lt (I : Inv X pins σ H s) : X.env.locals < s.heap.objs.size := let ⟨_, hn, _⟩ := I.loc; hn.lt
theorem Inv.sz (I : Inv X pins σ H s) : X.s₀.heap.objs.size ≤ s.heap.objs.size := Nat.le_trans I.ok.above (Nat.le_of_lt I.lt)
theorem Inv.nofs (I : Inv X pins σ H s) {a : Addr} (h : s.heap.objs.size ≤ a) : a ∉ X.fs := fun hb => by
  obtain ⟨_, o, ho, _⟩ := I.ok.funs.mem hb
  exact absurd (Nat.lt_of_lt_of_le (Heap.lt_size ho) (Nat.le_trans I.sz h)) (Nat.lt_irrefl _)
theorem Inv.cne (I : Inv X pins σ H s) : ∀ x c, X.env.cells.lookup x = some c → c ≠ X.env.locals := fun x c e z => by
  obtain ⟨v, o, ho, hd⟩ := I.cell x c e
  obtain ⟨m, ⟨o', es, ep, ho', hd', _⟩, _⟩ := I.loc
  rw [z, ho'] at ho; cases ho; rw [hd'] at hd; cases hd
theorem Inv.funs (I : Inv X pins σ H s) : s.heap.FunFrames X.base X.outer := by
  have all : ∀ (l : List Env), (∀ b ∈ frs l, b ∈ X.fs) → X.s₀.heap.FunFrames X.base l → s.heap.FunFrames X.base l := by
    intro l
    induction l with
    | nil => intro _ _; trivial
    | cons env r ih =>
      intro hs hl
      obtain ⟨hk, ⟨L, o, hf, hn, ho, hd⟩, hr⟩ := hl
      have hL : L ∈ X.fs := hs L (by unfold frs; rw [List.filterMap_cons, hf]; exact List.mem_cons_self)
      obtain ⟨sl, e⟩ := I.base.slot L o ho (I.ok.frf L hL) hL fun z => I.ok.exfs L z hL
      exact ⟨hk, ⟨L, _, hf, hn, e, hd⟩, ih (fun b hb => hs b (by unfold frs; rw [List.filterMap_cons, hf]; exact List.mem_cons_of_mem _ hb)) hr⟩
  exact all X.outer (fun _ hb => hb) I.ok.funs
theorem Inv.stack (I : Inv X pins σ H s) : s.heap.FunFrames X.base X.stack := by
  rcases I.ok.stk with e | ⟨e, hf⟩
  · rw [e]; exact I.funs
  · rw [e]
    obtain ⟨m, hn, _⟩ := I.loc
    refine .cons (by rw [I.ok.kind]; decide) hf hn ?_ I.funs
    exact Heap.get?_none_of_le (Nat.le_trans I.ok.bsz I.ok.above)
theorem Inv.stkSub (I : Inv X pins σ H s) : ∀ b ∈ frs X.stack, b ∈ X.env.locals :: X.fs := fun b hb => by
  rcases I.ok.stk with e | ⟨e, hf⟩
  · rw [e] at hb; exact List.mem_cons_of_mem _ hb
  · rw [e] at hb
    unfold frs at hb
    rw [List.filterMap_cons, hf] at hb
    exact hb
theorem Inv.stkFree (I : Inv X pins σ H s) : ∀ b ∈ frs X.stack, H b = none := fun b hb => by
  rcases List.mem_cons.mp (I.stkSub b hb) with e | hb
  · rw [e]; exact I.free
  · obtain ⟨_, o, ho, _⟩ := I.ok.funs.mem hb
    exact I.base.free b o ho (I.ok.frf b hb) fun z => I.ok.exfs b z hb
theorem Inv.step {g' : Array GenState} {t' : Nat} {d' : Drawn} {ch : List Addr} (I : Inv X pins σ H s)
    (hch : ∀ b ∈ ch, (b ∈ X.ex ∨ X.s₀.heap.objs.size ≤ b) ∧ b ≠ X.env.locals ∧ (∀ x c, X.env.cells.lookup x = some c → c ≠ b) ∧ ∀ p ∈ X.pn ++ pins, p.1 ≠ b)
    (keep : ∀ b o, b ≠ X.env.locals → b ∉ X.fs → b ∉ ch → s.heap.get? b = some o → H b = none → h'.get? b = some o)
    (slot : ∀ b o, b ≠ X.env.locals → b ∈ X.fs → b ∉ ch → s.heap.get? b = some o → H b = none → ∃ sl, h'.get? b = some { o with slots := sl }) (free : ∀ b o, b ∉ ch → s.heap.get? b = some o → H b = none → H' b = none)
    (there : ∀ b o, b ∉ ch → s.heap.get? b = some o → ∃ o', h'.get? b = some o')
    (tups : ∀ b xs, H b = some (.tup xs) → H' b = some (.tup xs)) (frzs : ∀ b o u, H b = some (.frz o u) → H' b = some (.frz o u)) (tbls : ∀ b ps, H b = some (.tbl ps) → ∃ more, H' b = some (.tbl (ps ++ more)))
    (ns : ∀ m, s.heap.Ns X.env.locals m → h'.Ns X.env.locals m) (hok : HOk X.prog X.w H' h') (hg : AllBare g') :
    Inv X pins σ H' { s with heap := h', gens := g', drawn := d', toks := t' } := by
  have neL : ∀ b o, X.s₀.heap.get? b = some o → b ≠ X.env.locals := fun b o e => Nat.ne_of_lt (Nat.lt_of_lt_of_le (Heap.lt_size e) I.ok.above)
  have neC : ∀ b o, X.s₀.heap.get? b = some o → b ∉ X.ex → b ∉ ch := fun b o e hx hb => by
    rcases (hch b hb).1 with z | z
    · exact hx z
    · exact absurd (Nat.lt_of_lt_of_le (Heap.lt_size e) z) (Nat.lt_irrefl _)
  have cellK : ∀ x c, X.env.cells.lookup x = some c → ∀ v, s.heap.IsCell c v → h'.IsCell c v := fun x c e v ⟨o, ho, hd⟩ => by
    have nch : c ∉ ch := fun z => (hch c z).2.2.1 x c e rfl
    by_cases hc : c ∈ X.fs
    · obtain ⟨sl, q⟩ := slot c o (I.cne x c e) hc nch ho (I.freeC x c e)
      exact ⟨_, q, hd⟩
    · exact ⟨o, keep c o (I.cne x c e) hc nch ho (I.freeC x c e), hd⟩
  refine ⟨I.ok, I.os, hg, ⟨fun b o e n hb hx => ?_, fun b o e n hb hx => ?_, fun b o e n hx => ?_, fun b o e hx => ?_, fun b xs e => tups b xs (I.base.tups b xs e), fun b o xs e => frzs b o xs (I.base.frzs b o xs e), fun b ps e => ?_⟩, ?_, fun x c e => ?_, ?_, fun x c e => ?_, fun p hp => ?_, hok, I.len⟩
  · exact keep b o (neL b o e) hb (neC b o e hx) (I.base.keep b o e n hb hx) (I.base.free b o e n hx)
  · obtain ⟨sl, e1⟩ := I.base.slot b o e n hb hx
    obtain ⟨sl', e2⟩ := slot b _ (neL b o e) hb (neC b o e hx) e1 (I.base.free b o e n hx)
    exact ⟨sl', e2⟩
  · obtain ⟨o', e1⟩ := I.base.there b o e hx
    exact free b o' (neC b o e hx) e1 (I.base.free b o e n hx)
  · obtain ⟨o', e1⟩ := I.base.there b o e hx
    exact there b o' (neC b o e hx) e1
  · obtain ⟨m1, e1⟩ := I.base.tbls b ps e
    obtain ⟨m2, e2⟩ := tbls b _ e1
    exact ⟨m1 ++ m2, by rw [e2, Array.append_assoc]⟩
  · obtain ⟨m, hn, hl⟩ := I.loc
    refine ⟨m, ns m hn, fun i x v e1 e2 e3 => ?_⟩
    obtain ⟨u, r, l⟩ := hl i x v e1 e2 e3
    refine ⟨u, r, ?_⟩
    rcases l with l | ⟨k, c, e, z⟩
    · exact .inl l
    · exact .inr ⟨k, c, e, cellK x c e _ z⟩
  · obtain ⟨v, z⟩ := I.cell x c e
    exact ⟨v, cellK x c e v z⟩
  · obtain ⟨m, ⟨o, _, _, ho, _⟩, _⟩ := I.loc
    exact free _ o (fun z => (hch _ z).2.1 rfl) ho I.free
  · obtain ⟨v, o, ho, hd⟩ := I.cell x c e
    exact free c o (fun z => (hch c z).2.2.1 x c e rfl) ho (I.freeC x c e)
  · obtain ⟨e, n, ne, nf, d⟩ := I.pin p hp
    have nch : p.1 ∉ ch := fun z => (hch p.1 z).2.2.2 p hp rfl
    exact ⟨keep p.1 p.2 ne nf nch e n, free p.1 p.2 nch e n, ne, nf, d⟩
theorem Inv.un {t' : Nat} (I : Inv X pins σ H s) (u : Un X.fs [] H H' s.heap h') (hok : HOk X.prog X.w H' h') : Inv X pins σ H' { s with heap := h', toks := t' } := by
  obtain ⟨m, ⟨o, es, ep, ho, r⟩, _⟩ := id I.loc
  obtain ⟨sl, hL⟩ := u.any ho I.free (by simp)
  exact I.step (g' := s.gens) (d' := s.drawn) (ch := []) (fun _ z => nomatch z) (fun b o _ hb _ e n => u.keep b o e n hb (by simp)) (fun b o _ hb _ e n => u.slot b o e n hb (by simp)) (fun b o _ e n => u.free b o e n (by simp)) (fun b o _ e => u.there b o e (by simp)) u.tups u.frzs u.tbls (fun m' hm => by
    obtain ⟨o', es', ep', ho', r'⟩ := hm
    rw [ho] at ho'; cases ho'
    exact ⟨_, es', ep', hL, r'⟩) hok I.bare
theorem Inv.call {g' : Array GenState} {t' : Nat} {d' : Drawn} {ch : List Addr} (I : Inv X pins σ H s) (u : Un (frs X.stack) ch H H' s.heap h') (hok : HOk X.prog X.w H' h') (hg : AllBare g')
    (hch : ∀ b ∈ ch, (b ∈ X.ex ∨ X.s₀.heap.objs.size ≤ b) ∧ b ≠ X.env.locals ∧ (∀ x c, X.env.cells.lookup x = some c → c ≠ b) ∧ ∀ p ∈ X.pn ++ pins, p.1 ≠ b) :
    Inv X pins σ H' { s with heap := h', gens := g', drawn := d', toks := t' } := by
  obtain ⟨m, ⟨o, es, ep, ho, r⟩, _⟩ := id I.loc
  obtain ⟨sl, hL⟩ := u.any ho I.free fun z => (hch _ z).2.1 rfl
  exact I.step (ch := ch) hch (fun b o hL hb hc e n => u.keep b o e n (fun z => (List.mem_cons.mp (I.stkSub b z)).elim hL hb) hc) (fun b o _ _ hc e n => u.any e n hc) (fun b o hc e n => u.free b o e n hc) (fun b o hc e => u.there b o e hc) u.tups u.frzs u.tbls (fun m' hm => by
    obtain ⟨o', es', ep', ho', r'⟩ := hm
    rw [ho] at ho'; cases ho'
    exact ⟨_, es', ep', hL, r'⟩) hok hg
theorem Inv.turned {t' : Nat} {it : Addr} (I : Inv X pins σ H s) (k : ∀ b o, b ≠ it → s.heap.get? b = some o → h'.get? b = some o) (hn : H it = none) (hL : it ≠ X.env.locals)
    (h1 : it ∈ X.ex ∨ X.s₀.heap.objs.size ≤ it) (h2 : ∀ x c, X.env.cells.lookup x = some c → c ≠ it) (h3 : ∀ p ∈ X.pn ++ pins, p.1 ≠ it) : Inv X pins σ H { s with heap := h', toks := t' } := by
  have nit : ∀ b u, H b = some u → b ≠ it := fun b u e z => by rw [z, hn] at e; cases e
  refine I.step (g' := s.gens) (d' := s.drawn) (ch := [it]) (fun b hb => ?_) (fun b o _ _ hc e _ => k b o (fun z => hc (by simp [z])) e) (fun b o _ _ hc e _ => ⟨o.slots, k b o (fun z => hc (by simp [z])) e⟩) (fun _ _ _ _ n => n)
    (fun b o hc e => ⟨o, k b o (fun z => hc (by simp [z])) e⟩) (fun _ _ e => e) (fun _ _ _ e => e) (fun b ps e => ⟨#[], by rw [e]; simp⟩) (fun m hm => ?_) (fun b u e => ?_) I.bare
  · have e : b = it := by simpa using hb
    subst e
    exact ⟨h1, hL, h2, h3⟩
  · obtain ⟨o, es, ep, ho, r⟩ := hm
    exact ⟨o, es, ep, k _ o (Ne.symm hL) ho, r⟩
  · refine (I.hok b u e).stay (fun c v hc q => k c v ?_ q) (fun _ q => q) fun _ _ q => q
    rcases hc with z | z
    · rw [z]; exact nit b u e
    · exact nit c _ z
theorem Inv.tok (I : Inv X pins σ H s) (t : Nat) : Inv X pins σ H { s with toks := t } := I.un (h' := s.heap) (t' := t) Un.refl I.hok
theorem Inv.kept {t' : Nat} (I : Inv X pins σ H s) (k : ∀ b u, s.heap.get? b = some u → h'.get? b = some u) : Inv X pins σ H { s with heap := h', toks := t' } := I.un (Un.kept k) (I.hok.kept k)
theorem Inv.laid {a : Addr} {o : HO} {t' : Nat} (I : Inv X pins σ H s) (k : ∀ b u, s.heap.get? b = some u → h'.get? b = some u) (hp : s.heap.objs.size ≤ a) (new : ObjOk X.prog X.w (upd H a o) h' a o) :
    Inv X pins σ (upd H a o) { s with heap := h', toks := t' } := I.un (Un.laid k hp (I.hok.fresh hp)) (I.hok.laid k hp new)
theorem Inv.write {x e : Addr} {o : HO} {t' : Nat} (I : Inv X pins σ H s) (mu : Mut (H x)) (he : e = x ∨ H e = some (.own x)) (k : ∀ b u, b ≠ e → s.heap.get? b = some u → h'.get? b = some u) (heo : ∃ u, h'.get? e = some u)
    (new : ObjOk X.prog X.w (upd H x o) h' x o) : Inv X pins σ (upd H x o) { s with heap := h', toks := t' } := I.un (Un.write mu he k heo) (I.hok.write mu he k heo new)
theorem Inv.pins_of {pins' : List (Addr × Obj)} (I : Inv X pins σ H s) (h : ∀ p ∈ pins', s.heap.get? p.1 = some p.2 ∧ H p.1 = none ∧ p.1 ≠ X.env.locals ∧ p.1 ∉ X.fs ∧ ∀ v, p.2.data ≠ .cell v) : Inv X pins' σ H s :=
  ⟨I.ok, I.os, I.bare, I.base, I.loc, I.cell, I.free, I.freeC, fun p hp => (List.mem_append.mp hp).elim (fun z => I.pin p (List.mem_append_left _ z)) (h p), I.hok, I.len⟩
theorem nodup_ix {N : List Str} (hN : N.Nodup) {i j : Nat} {x : Str} (a : N[i]? = some x) (b : N[j]? = some x) : i = j := by
  obtain ⟨h1, e1⟩ := List.getElem?_eq_some_iff.mp a
  obtain ⟨h2, e2⟩ := List.getElem?_eq_some_iff.mp b
  exact (List.getElem_inj hN).mp (e1.trans e2.symm)
theorem store_ok2 {M : Model} {A : Around} {E : Value → Shared → Prop} {i : Nat} {x : Str} {v : V} {u : Value} {Q : Unit → Shared → Prop} (I : Inv X pins σ H s) (hN : X.N.Nodup) (hi : X.N[i]? = some x) (hx : Loc X.env.scope x) (r : RelV v u)
    (h : ∀ s', Inv X pins (σ.set i (some v)) H s' → (∃ a, Heap.SameBut a s.heap s'.heap ∧ (a = X.env.locals ∨ X.env.cells.lookup x = some a)) → Q () s') (hf : X.fn x = true ∨ X.env.scope.names.lookup x = some .local := by first | exact .inl rfl | exact .inr rfl | assumption) : wpAny M A (storeName X.env x u) Q E s := by
  obtain ⟨m, hn, hl⟩ := id I.loc
  have hcls : (X.env.scope.kind == .class || (X.env.scope.kind == .module && X.env.locals != X.env.globals)) = false := by rw [I.ok.kind]; rfl
  have hiσ : i < σ.length := by rw [I.len]; exact (List.getElem?_eq_some_iff.mp hi).1
  have cne := I.cne
  have tracked : ∀ {a : Addr} {h' : Heap}, (∃ o, s.heap.get? a = some o ∧ H a = none) → Heap.SameBut a s.heap h' → HOk X.prog X.w H h' := fun {a h'} ha hs b ob e => by
    obtain ⟨_, _, hfree⟩ := ha
    refine (I.hok b ob e).stay (fun c w' hc q => (hs.2 c ?_).trans q) (fun _ q => q) fun _ _ q => q
    rintro rfl
    rcases hc with rfl | hc
    · rw [hfree] at e; cases e
    · rw [hfree] at hc; cases hc
  rcases hx with hk | hk
  · refine wpAny_storeName_local hk hn (fun h' hn' hs => ?_) hcls
    obtain ⟨oL, _, _, hoL, _⟩ := id hn
    refine h _ ⟨I.ok, I.os, I.bare, ⟨fun b o e n hb hx => ?_, fun b o e n hb hx => ?_, I.base.free, fun b o e hx => ?_, I.base.tups, I.base.frzs, I.base.tbls⟩, ⟨_, hn', fun j y v' e1 e2 e3 => ?_⟩, fun y c e => ?_, I.free, I.freeC, fun p hp => ?_, tracked ⟨oL, hoL, I.free⟩ hs, by simpa using I.len⟩ ⟨_, hs, .inl rfl⟩
    · exact (hs.2 b (Nat.ne_of_lt (Nat.lt_of_lt_of_le (Heap.lt_size e) I.ok.above))).trans (I.base.keep b o e n hb hx)
    · obtain ⟨sl, e1⟩ := I.base.slot b o e n hb hx
      exact ⟨sl, (hs.2 b (Nat.ne_of_lt (Nat.lt_of_lt_of_le (Heap.lt_size e) I.ok.above))).trans e1⟩
    · obtain ⟨o', e1⟩ := I.base.there b o e hx
      exact ⟨o', (hs.2 b (Nat.ne_of_lt (Nat.lt_of_lt_of_le (Heap.lt_size e) I.ok.above))).trans e1⟩
    · by_cases hj : j = i
      · subst hj
        rw [hi] at e1; cases e1
        rw [List.getElem?_set_self hiσ] at e2
        cases e2
        exact ⟨u, r, .inl ⟨hk, by simp⟩⟩
      · rw [List.getElem?_set_ne (Ne.symm hj)] at e2
        obtain ⟨u', r', q⟩ := hl j y v' e1 e2 e3
        refine ⟨u', r', ?_⟩
        rcases q with ⟨k, e⟩ | ⟨k, c, e, z⟩
        · refine .inl ⟨k, ?_⟩
          have : y ≠ x := fun e => hj (nodup_ix hN e1 (e ▸ hi))
          simp [this, e]
        · exact .inr ⟨k, c, e, z.sameBut hs (cne y c e)⟩
    · obtain ⟨w', z⟩ := I.cell y c e
      exact ⟨w', z.sameBut hs (cne y c e)⟩
    · obtain ⟨e, n, ne, nf, d⟩ := I.pin p hp
      exact ⟨(hs.2 p.1 ne).trans e, n, ne, nf, d⟩
  · have hfn : X.fn x = true := by
      rcases hf with z | z
      · exact z
      · rw [z] at hk; cases hk
    obtain ⟨c, hc⟩ := I.ok.has x (.inl hk)
    obtain ⟨w', z⟩ := I.cell x c hc
    refine wpAny_storeName_cell I.ok.kind hk hc z (fun h' hc' hs => ?_)
    obtain ⟨oc, hoc, hocd⟩ := id z
    refine h { s with heap := h' } ⟨I.ok, I.os, I.bare, ⟨fun b o e n hb hx => ?_, fun b o e n hb hx => ?_, I.base.free, fun b o e hx => ?_, I.base.tups, I.base.frzs, I.base.tbls⟩, ⟨m, hn.sameBut hs (Ne.symm (cne x c hc)), fun j y v' e1 e2 e3 => ?_⟩, fun y c' e => ?_, I.free, I.freeC, fun p hp => ?_, tracked ⟨oc, hoc, I.freeC x c hc⟩ hs, by simpa using I.len⟩ ⟨c, hs, .inr hc⟩
    · exact (hs.2 b (Nat.ne_of_lt (Nat.lt_of_lt_of_le (Heap.lt_size e) (I.ok.cab x c hfn hc)))).trans (I.base.keep b o e n hb hx)
    · obtain ⟨sl, e1⟩ := I.base.slot b o e n hb hx
      exact ⟨sl, (hs.2 b (Nat.ne_of_lt (Nat.lt_of_lt_of_le (Heap.lt_size e) (I.ok.cab x c hfn hc)))).trans e1⟩
    · obtain ⟨o', e1⟩ := I.base.there b o e hx
      exact ⟨o', (hs.2 b (Nat.ne_of_lt (Nat.lt_of_lt_of_le (Heap.lt_size e) (I.ok.cab x c hfn hc)))).trans e1⟩
    · by_cases hj : j = i
      · subst hj
        rw [hi] at e1; cases e1
        rw [List.getElem?_set_self hiσ] at e2
        cases e2
        exact ⟨u, r, .inr ⟨.inl hk, c, hc, hc'⟩⟩
      · rw [List.getElem?_set_ne (Ne.symm hj)] at e2
        obtain ⟨u', r', q⟩ := hl j y v' e1 e2 e3
        refine ⟨u', r', ?_⟩
        rcases q with q | ⟨k, c', e, z'⟩
        · exact .inl q
        · refine .inr ⟨k, c', e, z'.sameBut hs ?_⟩
          rintro rfl
          exact hj (nodup_ix hN e1 (I.ok.inj _ _ _ e hc ▸ hi))
    · by_cases hcc : c' = c
      · subst hcc; exact ⟨_, hc'⟩
      · obtain ⟨w2, z2⟩ := I.cell y c' e
        exact ⟨w2, z2.sameBut hs hcc⟩
    · obtain ⟨e, n, ne, nf, d⟩ := I.pin p hp
      refine ⟨(hs.2 p.1 ?_).trans e, n, ne, nf, d⟩
      intro q
      rw [q, hoc] at e
      have q' : oc = p.2 := Option.some.inj e
      exact d w' (by rw [← q']; exact hocd)
theorem store_ok {M : Model} {A : Around} {E : Value → Shared → Prop} {i : Nat} {x : Str} {v : V} {u : Value} {Q : Unit → Shared → Prop} (I : Inv X pins σ H s) (hN : X.N.Nodup) (hi : X.N[i]? = some x) (hx : Loc X.env.scope x) (r : RelV v u)
    (h : ∀ s', Inv X pins (σ.set i (some v)) H s' → Q () s') (hf : X.fn x = true ∨ X.env.scope.names.lookup x = some .local := by first | exact .inl rfl | exact .inr rfl | assumption) : wpAny M A (storeName X.env x u) Q E s :=
  store_ok2 I hN hi hx r (fun s' I' _ => h s' I') hf
theorem Inv.call' {s' : Shared} {ch : List Addr} (I : Inv X pins σ H s) (ho : s'.os = s.os) (u : Un (frs X.stack) ch H H' s.heap s'.heap) (hok : HOk X.prog X.w H' s'.heap) (hg : AllBare s'.gens)
    (hch : ∀ b ∈ ch, (b ∈ X.ex ∨ X.s₀.heap.objs.size ≤ b) ∧ b ≠ X.env.locals ∧ (∀ x c, X.env.cells.lookup x = some c → c ≠ b) ∧ ∀ p ∈ X.pn ++ pins, p.1 ≠ b) : Inv X pins σ H' s' := by
  obtain ⟨h', g', d', t', o'⟩ := s'
  have e : o' = s.os := ho
  subst e
  exact I.call (g' := g') (t' := t') (d' := d') u hok hg hch
end
abbrev XK := Value → Option Addr → Hp → Prop
abbrev St := List (Option V)
abbrev VK := V → Hp → Prop
abbrev TE := St → Hp → VK → Prop
abbrev TT := St → Hp → (Bool → Hp → Prop) → Prop
abbrev TA := St → Hp → (List V → Hp → Prop) → Prop
structure Ends where
  nx : St → Hp → Prop
  rt : VK
  bk : St → Hp → Prop := fun _ _ => False
  ct : St → Hp → Prop := fun _ _ => False
abbrev TS := Ends → St → Hp → Prop
def EP (X : Cx) (pins : List (Addr × Obj)) (σ : St) (Q : VK) (u : Value) (s' : Shared) : Prop := ∃ v H', Inv X pins σ H' s' ∧ RelV v u ∧ Q v H'
def TP (X : Cx) (pins : List (Addr × Obj)) (σ : St) (Q : Bool → Hp → Prop) (b : Bool) (s' : Shared) : Prop := ∃ H', Inv X pins σ H' s' ∧ Q b H'
def AP (X : Cx) (pins : List (Addr × Obj)) (σ : St) (Q : List V → Hp → Prop) (us : List Value) (s' : Shared) : Prop := ∃ vs H', Inv X pins σ H' s' ∧ Vals vs us ∧ Q vs H'
def SP (X : Cx) (pins : List (Addr × Obj)) (D : Ends) (f : Flow) (s' : Shared) : Prop :=
  match f with
  | .next => ∃ σ' H', Inv X pins σ' H' s' ∧ D.nx σ' H'
  | .brk => ∃ σ' H', Inv X pins σ' H' s' ∧ D.bk σ' H'
  | .cont => ∃ σ' H', Inv X pins σ' H' s' ∧ D.ct σ' H'
  | .ret u => ∃ v σ' H', Inv X pins σ' H' s' ∧ RelV v u ∧ D.rt v H'
def PE (X : Cx) (e : Expr) (t : TE) : Prop :=
  ∀ (pins : List (Addr × Obj)) (s : Shared) (σ : St) (H : Hp) (Q : VK), Inv X pins σ H s → t σ H Q → wpAny (model X.prog X.w) X.A (eval e X.env) (EP X pins σ Q) X.xe s
def PT (X : Cx) (e : Expr) (t : TT) : Prop :=
  ∀ (pins : List (Addr × Obj)) (s : Shared) (σ : St) (H : Hp) (Q : Bool → Hp → Prop), Inv X pins σ H s → t σ H Q → wpAny (model X.prog X.w) X.A (isTrue e X.env (eval e X.env)) (TP X pins σ Q) X.xe s
def PW (X : Cx) (e : Expr) (t : TT) : Prop :=
  ∀ (whole : Sem Value) (pins : List (Addr × Obj)) (s : Shared) (σ : St) (H : Hp) (Q : Bool → Hp → Prop), Inv X pins σ H s → t σ H Q → wpAny (model X.prog X.w) X.A (isTrue e X.env whole) (TP X pins σ Q) X.xe s
theorem PW.pt {X : Cx} {e : Expr} {t : TT} (h : PW X e t) : PT X e t := h _
def PA (X : Cx) (es : List Expr) (t : TA) : Prop :=
  ∀ (pos : Pos) (pins : List (Addr × Obj)) (s : Shared) (σ : St) (H : Hp) (Q : List V → Hp → Prop), Inv X pins σ H s → t σ H Q → wpAny (model X.prog X.w) X.A (spliced (backTo pos (starEach es X.env))) (AP X pins σ Q) X.xe s
def PS (X : Cx) (st : Stmt) (t : TS) : Prop :=
  ∀ (pins : List (Addr × Obj)) (s : Shared) (σ : St) (H : Hp) (D : Ends), Inv X pins σ H s → t D σ H → wpAny (model X.prog X.w) X.A (exec st X.env) (SP X pins D) X.xe s
def PSs (X : Cx) (st : List Stmt) (t : TS) : Prop :=
  ∀ (pins : List (Addr × Obj)) (s : Shared) (σ : St) (H : Hp) (D : Ends), Inv X pins σ H s → t D σ H → wpAny (model X.prog X.w) X.A (execs st X.env) (SP X pins D) X.xe s
theorem thn {α : Type} {t : Sem α} {Q Q' : α → Shared → Prop} {M : Model} {A : Around} {E : Value → Shared → Prop} {s : Shared} (h : wpAny M A t Q E s) (hQ : ∀ a s, Q a s → Q' a s) : wpAny M A t Q' E s := wpAny_mono h hQ fun _ _ x => x
end L2
namespace L2
open PySem PySem.Spec PyProof.Rows
section
variable {X : Cx}
theorem bin {a b : Expr} {ta tb : TE} (ha : PE X a ta) (hb : PE X b tb) {pins : List (Addr × Obj)} {s : Shared} {σ : St} {H : Hp} {R : V → V → Hp → Prop} (I : Inv X pins σ H s) (h : ta σ H fun x H1 => tb σ H1 fun y H2 => R x y H2)
    {α : Type} {Q : α → Shared → Prop} {f : Value → Value → Sem α}
    (hf : ∀ v u s2 x y H2, Inv X pins σ H2 s2 → RelV x v → RelV y u → R x y H2 → wpAny (model X.prog X.w) X.A (f v u) Q X.xe s2) :
    wpAny (model X.prog X.w) X.A (eval a X.env) (fun v s₁ => wpAny (model X.prog X.w) X.A (eval b X.env) (fun u s₂ => wpAny (model X.prog X.w) X.A (f v u) Q X.xe s₂) X.xe s₁) X.xe s := by
  refine thn (ha pins s σ H _ I h) fun v s1 ⟨x, H1, I1, r1, q1⟩ => ?_
  refine thn (hb pins s1 σ H1 _ I1 q1) fun u s2 ⟨y, H2, I2, r2, q2⟩ => ?_
  exact hf v u s2 x y H2 I2 r1 r2 q2
def tVar (i : Nat) : TE := fun σ H Q => ∃ v, σ[i]? = some (some v) ∧ Q v H
def tC (v : V) : TE := fun _ H Q => Q v H
theorem pe_var {i : Nat} {x : Str} {pos : Pos} (hN : X.N[i]? = some x) (hv : Vis X.env.scope x) (hd : (x == ("__debug__" : Str)) = false := by decide) (hcd : (x == ("__classdict__" : Str)) = false := by decide) : PE X (.Name x pos) (tVar i) := by
  intro pins s σ H Q I h
  obtain ⟨v, e, h⟩ := h
  obtain ⟨m, hn, hl⟩ := I.loc
  obtain ⟨u, r, l⟩ := hl i x v hN e hv
  have fin : EP X pins σ Q u s := ⟨v, H, I, r, h⟩
  rcases l with ⟨hk, hm⟩ | ⟨hk, c, hc, hcell⟩
  · exact wpAny_Name (wpAny_loadName_local I.ok.kind hk hn hm fin) hd
  · rcases hk with hk | hk
    · exact wpAny_Name (wpAny_loadName_cell I.ok.kind hk hc hcell fin) hd
    · exact wpAny_Name (wpAny_loadName_free I.ok.kind hk hc hcell fin hcd) hd
theorem pe_int {i j pos} : PE X (.Constant (.int i) j pos) (tC (.int i)) := fun _ _ _ H _ I h => wpAny_Constant_int ⟨.int i, H, I.tok _, ⟨_, rfl⟩, h⟩
theorem pe_bl {b j pos} : PE X (.Constant (.bool b) j pos) (tC (.bl b)) := fun _ _ _ H _ I h => Constant_bool ⟨.bl b, H, I, rfl, h⟩
theorem pe_non {j pos} : PE X (.Constant .none j pos) (tC .non) := fun _ _ _ H _ I h => Constant_none ⟨.non, H, I, rfl, h⟩
theorem pe_str {x j pos} : PE X (.Constant (.str x) j pos) (tC (.str x)) := fun _ _ _ H _ I h => Calls.Constant_str ⟨.str x, H, I.tok _, ⟨_, rfl⟩, h⟩
def Gl (X : Cx) (x : Str) : Prop := X.env.kindOf x = some .globalImplicit
theorem ld_glob {E : Value → Shared → Prop} {pins : List (Addr × Obj)} {s : Shared} {σ : St} {H : Hp} {x : Str} {u : Value} {pos : Pos} {Q : Value → Shared → Prop} (I : Inv X pins σ H s) (hg : Gl X x) (hm : X.mg x = some u) (h : Q u s)
    (hd : (x == ("__debug__" : Str)) = false := by decide) : wpAny (model X.prog X.w) X.A (eval (.Name x pos) X.env) Q E s :=
  Calls.Name_function_global I.ok.kind hg (Calls.loadGlobal_global (by rw [I.ok.glob]; exact I.mod.glob.keeps I.bk) hm h) hd
theorem ld_blt {E : Value → Shared → Prop} {pins : List (Addr × Obj)} {s : Shared} {σ : St} {H : Hp} {x : Str} {u : Value} {pos : Pos} {Q : Value → Shared → Prop} (I : Inv X pins σ H s) (hg : Gl X x) (hm : X.mg x = none) (hv : bootBuiltins x = some u) (h : Q u s)
    (hn : x ≠ "__name__" := by decide) (hd : (x == ("__debug__" : Str)) = false := by decide) : wpAny (model X.prog X.w) X.A (eval (.Name x pos) X.env) Q E s := by
  obtain ⟨mb, h1, h2⟩ := I.mod.blt
  exact Calls.Name_function_global I.ok.kind hg (Calls.loadGlobal_builtin (by rw [I.ok.glob]; exact I.mod.glob.keeps I.bk) hm (by rw [I.ok.blt]; exact h1.keeps I.bk) ((h2 x hn).trans hv) h) hd
theorem pe_glob {x : Str} {v : V} {u : Value} {pos : Pos} (hg : Gl X x) (hm : X.mg x = some u) (r : RelV v u) (hd : (x == ("__debug__" : Str)) = false := by decide) : PE X (.Name x pos) (tC v) :=
  fun _ _ _ H _ I h => ld_glob I hg hm ⟨v, H, I, r, h⟩ hd
theorem pe_bltn {x : Str} {v : V} {u : Value} {pos : Pos} (hg : Gl X x) (hm : X.mg x = none) (hv : bootBuiltins x = some u) (r : RelV v u) (hn : x ≠ "__name__" := by decide) (hd : (x == ("__debug__" : Str)) = false := by decide) : PE X (.Name x pos) (tC v) :=
  fun _ _ _ H _ I h => ld_blt I hg hm hv ⟨v, H, I, r, h⟩ hn hd
variable {a b : Expr} {ta tb : TE} {pos : Pos}
def PC (X : Cx) (op : CmpOp) (a b : Expr) (t : TE) : Prop :=
  ∀ (pins : List (Addr × Obj)) (s : Shared) (σ : St) (H : Hp) (Q : VK), Inv X pins σ H s → t σ H Q →
    wpAny (model X.prog X.w) X.A (eval a X.env) (fun v s₁ => wpAny (model X.prog X.w) X.A (eval b X.env) (fun u s₂ => wpAny (model X.prog X.w) X.A (compareOp op v u) (EP X pins σ Q) X.xe s₂) X.xe s₁) X.xe s
theorem nobehind (b : Expr) {op : CmpOp} (h : op ≠ .In) (h2 : op ≠ .NotIn) : behindInMarks op b = false := by
  have e1 : (op == CmpOp.In) = false := by cases op <;> first | rfl | exact absurd rfl h
  have e2 : (op == CmpOp.NotIn) = false := by cases op <;> first | rfl | exact absurd rfl h2
  cases b <;> simp [behindInMarks, e1, e2]
def tB (t : TE) : TT := fun σ H Q => t σ H fun x H1 => ∃ c, x = .bl c ∧ Q c H1
theorem pt_cmp {op : CmpOp} {t : TE} (h : PC X op a b t) (h1 : behindInMarks op b = false := by first | exact nobehind _ (by decide) (by decide) | rfl) : PT X (.Compare a [op] [b] pos) (tB t) := by
  intro pins s σ H Q I hw
  refine wpAny_isTrue_Compare1 (thn (h pins s σ H _ I hw) fun v s1 h1 => thn h1 fun u s2 h2 => thn h2 fun c s3 ⟨x, H1, I1, r1, q1⟩ => ?_) h1
  obtain ⟨d, rfl, q⟩ := q1
  cases r1
  exact wpAny_truthy_bool ⟨H1, I1, q⟩
theorem pt_val {e : Expr} {t : TE} (h : PE X e t) (he : ∀ whole, isTrue e X.env whole = (do let v ← whole; standAt e.pos; holding [v] (truthy v)) := by intro _; rfl) : PT X e (tB t) := by
  intro pins s σ H Q I hw
  refine isTrue_plain (thn (h pins s σ H _ I hw) fun v s1 ⟨x, H1, I1, r1, q1⟩ => ?_) (he _)
  obtain ⟨d, rfl, q⟩ := q1
  cases r1
  exact wpAny_truthy_bool ⟨H1, I1, q⟩
variable {tA tB' : TT} {rest : List Expr}
def tAnd (t u : TT) : TT := fun σ H Q => t σ H fun c H1 => if c = true then u σ H1 Q else Q false H1
def tOr (t u : TT) : TT := fun σ H Q => t σ H fun c H1 => if c = true then Q true H1 else u σ H1 Q
def tNot (t : TT) : TT := fun σ H Q => t σ H fun c H1 => Q (!c) H1
theorem pw_and1 (ha : PT X a tA) : PW X (.BoolOp .And [a] pos) tA := by
  intro wh pins s σ H Q I h
  refine isTrue_and (thn (ha pins s σ H Q I h) fun c s1 e => ?_)
  cases c with
  | true => exact isTrue_and_nil e
  | false => exact e
theorem pw_or1 (ha : PT X a tA) : PW X (.BoolOp .Or [a] pos) tA := by
  intro wh pins s σ H Q I h
  refine isTrue_or (thn (ha pins s σ H Q I h) fun c s1 e => ?_)
  cases c with
  | false => exact isTrue_or_nil e
  | true => exact e
theorem pw_and (ha : PT X a tA) (hb : PW X (.BoolOp .And (b :: rest) pos) tB') : PW X (.BoolOp .And (a :: b :: rest) pos) (tAnd tA tB') := by
  intro wh pins s σ H Q I h
  refine isTrue_and (thn (ha pins s σ H _ I h) fun c s1 ⟨H1, I1, q1⟩ => ?_)
  cases c with
  | true => exact hb wh pins s1 σ H1 Q I1 q1
  | false => exact ⟨H1, I1, q1⟩
theorem pw_or (ha : PT X a tA) (hb : PW X (.BoolOp .Or (b :: rest) pos) tB') : PW X (.BoolOp .Or (a :: b :: rest) pos) (tOr tA tB') := by
  intro wh pins s σ H Q I h
  refine isTrue_or (thn (ha pins s σ H _ I h) fun c s1 ⟨H1, I1, q1⟩ => ?_)
  cases c with
  | true => exact ⟨H1, I1, q1⟩
  | false => exact hb wh pins s1 σ H1 Q I1 q1
theorem pt_not (ha : PT X a tA) : PT X (.UnaryOp .Not a pos) (tNot tA) := by
  intro pins s σ H Q I h
  exact isTrue_not (ha pins s σ H (fun c H1 => Q (!c) H1) I h)
def tAndV (ta tb : TE) : TE := fun σ H Q => ta σ H fun x H1 => ∃ c, x = .bl c ∧ if c = true then tb σ H1 Q else Q (.bl false) H1
def tOrV (ta tb : TE) : TE := fun σ H Q => ta σ H fun x H1 => ∃ c, x = .bl c ∧ if c = true then Q (.bl true) H1 else tb σ H1 Q
theorem pe_one {op} {t : TE} (h : PE X a t) : PE X (.BoolOp op [a] pos) t := fun pins s σ H Q I hw => BoolOp_one (h pins s σ H Q I hw)
theorem pe_and (ha : PE X a ta) (hb : PE X (.BoolOp .And (b :: rest) pos) tb) : PE X (.BoolOp .And (a :: b :: rest) pos) (tAndV ta tb) := by
  intro pins s σ H Q I h
  refine BoolOp_and (thn (ha pins s σ H _ I h) fun v s1 ⟨x, H1, I1, r1, q1⟩ => ?_)
  obtain ⟨c, rfl, q1⟩ := q1
  cases r1
  refine wpAny_truthy_bool ?_
  cases c with
  | true => exact hb pins s1 σ H1 Q I1 q1
  | false => exact ⟨.bl false, H1, I1, rfl, q1⟩
theorem pe_or (ha : PE X a ta) (hb : PE X (.BoolOp .Or (b :: rest) pos) tb) : PE X (.BoolOp .Or (a :: b :: rest) pos) (tOrV ta tb) := by
  intro pins s σ H Q I h
  refine BoolOp_or (thn (ha pins s σ H _ I h) fun v s1 ⟨x, H1, I1, r1, q1⟩ => ?_)
  obtain ⟨c, rfl, q1⟩ := q1
  cases r1
  refine wpAny_truthy_bool ?_
  cases c with
  | false => exact hb pins s1 σ H1 Q I1 q1
  | true => exact ⟨.bl true, H1, I1, rfl, q1⟩
def tIf (t : TT) (ta tb : TE) : TE := fun σ H Q => t σ H fun c H1 => if c = true then ta σ H1 Q else tb σ H1 Q
theorem pe_ifExp {c : Expr} (hc : PT X c tA) (ha : PE X a ta) (hb : PE X b tb) : PE X (.IfExp c a b pos) (tIf tA ta tb) := by
  intro pins s σ H Q I h
  refine wpAny_IfExp (thn (hc pins s σ H _ I h) fun d s1 ⟨H1, I1, q1⟩ => ?_)
  cases d with
  | true => exact ha pins s1 σ H1 Q I1 q1
  | false => exact hb pins s1 σ H1 Q I1 q1
end
end L2
namespace L2
open PySem PySem.Spec PyProof.Rows
def SqL (K : PySem.W.Frag) (H : Hp) (a : Addr) (xs : List V) : Prop :=
  Rd H a (.lst xs) ∨
    ∃ (o : Obj) (its : Array Value) (n : Nat), K.lookup a = some o ∧ o.cls = .type "list" ∧ o.dict = none ∧ o.data = .seq its n ∧ its.size ≤ sizeLine ∧ Vals xs its.toList
def SqT (K : PySem.W.Frag) (H : Hp) (a : Addr) (xs : List V) : Prop :=
  Rd H a (.tup xs) ∨
    ∃ (o : Obj) (its : Array Value) (n : Nat), K.lookup a = some o ∧ o.cls = .type "tuple" ∧ o.data = .seq its n ∧ its.size ≤ sizeLine ∧ Vals xs its.toList
def absV : Value → Option V
  | .none => some .non
  | .bool b => some (.bl b)
  | .int i _ => some (.int i)
  | .str x _ => some (.str x)
  | .bytes b _ => some (.byt b)
  | .float b _ => some (.flt b)
  | .ref a => some (.ref a)
  | .type n => some (.ty n)
  | _ => none
theorem RelV.abs {x : V} {u : Value} (r : RelV x u) : absV u = some x := by
  cases x with
  | non => cases r; rfl
  | bl _ => cases r; rfl
  | int _ => obtain ⟨t, rfl⟩ := r; rfl
  | str _ => obtain ⟨t, rfl⟩ := r; rfl
  | byt _ => obtain ⟨t, rfl⟩ := r; rfl
  | flt _ => obtain ⟨t, rfl⟩ := r; rfl
  | ref _ => cases r; rfl
  | ty _ => cases r; rfl
theorem RelV.inj {x y : V} {u : Value} (r : RelV x u) (q : RelV y u) : x = y := Option.some.inj (r.abs.symm.trans q.abs)
theorem Vals.inj : ∀ {xs ys : List V} {us : List Value}, Vals xs us → Vals ys us → xs = ys
  | _, _, _, .nil, .nil => rfl
  | _, _, _, .cons r t, .cons r' t' => by rw [r.inj r', Vals.inj t t']
section
variable {X : Cx} {pins : List (Addr × Obj)} {σ : St} {H : Hp} {s : Shared} {a : Addr} {xs ys : List V}
theorem SqL.of {K : PySem.W.Frag} (h : H a = some (.lst xs)) : SqL K H a xs := .inl (.inl h)
theorem SqT.of {K : PySem.W.Frag} (h : H a = some (.tup xs)) : SqT K H a xs := .inl (.inl h)
theorem Inv.list (I : Inv X pins σ H s) (h : SqL X.K H a xs) : ∃ its : List Value, Vals xs its ∧ PlainL s.heap a its.toArray ∧ xs.length ≤ sizeLine := by
  rcases h with h | ⟨o, its, n, hk, hc, hd, hs, hz, r⟩
  · obtain ⟨z, its, n, r, e⟩ := h.ok I.hok
    exact ⟨its, r, ⟨_, n, e, rfl, rfl, rfl⟩, z⟩
  · refine ⟨its.toList, r, ⟨o, n, I.kIn a o hk, hc, hd, by simpa using hs⟩, ?_⟩
    have e := r.length
    simp only [Array.length_toList] at e
    omega
theorem Inv.tuple (I : Inv X pins σ H s) (h : SqT X.K H a xs) : ∃ its : List Value, Vals xs its ∧ IsTup s.heap a its.toArray ∧ xs.length ≤ sizeLine := by
  rcases h with h | ⟨o, its, n, hk, hc, hs, hz, r⟩
  · obtain ⟨z, its, r, p⟩ := h.ok I.hok
    exact ⟨its, r, p, z⟩
  · refine ⟨its.toList, r, ⟨o, I.kIn a o hk, hc, n, by simpa using hs⟩, ?_⟩
    have e := r.length
    simp only [Array.length_toList] at e
    omega
theorem Inv.list_inj (I : Inv X pins σ H s) (h : SqL X.K H a xs) (h' : SqL X.K H a ys) : xs = ys := by
  obtain ⟨its, r, ⟨o, n, e, _, _, d⟩, _⟩ := I.list h
  obtain ⟨its', r', ⟨o', n', e', _, _, d'⟩, _⟩ := I.list h'
  rw [e] at e'; cases e'
  rw [d] at d'
  injection d' with d1 _
  have : its = its' := by simpa using congrArg Array.toList d1
  subst this
  exact r.inj r'
theorem Inv.tuple_inj (I : Inv X pins σ H s) (h : SqT X.K H a xs) (h' : SqT X.K H a ys) : xs = ys := by
  obtain ⟨its, r, ⟨o, e, _, n, d⟩, _⟩ := I.tuple h
  obtain ⟨its', r', ⟨o', e', _, n', d'⟩, _⟩ := I.tuple h'
  rw [e] at e'; cases e'
  rw [d] at d'
  injection d' with d1 _
  have : its = its' := by simpa using congrArg Array.toList d1
  subst this
  exact r.inj r'
end
abbrev Cx.wish (X : Cx) (E : Value → Shared → Prop) : Cx := { X with xe := E }
abbrev Cx.nox (X : Cx) : Cx := X.wish fun _ _ => False
theorem Cx.Ok.wish {X : Cx} (ok : X.Ok) (E : Value → Shared → Prop) : (X.wish E).Ok :=
  ⟨ok.mod, ok.kind, ok.glob, ok.blt, ok.above, ok.inj, ok.has, ok.cab, ok.hd, ok.frames, ok.stk, ok.exf, ok.bs, ok.bsz, ok.noex, ok.exfs, ok.funs, ok.frf⟩
theorem Cx.Ok.unwish {X : Cx} {E : Value → Shared → Prop} (ok : (X.wish E).Ok) : X.Ok :=
  ⟨ok.mod, ok.kind, ok.glob, ok.blt, ok.above, ok.inj, ok.has, ok.cab, ok.hd, ok.frames, ok.stk, ok.exf, ok.bs, ok.bsz, ok.noex, ok.exfs, ok.funs, ok.frf⟩
section
variable {X : Cx} {pins : List (Addr × Obj)} {σ : St} {H : Hp} {s : Shared} {E : Value → Shared → Prop}
theorem Inv.wish (I : Inv X pins σ H s) (E : Value → Shared → Prop) : Inv (X.wish E) pins σ H s := ⟨I.ok.wish E, I.os, I.bare, I.base, I.loc, I.cell, I.free, I.freeC, I.pin, I.hok, I.len⟩
theorem Inv.unwish (I : Inv (X.wish E) pins σ H s) : Inv X pins σ H s := ⟨I.ok.unwish, I.os, I.bare, I.base, I.loc, I.cell, I.free, I.freeC, I.pin, I.hok, I.len⟩
theorem SP.unwish {D : Ends} {f : Flow} {s' : Shared} (h : SP (X.wish E) pins D f s') : SP X pins D f s' := by
  cases f with
  | next => obtain ⟨σ', H', I, q⟩ := h; exact ⟨σ', H', I.unwish, q⟩
  | brk => obtain ⟨σ', H', I, q⟩ := h; exact ⟨σ', H', I.unwish, q⟩
  | cont => obtain ⟨σ', H', I, q⟩ := h; exact ⟨σ', H', I.unwish, q⟩
  | ret u => obtain ⟨v, σ', H', I, r, q⟩ := h; exact ⟨v, σ', H', I.unwish, r, q⟩
theorem PE.nox {e : Expr} {t : TE} (h : PE X.nox e t) : PE X e t := fun pins s σ H Q I hw =>
  wpAny_mono (h pins s σ H Q (I.wish _) hw) (fun _ _ ⟨v, H', I', r, q⟩ => ⟨v, H', I'.unwish, r, q⟩) fun _ _ z => False.elim z
theorem PT.nox {e : Expr} {t : TT} (h : PT X.nox e t) : PT X e t := fun pins s σ H Q I hw =>
  wpAny_mono (h pins s σ H Q (I.wish _) hw) (fun _ _ ⟨H', I', q⟩ => ⟨H', I'.unwish, q⟩) fun _ _ z => False.elim z
theorem PSs.nox {st : List Stmt} {t : TS} (h : PSs X.nox st t) : PSs X st t := fun pins s σ H D I hw =>
  wpAny_mono (h pins s σ H D (I.wish _) hw) (fun _ _ q => q.unwish) fun _ _ z => False.elim z
end
section
variable {X : Cx} {st : Stmt} {rest : List Stmt} {t u : TS} {e : Expr} {te : TE} {pos : Pos}
def tNext : TS := fun D σ H => D.nx σ H
def tSeq (t u : TS) : TS := fun D σ H => t { D with nx := u D } σ H
theorem pss_nil : PSs X [] tNext := fun _ _ σ H _ I h => wpAny_execs_nil ⟨σ, H, I, h⟩
theorem pss_cons (h1 : PS X st t) (h2 : PSs X rest u) : PSs X (st :: rest) (tSeq t u) := by
  intro pins s σ H D I h
  refine wpAny_execs_cons (thn (h1 pins s σ H { D with nx := u D } I h) fun f s1 q => ?_)
  cases f with
  | next =>
    obtain ⟨σ', H', I', q⟩ := q
    exact h2 pins s1 σ' H' D I' q
  | ret v => exact q
  | brk => exact q
  | cont => exact q
theorem pss_one (h1 : PS X st t) : PSs X [st] t := by
  intro pins s σ H D I h
  refine wpAny_execs_cons (thn (h1 pins s σ H D I h) fun f s1 q => ?_)
  cases f with
  | next => exact wpAny_execs_nil q
  | ret v => exact q
  | brk => exact q
  | cont => exact q
theorem Inv.quiet {pins : List (Addr × Obj)} {σ : St} {H : Hp} {s : Shared} (I : Inv X pins σ H s) : interactive X.env = false := by simp [interactive, I.ok.kind]
def tDrop (te : TE) : TS := fun D σ H => te σ H fun _ H1 => D.nx σ H1
theorem ps_expr (he : PE X e te) (hs : swapsWith e none pos.line X.env = pure false := by rfl) : PS X (.Expr e pos) (tDrop te) := by
  intro pins s σ H D I h
  exact wpAny_Expr_any (thn (he pins s σ H _ I h) fun v s1 ⟨x, H1, I1, r1, q1⟩ => ⟨σ, H1, I1, q1⟩) I.quiet hs
def tRet (te : TE) : TS := fun D σ H => te σ H D.rt
theorem ps_ret (he : PE X e te) : PS X (.Return (some e) pos) (tRet te) := by
  intro pins s σ H D I h
  exact wpAny_Return_some (thn (he pins s σ H _ I h) fun v s1 ⟨x, H1, I1, r1, q1⟩ => ⟨x, σ, H1, I1, r1, q1⟩)
def tIfS (c : TT) (t u : TS) : TS := fun D σ H => c σ H fun b H1 => if b = true then t D σ H1 else u D σ H1
theorem ps_if {c : Expr} {a b : List Stmt} {tc : TT} (hc : PT X c tc) (ha : PSs X a t) (hb : PSs X b u) : PS X (.If c a b pos) (tIfS tc t u) := by
  intro pins s σ H D I h
  refine wpAny_If (thn (hc pins s σ H _ I h) fun d s1 ⟨H1, I1, q1⟩ => ?_)
  cases d with
  | true => exact ha pins s1 σ H1 D I1 q1
  | false => exact hb pins s1 σ H1 D I1 q1
def tNever : TS := fun _ _ _ => False
theorem ps_never : PS X st tNever := fun _ _ _ _ _ _ h => h.elim
end
abbrev TG := V → St → Hp → (St → Hp → Prop) → Prop
abbrev TGs := List V → St → Hp → (St → Hp → Prop) → Prop
def PG (X : Cx) (target : Expr) (t : TG) : Prop :=
  ∀ (pins : List (Addr × Obj)) (s : Shared) (σ : St) (H : Hp) (v : V) (u : Value) (Q : St → Hp → Prop), Inv X pins σ H s → RelV v u → t v σ H Q →
    wpAny (model X.prog X.w) X.A (assign target X.env u) (fun _ s' => ∃ σ' H', Inv X pins σ' H' s' ∧ Q σ' H') X.xe s
def PGs (X : Cx) (ts : List Expr) (t : TGs) : Prop :=
  ∀ (pins : List (Addr × Obj)) (s : Shared) (σ : St) (H : Hp) (vs : List V) (us : List Value) (Q : St → Hp → Prop), Inv X pins σ H s → Vals vs us → t vs σ H Q →
    wpAny (model X.prog X.w) X.A (assignInOrder ((assignEach ts X.env).map (·.2)) us) (fun _ s' => ∃ σ' H', Inv X pins σ' H' s' ∧ Q σ' H') X.xe s
abbrev TSet := V → V → V → Hp → (Hp → Prop) → Prop
def PSet (X : Cx) (t : TSet) : Prop :=
  ∀ (pins : List (Addr × Obj)) (s : Shared) (σ : St) (H : Hp) (o i v : V) (ov iv u : Value) (Q : Hp → Prop), Inv X pins σ H s → RelV o ov → RelV i iv → RelV v u → t o i v H Q →
    wpAny (model X.prog X.w) X.A (setItem ov iv u) (fun _ s' => ∃ H', Inv X pins σ H' s' ∧ Q H') X.xe s
section
variable {X : Cx} {pos : Pos}
def gName (i : Nat) : TG := fun v σ H Q => Q (σ.set i (some v)) H
theorem pg_name {i : Nat} {x : Str} (hN : X.N.Nodup) (hi : X.N[i]? = some x) (hx : Loc X.env.scope x) (hf : X.fn x = true ∨ X.env.scope.names.lookup x = some .local := by first | exact .inl rfl | exact .inr rfl | assumption) : PG X (.Name x pos) (gName i) := by
  intro pins s σ H v u Q I r h
  exact wpAny_assign_Name (store_ok I hN hi hx r (fun s' I' => ⟨_, H, I', h⟩) hf)
def gNil : TGs := fun vs σ H Q => vs = [] ∧ Q σ H
def gCons (t : TG) (u : TGs) : TGs := fun vs σ H Q => ∃ v r, vs = v :: r ∧ t v σ H fun σ' H' => u r σ' H' Q
theorem pgs_nil : PGs X [] gNil := by
  intro pins s σ H vs us Q I r h
  obtain ⟨e, h⟩ := h
  subst e
  cases r
  exact assignInOrder_nil ⟨σ, H, I, h⟩
theorem pgs_cons {e : Expr} {es : List Expr} {t : TG} {u : TGs} (h1 : PG X e t) (h2 : PGs X es u)
    (hs : (assignEach (e :: es) X.env).map (·.2) = assign e X.env :: (assignEach es X.env).map (·.2) := by rfl) : PGs X (e :: es) (gCons t u) := by
  intro pins s σ H vs us Q I r h
  obtain ⟨v, vr, e1, h⟩ := h
  subst e1
  cases r with
  | cons r rr =>
    rw [hs]
    refine assignInOrder_cons (thn (h1 pins s σ H _ _ _ I r h) fun _ s1 ⟨σ1, H1, I1, q1⟩ => ?_)
    exact h2 pins s1 σ1 H1 _ _ Q I1 rr q1
def gTup (K : PySem.W.Frag) (n : Nat) (t : TGs) : TG := fun v σ H Q => ∃ a xs, v = .ref a ∧ SqT K H a xs ∧ xs.length = n ∧ t xs σ H Q
theorem pg_tup {es : List Expr} {k : Nat} {t : TGs} {n : Nat} (hc : X.calm = true) (h : PGs X es t)
    (hn : (assignEach es X.env).length = n := by rfl) (hst : (assignEach es X.env).findIdx? (·.1) = none := by rfl) : PG X (.Tuple es k pos) (gTup X.K n t) := by
  intro pins s σ H v u Q I r hw
  obtain ⟨a, xs, e1, hq, hl, hw⟩ := hw
  subst e1
  cases r
  obtain ⟨its, rv, ht, hz⟩ := I.tuple hq
  refine assign_Tuple_tuple (I.ok.hd hc) ht (by simp [hn, ← hl, rv.length]) hst fun h' hx => ?_
  have I1 : Inv X pins σ H { s with heap := h' } := I.kept (t' := s.toks) fun b o e => hx b o (Nat.ne_of_lt (Heap.lt_size e)) e
  exact h pins _ σ H xs _ Q I1 (by simpa using rv) hw
def gSub (to ti : TE) (t : TSet) : TG := fun v σ H Q => to σ H fun o H1 => ti σ H1 fun i H2 => t o i v H2 fun H3 => Q σ H3
theorem pg_sub {o i : Expr} {to ti : TE} {t : TSet} (ho : PE X o to) (hi : PE X i ti) (hs : PSet X t)
    (ha : ∀ v, assign (.Subscript o i pos) X.env v = (do
      let ov ← holding [v] (eval o X.env)
      let iv ← holding [v, ov] (eval i X.env)
      standAt pos
      holding [v, ov, iv] (setItem ov iv v)
      release [v, ov, iv] []) := by intro _; rfl) : PG X (.Subscript o i pos) (gSub to ti t) := by
  intro pins s σ H v u Q I r h
  rw [ha]
  refine wpAny_bind (wpAny_holding (thn (ho pins s σ H _ I h) fun ov s1 ⟨x, H1, I1, r1, q1⟩ => ?_))
  refine wpAny_bind (wpAny_holding (thn (hi pins s1 σ H1 _ I1 q1) fun iv s2 ⟨y, H2, I2, r2, q2⟩ => ?_))
  refine wpAny_bind (wpAny_standAt (wpAny_bind (wpAny_holding (thn (hs pins s2 σ H2 x y v ov iv u _ I2 r1 r2 r q2) fun _ s3 ⟨H3, I3, q3⟩ => ?_))))
  exact wpAny_release ⟨σ, H3, I3, q3⟩
def tAsg (te : TE) (g : TG) : TS := fun D σ H => te σ H fun x H1 => g x σ H1 D.nx
theorem ps_asg {tg e : Expr} {te : TE} {g : TG} (he : PE X e te) (hg : PG X tg g) (hs : swapsWithSole [tg] e pos.line X.env = pure false := by rfl) (hw : swappedStores [tg] e X.env = pure none := by rfl)
    (h1 : (assignEach [tg] X.env).map (·.2) = [assign tg X.env] := by rfl) : PS X (.Assign [tg] e pos) (tAsg te g) := by
  intro pins s σ H D I h
  refine wpAny_Assign_stores (thn (he pins s σ H _ I h) fun v s1 ⟨x, H1, I1, r1, q1⟩ => ?_) hs hw
  rw [h1]
  exact thn (hg pins s1 σ H1 x v _ I1 r1 q1) fun _ s2 q => q
theorem ps_set {i : Nat} {x : Str} {e : Expr} {te : TE} {pos' : Pos} (hN : X.N.Nodup) (hi : X.N[i]? = some x) (hx : Loc X.env.scope x) (he : PE X e te) (hs : swapsWith e (some (.Name x pos')) pos.line X.env = pure false := by rfl) (hf : X.fn x = true ∨ X.env.scope.names.lookup x = some .local := by first | exact .inl rfl | exact .inr rfl | assumption) :
    PS X (.Assign [.Name x pos'] e pos) (tAsg te (gName i)) := by
  intro pins s σ H D I h
  refine wpAny_Assign_Name (thn (he pins s σ H _ I h) fun v s1 ⟨y, H1, I1, r1, q1⟩ => ?_) hs
  exact store_ok I1 hN hi hx r1 (fun s2 I2 => ⟨_, H1, I2, q1⟩) hf
end
section
variable {X : Cx} {pos : Pos}
end
structure It where
  go : Nat → Hp → Prop
  yld : Nat → Hp → V → Hp → Prop
  stop : Nat → Hp → Prop
def FpOk (X : Cx) (pins : List (Addr × Obj)) (H : Hp) (b : Addr) : Prop :=
  H b = none ∧ b ≠ X.env.locals ∧ b ∉ X.fs ∧ (b ∈ X.ex ∨ X.s₀.heap.objs.size ≤ b) ∧ (∀ x c, X.env.cells.lookup x = some c → c ≠ b) ∧ ∀ p ∈ X.pn ++ pins, p.1 ≠ b
theorem Inv.fpOk {X : Cx} {pins : List (Addr × Obj)} {σ : St} {H H' : Hp} {s : Shared} {b : Addr} (I : Inv X pins σ H s) (hb : s.heap.objs.size ≤ b) (hn : H' b = none) : FpOk X pins H' b := by
  refine ⟨hn, Nat.ne_of_gt (Nat.lt_of_lt_of_le I.lt hb), I.nofs hb, .inr (Nat.le_trans I.sz hb), fun x c e z => ?_, fun p hp z => ?_⟩
  · obtain ⟨v, q⟩ := I.cell x c e
    exact absurd (Nat.lt_of_lt_of_le q.lt (by rw [z]; exact hb)) (Nat.lt_irrefl _)
  · exact absurd (Nat.lt_of_lt_of_le (Heap.lt_size (I.pin p hp).1) (by rw [z]; exact hb)) (Nat.lt_irrefl _)
structure Turn (P : Program) (w : World) (K : PySem.W.Frag) (tg : Expr) (J : It) (fp : List Addr) (it : Addr) (tn : Nat → Heap → Prop) : Prop where
  mem : it ∈ fp
  obj : ∀ i h, tn i h → ∀ b ∈ fp, ∃ o, h.get? b = some o ∧ ∀ v, o.data ≠ .cell v
  keep : ∀ i h h', tn i h → (∀ b ∈ fp, ∀ o, h.get? b = some o → h'.get? b = some o) → tn i h'
  item : ∀ (X : Cx), X.prog = P → X.w = w → X.K = K → X.calm = true → ∀ (i : Nat) (pins : List (Addr × Obj)) (s : Shared) (σ : St) (H : Hp) (E : Value → Shared → Prop), Inv X pins σ H s → (∀ b ∈ fp, FpOk X pins H b) → tn i s.heap → J.go i H →
    wpAny (model P w) X.A (pyNext (.ref it)) (fun r s1 => ∃ u, r = some u ∧
      wpAny (model P w) X.A (letOwnedTupleGo tg (.ref it) u) (fun _ s2 => ∃ x H', Inv X pins σ H' s2 ∧ RelV x u ∧ J.yld i H x H' ∧ tn (i + 1) s2.heap ∧ ∀ b ∈ fp, H' b = none) E s1) E s
  done : ∀ (X : Cx), X.prog = P → X.w = w → X.K = K → X.calm = true → ∀ (i : Nat) (pins : List (Addr × Obj)) (s : Shared) (σ : St) (H : Hp) (E : Value → Shared → Prop), Inv X pins σ H s → (∀ b ∈ fp, FpOk X pins H b) → tn i s.heap → J.stop i H →
    wpAny (model P w) X.A (pyNext (.ref it)) (fun r s1 => r = none ∧ Inv X pins σ H s1) E s
  self : ∀ (A : Around) (i : Nat) (s : Shared) (Q : Value → Shared → Prop) (E : Value → Shared → Prop), tn i s.heap → Q (.ref it) s → wpAny (model P w) A (pyIter (.ref it)) Q E s
abbrev TI := St → Hp → (It → Hp → Prop) → Prop
def PIE (X : Cx) (pins : List (Addr × Obj)) (σ : St) (tg : Expr) (R : It → Hp → Prop) (itv : Value) (s2 : Shared) : Prop :=
  ∃ (it : Addr) (fp : List Addr) (tn : Nat → Heap → Prop) (J : It) (H' : Hp), itv = .ref it ∧ Inv X pins σ H' s2 ∧ Turn X.prog X.w X.K tg J fp it tn ∧ tn 0 s2.heap ∧ (∀ b ∈ fp, FpOk X pins H' b) ∧ R J H'
def PI (X : Cx) (tg iter : Expr) (wi : TI) : Prop :=
  ∀ (pins : List (Addr × Obj)) (s : Shared) (σ : St) (H : Hp) (R : It → Hp → Prop), Inv X pins σ H s → wi σ H R →
    wpAny (model X.prog X.w) X.A (eval iter X.env) (fun v s1 => wpAny (model X.prog X.w) X.A (pyIter v) (PIE X pins σ tg R) X.xe s1) X.xe s
theorem go_of {M : Model} {A : Around} {E : Value → Shared → Prop} {s : Shared} {tg : Expr} {it : Addr} {u : Value} {o : Obj} {n : String} {vs : Array Value} {Q : Unit → Shared → Prop} (ho : s.heap.get? it = some o) (hc : o.cls = .type n) (hd : o.data = .fields vs)
    (hn : ["enumerate", "zip", "dict_itemiterator", "dict_reverseitemiterator", "odict_iterator", "itertools.zip_longest", "itertools.pairwise"].contains n = false) (hQ : Q () s) : wpAny M A (letOwnedTupleGo tg (.ref it) u) Q E s := by
  unfold letOwnedTupleGo
  cases tg <;> first
    | exact wpAny_pure hQ
    | (cases u <;> first
        | exact wpAny_pure hQ
        | (refine wpAny_bind (wpAny_load ho ?_)
           rw [hc, hd]
           show wpAny M A (if (["enumerate", "zip", "dict_itemiterator", "dict_reverseitemiterator", "odict_iterator", "itertools.zip_longest", "itertools.pairwise"].contains n && vs[0]? == some (rawInt _)) = true then _ else _) Q E s
           rw [if_neg (by intro h; rw [hn, Bool.false_and] at h; cases h)]
           exact wpAny_pure hQ))
def Itl (K : PySem.W.Frag) (a : Addr) : It :=
  ⟨fun i H => ∃ xs x, SqL K H a xs ∧ xs[i]? = some x, fun i H x H' => H' = H ∧ ∀ xs, SqL K H a xs → xs[i]? = some x, fun i H => ∃ xs, SqL K H a xs ∧ xs.length ≤ i⟩
def Itt (K : PySem.W.Frag) (a : Addr) : It :=
  ⟨fun i H => ∃ xs x, SqT K H a xs ∧ xs[i]? = some x, fun i H x H' => H' = H ∧ ∀ xs, SqT K H a xs → xs[i]? = some x, fun i H => ∃ xs, SqT K H a xs ∧ xs.length ≤ i⟩
def Itr (lo : Int) (n : Nat) : It := ⟨fun i _ => i < n, fun i H x H' => H' = H ∧ x = .int (lo + i), fun i _ => n ≤ i⟩
theorem turn_list {P : Program} {w : World} {K : PySem.W.Frag} {tg : Expr} (a it : Addr) : Turn P w K tg (Itl K a) [it] it (fun i h => h.IsListIter it a i) where
  mem := by simp
  obj := fun i h st b hb => by
    have e : b = it := by simpa using hb
    subst e
    obtain ⟨o, e, c, d⟩ := st
    exact ⟨o, e, fun v z => by rw [d] at z; cases z⟩
  keep := fun i h h' st k => st.at fun o e => k it (by simp) o e
  item := by
    intro X hP hw hK hc i pins s σ H E I hf st hg
    subst hP hw hK
    obtain ⟨xs, x, hq, hx⟩ := hg
    obtain ⟨its, rv, p, hz⟩ := I.list hq
    obtain ⟨u, hu, ru⟩ := rv.get hx
    obtain ⟨f0, f1, f2, f3, f4, f5⟩ := hf it (by simp)
    refine wpAny_pyNext_list_item st p.isList (x := u) (by simpa using hu) fun h' st' sb => ?_
    have I1 : Inv X pins σ H { s with heap := h' } := I.turned (t' := s.toks) (fun b o hb e => (sb.2 b hb).trans e) f0 f1 f3 f4 f5
    obtain ⟨o, e, c, d⟩ := id st'
    exact ⟨u, rfl, go_of (s := { s with heap := h' }) e c d (by decide) ⟨x, H, I1, ru, ⟨rfl, fun ys hy => by rw [I.list_inj hy hq]; exact hx⟩, st', fun b hb => (hf b hb).1⟩⟩
  done := by
    intro X hP hw hK hc i pins s σ H E I hf st hg
    subst hP hw hK
    obtain ⟨xs, hq, hx⟩ := hg
    obtain ⟨its, rv, p, hz⟩ := I.list hq
    obtain ⟨f0, f1, f2, f3, f4, f5⟩ := hf it (by simp)
    have hl := rv.length
    exact wpAny_pyNext_list_end (I.ok.hd hc) st p.isList (by simp; omega) fun h' eb => ⟨rfl, I.turned (t' := s.toks) (fun b o hb e => eb b o hb e) f0 f1 f3 f4 f5⟩
  self := fun _ _ _ _ _ st h => wpAny_pyIter_listiter st h
theorem turn_tuple {P : Program} {w : World} {K : PySem.W.Frag} {tg : Expr} (a it : Addr) : Turn P w K tg (Itt K a) [it] it (fun i h => h.IsTupleIter it a i) where
  mem := by simp
  obj := fun i h st b hb => by
    have e : b = it := by simpa using hb
    subst e
    obtain ⟨o, e, c, d⟩ := st
    exact ⟨o, e, fun v z => by rw [d] at z; cases z⟩
  keep := fun i h h' st k => st.at fun o e => k it (by simp) o e
  item := by
    intro X hP hw hK hc i pins s σ H E I hf st hg
    subst hP hw hK
    obtain ⟨xs, x, hq, hx⟩ := hg
    obtain ⟨its, rv, p, hz⟩ := I.tuple hq
    obtain ⟨u, hu, ru⟩ := rv.get hx
    obtain ⟨f0, f1, f2, f3, f4, f5⟩ := hf it (by simp)
    refine wpAny_pyNext_tuple_item st (show s.heap.IsTuple a its.toArray from p) (x := u) (by simpa using hu) fun h' st' sb => ?_
    have I1 : Inv X pins σ H { s with heap := h' } := I.turned (t' := s.toks) (fun b o hb e => (sb.2 b hb).trans e) f0 f1 f3 f4 f5
    obtain ⟨o, e, c, d⟩ := id st'
    exact ⟨u, rfl, go_of (s := { s with heap := h' }) e c d (by decide) ⟨x, H, I1, ru, ⟨rfl, fun ys hy => by rw [I.tuple_inj hy hq]; exact hx⟩, st', fun b hb => (hf b hb).1⟩⟩
  done := by
    intro X hP hw hK hc i pins s σ H E I hf st hg
    subst hP hw hK
    obtain ⟨xs, hq, hx⟩ := hg
    obtain ⟨its, rv, p, hz⟩ := I.tuple hq
    obtain ⟨f0, f1, f2, f3, f4, f5⟩ := hf it (by simp)
    have hl := rv.length
    exact wpAny_pyNext_tuple_end (I.ok.hd hc) st (show s.heap.IsTuple a its.toArray from p) (by simp; omega) fun h' eb => ⟨rfl, I.turned (t' := s.toks) (fun b o hb e => eb b o hb e) f0 f1 f3 f4 f5⟩
  self := fun _ _ _ _ _ st h => wpAny_pyIter_tupleiter st h
theorem turn_range {P : Program} {w : World} {K : PySem.W.Frag} {tg : Expr} (it : Addr) (lo : Int) (n : Nat) : Turn P w K tg (Itr lo n) [it] it (fun i h => IsRangeIter h it (lo + (i : Nat) * 1) ((n : Int) - (i : Nat)) 1) where
  mem := by simp
  obj := fun i h st b hb => by
    have e : b = it := by simpa using hb
    subst e
    exact ⟨_, st, fun v z => by
      have z' : Data.fields _ = Data.cell v := z
      cases z'⟩
  keep := fun i h h' st k => k it (by simp) _ st
  item := by
    intro X hP hw hK hc i pins s σ H E I hf st hg
    subst hP hw hK
    obtain ⟨f0, f1, f2, f3, f4, f5⟩ := hf it (by simp)
    have W := Walks.range (prog := X.prog) (w := X.w) (I.ok.hd hc) it lo 1 n
    refine W.item i s _ _ hg st fun v h' tk hv st' kk => ?_
    obtain ⟨t, rfl⟩ := hv
    have I1 : Inv X pins σ H { s with heap := h', toks := tk } := I.turned (fun b o hb e => kk b o (by simpa using hb) e) f0 f1 f3 f4 f5
    refine ⟨_, rfl, go_of (s := { s with heap := h', toks := tk }) (n := "range_iterator") st' rfl rfl (by decide) ⟨.int (lo + i), H, I1, ⟨t, ?_⟩, ⟨rfl, rfl⟩, st', fun b hb => (hf b hb).1⟩⟩
    rw [Int.mul_one]
  done := by
    intro X hP hw hK hc i pins s σ H E I hf st hg
    subst hP hw hK
    obtain ⟨f0, f1, f2, f3, f4, f5⟩ := hf it (by simp)
    exact wpAny_pyNext_range_end (I.ok.hd hc) st (by have : n ≤ i := hg; omega) fun h' eb => ⟨rfl, I.turned (t' := s.toks) (fun b o hb e => eb b o hb e) f0 f1 f3 f4 f5⟩
  self := fun _ _ _ _ _ st h => wpAny_pyIter_rangeiter st h
end L2
namespace L2
open PySem PySem.Spec PyProof.Rows
section
variable {X : Cx} {tg : Expr}
def iList (K : PySem.W.Frag) (tl : TE) : TI := fun σ H R => tl σ H fun x H1 => ∃ a, x = .ref a ∧ (∃ xs, SqL K H1 a xs) ∧ R (Itl K a) H1
def iTup (K : PySem.W.Frag) (tl : TE) : TI := fun σ H R => tl σ H fun x H1 => ∃ a, x = .ref a ∧ (∃ xs, SqT K H1 a xs) ∧ R (Itt K a) H1
theorem pi_list {l : Expr} {tl : TE} (hl : PE X l tl) : PI X tg l (iList X.K tl) := by
  intro pins s σ H R I h
  refine thn (hl pins s σ H _ I h) fun v s1 ⟨x, H1, I1, r1, q1⟩ => ?_
  obtain ⟨a, e, ⟨xs, hq⟩, q⟩ := q1
  subst e
  cases r1
  obtain ⟨its, rv, p, hz⟩ := I1.list hq
  refine wpAny_pyIter_list p.isList ?_
  refine ⟨s1.heap.objs.size, [s1.heap.objs.size], _, _, H1, rfl, I1.kept (t' := s1.toks) fun b o e => Heap.get?_push_of_some _ e, turn_list a _, ⟨_, Heap.get?_push_size _ rfl, rfl, rfl⟩, fun b hb => ?_, q⟩
  have e : b = s1.heap.objs.size := by simpa using hb
  subst e
  exact I1.fpOk (Nat.le_refl _) (I1.hok.fresh (Nat.le_refl _))
theorem pi_tup {l : Expr} {tl : TE} (hl : PE X l tl) : PI X tg l (iTup X.K tl) := by
  intro pins s σ H R I h
  refine thn (hl pins s σ H _ I h) fun v s1 ⟨x, H1, I1, r1, q1⟩ => ?_
  obtain ⟨a, e, ⟨xs, hq⟩, q⟩ := q1
  subst e
  cases r1
  obtain ⟨its, rv, p, hz⟩ := I1.tuple hq
  refine wpAny_pyIter_tuple (show s1.heap.IsTuple a its.toArray from p) ?_
  refine ⟨s1.heap.objs.size, [s1.heap.objs.size], _, _, H1, rfl, I1.kept (t' := s1.toks) fun b o e => Heap.get?_push_of_some _ e, turn_tuple a _, ⟨_, Heap.get?_push_size _ rfl, rfl, rfl⟩, fun b hb => ?_, q⟩
  have e : b = s1.heap.objs.size := by simpa using hb
  subst e
  exact I1.fpOk (Nat.le_refl _) (I1.hok.fresh (Nat.le_refl _))
theorem range_it {pins : List (Addr × Obj)} {σ : St} {H : Hp} {s : Shared} {R : It → Hp → Prop} {E : Value → Shared → Prop} {lo hi : Int} {t u v : Tok} {tk : Nat} (I : Inv X pins σ H s) (h1 : -(2 ^ 62) ≤ lo) (h2 : lo < 2 ^ 62) (h3 : -(2 ^ 62) ≤ hi) (h4 : hi < 2 ^ 62)
    (q : R (Itr lo (hi - lo).toNat) H) : wpAny (model X.prog X.w) X.A (pyIter (.ref s.heap.objs.size)) (PIE X pins σ tg R) E { s with heap := s.heap.push { cls := .type "range", data := .fields #[.int lo t, .int hi u, .int 1 v] }, toks := tk } := by
  refine wpAny_pyIter_range (IsRange.new ..) (small_one h1 h2 h3 h4) ?_
  have I1 : Inv X pins σ H { s with heap := s.heap.push { cls := .type "range", data := .fields #[.int lo t, .int hi u, .int 1 v] }, toks := tk } := I.kept fun b o e => Heap.get?_push_of_some _ e
  refine ⟨(s.heap.push { cls := .type "range", data := .fields #[.int lo t, .int hi u, .int 1 v] }).objs.size, [(s.heap.push { cls := .type "range", data := .fields #[.int lo t, .int hi u, .int 1 v] }).objs.size], _, _, H, rfl,
    I1.kept (t' := tk) fun b o e => Heap.get?_push_of_some _ e, turn_range _ lo (hi - lo).toNat, ?_, fun b hb => ?_, q⟩
  · have e1 : lo + ((0 : Nat) : Int) * 1 = lo := by simp
    have e2 : (((hi - lo).toNat : Nat) : Int) - ((0 : Nat) : Int) = Builtin.Range.rangeSize lo hi 1 := by rw [rangeSize_one]; split <;> omega
    show IsRangeIter _ _ (lo + ((0 : Nat) : Int) * 1) ((((hi - lo).toNat : Nat) : Int) - ((0 : Nat) : Int)) 1
    rw [e1, e2]
    exact Heap.get?_push_size _ rfl
  · have e : b = (s.heap.push { cls := .type "range", data := .fields #[.int lo t, .int hi u, .int 1 v] }).objs.size := by simpa using hb
    subst e
    exact I1.fpOk (Nat.le_refl _) (I1.hok.fresh (Nat.le_refl _))
def iRng1 (ta : TA) : TI := fun σ H R => ta σ H fun vs H1 => ∃ j : Int, vs = [.int j] ∧ -(2 ^ 62) ≤ j ∧ j < 2 ^ 62 ∧ R (Itr 0 j.toNat) H1
theorem pi_range1 {a : Expr} {ta : TA} {p pos : Pos} (hg : Gl X "range") (hm : X.mg "range" = none) (ha : PA X [a] ta) (hs : starEach [a] X.env = [(false, eval a X.env)] := by rfl) : PI X tg (.Call (.Name "range" p) [a] [] pos) (iRng1 ta) := by
  intro pins s σ H R I h
  refine Call_ (ld_blt I hg hm boot_range (PyProof.Rows.callWith_type1 (thn (ha pos pins s σ H _ I h) fun us s1 ⟨vs, H1, I1, r1, q1⟩ => ?_) hs rfl))
  obtain ⟨j, e, q1, q2, q⟩ := q1
  subst e
  cases r1 with
  | cons r rr =>
    cases rr
    obtain ⟨t, rfl⟩ := r
    exact call_range_1 (range_it I1 (by omega) (by omega) q1 q2 (by simpa using q))
def tFor (wi : TI) (g : TG) (tb : TS) : TS := fun D σ H => wi σ H fun J H1 => ∃ W : Nat → Nat → St → Hp → Prop, (∃ m, W 0 m σ H1) ∧ ∀ i m σ H, W i m σ H →
  (J.stop i H ∧ D.nx σ H) ∨ (J.go i H ∧ ∃ N : St → Hp → Prop, (∀ σ' H', N σ' H' → ∃ m', m' < m ∧ W (i + 1) m' σ' H') ∧ ∀ x H', J.yld i H x H' → g x σ H' fun σ2 H2 => tb { D with nx := N, ct := N, bk := D.nx } σ2 H2)
def pinsAt (fp : List Addr) (h : Heap) : List (Addr × Obj) := fp.filterMap fun b => (h.get? b).map fun o => (b, o)
theorem mem_pinsAt {fp : List Addr} {h : Heap} {b : Addr} {o : Obj} (hb : b ∈ fp) (e : h.get? b = some o) : (b, o) ∈ pinsAt fp h := List.mem_filterMap.mpr ⟨b, hb, by rw [e]; rfl⟩
theorem of_pinsAt {fp : List Addr} {h : Heap} {p : Addr × Obj} (hp : p ∈ pinsAt fp h) : p.1 ∈ fp ∧ h.get? p.1 = some p.2 := by
  obtain ⟨b, hb, e⟩ := List.mem_filterMap.mp hp
  cases q : h.get? b with
  | none => rw [q] at e; cases e
  | some o =>
    rw [q] at e
    have e' : (b, o) = p := Option.some.inj e
    subst e'
    exact ⟨hb, q⟩
theorem Inv.pinned {pins : List (Addr × Obj)} {σ : St} {H : Hp} {s : Shared} {fp : List Addr} (I : Inv X pins σ H s) (hf : ∀ b ∈ fp, FpOk X pins H b) (ho : ∀ b ∈ fp, ∃ o, s.heap.get? b = some o ∧ ∀ v, o.data ≠ .cell v) : Inv X (pins ++ pinsAt fp s.heap) σ H s :=
  I.pins_of fun p hp => (List.mem_append.mp hp).elim (fun z => I.pin p (List.mem_append_right _ z)) fun z => by
    obtain ⟨hb, e⟩ := of_pinsAt z
    obtain ⟨f0, f1, f2, _⟩ := hf p.1 hb
    obtain ⟨o, e', d⟩ := ho p.1 hb
    rw [e] at e'; cases e'
    exact ⟨e, f0, f1, f2, d⟩
theorem Inv.unpinned {pins pl : List (Addr × Obj)} {σ : St} {H : Hp} {s : Shared} (I : Inv X (pins ++ pl) σ H s) : Inv X pins σ H s := I.pins_of fun p hp => I.pin p (List.mem_append_right _ (List.mem_append_left _ hp))
theorem ps_for {iter : Expr} {body : List Stmt} {wi : TI} {g : TG} {tb : TS} {pos : Pos} (hp : PassesOwn (model X.prog X.w) X.A X.env X.xe) (hc : X.calm = true) (hi : PI X tg iter wi) (hg : PG X tg g) (hb : PSs X body tb)
    (hs : ∀ x, foldedSetIterable iter X.env x = pure x := by intro _; rfl) : PS X (.For tg iter body [] pos) (tFor wi g tb) := by
  intro pins s σ H D I h
  refine wpAny_For (thn (hi pins s σ H _ I h) fun v s1 h1 => thn h1 fun itv s2 h2 => ?_) hs
  obtain ⟨it, fp, tn, J, H2, e, I2, T, st2, f2, W, ⟨m0, w0⟩, turn⟩ := h2
  subst e
  have stat : ∀ {H' : Hp}, (∀ b ∈ fp, H' b = none) → ∀ b ∈ fp, FpOk X pins H' b := fun hn b hb => ⟨hn b hb, (f2 b hb).2⟩
  refine codeAny_forLoop_any (fun n s' => ∃ i σ' H', Inv X pins σ' H' s' ∧ tn i s'.heap ∧ (∀ b ∈ fp, H' b = none) ∧ W i n σ' H') ?_ m0 ⟨0, σ, H2, I2, st2, fun b hb => (f2 b hb).1, w0⟩
  rintro n s3 ⟨i, σ3, H3, I3, st3, fr3, w3⟩
  rcases turn i n σ3 H3 w3 with ⟨stop, qn⟩ | ⟨go, N, hN, step⟩
  · refine wpAny_passesOwn hp (thn (T.done X rfl rfl rfl hc i pins s3 σ3 H3 X.xe I3 (stat fr3) st3 stop) fun r s4 ⟨hr, I4⟩ => ?_)
    subst hr
    exact wpAny_execs_nil ⟨σ3, H3, I4, qn⟩
  · refine wpAny_passesOwn hp (thn (T.item X rfl rfl rfl hc i pins s3 σ3 H3 X.xe I3 (stat fr3) st3 go) fun r s4 ⟨u, hr, h4⟩ => ?_)
    subst hr
    refine wpAny_passesOwn hp (thn h4 fun _ s5 ⟨x, H5, I5, r5, y5, st5, fr5⟩ => ?_)
    have I5' := I5.pinned (stat fr5) (T.obj _ _ st5)
    refine wpAny_passesOwn hp (thn (hg _ s5 σ3 H5 x u _ I5' r5 (step x H5 y5)) fun _ s6 ⟨σ6, H6, I6, q6⟩ => ?_)
    refine wpAny_passesOwn hp (thn (hb _ s6 σ6 H6 _ I6 q6) fun f s7 q7 => ?_)
    have again : ∀ {σ7 : St} {H7 : Hp}, Inv X (pins ++ pinsAt fp s5.heap) σ7 H7 s7 → N σ7 H7 → ∃ m, m < n ∧ ∃ i σ' H', Inv X pins σ' H' s7 ∧ tn i s7.heap ∧ (∀ b ∈ fp, H' b = none) ∧ W i m σ' H' := fun {σ7 H7} I7 n7 => by
      obtain ⟨m', hm, w7⟩ := hN σ7 H7 n7
      refine ⟨m', hm, i + 1, σ7, H7, I7.unpinned, T.keep _ _ _ st5 fun b hb o e => (I7.pin (b, o) (List.mem_append_right _ (List.mem_append_right _ (mem_pinsAt hb e)))).1, fun b hb => ?_, w7⟩
      obtain ⟨o, e, d⟩ := T.obj _ _ st5 b hb
      exact (I7.pin (b, o) (List.mem_append_right _ (List.mem_append_right _ (mem_pinsAt hb e)))).2.1
    cases f with
    | next => obtain ⟨σ7, H7, I7, n7⟩ := q7; exact again I7 n7
    | cont => obtain ⟨σ7, H7, I7, n7⟩ := q7; exact again I7 n7
    | brk => obtain ⟨σ7, H7, I7, q7⟩ := q7; exact ⟨σ7, H7, I7.unpinned, q7⟩
    | ret v => obtain ⟨x7, σ7, H7, I7, r7, q7⟩ := q7; exact ⟨x7, σ7, H7, I7.unpinned, r7, q7⟩
end
theorem for_list {K : PySem.W.Frag} {a : Addr} {xs : List V} {g : TG} {tb : TS} {D : Ends} {σ : St} {H : Hp} (Pv : Nat → St → Hp → Prop) (h0 : Pv 0 σ H) (hl : ∀ i σ H, i ≤ xs.length → Pv i σ H → SqL K H a xs)
    (hs : ∀ i x σ H, xs[i]? = some x → Pv i σ H → g x σ H fun σ2 H2 => tb { D with nx := Pv (i + 1), ct := Pv (i + 1), bk := D.nx } σ2 H2) (hd : ∀ σ H, Pv xs.length σ H → D.nx σ H) :
    ∃ W : Nat → Nat → St → Hp → Prop, (∃ m, W 0 m σ H) ∧ ∀ i m σ H, W i m σ H →
      ((Itl K a).stop i H ∧ D.nx σ H) ∨ ((Itl K a).go i H ∧ ∃ N : St → Hp → Prop, (∀ σ' H', N σ' H' → ∃ m', m' < m ∧ W (i + 1) m' σ' H') ∧ ∀ x H', (Itl K a).yld i H x H' → g x σ H' fun σ2 H2 => tb { D with nx := N, ct := N, bk := D.nx } σ2 H2) := by
  refine ⟨fun i m σ H => m = xs.length - i ∧ i ≤ xs.length ∧ Pv i σ H, ⟨xs.length, by simp, Nat.zero_le _, h0⟩, ?_⟩
  rintro i m σ H ⟨rfl, hi, p⟩
  have q := hl i σ H hi p
  by_cases hlt : i < xs.length
  · refine .inr ⟨⟨xs, xs[i], q, by simp [hlt]⟩, Pv (i + 1), fun σ' H' p' => ⟨xs.length - (i + 1), by omega, rfl, hlt, p'⟩, fun x H' y => ?_⟩
    obtain ⟨e, y⟩ := y
    subst e
    exact hs i x σ _ (y xs q) p
  · have e : i = xs.length := by omega
    subst e
    exact .inl ⟨⟨xs, q, Nat.le_refl _⟩, hd σ H p⟩
theorem for_tup {K : PySem.W.Frag} {a : Addr} {xs : List V} {g : TG} {tb : TS} {D : Ends} {σ : St} {H : Hp} (Pv : Nat → St → Hp → Prop) (h0 : Pv 0 σ H) (hl : ∀ i σ H, i ≤ xs.length → Pv i σ H → SqT K H a xs)
    (hs : ∀ i x σ H, xs[i]? = some x → Pv i σ H → g x σ H fun σ2 H2 => tb { D with nx := Pv (i + 1), ct := Pv (i + 1), bk := D.nx } σ2 H2) (hd : ∀ σ H, Pv xs.length σ H → D.nx σ H) :
    ∃ W : Nat → Nat → St → Hp → Prop, (∃ m, W 0 m σ H) ∧ ∀ i m σ H, W i m σ H →
      ((Itt K a).stop i H ∧ D.nx σ H) ∨ ((Itt K a).go i H ∧ ∃ N : St → Hp → Prop, (∀ σ' H', N σ' H' → ∃ m', m' < m ∧ W (i + 1) m' σ' H') ∧ ∀ x H', (Itt K a).yld i H x H' → g x σ H' fun σ2 H2 => tb { D with nx := N, ct := N, bk := D.nx } σ2 H2) := by
  refine ⟨fun i m σ H => m = xs.length - i ∧ i ≤ xs.length ∧ Pv i σ H, ⟨xs.length, by simp, Nat.zero_le _, h0⟩, ?_⟩
  rintro i m σ H ⟨rfl, hi, p⟩
  have q := hl i σ H hi p
  by_cases hlt : i < xs.length
  · refine .inr ⟨⟨xs, xs[i], q, by simp [hlt]⟩, Pv (i + 1), fun σ' H' p' => ⟨xs.length - (i + 1), by omega, rfl, hlt, p'⟩, fun x H' y => ?_⟩
    obtain ⟨e, y⟩ := y
    subst e
    exact hs i x σ _ (y xs q) p
  · have e : i = xs.length := by omega
    subst e
    exact .inl ⟨⟨xs, q, Nat.le_refl _⟩, hd σ H p⟩
theorem for_range {lo : Int} {n : Nat} {g : TG} {tb : TS} {D : Ends} {σ : St} {H : Hp} (Pv : Nat → St → Hp → Prop) (h0 : Pv 0 σ H)
    (hs : ∀ i σ H, i < n → Pv i σ H → g (.int (lo + i)) σ H fun σ2 H2 => tb { D with nx := Pv (i + 1), ct := Pv (i + 1), bk := D.nx } σ2 H2) (hd : ∀ σ H, Pv n σ H → D.nx σ H) :
    ∃ W : Nat → Nat → St → Hp → Prop, (∃ m, W 0 m σ H) ∧ ∀ i m σ H, W i m σ H →
      ((Itr lo n).stop i H ∧ D.nx σ H) ∨ ((Itr lo n).go i H ∧ ∃ N : St → Hp → Prop, (∀ σ' H', N σ' H' → ∃ m', m' < m ∧ W (i + 1) m' σ' H') ∧ ∀ x H', (Itr lo n).yld i H x H' → g x σ H' fun σ2 H2 => tb { D with nx := N, ct := N, bk := D.nx } σ2 H2) := by
  refine ⟨fun i m σ H => m = n - i ∧ i ≤ n ∧ Pv i σ H, ⟨n, by simp, Nat.zero_le _, h0⟩, ?_⟩
  rintro i m σ H ⟨rfl, hi, p⟩
  by_cases hlt : i < n
  · refine .inr ⟨hlt, Pv (i + 1), fun σ' H' p' => ⟨n - (i + 1), by omega, rfl, hlt, p'⟩, fun x H' y => ?_⟩
    obtain ⟨e, y⟩ := y
    subst e y
    exact hs i σ _ hlt p
  · have e : i = n := by omega
    subst e
    exact .inl ⟨Nat.le_refl _, hd σ H p⟩
end L2
namespace L2
open PySem PySem.Spec PyProof.Rows
abbrev R2 := V → V → Hp → VK → Prop
def OpR (X : Cx) (f : Value → Value → Sem Value) (r : R2) : Prop :=
  ∀ (pins : List (Addr × Obj)) (s : Shared) (σ : St) (H : Hp) (x y : V) (v u : Value) (Q : VK), Inv X pins σ H s → RelV x v → RelV y u → r x y H Q →
    wpAny (model X.prog X.w) X.A (f v u) (EP X pins σ Q) X.xe s
def UnR (X : Cx) (f : Value → Sem Value) (r : V → Hp → VK → Prop) : Prop :=
  ∀ (pins : List (Addr × Obj)) (s : Shared) (σ : St) (H : Hp) (x : V) (v : Value) (Q : VK), Inv X pins σ H s → RelV x v → r x H Q →
    wpAny (model X.prog X.w) X.A (f v) (EP X pins σ Q) X.xe s
def CallR (X : Cx) (f : Value) (r : List V → Hp → VK → Prop) : Prop :=
  ∀ (pins : List (Addr × Obj)) (s : Shared) (σ : St) (H : Hp) (xs : List V) (us : List Value) (Q : VK), Inv X pins σ H s → Vals xs us → r xs H Q →
    wpAny (model X.prog X.w) X.A (call f us) (EP X pins σ Q) X.xe s
def tOp (r : R2) (ta tb : TE) : TE := fun σ H Q => ta σ H fun x H1 => tb σ H1 fun y H2 => r x y H2 Q
def tUn (r : V → Hp → VK → Prop) (ta : TE) : TE := fun σ H Q => ta σ H fun x H1 => r x H1 Q
def rI (C : Int → Int → Prop) (g : Int → Int → V) : R2 := fun x y H Q => ∃ i j, x = .int i ∧ y = .int j ∧ C i j ∧ Q (g i j) H
def rI0 (g : Int → Int → V) : R2 := fun x y H Q => ∃ i j, x = .int i ∧ y = .int j ∧ Q (g i j) H
def rU (g : Int → V) : V → Hp → VK → Prop := fun x H Q => ∃ i, x = .int i ∧ Q (g i) H
section
variable {X : Cx} {a b c : Expr} {ta tb tc : TE} {pos : Pos}
theorem binT (ha : PE X a ta) (hb : PE X b tb) {pins : List (Addr × Obj)} {s : Shared} {σ : St} {H : Hp} {R : V → V → Hp → Prop} (I : Inv X pins σ H s)
    (h : ta σ H fun x H1 => tb σ H1 fun y H2 => R x y H2) {Q : Value → Shared → Prop} {f : Value → Value → Sem Value}
    (hf : ∀ v u s2 x y H2, Inv X pins σ H2 s2 → RelV x v → RelV y u → R x y H2 → wpAny (model X.prog X.w) X.A (f v u) Q X.xe s2) :
    wpAny (model X.prog X.w) X.A (eval a X.env) (fun v s₁ => wpAny (model X.prog X.w) X.A (eval b X.env) (fun u s₂ => wpAny (model X.prog X.w) X.A (f v u) Q X.xe s₂) X.xe s₁) X.xe s := by
  refine thn (ha pins s σ H _ I h) fun v s1 ⟨x, H1, I1, r1, q1⟩ => ?_
  refine thn (hb pins s1 σ H1 _ I1 q1) fun u s2 ⟨y, H2, I2, r2, q2⟩ => ?_
  exact hf v u s2 x y H2 I2 r1 r2 q2
theorem pe_op {op : Operator} {r : R2} (ho : OpR X (binaryOp op) r) (ha : PE X a ta) (hb : PE X b tb) : PE X (.BinOp a op b pos) (tOp r ta tb) := by
  intro pins s σ H Q I h
  exact wpAny_BinOp (binT ha hb I h fun v u s2 x y H2 I2 rx ry q => ho pins s2 σ H2 x y v u Q I2 rx ry q)
theorem pe_un {op : UnaryOp} {r : V → Hp → VK → Prop} (ho : UnR X (unaryOp op) r) (ha : PE X a ta) : PE X (.UnaryOp op a pos) (tUn r ta) := by
  intro pins s σ H Q I h
  exact UnaryOp_ (thn (ha pins s σ H _ I h) fun v s1 ⟨x, H1, I1, r1, q1⟩ => ho pins s1 σ H1 x v Q I1 r1 q1)
theorem opI {f : Value → Value → Sem Value} {C : Int → Int → Prop} {g : Int → Int → Int}
    (rule : ∀ (i j : Int) (t u : Tok) (s : Shared) (Q : Value → Shared → Prop) (E : Value → Shared → Prop), C i j → Q (.int (g i j) s.toks) { s with toks := s.toks + 1 } → wpAny (model X.prog X.w) X.A (f (.int i t) (.int j u)) Q E s) :
    OpR X f (rI C fun i j => .int (g i j)) := by
  intro pins s σ H x y v u Q I rx ry h
  obtain ⟨i, j, rfl, rfl, hc, q⟩ := h
  obtain ⟨t, rfl⟩ := rx
  obtain ⟨t', rfl⟩ := ry
  exact rule i j t t' s _ _ hc ⟨.int (g i j), H, I.tok _, ⟨_, rfl⟩, q⟩
theorem opI0 {f : Value → Value → Sem Value} {g : Int → Int → Int}
    (rule : ∀ (i j : Int) (t u : Tok) (s : Shared) (Q : Value → Shared → Prop) (E : Value → Shared → Prop), Q (.int (g i j) s.toks) { s with toks := s.toks + 1 } → wpAny (model X.prog X.w) X.A (f (.int i t) (.int j u)) Q E s) :
    OpR X f (rI0 fun i j => .int (g i j)) := by
  intro pins s σ H x y v u Q I rx ry h
  obtain ⟨i, j, rfl, rfl, q⟩ := h
  obtain ⟨t, rfl⟩ := rx
  obtain ⟨t', rfl⟩ := ry
  exact rule i j t t' s _ _ ⟨.int (g i j), H, I.tok _, ⟨_, rfl⟩, q⟩
theorem opB0 {f : Value → Value → Sem Value} {g : Int → Int → Bool}
    (rule : ∀ (i j : Int) (t u : Tok) (s : Shared) (Q : Value → Shared → Prop) (E : Value → Shared → Prop), Q (.bool (g i j)) s → wpAny (model X.prog X.w) X.A (f (.int i t) (.int j u)) Q E s) :
    OpR X f (rI0 fun i j => .bl (g i j)) := by
  intro pins s σ H x y v u Q I rx ry h
  obtain ⟨i, j, rfl, rfl, q⟩ := h
  obtain ⟨t, rfl⟩ := rx
  obtain ⟨t', rfl⟩ := ry
  exact rule i j t t' s _ _ ⟨.bl (g i j), H, I, rfl, q⟩
def CDiv (i j : Int) : Prop := 0 < j ∧ j < 1073741824
def CPow (i j : Int) : Prop := 0 ≤ j ∧ j ≤ 1000000 ∧ i.natAbs < 2 ^ 64
def CMul (i j : Int) : Prop := (-(2 ^ 64) < i ∧ i < 2 ^ 64) ∨ (-(2 ^ 64) < j ∧ j < 2 ^ 64)
theorem CMul.ok {i j : Int} (h : CMul i j) : IntMulOk i j := by
  rcases h with ⟨h1, h2⟩ | ⟨h1, h2⟩
  · exact .of_left (intBits_le_64 h1 h2)
  · exact .of_right (intBits_le_64 h1 h2)
theorem op_add : OpR X (binaryOp .Add) (rI0 fun i j => .int (i + j)) := opI0 fun _ _ _ _ _ _ _ q => add_int q
theorem op_mul : OpR X (binaryOp .Mult) (rI CMul fun i j => .int (i * j)) := opI fun _ _ _ _ _ _ _ hc q => mul_int q hc.ok
theorem op_fdiv : OpR X (binaryOp .FloorDiv) (rI CDiv fun i j => .int (i / j)) := opI fun i j _ _ _ _ _ hc q => by
  have h1 : (0 : Int) < j := hc.1
  have h2 : j < 1073741824 := hc.2
  exact floordiv_int (by omega) (by rw [Int.fdiv_eq_ediv_of_nonneg i (by omega)]; exact q) (.inl (PyProof.noPylong_small (by omega)))
theorem op_mod : OpR X (binaryOp .Mod) (rI (fun _ j => 0 < j) fun i j => .int (i % j)) := opI fun i j _ _ _ _ _ hc q => by
  have h1 : (0 : Int) < j := hc
  exact mod_int' (by omega) (by rw [Int.fmod_eq_emod_of_nonneg i (by omega)]; exact q)
theorem op_pow : OpR X (binaryOp .Pow) (rI CPow fun i j => .int (i ^ j.toNat)) := opI fun _ _ _ _ _ _ _ hc q => pow_int_small hc.1 hc.2.1 hc.2.2 q
theorem unI {f : Value → Sem Value} {g : Int → Int}
    (rule : ∀ (i : Int) (t : Tok) (s : Shared) (Q : Value → Shared → Prop) (E : Value → Shared → Prop), Q (.int (g i) s.toks) { s with toks := s.toks + 1 } → wpAny (model X.prog X.w) X.A (f (.int i t)) Q E s) :
    UnR X f (rU fun i => .int (g i)) := by
  intro pins s σ H x v Q I rx h
  obtain ⟨i, rfl, q⟩ := h
  obtain ⟨t, rfl⟩ := rx
  exact rule i t s _ _ ⟨.int (g i), H, I.tok _, ⟨_, rfl⟩, q⟩
theorem un_neg : UnR X (unaryOp .USub) (rU fun i => .int (-i)) := unI fun _ _ _ _ _ q => neg_int q
end
def scal : V → V → Bool
  | .non, .non => true | .non, .int _ => true | .int _, .non => true | .non, .bl _ => true | .bl _, .non => true | .non, .str _ => true | .str _, .non => true
  | .int _, .int _ => true | .bl _, .bl _ => true | .str _, .str _ => true | .byt _, .byt _ => true
  | .int _, .str _ => true | .str _, .int _ => true | .bl _, .str _ => true | .str _, .bl _ => true
  | _, _ => false
def rEq : R2 := fun x y H Q => scal x y = true ∧ Q (.bl (decide (x = y))) H
def rNe : R2 := fun x y H Q => scal x y = true ∧ Q (.bl (!decide (x = y))) H
theorem dec_int {i j : Int} : decide (V.int i = V.int j) = (i == j) := by
  rw [Bool.eq_iff_iff]
  simp
theorem dec_bl {i j : Bool} : decide (V.bl i = V.bl j) = (i == j) := by
  rw [Bool.eq_iff_iff]
  simp
theorem dec_str {i j : Str} : decide (V.str i = V.str j) = (i == j) := by
  rw [Bool.eq_iff_iff]
  simp
theorem dec_byt {i j : Array UInt8} : decide (V.byt i = V.byt j) = (i.toList == j.toList) := by
  rw [Bool.eq_iff_iff]
  cases i
  cases j
  simp
section
variable {X : Cx} {a b c : Expr} {ta tb tc : TE} {pos : Pos}
theorem fin_bl {pins : List (Addr × Obj)} {σ : St} {H : Hp} {s : Shared} {Q : VK} {k k' : Bool} (I : Inv X pins σ H s) (q : Q (.bl k) H) (e : k = k') : EP X pins σ Q (.bool k') s := by
  subst e
  exact ⟨.bl k, H, I, rfl, q⟩
theorem op_eq : OpR X (compareOp .Eq) rEq := by
  intro pins s σ H x y v u Q I rx ry h
  obtain ⟨hs, q⟩ := h
  cases x with
  | non =>
    cases rx
    cases y with
    | non => cases ry; exact PySem.EqNone.eq_none_none (fin_bl I q (by simp))
    | bl j => cases ry; exact PySem.EqNone.eq_none_bool (fin_bl I q (by simp))
    | int j => obtain ⟨t', rfl⟩ := ry; exact PySem.EqNone.eq_none_int (fin_bl I q (by simp))
    | str j => obtain ⟨t', rfl⟩ := ry; exact PySem.EqNone.eq_none_str (fin_bl I q (by simp))
    | _ => exact absurd (show false = true from hs) Bool.false_ne_true
  | bl i =>
    cases rx
    cases y with
    | non => cases ry; exact PySem.EqNone.eq_bool_none (fin_bl I q (by simp))
    | bl j => cases ry; exact eq_bool (fin_bl I q dec_bl)
    | str j => obtain ⟨t', rfl⟩ := ry; exact PySem.EqMixed.eq_bool_str (fin_bl I q (by simp))
    | _ => exact absurd (show false = true from hs) Bool.false_ne_true
  | int i =>
    obtain ⟨t, rfl⟩ := rx
    cases y with
    | non => cases ry; exact PySem.EqNone.eq_int_none (fin_bl I q (by simp))
    | int j => obtain ⟨t', rfl⟩ := ry; exact eq_int (fin_bl I q dec_int)
    | str j => obtain ⟨t', rfl⟩ := ry; exact PySem.EqMixed.eq_int_str (fin_bl I q (by simp))
    | _ => exact absurd (show false = true from hs) Bool.false_ne_true
  | str i =>
    obtain ⟨t, rfl⟩ := rx
    cases y with
    | non => cases ry; exact PySem.EqNone.eq_str_none (fin_bl I q (by simp))
    | bl j => cases ry; exact PySem.EqMixed.eq_str_bool (fin_bl I q (by simp))
    | int j => obtain ⟨t', rfl⟩ := ry; exact PySem.EqMixed.eq_str_int (fin_bl I q (by simp))
    | str j => obtain ⟨t', rfl⟩ := ry; exact eq_str (fin_bl I q dec_str)
    | _ => exact absurd (show false = true from hs) Bool.false_ne_true
  | byt i =>
    obtain ⟨t, rfl⟩ := rx
    cases y with
    | byt j => obtain ⟨t', rfl⟩ := ry; exact PySem.W.eq_bytes (fin_bl I q dec_byt)
    | _ => exact absurd (show false = true from hs) Bool.false_ne_true
  | _ => cases y <;> exact absurd (show false = true from hs) Bool.false_ne_true
theorem op_ne : OpR X (compareOp .NotEq) rNe := by
  intro pins s σ H x y v u Q I rx ry h
  obtain ⟨hs, q⟩ := h
  cases x with
  | non =>
    cases rx
    cases y with
    | non => cases ry; exact PySem.EqNone.ne_none_none (fin_bl I q (by simp))
    | bl j => cases ry; exact PySem.EqNone.ne_none_bool (fin_bl I q (by simp))
    | int j => obtain ⟨t', rfl⟩ := ry; exact PySem.EqNone.ne_none_int (fin_bl I q (by simp))
    | str j => obtain ⟨t', rfl⟩ := ry; exact PySem.EqNone.ne_none_str (fin_bl I q (by simp))
    | _ => exact absurd (show false = true from hs) Bool.false_ne_true
  | bl i =>
    cases rx
    cases y with
    | non => cases ry; exact PySem.EqNone.ne_bool_none (fin_bl I q (by simp))
    | bl j => cases ry; exact ne_bool (fin_bl I q (congrArg not dec_bl))
    | str j => obtain ⟨t', rfl⟩ := ry; exact PySem.EqMixed.ne_bool_str (fin_bl I q (by simp))
    | _ => exact absurd (show false = true from hs) Bool.false_ne_true
  | int i =>
    obtain ⟨t, rfl⟩ := rx
    cases y with
    | non => cases ry; exact PySem.EqNone.ne_int_none (fin_bl I q (by simp))
    | int j => obtain ⟨t', rfl⟩ := ry; exact ne_int (fin_bl I q (congrArg not dec_int))
    | str j => obtain ⟨t', rfl⟩ := ry; exact PySem.EqMixed.ne_int_str (fin_bl I q (by simp))
    | _ => exact absurd (show false = true from hs) Bool.false_ne_true
  | str i =>
    obtain ⟨t, rfl⟩ := rx
    cases y with
    | non => cases ry; exact PySem.EqNone.ne_str_none (fin_bl I q (by simp))
    | bl j => cases ry; exact PySem.EqMixed.ne_str_bool (fin_bl I q (by simp))
    | int j => obtain ⟨t', rfl⟩ := ry; exact PySem.EqMixed.ne_str_int (fin_bl I q (by simp))
    | str j => obtain ⟨t', rfl⟩ := ry; exact ne_str (fin_bl I q (congrArg not dec_str))
    | _ => exact absurd (show false = true from hs) Bool.false_ne_true
  | byt i =>
    obtain ⟨t, rfl⟩ := rx
    cases y with
    | byt j => obtain ⟨t', rfl⟩ := ry; exact PySem.W.ne_bytes (fin_bl I q (congrArg not dec_byt))
    | _ => exact absurd (show false = true from hs) Bool.false_ne_true
  | _ => cases y <;> exact absurd (show false = true from hs) Bool.false_ne_true
theorem op_lt : OpR X (compareOp .Lt) (rI0 fun i j => .bl (decide (i < j))) := opB0 fun _ _ _ _ _ _ _ q => lt_int q
theorem op_le : OpR X (compareOp .LtE) (rI0 fun i j => .bl (decide (i ≤ j))) := opB0 fun _ _ _ _ _ _ _ q => le_int q
theorem op_gt : OpR X (compareOp .Gt) (rI0 fun i j => .bl (decide (j < i))) := opB0 fun _ _ _ _ _ _ _ q => gt_int q
theorem op_lt_str : OpR X (compareOp .Lt) (fun x y H Q => ∃ i j, x = .str i ∧ y = .str j ∧ Q (.bl (decide (i.cps.toList < j.cps.toList))) H) := by
  intro pins s σ H x y v u Q I rx ry h
  obtain ⟨i, j, rfl, rfl, q⟩ := h
  obtain ⟨t, rfl⟩ := rx
  obtain ⟨t', rfl⟩ := ry
  exact lt_str (fin_bl I q rfl)
theorem op_in_str : OpR X (compareOp .In) (fun x y H Q => ∃ i j, x = .str i ∧ y = .str j ∧ Q (.bl (!(Builtin.Str.occurrences j i 0 j.length 1).isEmpty)) H) := by
  intro pins s σ H x y v u Q I rx ry h
  obtain ⟨i, j, rfl, rfl, q⟩ := h
  obtain ⟨t, rfl⟩ := rx
  obtain ⟨t', rfl⟩ := ry
  exact in_str (fin_bl I q rfl)
theorem op_isN : OpR X (compareOp .Is) (fun x y H Q => y = .non ∧ Q (.bl (decide (x = .non))) H) := by
  intro pins s σ H x y v u Q I rx ry h
  obtain ⟨rfl, q⟩ := h
  cases ry
  refine is_none_gen (fin_bl I q ?_)
  cases x <;> first
    | (cases rx; rfl)
    | (obtain ⟨t, rfl⟩ := rx; rfl)
theorem op_notin_str : OpR X (compareOp .NotIn) (fun x y H Q => ∃ i j, x = .str i ∧ y = .str j ∧ Q (.bl (!(!(Builtin.Str.occurrences j i 0 j.length 1).isEmpty))) H) := by
  intro pins s σ H x y v u Q I rx ry h
  obtain ⟨i, j, rfl, rfl, q⟩ := h
  obtain ⟨t, rfl⟩ := rx
  obtain ⟨t', rfl⟩ := ry
  exact notIn_str (fin_bl I q rfl)
theorem OpR.or {f : Value → Value → Sem Value} {r r' : R2} (h : OpR X f r) (h' : OpR X f r') : OpR X f (fun x y H Q => r x y H Q ∨ r' x y H Q) := by
  intro pins s σ H x y v u Q I rx ry q
  rcases q with q | q
  · exact h pins s σ H x y v u Q I rx ry q
  · exact h' pins s σ H x y v u Q I rx ry q
theorem nomark (b : Expr) {op : CmpOp} (h : op ≠ .In := by decide) (h2 : op ≠ .NotIn := by decide) : behindInMarks op b = false := by
  have e1 : (op == CmpOp.In) = false := by cases op <;> first | rfl | exact absurd rfl h
  have e2 : (op == CmpOp.NotIn) = false := by cases op <;> first | rfl | exact absurd rfl h2
  cases b <;> simp [behindInMarks, e1, e2]
theorem pe_cmpR {op : CmpOp} {r : R2} (ho : OpR X (compareOp op) r) (ha : PE X a ta) (hb : PE X b tb) (hm : behindInMarks op b = false) : PE X (.Compare a [op] [b] pos) (tOp r ta tb) := by
  intro pins s σ H Q I h
  exact wpAny_Compare1 (binT ha hb I h fun v u s2 x y H2 I2 rx ry q => ho pins s2 σ H2 x y v u Q I2 rx ry q) hm
def tTest (t : TE) : TT := fun σ H Q => t σ H fun x H' => ∃ k, x = .bl k ∧ Q k H'
theorem pt_cmpR {op : CmpOp} {r : R2} (ho : OpR X (compareOp op) r) (ha : PE X a ta) (hb : PE X b tb) (hm : behindInMarks op b = false) : PT X (.Compare a [op] [b] pos) (tTest (tOp r ta tb)) := by
  intro pins s σ H Q I h
  refine wpAny_isTrue_Compare1 (thn (ha pins s σ H _ I h) fun v s1 ⟨x, H1, I1, r1, q1⟩ => thn (hb pins s1 σ H1 _ I1 q1) fun u s2 ⟨y, H2, I2, r2, q2⟩ =>
    thn (ho pins s2 σ H2 x y v u _ I2 r1 r2 q2) fun c s3 ⟨z, H3, I3, r3, k, e, q3⟩ => ?_) hm
  subst e
  cases r3
  exact wpAny_truthy_bool ⟨H3, I3, q3⟩
def tChain (r r' : R2) (ta tb tc : TE) : TE := fun σ H Q => ta σ H fun x H1 => tb σ H1 fun y H2 => r x y H2 fun z H3 => ∃ k, z = .bl k ∧
  (if k = true then tc σ H3 fun w' H4 => r' y w' H4 Q else Q (.bl false) H3)
theorem pe_chain {op op' : CmpOp} {r r' : R2} (ho : OpR X (compareOp op) r) (ho' : OpR X (compareOp op') r') (ha : PE X a ta) (hb : PE X b tb) (hc : PE X c tc)
    (hm : lastMarks [op, op'] [b, c] = false := by with_unfolding_all rfl) : PE X (.Compare a [op, op'] [b, c] pos) (tChain r r' ta tb tc) := by
  intro pins s σ H Q I h
  refine Compare_chain (thn (ha pins s σ H _ I h) fun v s1 ⟨x, H1, I1, r1, q1⟩ => chain_link (thn (hb pins s1 σ H1 _ I1 q1) fun u s2 ⟨y, H2, I2, r2, q2⟩ =>
    thn (ho pins s2 σ H2 x y v u _ I2 r1 r2 q2) fun d s3 ⟨z, H3, I3, r3, k, e, q3⟩ => ?_)) hm
  subst e
  cases r3
  refine wpAny_truthy_bool ?_
  cases k with
  | false => exact ite_ff ⟨.bl false, H3, I3, rfl, q3⟩
  | true => exact ite_tt (chain_last (thn (hc pins s3 σ H3 _ I3 q3) fun w' s4 ⟨z', H4, I4, r4, q4⟩ => ho' pins s4 σ H4 y z' u w' Q I4 r2 r4 q4))
theorem pt_chain {op op' : CmpOp} {r r' : R2} (ho : OpR X (compareOp op) r) (ho' : OpR X (compareOp op') r') (ha : PE X a ta) (hb : PE X b tb) (hc : PE X c tc)
    (hm : lastMarks [op, op'] [b, c] = false := by with_unfolding_all rfl) : PT X (.Compare a [op, op'] [b, c] pos) (tTest (tChain r r' ta tb tc)) := by
  intro pins s σ H Q I h
  refine isTrue_chain (thn (ha pins s σ H _ I h) fun v s1 ⟨x, H1, I1, r1, q1⟩ => test_link (thn (hb pins s1 σ H1 _ I1 q1) fun u s2 ⟨y, H2, I2, r2, q2⟩ =>
    thn (ho pins s2 σ H2 x y v u _ I2 r1 r2 q2) fun d s3 ⟨z, H3, I3, r3, k, e, q3⟩ => ?_)) hm
  subst e
  cases r3
  refine wpAny_truthy_bool ?_
  cases k with
  | false =>
    obtain ⟨k', e', q'⟩ := q3
    cases e'
    exact ite_ff ⟨H3, I3, q'⟩
  | true =>
    refine ite_tt (test_last (thn (hc pins s3 σ H3 _ I3 q3) fun w' s4 ⟨z', H4, I4, r4, q4⟩ => thn (ho' pins s4 σ H4 y z' u w' _ I4 r2 r4 q4) fun d' s5 ⟨z2, H5, I5, r5, k2, e2, q5⟩ => ?_))
    subst e2
    cases r5
    exact wpAny_truthy_bool ⟨H5, I5, q5⟩
theorem line63 : (sizeLine : Nat) < 2 ^ 63 := by rw [sizeLine_eq]; decide
theorem op_add_str : OpR X (binaryOp .Add) (fun x y H Q => ∃ i j, x = .str i ∧ y = .str j ∧ i.length + j.length ≤ sizeLine ∧ Q (.str (i ++ j)) H) := by
  intro pins s σ H x y v u Q I rx ry h
  obtain ⟨i, j, rfl, rfl, hz, q⟩ := h
  obtain ⟨t, rfl⟩ := rx
  obtain ⟨t', rfl⟩ := ry
  exact add_str (fun t' tk => ⟨.str (i ++ j), H, I.tok _, ⟨_, rfl⟩, q⟩) hz
theorem vals1 {x : V} {us : List Value} (r : Vals [x] us) : ∃ u, us = [u] ∧ RelV x u := by
  cases r with
  | cons r1 r2 => cases r2; exact ⟨_, rfl, r1⟩
theorem vals2 {x y : V} {us : List Value} (r : Vals [x, y] us) : ∃ u w', us = [u, w'] ∧ RelV x u ∧ RelV y w' := by
  cases r with
  | cons r1 r2 =>
    cases r2 with
    | cons r3 r4 => cases r4; exact ⟨_, _, rfl, r1, r3⟩
theorem call_str_int : CallR X (.type "str") (fun xs H Q => ∃ i, xs = [.int i] ∧ i.natAbs.log2 < 1920 ∧ Q (.str (toString i)) H) := by
  intro pins s σ H xs us Q I r h
  obtain ⟨i, rfl, hz, q⟩ := h
  obtain ⟨u, rfl, t, rfl⟩ := vals1 r
  exact PySem.P.str_of_int hz ⟨.str _, H, I.tok _, ⟨_, rfl⟩, q⟩
def LenV (K : PySem.W.Frag) (x : V) (H : Hp) (n : Nat) : Prop :=
  match x with
  | .str y => y.length ≤ sizeLine ∧ n = y.length
  | .byt y => y.size ≤ sizeLine ∧ n = y.size
  | .ref p => (∃ xs, SqL K H p xs ∧ n = xs.length) ∨ ∃ xs, SqT K H p xs ∧ n = xs.length
  | _ => False
theorem call_len : CallR X (.builtin "len") (fun xs H Q => ∃ x n, xs = [x] ∧ LenV X.K x H n ∧ Q (.int n) H) := by
  intro pins s σ H xs us Q I r h
  obtain ⟨x, n, rfl, e, q⟩ := h
  obtain ⟨u, rfl, rx⟩ := vals1 r
  have hl := line63
  have hs : sizeLine = 16777216 := sizeLine_eq
  cases x with
  | str y =>
    obtain ⟨t, rfl⟩ := rx
    obtain ⟨hy, e'⟩ : y.length ≤ sizeLine ∧ n = y.length := e
    subst e'
    exact len_str (by omega) ⟨.int _, H, I.tok _, ⟨_, rfl⟩, q⟩
  | byt y =>
    obtain ⟨t, rfl⟩ := rx
    obtain ⟨hy, e'⟩ : y.size ≤ sizeLine ∧ n = y.size := e
    subst e'
    exact PySem.W.len_bytes (by omega) ⟨.int _, H, I.tok _, ⟨_, rfl⟩, q⟩
  | ref p =>
    cases rx
    have e' : (∃ xs, SqL X.K H p xs ∧ n = xs.length) ∨ ∃ xs, SqT X.K H p xs ∧ n = xs.length := e
    rcases e' with ⟨xs, hx, e'⟩ | ⟨xs, hx, e'⟩
    · subst e'
      obtain ⟨its, r', pl, hz⟩ := I.list hx
      have hlen := r'.length
      exact Calls.call_len_list pl.isList (by simp only [List.size_toArray]; omega) ⟨.int xs.length, H, I.tok _, ⟨_, by simp only [List.size_toArray]; rw [hlen]⟩, q⟩
    · subst e'
      obtain ⟨its, r', pl, hz⟩ := I.tuple hx
      have hlen := r'.length
      exact len_tuple pl (by simp only [List.size_toArray]; omega) ⟨.int xs.length, H, I.tok _, ⟨_, by simp only [List.size_toArray]; rw [hlen]⟩, q⟩
  | _ => exact (show False from e).elim
end
end L2
namespace L2
open PySem PySem.Spec PyProof.Rows
structure ObjM (h : Heap) (x dx C : Addr) (mA : Str → Option Value) : Prop where
  obj : h.get? x = some (PySem.W.instObj C dx)
  ns : h.Ns1 dx mA
  ne : dx ≠ x
theorem lookIn_ns {h : Heap} {dx : Addr} {mA : Str → Option Value} (n : h.Ns1 dx mA) : ∃ od, h.get? dx = some od ∧ ∀ name, PySem.W.lookIn name od = some (mA name) := by
  obtain ⟨o, es, ep, ho, hd, hk, _, hm⟩ := n
  refine ⟨o, ho, fun name => ?_⟩
  have e := hm name
  unfold nsFind findBy at e
  rw [← Array.find?_toList] at e
  unfold PySem.W.lookIn
  rw [hd]
  dsimp only
  split
  · rename_i y q
    rw [q] at e
    exact congrArg some e
  · rename_i q
    rw [q] at e
    have a : es.toList.any (·.refKey) = false := by
      rw [List.any_eq_false]
      intro y hy
      obtain ⟨z, t, hkey⟩ := hk y (Array.mem_toList_iff.mp hy)
      simp [DictEntry.refKey, hkey]
    have a' : ¬ es.toList.any (·.refKey) = true := by rw [a]; exact Bool.false_ne_true
    rw [if_neg a']
    exact congrArg some e
theorem ObjM.look {h : Heap} {x dx C : Addr} {mA : Str → Option Value} (I : ObjM h x dx C mA) : ∃ od, PySem.W.InstAt h x (PySem.W.instObj C dx) C (some od) ∧ ∀ name, PySem.W.lookIn name od = some (mA name) :=
  let ⟨od, ho, hl⟩ := lookIn_ns I.ns
  ⟨od, ⟨I.obj, rfl, rfl, ho⟩, hl⟩
section
variable {prog : Program} {w : World} {A : Around} {E : Value → Shared → Prop} {s : Shared} {K : PySem.W.Frag} {x dx C f : Addr} {mA : Str → Option Value} {name : Str} {v : Value}
theorem get_map {expr : Bool} {Q : Value → Shared → Prop} (X : K.In s.heap) (I : ObjM s.heap x dx C mA) (hg : PySem.W.plainGet K C name = true) (hh : PySem.W.hasDictIn K C = true)
    (ha : PySem.W.findIn K (.ref C) name = some none) (hv : mA name = some v) (hv' : PySem.W.handedIn v = true) (h : Q v { s with toks := s.toks + 1 }) :
    wpAny (model prog w) A (getAttr (.ref x) name expr) Q E s := by
  obtain ⟨od, J, hl⟩ := I.look
  exact PySem.W.get_value X J (PySem.W.plainGet_of hg).1 (PySem.W.findObj_own hh ha rfl (by rw [hl, hv])) hv' h
theorem get_meth {pl : Sem Bool} {Q : Value × List Value → Shared → Prop} (X : K.In s.heap) (I : ObjM s.heap x dx C mA) (hg : PySem.W.plainGet K C name = true)
    (hf : PySem.W.findIn K (.ref C) name = some (some (.ref f))) (ht : PySem.W.isFn K (.ref f) = true) (hv : mA name = none) (h : Q (.ref f, [.ref x]) s) :
    wpAny (model prog w) A (getMethod (.ref x) name pl) Q E s := by
  obtain ⟨od, J, hl⟩ := I.look
  exact PySem.W.method_fn X J (PySem.W.plainGet_of hg).1 (PySem.W.plainGet_of hg).2 hf (beq_iff_eq.mp ht) (by show (PySem.W.lookIn name od).map (·.isSome) = some false; rw [hl, hv]; rfl) h
theorem set_map {ns : List Str} {Q : Unit → Shared → Prop} (X : K.In s.heap) (I : ObjM s.heap x dx C mA)
    (hs : PySem.W.findIn K (.ref C) "__setattr__" = some (some (.builtin "object.__setattr__"))) (hp : PySem.W.plainOver K C = true) (ht : PySem.W.takerIn K C name = some none) (hh : PySem.W.hasDictIn K C = true)
    (hw : PySem.Within mA ns) (hsz : ns.length ≤ sizeLine)
    (h : ∀ h', ObjM h' x dx C (fun y => if y = name then some v else mA y) → Heap.SameBut dx s.heap h' → Q () { s with heap := h', toks := s.toks + 2 }) :
    wpAny (model prog w) A (setAttr (.ref x) name v) Q E s := by
  obtain ⟨od, J, hl⟩ := I.look
  refine PySem.W.set_plain X J hs (PySem.W.osa_open (s := { s with toks := s.toks + 1 }) (r := none) X J hp ht fun b => ?_)
  obtain ⟨cd, hc, hd'⟩ := PySem.W.any_some hh
  have hx : s.heap.get? x = some ⟨.ref C, some dx, .plain, #[]⟩ := I.obj
  refine wpAny_bind (wpAny_pure (wpAny_bind (wpAny_bind (wpAny_loadPart hx (wpAny_bind (PySem.W.Looks.here (s := { s with toks := s.toks + 1 }) (PySem.W.looks_clsIn X hc) ?_))))))
  rw [hd']
  refine wpAny_pure (a := some dx) (wpAny_bind (wpAny_pure (wpAny_bind ?_)))
  refine wpAny_nsSet1 (s := { s with toks := s.toks + 1 }) I.ns fun h' hn2 hs2 => ?_
  obtain ⟨oD, esD, epD, hoD, hdD, hcD⟩ := hn2.count (PySem.Within.cons name v hw)
  refine wpAny_bind (wpAny_lookBehind hoD (by rw [hdD]; exact pastItsLine_dict (Nat.le_trans hcD (by rw [List.length_cons]; omega))) ?_)
  exact wpAny_pure (h _ ⟨(hs2.2 _ (Ne.symm I.ne)).trans I.obj, hn2, I.ne⟩ hs2)
theorem make_map {R : Result → Shared → Prop} {vs : List Value} {kw : List (Str × Value)} (X : K.In s.heap) (hm : PySem.W.makesIn K C = true)
    (hi : PySem.W.findIn K (.ref C) "__init__" = some (some (.ref f))) (hf : PySem.W.typeIn K (.ref f) = some (.type "function"))
    (h : codeAny (model prog w) (A.under (.builtin "type.__call__" ⟨.ref C :: vs, kw⟩)) (.call (.ref f) ⟨.ref (s.heap.objs.size + 1) :: vs, kw⟩) (PySem.W.InitBack (s.heap.objs.size + 1) R)
      { s with heap := (s.heap.push PySem.W.emptyDict).push (PySem.W.instObj C s.heap.objs.size) }) :
    codeAny (model prog w) A (.call (.ref C) ⟨vs, kw⟩) R s := by
  obtain ⟨hh, g, d, t, os⟩ := s
  exact PySem.W.make_core (PySem.W.makes_of X hm) (PySem.W.looks_findIn X hi) (fun self => PySem.W.bind_fn X self hf) (.inl rfl) h
end
def putF (f : Str) (v : V) : List (Str × V) → List (Str × V)
  | [] => [(f, v)]
  | (g, x) :: r => if g = f then (g, v) :: r else (g, x) :: putF f v r
theorem lookup_putF (f g : Str) (v : V) : ∀ fs : List (Str × V), (putF f v fs).lookup g = if g = f then some v else fs.lookup g
  | [] => by
    show List.lookup g [(f, v)] = _
    by_cases h : g = f
    · have hb : (g == f) = true := beq_iff_eq.mpr h
      simp only [List.lookup, hb, if_pos h]
    · have hb : (g == f) = false := beq_eq_false_iff_ne.mpr h
      simp only [List.lookup, hb, if_neg h]
  | (k, x) :: r => by
    have ih := lookup_putF f g v r
    rw [show putF f v ((k, x) :: r) = (if k = f then (k, v) :: r else (k, x) :: putF f v r) from rfl]
    by_cases hk : k = f
    · rw [if_pos hk]
      by_cases h : g = k
      · have hb : (g == k) = true := beq_iff_eq.mpr h
        simp only [List.lookup, hb, if_pos (h.trans hk)]
      · have hb : (g == k) = false := beq_eq_false_iff_ne.mpr h
        simp only [List.lookup, hb, if_neg (fun e : g = f => h (e.trans hk.symm))]
    · rw [if_neg hk]
      by_cases h : g = k
      · have hb : (g == k) = true := beq_iff_eq.mpr h
        simp only [List.lookup, hb, if_neg (fun e : g = f => hk (h.symm.trans e))]
      · have hb : (g == k) = false := beq_eq_false_iff_ne.mpr h
        simp only [List.lookup, hb]
        exact ih
theorem keys_putF (f : Str) (v : V) : ∀ fs : List (Str × V), f ∈ (putF f v fs).map (·.1) ∧ ∀ g, g ∈ fs.map (·.1) → g ∈ (putF f v fs).map (·.1)
  | [] => ⟨by simp [putF], fun g h => by simp at h⟩
  | (k, x) :: r => by
    obtain ⟨i1, i2⟩ := keys_putF f v r
    rw [show putF f v ((k, x) :: r) = (if k = f then (k, v) :: r else (k, x) :: putF f v r) from rfl]
    by_cases hk : k = f
    · rw [if_pos hk]
      subst hk
      exact ⟨by simp, fun g h => by simpa using h⟩
    · rw [if_neg hk]
      refine ⟨?_, fun g h => ?_⟩
      · rw [List.map_cons]
        exact List.mem_cons_of_mem _ i1
      · rw [List.map_cons] at h ⊢
        rcases List.mem_cons.mp h with e | e
        · exact List.mem_cons.mpr (.inl e)
        · exact List.mem_cons_of_mem _ (i2 g e)
theorem length_putF (f : Str) (v : V) : ∀ fs : List (Str × V), (putF f v fs).length ≤ fs.length + 1
  | [] => by simp [putF]
  | (k, x) :: r => by
    have ih := length_putF f v r
    rw [show putF f v ((k, x) :: r) = (if k = f then (k, v) :: r else (k, x) :: putF f v r) from rfl]
    by_cases hk : k = f
    · rw [if_pos hk, List.length_cons, List.length_cons]; omega
    · rw [if_neg hk, List.length_cons, List.length_cons]; omega
theorem RelO.some_of {v : V} {o : Option Value} (r : RelO (some v) o) : ∃ u, o = some u ∧ RelV v u := by
  cases o with
  | none => exact (show False from r).elim
  | some u => exact ⟨u, rfl, r⟩
theorem RelO.none_of {o : Option Value} (r : RelO none o) : o = none := by
  cases o with
  | none => rfl
  | some u => exact (show False from r).elim
theorem handed_of {v : V} {u : Value} (r : RelV v u) : PySem.W.handedIn u = true := by
  cases v with
  | non => cases (show u = Value.none from r); rfl
  | bl b => cases (show u = Value.bool b from r); rfl
  | int i => obtain ⟨t, e⟩ := (show ∃ t, u = Value.int i t from r); cases e; rfl
  | str x => obtain ⟨t, e⟩ := (show ∃ t, u = Value.str x t from r); cases e; rfl
  | byt b => obtain ⟨t, e⟩ := (show ∃ t, u = Value.bytes b t from r); cases e; rfl
  | flt b => obtain ⟨t, e⟩ := (show ∃ t, u = Value.float b t from r); cases e; rfl
  | ref a => cases (show u = Value.ref a from r); rfl
  | ty n => cases (show u = Value.type n from r); rfl
section
variable {P : Program} {w : World} {H H' : Hp} {h h' : Heap} {a C dx : Addr} {fs fs' : List (Str × V)}
theorem ins_get (hok : HOk P w H h) (e : H a = some (.ins C dx fs)) : ∃ mA, ObjM h a dx C mA ∧ (∀ f, RelO (fs.lookup f) (mA f)) ∧ PySem.Within mA (fs.map (·.1)) ∧ fs.length ≤ 1000 ∧ H dx = some (.own a) := by
  obtain ⟨d, z, ne, ob, mA, n, r, q⟩ := (show ObjOk P w H h a (.ins C dx fs) from hok a _ e)
  exact ⟨mA, ⟨ob, n, ne⟩, r, q, z, d⟩
end
structure Cls (K : PySem.W.Frag) (C : Addr) : Prop where
  pg : PySem.W.plainGet K C Str.empty = true
  hd : PySem.W.hasDictIn K C = true
  po : PySem.W.plainOver K C = true
  sa : PySem.W.findIn K (.ref C) "__setattr__" = some (some (.builtin "object.__setattr__"))
theorem Cls.get {K : PySem.W.Frag} {C : Addr} (c : Cls K C) (f : Str) : PySem.W.plainGet K C f = true := c.pg
def NoAttr (K : PySem.W.Frag) (C : Addr) (f : Str) : Prop := PySem.W.findIn K (.ref C) f = some none
theorem NoAttr.taker {K : PySem.W.Frag} {C : Addr} {f : Str} (n : NoAttr K C f) : PySem.W.takerIn K C f = some none := by
  unfold PySem.W.takerIn
  rw [show PySem.W.findIn K (.ref C) f = some none from n]
  rfl
structure Meth (K : PySem.W.Frag) (C : Addr) (m : Str) (f : Addr) : Prop where
  at_ : PySem.W.findIn K (.ref C) m = some (some (.ref f))
  fn : PySem.W.isFn K (.ref f) = true
  kp : PySem.W.keepIn K (.ref f) = true
section
variable {X : Cx} {pins : List (Addr × Obj)} {σ : St} {H : Hp} {s : Shared} {a C dx : Addr} {fs : List (Str × V)} {f : Str} {v : V} {A : Around} {E : Value → Shared → Prop}
theorem getattr_ok {b : Bool} {Q : Value → Shared → Prop} (I : Inv X pins σ H s) (e : H a = some (.ins C dx fs)) (c : Cls X.K C) (n : NoAttr X.K C f) (l : fs.lookup f = some v)
    (h : ∀ u s', Inv X pins σ H s' → RelV v u → Q u s') : wpAny (model X.prog X.w) A (getAttr (.ref a) f b) Q E s := by
  obtain ⟨mA, O, r, _, _, _⟩ := ins_get I.hok e
  obtain ⟨u, hu, ru⟩ := RelO.some_of (v := v) (o := mA f) (by rw [← l]; exact r f)
  exact get_map I.kIn O (c.get f) c.hd n hu (handed_of ru) (h u _ (I.tok _) ru)
theorem getmeth_ok {m : Str} {g : Addr} {pl : Sem Bool} {Q : Value × List Value → Shared → Prop} (I : Inv X pins σ H s) (e : H a = some (.ins C dx fs)) (c : Cls X.K C) (k : Meth X.K C m g) (l : fs.lookup m = none)
    (h : Q (.ref g, [.ref a]) s) : wpAny (model X.prog X.w) A (getMethod (.ref a) m pl) Q E s := by
  obtain ⟨mA, O, r, _, _, _⟩ := ins_get I.hok e
  have hn : mA m = none := RelO.none_of (by rw [← l]; exact r m)
  exact get_meth I.kIn O (c.get m) k.at_ k.fn hn h
theorem setattr_ok {y : V} {u : Value} {Q : Unit → Shared → Prop} (I : Inv X pins σ H s) (e : H a = some (.ins C dx fs)) (c : Cls X.K C) (n : NoAttr X.K C f) (hl : fs.length < 1000) (ry : RelV y u)
    (h : ∀ s', Inv X pins σ (upd H a (.ins C dx (putF f y fs))) s' → Q () s') : wpAny (model X.prog X.w) A (setAttr (.ref a) f u) Q E s := by
  obtain ⟨mA, O, r, wi, _, ho⟩ := ins_get I.hok e
  have hz : (fs.map (·.1)).length ≤ sizeLine := by rw [List.length_map, sizeLine_eq]; omega
  refine set_map I.kIn O c.sa c.po n.taker c.hd wi hz fun h' O' sb => h _ ?_
  have hd : ∃ o, h'.get? dx = some o := let ⟨o, _, _, e', _⟩ := O'.ns; ⟨o, e'⟩
  refine I.write (x := a) (e := dx) (by rw [e]; exact True.intro) (.inr ho) (fun b q hb z => (sb.2 b hb).trans z) hd ?_
  refine ⟨by rw [upd_ne O.ne]; exact ho, ?_, O.ne, O'.obj, _, O'.ns, fun g => ?_, fun g hg => ?_⟩
  · have := length_putF f y fs; omega
  · show RelO ((putF f y fs).lookup g) (if g = f then some u else mA g)
    rw [lookup_putF]
    by_cases q : g = f
    · rw [if_pos q, if_pos q]; exact ry
    · rw [if_neg q, if_neg q]; exact r g
  · by_cases q : g = f
    · rw [q]; exact (keys_putF f y fs).1
    · refine (keys_putF f y fs).2 g (wi g fun z => hg ?_)
      show (if g = f then some u else mA g) = none
      rw [if_neg q]; exact z
theorem Inv.made (I : Inv X pins σ H s) : Inv X pins σ (upd (upd H s.heap.objs.size (.own (s.heap.objs.size + 1))) (s.heap.objs.size + 1) (.ins C s.heap.objs.size []))
    { s with heap := (s.heap.push PySem.W.emptyDict).push (PySem.W.instObj C s.heap.objs.size) } := by
  have e1 : (s.heap.push PySem.W.emptyDict).get? s.heap.objs.size = some PySem.W.emptyDict := Heap.get?_push_size s.heap rfl
  have e2 : ((s.heap.push PySem.W.emptyDict).push (PySem.W.instObj C s.heap.objs.size)).get? (s.heap.objs.size + 1) = some (PySem.W.instObj C s.heap.objs.size) := by
    have := Heap.get?_push_size (s.heap.push PySem.W.emptyDict) (o := PySem.W.instObj C s.heap.objs.size) rfl
    rwa [Heap.size_push] at this
  have e3 : (s.heap.push PySem.W.emptyDict).Ns s.heap.objs.size (fun _ => none) := ⟨PySem.W.emptyDict, #[], _, e1, rfl, (fun e he => absurd he (by simp)), fun _ => rfl⟩
  have I1 := I.laid (a := s.heap.objs.size) (o := .own (s.heap.objs.size + 1)) (h' := s.heap.push PySem.W.emptyDict) (t' := s.toks) (fun b u q => Heap.get?_push_of_some _ q) (Nat.le_refl _) ⟨_, e1⟩
  refine I1.laid (a := s.heap.objs.size + 1) (o := .ins C s.heap.objs.size []) (t' := s.toks) (fun b u q => Heap.get?_push_of_some _ q) (Nat.le_of_eq (Heap.size_push _ _)) ?_
  have ne : s.heap.objs.size ≠ s.heap.objs.size + 1 := Nat.ne_of_lt (Nat.lt_succ_self _)
  refine ⟨by rw [upd_ne ne, upd_same], Nat.zero_le _, ne, e2, fun _ => none, (Heap.Ns1.of_empty e3).at fun o q => Heap.get?_push_of_some _ q, fun _ => True.intro, fun y hy => absurd rfl hy⟩
theorem attr_of {prog : Program} {w : World} {env : Env} {e : Expr} {f : Str} {pos : Pos} {s : Shared} {Q : Value → Shared → Prop} (hb : attributeBase e f env (eval e env) = eval e env)
    (h : wpAny (model prog w) A (eval e env) (fun o s₁ => wpAny (model prog w) A (getAttr o f true) Q E s₁) E s) : wpAny (model prog w) A (eval (.Attribute e f pos) env) Q E s :=
  Attribute_any_ h (by rw [arm_eval_Attribute, hb])
end
def tFld (K : PySem.W.Frag) (ta : TE) (f : Str) : TE := fun σ H Q => ta σ H fun x H1 => ∃ a C dx fs v, x = .ref a ∧ H1 a = some (.ins C dx fs) ∧ Cls K C ∧ NoAttr K C f ∧ fs.lookup f = some v ∧ Q v H1
def sFld (K : PySem.W.Frag) (ta tv : TE) (f : Str) : TS := fun D σ H => tv σ H fun y H1 => ta σ H1 fun x H2 => ∃ a C dx fs, x = .ref a ∧ H2 a = some (.ins C dx fs) ∧ Cls K C ∧ NoAttr K C f ∧ fs.length < 1000 ∧
  D.nx σ (upd H2 a (.ins C dx (putF f y fs)))
section
variable {X : Cx} {o e value : Expr} {f : Str} {pos pos' tpos : Pos} {ta tv : TE}
theorem pe_fld (he : PE X e ta) (hb : attributeBase e f X.env (eval e X.env) = eval e X.env) : PE X (.Attribute e f pos) (tFld X.K ta f) := by
  intro pins s σ H Q I h
  refine attr_of hb (thn (he pins s σ H _ I h) fun u s1 ⟨x, H1, I1, rx, a, C, dx, fs, v, ex, ea, c, n, l, q⟩ => ?_)
  subst ex
  obtain rfl : u = Value.ref a := rx
  exact getattr_ok I1 ea c n l fun u' s2 I2 ru => ⟨v, H1, I2, ru, q⟩
theorem ps_fld (ha : PE X o ta) (hv : PE X value tv) (hs : swapsWith value (some (.Attribute o f pos')) pos.line X.env = pure false) : PS X (.Assign [.Attribute o f pos'] value pos) (sFld X.K ta tv f) := by
  intro pins s σ H D I h
  refine plainObj_wpAny_Assign_Attribute (thn (hv pins s σ H _ I h) fun u s1 ⟨y, H1, I1, ry, q⟩ => thn (ha pins s1 σ H1 _ I1 q) fun ov s2 ⟨x, H2, I2, rx, a, C, dx, fs, ex, ea, c, n, l, q2⟩ => ?_) hs
  subst ex
  obtain rfl : ov = Value.ref a := rx
  exact setattr_ok I2 ea c n l ry fun s3 I3 => ⟨σ, _, I3, q2⟩
end
section
variable {X : Cx} {pins : List (Addr × Obj)} {σ : St} {H : Hp} {s : Shared} {A : Around} {E : Value → Shared → Prop} {Q : Value → Shared → Prop} {c : Value} {b : Bool}
inductive TyOf (K : PySem.W.Frag) (H : Hp) : V → Value → Prop where
  | non : TyOf K H .non (.type "NoneType")
  | bl (x : Bool) : TyOf K H (.bl x) (.type "bool")
  | int (i : Int) : TyOf K H (.int i) (.type "int")
  | str (x : Str) : TyOf K H (.str x) (.type "str")
  | flt (x : UInt64) : TyOf K H (.flt x) (.type "float")
  | lst {a : Addr} {xs : List V} (e : H a = some (.lst xs)) : TyOf K H (.ref a) (.type "list")
  | frz {a : Addr} {o : Obj} {xs : List V} (e : H a = some (.frz o (.lst xs))) : TyOf K H (.ref a) (.type "list")
  | tup {a : Addr} {xs : List V} (e : H a = some (.tup xs)) : TyOf K H (.ref a) (.type "tuple")
  | dK {a : Addr} {kvs : List (Key × V)} (e : H a = some (.dK kvs)) : TyOf K H (.ref a) (.type "dict")
  | dT {a : Addr} {kvs : List (List Key × V)} (e : H a = some (.dT kvs)) : TyOf K H (.ref a) (.type "dict")
  | ins {a C dx : Addr} {fs : List (Str × V)} (e : H a = some (.ins C dx fs)) (cl : Cls K C) (ha : PySem.W.findIn K (.ref C) "__class__" = some (some (.builtin "object.__class__")))
      (hn : PySem.W.specialIn K (.builtin "object.__class__") "__get__" = some (some (.builtin "getset_descriptor.__get__"))) (htk : PySem.W.takesIn K (.builtin "object.__class__") = some true)
      (hm : PySem.W.mroIn K C (.type "object") = some true) : TyOf K H (.ref a) (.ref C)
theorem isinst_ok {x : V} {u t : Value} (I : Inv X pins σ H s) (rx : RelV x u) (ty : TyOf X.K H x t) (e : PySem.W.kitOne X.K t c = some b) (h : ∀ tk, Q (.bool b) { s with toks := tk }) :
    wpAny (model X.prog X.w) A (call (.builtin "isinstance") [u, c]) Q E s := by
  cases ty with
  | non => cases (show u = Value.none from rx); exact PySem.W.kia_one PySem.W.kitx_none I.kIn True.intro e (fun z => nomatch z) h
  | bl y => cases (show u = Value.bool y from rx); exact PySem.W.kia_one PySem.W.kitx_bool I.kIn True.intro e (fun z => nomatch z) h
  | int i => obtain ⟨t, q⟩ := (show ∃ t, u = Value.int i t from rx); cases q; exact PySem.W.kia_one PySem.W.kitx_int I.kIn True.intro e (fun z => nomatch z) h
  | str y => obtain ⟨t, q⟩ := (show ∃ t, u = Value.str y t from rx); cases q; exact PySem.W.kia_one PySem.W.kitx_str I.kIn True.intro e (fun z => nomatch z) h
  | flt y => obtain ⟨t, q⟩ := (show ∃ t, u = Value.float y t from rx); cases q; exact PySem.W.kia_one PySem.W.kitx_float I.kIn True.intro e (fun z => nomatch z) h
  | @lst a xs ea =>
    cases (show u = Value.ref a from rx)
    obtain ⟨_, _, n, _, h1⟩ := (show ObjOk X.prog X.w H s.heap a (.lst xs) from I.hok a _ ea)
    exact PySem.W.kia_one PySem.W.kitx_list I.kIn ⟨_, h1, rfl⟩ e (fun z => nomatch z) h
  | @frz a ob xs ea =>
    cases (show u = Value.ref a from rx)
    obtain ⟨_, _, _, n, _, h1⟩ := (show ObjOk X.prog X.w H s.heap a (.frz ob (.lst xs)) from I.hok a _ ea)
    exact PySem.W.kia_one PySem.W.kitx_list I.kIn ⟨_, h1, rfl⟩ e (fun z => nomatch z) h
  | @tup a xs ea =>
    cases (show u = Value.ref a from rx)
    obtain ⟨_, _, _, p⟩ := (show ObjOk X.prog X.w H s.heap a (.tup xs) from I.hok a _ ea)
    obtain ⟨o, h1, h2, _⟩ := p
    exact PySem.W.kia_one PySem.W.kitx_tuple I.kIn ⟨o, h1, h2⟩ e (fun z => nomatch z) h
  | @dK a kvs ea =>
    cases (show u = Value.ref a from rx)
    obtain ⟨_, _, vs, _, p⟩ := (show ObjOk X.prog X.w H s.heap a (.dK kvs) from I.hok a _ ea)
    obtain ⟨o, es, ep, h1, h2, _⟩ := p
    exact PySem.W.kia_one PySem.W.kitx_dict I.kIn ⟨o, h1, h2.1⟩ e (fun z => nomatch z) h
  | @dT a kvs ea =>
    cases (show u = Value.ref a from rx)
    obtain ⟨_, _, xs, _, o, es, ep, h1, h2, _⟩ := (show ObjOk X.prog X.w H s.heap a (.dT kvs) from I.hok a _ ea)
    exact PySem.W.kia_one PySem.W.kitx_dict I.kIn ⟨o, h1, h2.1⟩ e (fun z => nomatch z) h
  | @ins a C dx fs ea cl ha hn htk hm =>
    cases (show u = Value.ref a from rx)
    obtain ⟨mA, O, _⟩ := ins_get I.hok ea
    obtain ⟨od, J, _⟩ := O.look
    exact PySem.W.kia_one (PySem.W.kitx_own (cl.get _) cl.hd ha hn htk hm) I.kIn J e (fun z => nomatch z) h
end
end L2
namespace L2
open PySem PySem.Spec PyProof.Rows
structure Room (k : Nat) (A : Around) : Prop where
  hd : A.handled = none
  dp : A.depth + 3 * k + 5 < recursionLimit
  un : A.units + 16 * k + 200 < cLine
theorem Room.mono {j k : Nat} {A : Around} (r : Room k A) (h : j ≤ k) : Room j A := ⟨r.hd, by have := r.dp; omega, by have := r.un; omega⟩
theorem Room.deeper {k : Nat} {A : Around} (r : Room (k + 1) A) (env : Env) : Room k (A.deeper env) :=
  ⟨r.hd, by have := r.dp; show A.depth + 1 + 3 * k + 5 < _; omega, by have := r.un; show A.units + 3 + 16 * k + 200 < _; omega⟩
theorem Room.in1 {k : Nat} {A : Around} (r : Room (k + 1) A) : Room k A.in1 :=
  ⟨r.hd, by have := r.dp; show A.depth + 3 * k + 5 < _; omega, by have := r.un; show A.units + 1 + 16 * k + 200 < _; omega⟩
theorem make_depth {A : Around} {C : Addr} {us : List Value} {kw : List (Str × Value)} : (A.under (.builtin "type.__call__" ⟨.ref C :: us, kw⟩)).depth = A.depth + 1 := by
  first | rfl | simp [Around.under, Code.weight, Code.isCreation, Code.isGuard, Code.isCaller, Code.frames, Code.isFrame, guardIds]
theorem make_units {A : Around} {C : Addr} {us : List Value} {kw : List (Str × Value)} : (A.under (.builtin "type.__call__" ⟨.ref C :: us, kw⟩)).units = A.units + 1 := by
  first | rfl | simp [Around.under, Code.cUnits, Code.frames, Code.isFrame]
theorem Room.make {k : Nat} {A : Around} (r : Room (k + 1) A) (C : Addr) (us : List Value) (kw : List (Str × Value)) : Room k (A.under (.builtin "type.__call__" ⟨.ref C :: us, kw⟩)) :=
  ⟨r.hd, by have := r.dp; rw [make_depth]; omega, by have := r.un; rw [make_units]; omega⟩
theorem Room.depth {k : Nat} {A : Around} (r : Room k A) : A.depth < recursionLimit := by have := r.dp; omega
theorem Room.units {k : Nat} {A : Around} (r : Room k A) : A.units + 64 < cLine := by have := r.un; omega
def tNil : TA := fun _ H Q => Q [] H
def tCons (ta : TE) (tr : TA) : TA := fun σ H Q => ta σ H fun x H1 => tr σ H1 fun xs H2 => Q (x :: xs) H2
section
variable {X : Cx} {e : Expr} {es : List Expr} {te : TE} {t : TA} {pos : Pos}
theorem pa_nil : PA X [] tNil := fun _ _ _ _ H Q I h => Calls.spliced_nil ⟨[], H, I, .nil, h⟩
theorem pa_cons (ha : PE X e te) (hr : PA X es t) (hs : starEach (e :: es) X.env = (false, eval e X.env) :: starEach es X.env := by rfl) : PA X (e :: es) (tCons te t) := by
  intro pos pins s σ H Q I h
  rw [hs]
  show wpAny _ _ (spliced ((false, eval e X.env) :: backTo pos (starEach es X.env))) _ _ s
  refine Calls.spliced_cons (thn (ha pins s σ H _ I h) fun u s1 ⟨x, H1, I1, r1, q1⟩ => ?_)
  exact thn (hr pos pins s1 σ H1 _ I1 q1) fun us s2 ⟨xs, H2, I2, r2, q2⟩ => ⟨x :: xs, H2, I2, .cons r1 r2, q2⟩
def tTup (t : TA) : TE := fun σ H Q => t σ H fun xs H1 => xs.length ≤ sizeLine ∧ ∀ p, H1 p = none → Q (.ref p) (upd H1 p (.tup xs))
def tLst (t : TA) : TE := fun σ H Q => t σ H fun xs H1 => xs.length ≤ sizeLine ∧ ∀ p, H1 p = none → Q (.ref p) (upd H1 p (.lst xs))
theorem pe_tup {x1} (h : PA X es t) : PE X (.Tuple es x1 pos) (tTup t) := by
  intro pins s σ H Q I hq
  refine wpAny_Tuple_spliced (thn (h pos pins s σ H _ I hq) fun us s1 ⟨xs, H1, I1, r, z, q⟩ => ⟨by rw [← r.length]; exact z, ?_⟩)
  have hf : H1 s1.heap.objs.size = none := I1.hok.fresh (Nat.le_refl _)
  refine ⟨.ref s1.heap.objs.size, upd H1 s1.heap.objs.size (.tup xs), I1.laid (t' := s1.toks) (fun b u e => Heap.get?_push_of_some _ e) (Nat.le_refl _) ?_, rfl, q _ hf⟩
  exact ⟨z, us, r, ⟨_, Heap.get?_push_size _ rfl, rfl, _, rfl⟩⟩
theorem pe_lst (h : PA X es t) : PE X (.List es pos) (tLst t) := by
  intro pins s σ H Q I hq
  refine wpAny_List_spliced (thn (h pos pins s σ H _ I hq) fun us s1 ⟨xs, H1, I1, r, z, q⟩ => ⟨by rw [← r.length]; exact z, ?_⟩)
  have hf : H1 s1.heap.objs.size = none := I1.hok.fresh (Nat.le_refl _)
  refine ⟨.ref s1.heap.objs.size, upd H1 s1.heap.objs.size (.lst xs), I1.laid (t' := s1.toks) (fun b u e => Heap.get?_push_of_some _ e) (Nat.le_refl _) ?_, rfl, q _ hf⟩
  exact ⟨z, us, 0, r, Heap.get?_push_size _ rfl⟩
end
abbrev Sp := List V → Hp → VK → XK → Prop
abbrev CXT := List Env → Hp → Shared → XK → Value → Shared → Prop
structure Env0 (P : Program) (w : World) (K : PySem.W.Frag) (mg : Str → Option Value) (base : Heap) (A : Around) (outer : List Env) (s : Shared) (H : Hp) : Prop where
  frames : A.frames = some outer
  mod : Mod K mg base
  bs : ∀ b o, base.get? b = some o → s.heap.get? b = some o ∧ H b = none
  bsz : base.objs.size ≤ s.heap.objs.size
  funs : s.heap.FunFrames base outer
  frf : ∀ b ∈ frs outer, H b = none
  hok : HOk P w H s.heap
  bare : AllBare s.gens
def CE (outer : List Env) (P : Program) (w : World) (H : Hp) (s : Shared) (Q : VK) (u : Value) (s' : Shared) : Prop :=
  ∃ v H', s'.os = s.os ∧ AllBare s'.gens ∧ Un (frs outer) [] H H' s.heap s'.heap ∧ HOk P w H' s'.heap ∧ RelV v u ∧ Q v H'
def CR (CX : CXT) (outer : List Env) (P : Program) (w : World) (H : Hp) (s : Shared) (Q : VK) (E : XK) (r : Result) (s' : Shared) : Prop :=
  match r with
  | .ok (.ret u) => CE outer P w H s Q u s'
  | .ok _ => False
  | .error e => CX outer H s E e s'
structure FnOk (P : Program) (w : World) (K : PySem.W.Frag) (mg : Str → Option Value) (base : Heap) (CX : CXT) (k : Nat) (f : Addr) (fd : FuncData) (ps : List Str) (sp : Sp) : Prop where
  len : ∀ vs H Q E, sp vs H Q E → vs.length = ps.length
  run : ∀ (A : Around) (outer : List Env) (s : Shared) (H : Hp) (args : Args) (us : List Value) (vs : List V) (Q : VK) (E : XK), Room k A → Env0 P w K mg base A outer s H → BindsTo s fd args (ps.zip us) → Vals vs us → sp vs H Q E →
    codeAny (model P w) A (.call (.ref f) args) (CR CX outer P w H s Q E) s
theorem FnOk.mono {P : Program} {w : World} {K : PySem.W.Frag} {mg : Str → Option Value} {base : Heap} {CX : CXT} {j k : Nat} {f : Addr} {fd : FuncData} {ps : List Str} {sp : Sp} (F : FnOk P w K mg base CX j f fd ps sp) (h : j ≤ k) :
    FnOk P w K mg base CX k f fd ps sp := ⟨F.len, fun A outer s H args us vs Q E hr => F.run A outer s H args us vs Q E (hr.mono h)⟩
theorem FnOk.imp {P : Program} {w : World} {K : PySem.W.Frag} {mg : Str → Option Value} {base : Heap} {CX : CXT} {k : Nat} {f : Addr} {fd : FuncData} {ps : List Str} {sp sp' : Sp} (F : FnOk P w K mg base CX k f fd ps sp)
    (h : ∀ vs H Q E, sp' vs H Q E → sp vs H Q E) : FnOk P w K mg base CX k f fd ps sp' :=
  ⟨fun vs H Q E q => F.len vs H Q E (h _ _ _ _ q), fun A outer s H args us vs Q E hr he hb hv hs => F.run A outer s H args us vs Q E hr he hb hv (h _ _ _ _ hs)⟩
theorem Env0.make {P : Program} {w : World} {K : PySem.W.Frag} {mg : Str → Option Value} {base : Heap} {A : Around} {outer : List Env} {s : Shared} {H : Hp} (e : Env0 P w K mg base A outer s H) (C : Addr) (us : List Value) (kw : List (Str × Value)) :
    Env0 P w K mg base (A.under (.builtin "type.__call__" ⟨.ref C :: us, kw⟩)) outer s H := ⟨by first | exact e.frames | (simpa [Around.under, Code.envs, Code.isFrame, pushEnvs] using e.frames), e.mod, e.bs, e.bsz, e.funs, e.frf, e.hok, e.bare⟩
theorem Env0.in1 {P : Program} {w : World} {K : PySem.W.Frag} {mg : Str → Option Value} {base : Heap} {A : Around} {outer : List Env} {s : Shared} {H : Hp} (e : Env0 P w K mg base A outer s H) :
    Env0 P w K mg base A.in1 outer s H := ⟨e.frames, e.mod, e.bs, e.bsz, e.funs, e.frf, e.hok, e.bare⟩
section
variable {X : Cx} {pins : List (Addr × Obj)} {σ : St} {H : Hp} {s s' : Shared}
theorem Inv.env0 (I : Inv X pins σ H s) : Env0 X.prog X.w X.K X.mg X.base X.A X.stack s H :=
  ⟨I.ok.frames, I.ok.mod, I.bs, Nat.le_trans I.ok.bsz I.sz, I.stack, I.stkFree, I.hok, I.bare⟩
theorem Inv.after {Q : VK} {u : Value} (I : Inv X pins σ H s) (h : CE X.stack X.prog X.w H s Q u s') : EP X pins σ Q u s' := by
  obtain ⟨v, H', os, bare, un, hok, r, q⟩ := h
  obtain ⟨hh, g, d, t, os'⟩ := s'
  obtain rfl : os' = s.os := os
  exact ⟨v, H', I.call (h' := hh) (g' := g) (d' := d) (t' := t) (ch := []) un hok bare (fun b z => absurd z (by simp)), r, q⟩
end
def tCall (sp : Sp) (dvs : List V) (E : XK) (t : TA) : TE := fun σ H Q => t σ H fun vs H1 => sp (vs ++ dvs) H1 Q E
def tMeth (C : Addr) (m : Str) (sp : Sp) (dvs : List V) (E : XK) (ta : TE) (t : TA) : TE := fun σ H Q => ta σ H fun x H1 => ∃ a dx fs, x = .ref a ∧ H1 a = some (.ins C dx fs) ∧ fs.lookup m = none ∧
  t σ H1 fun vs H2 => sp (x :: (vs ++ dvs)) H2 Q E
def tMake (C : Addr) (sp : Sp) (dvs : List V) (E : XK) (t : TA) : TE := fun σ H Q => t σ H fun vs H1 => ∀ x dx, H1 x = none → H1 dx = none → dx ≠ x →
  sp (.ref x :: (vs ++ dvs)) (upd (upd H1 dx (.own x)) x (.ins C dx [])) (fun v H2 => v = .non ∧ Q (.ref x) H2) E
def Binds (K : PySem.W.Frag) (fd : FuncData) (ps : List Str) (ds : List Value) : Prop :=
  ∀ (s : Shared) (us : List Value), K.In s.heap → (us ++ ds).length = ps.length → BindsTo s fd ⟨us, []⟩ (ps.zip (us ++ ds))
theorem Binds.all {K : PySem.W.Frag} {fd : FuncData} {ps : List Str} (h : ∀ us : List Value, us.length = ps.length → bindArgs fd ⟨us, []⟩ = pure (ps.zip us)) : Binds K fd ps [] := fun s us _ hl => by
  rw [List.append_nil] at hl ⊢
  exact .of_eq (h us hl)
def Passes (CX : CXT) (X : Cx) (E : XK) : Prop := ∀ (pins : List (Addr × Obj)) (σ : St) (H : Hp) (s : Shared) (e : Value) (s' : Shared), Inv X pins σ H s → CX X.stack H s E e s' → X.xe e s'
section
variable {X : Cx} {CX : CXT} {k : Nat} {f C : Addr} {fd : FuncData} {ps : List Str} {sp : Sp} {dvs : List V} {ds : List Value} {E : XK} {x m : Str} {p pos apos : Pos} {e o : Expr} {es : List Expr} {ta : TE} {t : TA}
theorem run_fn {pins : List (Addr × Obj)} {σ : St} {H : Hp} {s : Shared} {Q : VK} {us : List Value} {vs : List V} (F : FnOk X.prog X.w X.K X.mg X.base CX k f fd ps sp) (hr : Room k X.A) (hb : Binds X.K fd ps ds) (hd : Vals dvs ds) (hx : Passes CX X E)
    (I : Inv X pins σ H s) (r : Vals vs us) (h : sp (vs ++ dvs) H Q E) : wpAny (model X.prog X.w) X.A (call (.ref f) us) (EP X pins σ Q) X.xe s := by
  have r2 : Vals (vs ++ dvs) (us ++ ds) := r.append hd
  have hl : (us ++ ds).length = ps.length := by rw [← r2.length]; exact F.len _ _ _ _ h
  refine wpAny_call (codeAny_mono (F.run X.A X.stack s H ⟨us, []⟩ (us ++ ds) (vs ++ dvs) Q E hr I.env0 (hb s us I.kIn hl) r2 h) fun r s' hq => ?_)
  cases r with
  | error e => exact hx pins σ H s e s' I hq
  | ok fl =>
    cases fl with
    | ret u => exact I.after hq
    | next => exact False.elim hq
    | brk => exact False.elim hq
    | cont => exact False.elim hq
theorem pe_call (F : FnOk X.prog X.w X.K X.mg X.base CX k f fd ps sp) (hr : Room k X.A) (hg : Gl X x) (hm : X.mg x = some (.ref f)) (hk : PySem.W.keepIn X.K (.ref f) = true) (hb : Binds X.K fd ps ds) (hd : Vals dvs ds) (hx : Passes CX X E)
    (ha : PA X (e :: es) t) (hdb : (x == ("__debug__" : Str)) = false := by decide) (he : starEach (e :: es) X.env = (false, eval e X.env) :: starEach es X.env := by rfl) (hpl : (backTo pos (starEach es X.env)).any (·.1) = false := by rfl) :
    PE X (.Call (.Name x p) (e :: es) [] pos) (tCall sp dvs E t) := by
  intro pins s σ H Q I h
  refine wpAny_Call_Name_kw (ld_glob I hg hm ?_ hdb)
  refine PySem.W.callWith_K (h₀ := X.base) I.ok.mod.kin hk (thn (ha pos pins s σ H _ I h) fun us s1 ⟨vs, H1, I1, r, q⟩ => ⟨I1.kIn, ?_⟩) he hpl
  exact run_fn F hr hb hd hx I1 r q
theorem pe_meth {pl : Sem Bool} (he : PE X o ta) (c : Cls X.K C) (hm : Meth X.K C m f) (F : FnOk X.prog X.w X.K X.mg X.base CX k f fd ps sp) (hr : Room k X.A) (hb : Binds X.K fd ps ds) (hd : Vals dvs ds) (hx : Passes CX X E) (ha : PA X (e :: es) t)
    (hst : starEach (e :: es) X.env = (false, eval e X.env) :: starEach es X.env := by rfl) (hpl : (backTo pos (starEach es X.env)).any (·.1) = false := by rfl)
    (ht : eval (.Call (.Attribute o m apos) (e :: es) [] pos) X.env = (do
      let ov ← eval o X.env
      standAt apos.atName
      let (f, first) ← holding [ov] (getMethod ov m pl)
      callWith pos f first (backTo pos (starEach (e :: es) X.env)) (backToKw pos (keywordEach [] X.env))) := by rfl) :
    PE X (.Call (.Attribute o m apos) (e :: es) [] pos) (tMeth C m sp dvs E ta t) := by
  intro pins s σ H Q I h
  refine PySem.W.methodCall_KW (pl := pl) (thn (he pins s σ H _ I h) fun u s1 ⟨x, H1, I1, rx, a, dx, fs, ex, ea, l, q⟩ => ?_) ht
  subst ex
  obtain rfl : u = Value.ref a := rx
  refine getmeth_ok I1 ea c hm l ?_
  refine PySem.W.callWith_K (first := [.ref a]) (h₀ := X.base) I.ok.mod.kin hm.kp (thn (ha pos pins s1 σ H1 _ I1 q) fun us s2 ⟨vs, H2, I2, r, q2⟩ => ⟨I2.kIn, ?_⟩) hst hpl
  exact run_fn (us := .ref a :: us) (vs := .ref a :: vs) F hr hb hd hx I2 (.cons rfl r) q2
theorem pe_meth0 {pl : Sem Bool} (he : PE X o ta) (c : Cls X.K C) (hm : Meth X.K C m f) (F : FnOk X.prog X.w X.K X.mg X.base CX k f fd ps sp) (hr : Room k X.A) (hb : Binds X.K fd ps ds) (hd : Vals dvs ds) (hx : Passes CX X E)
    (ht : eval (.Call (.Attribute o m apos) [] [] pos) X.env = (do
      let ov ← eval o X.env
      standAt apos.atName
      let (f, first) ← holding [ov] (getMethod ov m pl)
      callWith pos f first (backTo pos (starEach [] X.env)) (backToKw pos (keywordEach [] X.env))) := by rfl) :
    PE X (.Call (.Attribute o m apos) [] [] pos) (tMeth C m sp dvs E ta tNil) := by
  intro pins s σ H Q I h
  refine PySem.W.methodCall_KW (pl := pl) (thn (he pins s σ H _ I h) fun u s1 ⟨x, H1, I1, rx, a, dx, fs, ex, ea, l, q⟩ => ?_) ht
  subst ex
  obtain rfl : u = Value.ref a := rx
  refine getmeth_ok I1 ea c hm l ?_
  exact PySem.W.callWith_K0 (first := [.ref a]) I1.kIn hm.kp (run_fn (us := [.ref a]) (vs := [.ref a]) F hr hb hd hx I1 (.cons rfl .nil) q)
structure Mk (K : PySem.W.Frag) (C f : Addr) : Prop where
  makes : PySem.W.makesIn K C = true
  init : PySem.W.findIn K (.ref C) "__init__" = some (some (.ref f))
  fn : PySem.W.isFn K (.ref f) = true
  kp : PySem.W.keepIn K (.ref C) = true
theorem run_make {pins : List (Addr × Obj)} {σ : St} {H : Hp} {s : Shared} {Q : VK} {us : List Value} {vs : List V} (M : Mk X.K C f) (F : FnOk X.prog X.w X.K X.mg X.base CX k f fd ps sp) (hr : Room (k + 1) X.A) (hb : Binds X.K fd ps ds) (hd : Vals dvs ds)
    (hx : Passes CX X E) (I : Inv X pins σ H s) (r : Vals vs us)
    (h : ∀ x dx, H x = none → H dx = none → dx ≠ x → sp (.ref x :: (vs ++ dvs)) (upd (upd H dx (.own x)) x (.ins C dx [])) (fun v H2 => v = .non ∧ Q (.ref x) H2) E) :
    wpAny (model X.prog X.w) X.A (call (.ref C) us) (EP X pins σ Q) X.xe s := by
  have hq := h (s.heap.objs.size + 1) s.heap.objs.size (I.hok.fresh (Nat.le_succ _)) (I.hok.fresh (Nat.le_refl _)) (Nat.ne_of_lt (Nat.lt_succ_self _))
  have I2 := Inv.made (C := C) I
  have r2 : Vals (V.ref (s.heap.objs.size + 1) :: (vs ++ dvs)) (Value.ref (s.heap.objs.size + 1) :: (us ++ ds)) := .cons rfl (r.append hd)
  have hl : (Value.ref (s.heap.objs.size + 1) :: us ++ ds).length = ps.length := by
    have e := r2.length
    rw [F.len _ _ _ _ hq] at e
    exact e.symm
  refine wpAny_call (make_map (f := f) I.kIn M.makes M.init (beq_iff_eq.mp M.fn) (codeAny_mono (F.run _ X.stack _ _ ⟨Value.ref (s.heap.objs.size + 1) :: us, []⟩ (Value.ref (s.heap.objs.size + 1) :: (us ++ ds)) _ _ E (hr.make C us [])
    (I2.env0.make C us []) (hb _ (Value.ref (s.heap.objs.size + 1) :: us) I2.kIn hl) r2 hq) fun r s' hq' => ?_))
  cases r with
  | error e => exact hx pins σ _ _ e s' I2 hq'
  | ok fl =>
    cases fl with
    | ret u =>
      obtain ⟨v, H', I3, rv, ev, q3⟩ := I2.after hq'
      subst ev
      exact ⟨rv, ⟨V.ref (s.heap.objs.size + 1), H', I3, rfl, q3⟩⟩
    | next => exact False.elim hq'
    | brk => exact False.elim hq'
    | cont => exact False.elim hq'
theorem pe_make (M : Mk X.K C f) (F : FnOk X.prog X.w X.K X.mg X.base CX k f fd ps sp) (hr : Room (k + 1) X.A) (hg : Gl X x) (hm : X.mg x = some (.ref C)) (hb : Binds X.K fd ps ds) (hd : Vals dvs ds) (hx : Passes CX X E)
    (ha : PA X (e :: es) t) (hdb : (x == ("__debug__" : Str)) = false := by decide) (he : starEach (e :: es) X.env = (false, eval e X.env) :: starEach es X.env := by rfl) (hpl : (backTo pos (starEach es X.env)).any (·.1) = false := by rfl) :
    PE X (.Call (.Name x p) (e :: es) [] pos) (tMake C sp dvs E t) := by
  intro pins s σ H Q I h
  refine wpAny_Call_Name_kw (ld_glob I hg hm ?_ hdb)
  refine PySem.W.callWith_K (h₀ := X.base) I.ok.mod.kin M.kp (thn (ha pos pins s σ H _ I h) fun us s1 ⟨vs, H1, I1, r, q⟩ => ⟨I1.kIn, ?_⟩) he hpl
  exact run_make M F hr hb hd hx I1 r q
end
section
variable {X : Cx} {CX : CXT} {k : Nat} {f C : Addr} {fd : FuncData} {ps ks : List Str} {sp : Sp} {E : XK} {x m : Str} {p pos apos kpos : Pos} {e o : Expr} {es : List Expr} {kws : List Keyword} {te ta : TE} {t tk : TA} {nm : Option Str}
variable {g : List Value → List Value → List Value} {gV : List V → List V → List V}
end
structure FnScope (N P : List Str) (sc : Scope) : Prop where
  kind : sc.kind = .function
  co : sc.isCoroutine = false
  gen : sc.isGenerator = false
  nd : N.Nodup
  pre : N.take P.length = P
  par : ∀ x ∈ P, sc.names.lookup x = some .local ∨ sc.names.lookup x = some .cell
  nofree : ∀ y ∈ sc.names, y.2 ≠ .free
theorem bindL_out {kindOf : Str → Option NameKind} {x : Str} : ∀ {binds : List (Str × Value)} {m : Str → Option Value}, (∀ v, (x, v) ∉ binds) → bindL kindOf binds m x = m x
  | [], _, _ => rfl
  | (n, v) :: r, m, h => by
    unfold bindL
    rw [bindL_out fun w hw => h w (List.mem_cons_of_mem _ hw)]
    split
    · have : x ≠ n := by rintro rfl; exact h v List.mem_cons_self
      simp [this]
    · rfl
theorem bindC_out {kindOf : Str → Option NameKind} {x : Str} : ∀ {binds : List (Str × Value)} {m : Str → Option Value}, (∀ v, (x, v) ∉ binds) → bindC kindOf binds m x = m x
  | [], _, _ => rfl
  | (n, v) :: r, m, h => by
    unfold bindC
    rw [bindC_out fun w hw => h w (List.mem_cons_of_mem _ hw)]
    split
    · rfl
    · have : x ≠ n := by rintro rfl; exact h v List.mem_cons_self
      simp [this]
theorem bindL_get {kindOf : Str → Option NameKind} {x : Str} {v : Value} : ∀ {P : List Str} {vs : List Value} {i : Nat} {m : Str → Option Value}, P.Nodup → P[i]? = some x → vs[i]? = some v → kindOf x = some .local →
    bindL kindOf (P.zip vs) m x = some v
  | [], _, _, _, _, h, _, _ => by simp at h
  | _ :: _, [], _, _, _, _, h, _ => by simp at h
  | p :: P, w :: vs, 0, m, nd, h1, h2, hk => by
    simp at h1 h2; subst h1; subst h2
    show bindL kindOf ((p, w) :: P.zip vs) m p = _
    unfold bindL
    rw [bindL_out fun v hv => (List.nodup_cons.mp nd).1 (List.of_mem_zip hv).1, if_pos hk]
    simp
  | p :: P, w :: vs, i + 1, m, nd, h1, h2, hk => by
    show bindL kindOf ((p, w) :: P.zip vs) m x = _
    unfold bindL
    exact bindL_get (i := i) (List.nodup_cons.mp nd).2 (by simpa using h1) (by simpa using h2) hk
theorem bindC_get {kindOf : Str → Option NameKind} {x : Str} {v : Value} : ∀ {P : List Str} {vs : List Value} {i : Nat} {m : Str → Option Value}, P.Nodup → P[i]? = some x → vs[i]? = some v → kindOf x ≠ some .local →
    bindC kindOf (P.zip vs) m x = some v
  | [], _, _, _, _, h, _, _ => by simp at h
  | _ :: _, [], _, _, _, _, h, _ => by simp at h
  | p :: P, w :: vs, 0, m, nd, h1, h2, hk => by
    simp at h1 h2; subst h1; subst h2
    show bindC kindOf ((p, w) :: P.zip vs) m p = _
    unfold bindC
    rw [bindC_out fun v hv => (List.nodup_cons.mp nd).1 (List.of_mem_zip hv).1, if_neg hk]
    simp
  | p :: P, w :: vs, i + 1, m, nd, h1, h2, hk => by
    show bindC kindOf ((p, w) :: P.zip vs) m x = _
    unfold bindC
    exact bindC_get (i := i) (List.nodup_cons.mp nd).2 (by simpa using h1) (by simpa using h2) hk
def start (N : List Str) (vs : List V) : St := vs.map some ++ List.replicate (N.length - vs.length) none
def cxOf (CX : CXT) (P : Program) (w : World) (K : PySem.W.Frag) (mg : Str → Option Value) (base : Heap) (N : List Str) (qual : Str) (scope : Scope) (f : Addr) (cd : Value) (A : Around) (outer : List Env) (s : Shared) (H : Hp) (E : XK) : Cx where
  prog := P
  w := w
  K := K
  mg := mg
  base := base
  A := A.deeper (envOfC qual scope s.heap.objs.size f cd)
  N := N
  s₀ := s
  H₀ := H
  env := envOfC qual scope s.heap.objs.size f cd
  outer := outer
  stack := envOfC qual scope s.heap.objs.size f cd :: outer
  ex := []
  calm := true
  fn := fun _ => true
  pn := []
  xe := fun e s' => wpAny (model P w) (A.deeper (envOfC qual scope s.heap.objs.size f cd)) (leaving (envOfC qual scope s.heap.objs.size f cd) e) (fun _ s'' => CX outer H s E e s'') (fun e' s'' => CX outer H s E e' s'') s'
theorem cell_has {sc : Scope} {n : Nat} {x : Str} (h : sc.names.lookup x = some .cell) : ∃ c, (cellsFrom n sc.names []).lookup x = some c := by
  have q := PySem.W.cellsFrom_some sc.names n [] (.inl h)
  exact Option.isSome_iff_exists.mp q
theorem inv_start {CX : CXT} {P : Program} {w : World} {K : PySem.W.Frag} {mg : Str → Option Value} {base : Heap} {N ps : List Str} {qual : Str} {scope : Scope} {f : Addr} {cd : Value} {A : Around} {outer : List Env} {s s1 : Shared} {H : Hp} {E : XK} {us : List Value} {vs : List V}
    (S : FnScope N ps scope) (hd : A.handled = none) (e0 : Env0 P w K mg base A outer s H) (hl : vs.length = ps.length) (r : Vals vs us)
    (x : InCallC s s.heap.objs.size (bindL (envOfC qual scope s.heap.objs.size f cd).kindOf (ps.zip us) fun _ => none) (cellsFrom (s.heap.objs.size + 1) scope.names []) (bindC (envOfC qual scope s.heap.objs.size f cd).kindOf (ps.zip us) fun _ => none) s1) :
    Inv (cxOf CX P w K mg base N qual scope f cd A outer s H E) [] (start N vs) H s1 := by
  have hpl : ps.length ≤ N.length := by have := congrArg List.length S.pre; rw [List.length_take] at this; omega
  obtain ⟨h1, tk, rfl, hk⟩ := x.done
  have noA : ∀ b : Addr, b ∉ (cxOf CX P w K mg base N qual scope f cd A outer s H E).ex := fun b z => absurd (show b ∈ ([] : List Addr) from z) (by simp)
  refine ⟨⟨e0.mod, S.kind, rfl, rfl, Nat.le_refl _, fun y z c h1 h2 => ?_, fun y hy => ?_, fun y c _ h => ?_, fun _ => hd, Around.frames_deeper e0.frames, .inr ⟨rfl, rfl⟩, fun b z => absurd z (noA b), e0.bs, e0.bsz, fun b _ _ => noA b, fun b z => absurd z (noA b), e0.funs, e0.frf⟩,
    rfl, e0.bare, Un.kept hk, ⟨_, x.toInCall.ns, fun i y v h1 h2 h3 => ?_⟩, fun y c h => ⟨_, x.cell y c h⟩, e0.hok.fresh (Nat.le_refl _), fun y c h => ?_, fun p hp => absurd (show p ∈ ([] : List (Addr × Obj)) from hp) (by simp), e0.hok.kept hk, ?_⟩
  · exact name_of_addr x.apart (PySem.mem_of_lookup h1) (PySem.mem_of_lookup h2)
  · have hy : scope.names.lookup y = some .cell ∨ scope.names.lookup y = some .free := hy
    rcases hy with hy | hy
    · exact cell_has hy
    · exact absurd rfl (S.nofree _ (PySem.mem_of_lookup hy))
  · exact Nat.le_of_lt (x.above y c (PySem.mem_of_lookup h))
  · have hi : i < vs.length := by
      unfold start at h2
      by_cases hi : i < vs.length
      · exact hi
      · rw [List.getElem?_append_right (by simpa using hi)] at h2
        rw [List.getElem?_replicate] at h2
        split at h2 <;> cases h2
    have ha : vs[i]? = some v := by
      unfold start at h2
      rw [List.getElem?_append_left (by simpa using hi), List.getElem?_map] at h2
      cases e : vs[i]? with
      | none => rw [e] at h2; cases h2
      | some a => rw [e] at h2; cases h2; rfl
    obtain ⟨u, hu, rv⟩ := r.get ha
    have hp : ps[i]? = some y := by
      rw [← S.pre, List.getElem?_take_of_lt (by omega)]; exact h1
    have ndP : ps.Nodup := by rw [← S.pre]; exact S.nd.sublist (List.take_sublist _ _)
    refine ⟨u, rv, ?_⟩
    rcases S.par y (List.mem_of_getElem? hp) with k | k
    · exact .inl ⟨k, bindL_get ndP hp hu k⟩
    · obtain ⟨c, e⟩ := cell_has (n := s.heap.objs.size + 1) k
      refine .inr ⟨.inl k, c, e, ?_⟩
      have q := x.cell y c e
      rw [bindC_get ndP hp hu (by show scope.names.lookup y ≠ _; rw [k]; decide)] at q
      exact q
  · exact e0.hok.fresh (Nat.le_of_lt (x.above y c (PySem.mem_of_lookup h)))
  · unfold start
    show _ = N.length
    rw [List.length_append, List.length_map, List.length_replicate]
    omega
theorem fn_of {CX : CXT} {P : Program} {w : World} {K : PySem.W.Frag} {mg : Str → Option Value} {base : Heap} {k : Nat} {f : Addr} {name qual : Str} {params : Arguments} {body : List Stmt} {scope : Scope} {dV kV doc pm cdv ct oc : Value} {an od : Option Addr}
    {osl : Array (Option Value)} {N ps : List Str} {sp : Sp} (lk : K.lookup f = some ⟨oc, od, .func (PySem.W.fnOf name qual params body scope dV kV doc pm an cdv ct), osl⟩) (hcd : PySem.W.codeIn K cdv qual = true) (S : FnScope N ps scope)
    (len : ∀ vs H Q E, sp vs H Q E → vs.length = ps.length)
    (hbody : ∀ (A : Around) (outer : List Env) (s : Shared) (H : Hp) (vs : List V) (Q : VK) (E : XK), Room k (A.deeper (envOfC qual scope s.heap.objs.size f cdv)) → sp vs H Q E →
      ∃ t, PSs (cxOf CX P w K mg base N qual scope f cdv A outer s H E) body t ∧ t { nx := fun _ H' => Q .non H', rt := Q } (start N vs) H) :
    FnOk P w K mg base CX (k + 1) f (PySem.W.fnOf name qual params body scope dV kV doc pm an cdv ct) ps sp := by
  refine ⟨len, fun A outer s H args us vs Q E hr e0 hb r hsp => ?_⟩
  have hl := len _ _ _ _ hsp
  have KX : K.In s.heap := e0.mod.kin.keeps fun b o e => (e0.bs b o e).1
  have lim : s.heap.NoLimit := e0.mod.nolimit.keeps fun b o e => (e0.bs b o e).1
  have hkind : ∀ y ∈ ps.zip us, scope.names.lookup y.1 = some .local ∨ (scope.names.lookup y.1 = some .cell ∧ ((cellsFrom (s.heap.objs.size + 1) scope.names []).lookup y.1).isSome = true) := fun ⟨n, v⟩ hy => by
    rcases S.par n (List.of_mem_zip hy).1 with q | q
    · exact .inl q
    · exact .inr ⟨q, PySem.W.cellsFrom_some _ _ _ (.inl q)⟩
  refine codeAny_call_function hr.depth (KX _ _ lk) rfl S.co S.gen rfl (PySem.W.codeRec_of KX hcd) (hb _ _ _ _ ?_)
  refine wpAny_newFunctionEnv_cells S.kind hkind fun env he s1 x => ?_
  subst he
  refine ⟨lim.keeps x.toInCall.keep, codeAny_func ?_⟩
  obtain ⟨t, ht, hq⟩ := hbody A outer s H vs Q E (hr.deeper _) hsp
  have I : Inv (cxOf CX P w K mg base N qual scope f cdv A outer s H E) [] (start N vs) H s1 := inv_start S hr.hd e0 hl r x
  refine wpAny_mono (ht [] s1 (start N vs) H _ I hq) (fun fl s' hs => ?_) fun e s' hs => hs
  have fin : ∀ {σ' : St} {H' : Hp} {v : V} {u : Value}, Inv (cxOf CX P w K mg base N qual scope f cdv A outer s H E) [] σ' H' s' → RelV v u → Q v H' → CE outer P w H s Q u s' :=
    fun {σ' H' v u} J rv q => ⟨v, H', J.os, J.bare, J.base, J.hok, rv, q⟩
  cases fl with
  | ret u =>
    obtain ⟨v, σ', H', J, rv, q⟩ := hs
    exact fin J rv q
  | next =>
    obtain ⟨σ', H', J, q⟩ := hs
    exact fin (v := V.non) (u := Value.none) J rfl q
  | brk =>
    obtain ⟨_, _, _, q⟩ := hs
    exact False.elim q
  | cont =>
    obtain ⟨_, _, _, q⟩ := hs
    exact False.elim q
end L2
namespace L2
open PySem PySem.Spec PyProof.Rows
section
variable {X : Cx} {x : Str} {p pos : Pos} {e : Expr} {es : List Expr} {t : TA} {id T : String} {r : List V → Hp → VK → Prop}
def tCB (r : List V → Hp → VK → Prop) (t : TA) : TE := fun σ H Q => t σ H fun vs H1 => r vs H1 Q
theorem pe_callB (hc : CallR X (.builtin id) r) (hg : Gl X x) (hm : X.mg x = none) (hv : bootBuiltins x = some (.builtin id)) (ha : PA X (e :: es) t) (hn : x ≠ "__name__" := by decide) (hdb : (x == ("__debug__" : Str)) = false := by decide)
    (he : starEach (e :: es) X.env = (false, eval e X.env) :: starEach es X.env := by rfl) (hpl : (backTo pos (starEach es X.env)).any (·.1) = false := by rfl) : PE X (.Call (.Name x p) (e :: es) [] pos) (tCB r t) := by
  intro pins s σ H Q I h
  refine wpAny_Call_Name_kw (ld_blt I hg hm hv ?_ hn hdb)
  exact PyProof.Rows.callWith_builtin1 (thn (ha pos pins s σ H _ I h) fun us s1 ⟨vs, H1, I1, r1, q1⟩ => hc pins s1 σ H1 vs us Q I1 r1 q1) he hpl
theorem pe_callTy (hc : CallR X (.type T) r) (hg : Gl X x) (hm : X.mg x = none) (hv : bootBuiltins x = some (.type T)) (ha : PA X (e :: es) t) (hn : x ≠ "__name__" := by decide) (hdb : (x == ("__debug__" : Str)) = false := by decide)
    (he : starEach (e :: es) X.env = (false, eval e X.env) :: starEach es X.env := by rfl) (hpl : (backTo pos (starEach es X.env)).any (·.1) = false := by rfl) : PE X (.Call (.Name x p) (e :: es) [] pos) (tCB r t) := by
  intro pins s σ H Q I h
  refine wpAny_Call_Name_kw (ld_blt I hg hm hv ?_ hn hdb)
  exact PyProof.Rows.callWith_type1 (thn (ha pos pins s σ H _ I h) fun us s1 ⟨vs, H1, I1, r1, q1⟩ => hc pins s1 σ H1 vs us Q I1 r1 q1) he hpl
end
end L2
namespace HT
open PySem PyProof.Rows
section
open PySem.SeqAt
open PySem.AutoSeq1 (wpAny_loadPart')
open PySem.MeetsSeq PySem.MeetsSeq2 PySem.MeetsSeq3
end
section
variable {prog : Program} {w : World} {A : Around} {E : Value → Shared → Prop} {s : Shared}
theorem cat_tup {t b : Addr} {vs ws : List Value} {Q : Value → Shared → Prop} (ht : IsTup s.heap t vs.toArray) (hb : IsTup s.heap b ws.toArray) (hv : vs ≠ [])
    (h1 : ws = [] → Q (.ref t) s) (h2 : ws ≠ [] → Q (.ref s.heap.objs.size) { s with heap := s.heap.push { cls := .type "tuple", data := .seq (vs ++ ws).toArray } })
    (hsz : vs.length + ws.length ≤ sizeLine) : wpAny (model prog w) A (binaryOp .Add (.ref t) (.ref b)) Q E s := by
  obtain ⟨⟨cls, dd, data, sl⟩, ho, hc, n, hd⟩ := id ht
  obtain ⟨⟨cls2, dd2, data2, sl2⟩, ho2, hc2, n2, hd2⟩ := id hb
  simp only at hc hd hc2 hd2
  subst hc hd hc2 hd2
  have e : vs.toArray ++ ws.toArray = (vs ++ ws).toArray := by simp
  by_cases hw : ws = []
  · exact concat_meets ⟨_, ho, rfl⟩ ⟨_, ho2, rfl⟩ noFill_tuple_add seq_tuple_add PySem.F.slot_tuple_add PySem.F.entry_tuple_add (PySem.F.args_tuple_add_2 _ _)
      (tuple_addW1 t b vs.toArray ws.toArray n n2 dd dd2 sl sl2 (by simpa using hv) (by simp [hw])) ⟨ho, ho2, h1 hw⟩
  · refine concat_meets ⟨_, ho, rfl⟩ ⟨_, ho2, rfl⟩ noFill_tuple_add seq_tuple_add PySem.F.slot_tuple_add PySem.F.entry_tuple_add (PySem.F.args_tuple_add_2 _ _)
      (tuple_addW2 t b vs.toArray ws.toArray n n2 dd dd2 sl sl2 (by simpa using hv) (by simpa using hw) (by rw [List.size_toArray, List.size_toArray]; exact hsz)) ⟨ho, ho2, ?_⟩
    rw [e]
    exact h2 hw
def sIx (n d : Nat) : Option Int → Nat
  | none => d
  | some v => if v < 0 then (v + (n : Int)).toNat else min v.toNat n
theorem sIx_le (n d : Nat) (hd : d ≤ n) (o : Option Int) : sIx n d o ≤ n := by
  cases o with
  | none => exact hd
  | some v =>
    show (if v < 0 then (v + (n : Int)).toNat else min v.toNat n) ≤ n
    by_cases hv : v < 0
    · rw [if_pos hv]; omega
    · rw [if_neg hv]; exact Nat.min_le_right _ _
theorem clip_eq (v : Int) (n d : Nat) : (if v < 0 then max (v + (n : Int)) 0 else min v (n : Int)) = ((sIx n d (some v) : Nat) : Int) := by
  show (if v < 0 then max (v + (n : Int)) 0 else min v (n : Int)) = (((if v < 0 then (v + (n : Int)).toNat else min v.toNat n) : Nat) : Int)
  by_cases hv : v < 0
  · simp only [if_pos hv]; omega
  · simp only [if_neg hv]; omega
theorem adjust_gen (lo hi : Option Int) (n : Nat) : Builtin.Slice.sliceAdjust lo hi 1 (n : Int) = (((sIx n 0 lo : Nat) : Int), ((sIx n n hi : Nat) : Int)) := by
  have h1 : ¬ ((1 : Int) < 0) := by omega
  unfold Builtin.Slice.sliceAdjust
  simp only [h1, if_false]
  refine Prod.ext ?_ ?_
  · cases lo with
    | none => rfl
    | some v => exact clip_eq v n 0
  · cases hi with
    | none => rfl
    | some v => exact clip_eq v n n
theorem places_gen (i j : Nat) : Builtin.Slice.slicePlaces (i : Int) (j : Int) 1 = j - i := by
  unfold Builtin.Slice.slicePlaces
  have h1 : (1 : Int) > 0 := by omega
  simp only [h1, if_true, Int.ediv_one]
  split <;> omega
theorem slicePart_ {v : Value} {o : Option Int} {Q : Option Int → Shared → Prop} (p : IsPart v o) (h : Q o s) : wpAny (model prog w) A (Builtin.Slice.slicePartIndex v) Q E s := by
  cases p with
  | none => exact slicePart_none h
  | int i t => exact slicePart_int h
theorem sliceApplied_gen {sl : Addr} {vl vu : Value} {lo hi : Option Int} {n : Nat} {Q : Int × Int × Nat → Shared → Prop} (hs : s.heap.IsSliceOf sl vl vu .none) (pl : IsPart vl lo) (pu : IsPart vu hi)
    (h : Q (((sIx n 0 lo : Nat) : Int), 1, sIx n n hi - sIx n 0 lo) s) : wpAny (model prog w) A (Builtin.Slice.sliceApplied (.ref sl) (pure (n : Int))) Q E s := by
  obtain ⟨os, hos, hcs, hds⟩ := id hs
  unfold Builtin.Slice.sliceApplied Builtin.Slice.sliceFields
  refine wpAny_bind (wpAny_bind (wpAny_field hos hds (x := vl) rfl (wpAny_bind (wpAny_field hos hds (x := vu) rfl (wpAny_bind (wpAny_field hos hds (x := .none) rfl (wpAny_pure ?_)))))))
  refine wpAny_bind (slicePart_none ?_)
  show wpAny _ _ (if ((1 : Int) == 0) = true then _ else _) _ _ s
  rw [if_neg (by decide)]
  refine wpAny_bind (slicePart_ pl (wpAny_bind (slicePart_ pu (wpAny_bind (wpAny_pure ?_)))))
  show wpAny _ _ (match Builtin.Slice.sliceAdjust lo hi 1 (n : Int) with | (lo, hi) => pure (lo, (1 : Int), Builtin.Slice.slicePlaces lo hi 1)) _ _ s
  rw [adjust_gen lo hi n]
  show wpAny _ _ (pure (((sIx n 0 lo : Nat) : Int), (1 : Int), Builtin.Slice.slicePlaces ((sIx n 0 lo : Nat) : Int) ((sIx n n hi : Nat) : Int) 1)) _ _ s
  rw [places_gen]
  exact wpAny_pure h
theorem pick_gen (xs : Array Value) (i k : Nat) : ((List.range k).filterMap fun (m : Nat) => xs[((i : Int) + (m : Int) * 1).toNat]?).toArray = ((xs.toList.drop i).take k).toArray := by
  have e : (fun (m : Nat) => xs[((i : Int) + (m : Int) * 1).toNat]?) = fun m => xs[i + m]? := by
    funext m
    have : ((i : Int) + (m : Int) * 1).toNat = i + m := by omega
    rw [this]
  rw [e]
  have := pick_run xs i k
  rw [List.filterMap_map] at this
  have e2 : ((fun x => xs[x]?) ∘ fun x => i + x) = fun m => xs[i + m]? := rfl
  rw [e2] at this
  rw [this]
theorem getItem_tuple_cut {t sl : Addr} {items : Array Value} {vl vu : Value} {lo hi : Option Int} {Q : Value → Shared → Prop} (ht : IsTup s.heap t items) (hs : s.heap.IsSliceOf sl vl vu .none) (pl : IsPart vl lo) (pu : IsPart vu hi)
    (hw : ¬ (sIx items.size 0 lo = 0 ∧ sIx items.size items.size hi = items.size))
    (h : Q (.ref s.heap.objs.size) { s with heap := s.heap.push { cls := .type "tuple", data := .seq ((items.toList.drop (sIx items.size 0 lo)).take (sIx items.size items.size hi - sIx items.size 0 lo)).toArray } })
    (hsz : items.size ≤ sizeLine) : wpAny (model prog w) A (getItem (.ref t) (.ref sl)) Q E s := by
  have htake : sizeOk (.seq ((items.toList.drop (sIx items.size 0 lo)).take (sIx items.size items.size hi - sIx items.size 0 lo)).toArray) := by
    show ((items.toList.drop (sIx items.size 0 lo)).take (sIx items.size items.size hi - sIx items.size 0 lo)).toArray.size ≤ sizeLine
    rw [List.size_toArray, List.length_take, List.length_drop, Array.length_toList]
    omega
  have hj : sIx items.size items.size hi ≤ items.size := sIx_le _ _ (Nat.le_refl _) hi
  obtain ⟨os, hos, hcs, hds⟩ := id hs
  have hTs : s.TypeIs (.ref sl) "slice" := ⟨os, hos, hcs⟩
  unfold getItem
  try with_reducible refine wpAny_holding ?_
  first | refine wpAny_bind (wpAny_pure ?_) | skip
  refine wpAny_bind (wpAny_sequenceKey ht.typeIs (by decide) ?_)
  refine wpAny_bind (wpAny_callSpecial?_slot (name := Str.ofString "__getitem__") ht.typeIs PyProof.Rows.slot_tuple_getitem
    (wpAny_call_entry PyProof.Rows.slot_tuple_getitem ht.typeIs entry_tuple_getitem ?_ (args_tuple_getitem _ _)))
  show wpAny _ _ (Builtin.Tuple.tupleItemsOf (.ref t) >>= _) _ _ s
  refine wpAny_bind (tupleItemsOf_ ht ?_)
  refine wpAny_bind (wpAny_typeOf hTs ?_)
  rw [if_pos (by decide)]
  refine wpAny_bind (sliceApplied_gen hs pl pu ?_)
  have hno : ¬ ((((sIx items.size 0 lo : Nat) : Int) == 0 && (1 : Int) == 1 && (sIx items.size items.size hi - sIx items.size 0 lo) == items.size) = true) := by
    intro q
    rw [Bool.and_eq_true, Bool.and_eq_true] at q
    have q1 : ((sIx items.size 0 lo : Nat) : Int) = 0 := eq_of_beq q.1.1
    have q2 : sIx items.size items.size hi - sIx items.size 0 lo = items.size := eq_of_beq q.2
    exact hw ⟨by omega, by omega⟩
  show wpAny _ _ (if (((sIx items.size 0 lo : Nat) : Int) == 0 && (1 : Int) == 1 && (sIx items.size items.size hi - sIx items.size 0 lo) == items.size) = true then _ else _) _ _ s
  rw [if_neg hno, pick_gen]
  first
    | exact wpAny_bind (m := Builtin.Tuple.tupleExact _) (wpAny_newObj_type (wpAny_pure ⟨_, rfl, wpAny_pure h⟩) htake)
    | exact wpAny_bind (m := Builtin.Tuple.tupleExact _) (wpAny_newObj_type (wpAny_bind (wpAny_pure (wpAny_pure ⟨_, rfl, wpAny_pure h⟩))) htake)
    | exact wpAny_bind (wpAny_bind (m := Builtin.Tuple.tupleExact _) (wpAny_newObj_type (wpAny_pure (wpAny_pure ⟨_, rfl, wpAny_pure h⟩)) htake))
    | exact wpAny_bind (wpAny_bind (m := Builtin.Tuple.tupleExact _) (wpAny_newObj_type (wpAny_pure ⟨_, rfl, wpAny_pure h⟩) htake))
end
end HT
namespace L2
open PySem PySem.Spec PyProof.Rows
abbrev TO := St → Hp → (Option Int → Hp → Prop) → Prop
def PO (X : Cx) (e : Option Expr) (t : TO) : Prop :=
  ∀ (pins : List (Addr × Obj)) (s : Shared) (σ : St) (H : Hp) (Q : Option Int → Hp → Prop), Inv X pins σ H s → t σ H Q →
    wpAny (model X.prog X.w) X.A (evalPart e X.env) (fun u s' => ∃ o H', Inv X pins σ H' s' ∧ IsPart u o ∧ Q o H') X.xe s
def tNoPart : TO := fun _ H Q => Q none H
def tPart (t : TE) : TO := fun σ H Q => t σ H fun x H1 => ∃ i, x = .int i ∧ Q (some i) H1
section
variable {X : Cx} {e : Expr} {te : TE} {lo hi : Option Expr} {tl th : TO} {pos p2 : Pos}
theorem po_none : PO X none tNoPart := by
  intro pins s σ H Q I h
  rw [evalPart_none]
  exact wpAny_pure ⟨none, H, I, .none, h⟩
theorem po_some (h : PE X e te) : PO X (some e) (tPart te) := by
  intro pins s σ H Q I hw
  rw [evalPart_some]
  refine thn (h pins s σ H _ I hw) fun u s1 ⟨x, H1, I1, r1, q1⟩ => ?_
  obtain ⟨i, rfl, q⟩ := q1
  obtain ⟨t, rfl⟩ := r1
  exact ⟨some i, H1, I1, .int i t, q⟩
def SlR (X : Cx) (r : V → Option Int → Option Int → Hp → VK → Prop) : Prop :=
  ∀ (pins : List (Addr × Obj)) (s : Shared) (σ : St) (H : Hp) (x : V) (v vl vu : Value) (lo hi : Option Int) (sl : Addr) (Q : VK), Inv X pins σ H s → RelV x v → s.heap.IsSliceOf sl vl vu .none → IsPart vl lo → IsPart vu hi → r x lo hi H Q →
    ∃ T id, typeLookup (.type T) "__getitem__" = pure (some (.builtin id)) ∧ s.TypeIs v T ∧ wpAny (model X.prog X.w) X.A (getItem v (.ref sl)) (EP X pins σ Q) X.xe s
theorem SlR.or {r r' : V → Option Int → Option Int → Hp → VK → Prop} (h : SlR X r) (h' : SlR X r') : SlR X (fun x lo hi H Q => r x lo hi H Q ∨ r' x lo hi H Q) := by
  intro pins s σ H x v vl vu lo hi sl Q I rx hs pl pu q
  rcases q with q | q
  · exact h pins s σ H x v vl vu lo hi sl Q I rx hs pl pu q
  · exact h' pins s σ H x v vl vu lo hi sl Q I rx hs pl pu q
def tSl (r : V → Option Int → Option Int → Hp → VK → Prop) (te : TE) (tl th : TO) : TE := fun σ H Q => te σ H fun x H1 => tl σ H1 fun l H2 => th σ H2 fun u H3 => r x l u H3 Q
theorem pe_slice {r : V → Option Int → Option Int → Hp → VK → Prop} (hr : SlR X r) (he : PE X e te) (hl : PO X lo tl) (hu : PO X hi th) : PE X (.Subscript e (.Slice lo hi none p2) pos) (tSl r te tl th) := by
  intro pins s σ H Q I h
  refine Subscript_ (thn (he pins s σ H _ I h) fun v s1 ⟨x, H1, I1, r1, q1⟩ => ?_)
  refine wpAny_Slice (thn (hl pins s1 σ H1 _ I1 q1) fun vl s2 ⟨l, H2, I2, pl, q2⟩ => thn (hu pins s2 σ H2 _ I2 q2) fun vu s3 ⟨u, H3, I3, pu, q3⟩ => ?_)
  rw [evalPart_none]
  refine wpAny_pure ?_
  have I4 : Inv X pins σ H3 { s3 with heap := s3.heap.push { cls := .type "slice", data := .fields #[vl, vu, .none] } } := I3.kept (t' := s3.toks) fun b ob q => Heap.get?_push_of_some _ q
  obtain ⟨T, id, hT, ht, hg⟩ := hr pins { s3 with heap := s3.heap.push { cls := .type "slice", data := .fields #[vl, vu, .none] } } σ H3 x v vl vu l u s3.heap.objs.size Q I4 r1 (Heap.IsSliceOf.new ..) pl pu q3
  show wpAny (model X.prog X.w) X.A (subscriptTail e (.Slice lo hi none p2) v (.ref s3.heap.objs.size)) (EP X pins σ Q) X.xe { s3 with heap := s3.heap.push { cls := .type "slice", data := .fields #[vl, vu, .none] } }
  exact tail_any (ops := [.ref s3.heap.objs.size, v]) ht hT hg (by with_unfolding_all rfl)
def cutV (xs : List V) (lo hi : Option Int) : List V := (xs.drop (HT.sIx xs.length 0 lo)).take (HT.sIx xs.length xs.length hi - HT.sIx xs.length 0 lo)
theorem cutV_length (xs : List V) (lo hi : Option Int) : (cutV xs lo hi).length ≤ xs.length := by
  unfold cutV
  rw [List.length_take, List.length_drop]
  omega
def rSlT (K : PySem.W.Frag) : V → Option Int → Option Int → Hp → VK → Prop := fun x lo hi H Q => ∃ a xs, x = .ref a ∧ SqT K H a xs ∧
  ¬ (HT.sIx xs.length 0 lo = 0 ∧ HT.sIx xs.length xs.length hi = xs.length) ∧ ∀ p, H p = none → Q (.ref p) (upd H p (.tup (cutV xs lo hi)))
theorem sl_tup : SlR X (rSlT X.K) := by
  intro pins s σ H x v vl vu lo hi sl Q I rx hs pl pu h
  obtain ⟨a, xs, rfl, hx, hw, q⟩ := h
  cases rx
  obtain ⟨its, r, ht, hz⟩ := I.tuple hx
  have hlen : its.toArray.size = xs.length := by rw [List.size_toArray]; exact r.length.symm
  refine ⟨"tuple", _, PyProof.Rows.slot_tuple_getitem.lookup, ht.typeIs, ?_⟩
  refine HT.getItem_tuple_cut ht hs pl pu (by rw [hlen]; exact hw) ?_ (by rw [hlen]; exact hz)
  rw [hlen]
  refine ⟨.ref s.heap.objs.size, _, I.laid (t' := s.toks) (o := .tup (cutV xs lo hi)) (fun b ob q => Heap.get?_push_of_some _ q) (Nat.le_refl _) ?_, rfl, q _ (I.hok.fresh (Nat.le_refl _))⟩
  exact ⟨Nat.le_trans (cutV_length xs lo hi) hz, _, (r.drop (HT.sIx xs.length 0 lo)).take (HT.sIx xs.length xs.length hi - HT.sIx xs.length 0 lo), IsTup.new _ _⟩
def rCatT (K : PySem.W.Frag) : R2 := fun x y H Q => ∃ a b xs ys, x = .ref a ∧ y = .ref b ∧ SqT K H a xs ∧ SqT K H b ys ∧ xs ≠ [] ∧ xs.length + ys.length ≤ sizeLine ∧
  (ys = [] → Q (.ref a) H) ∧ (ys ≠ [] → ∀ p, H p = none → Q (.ref p) (upd H p (.tup (xs ++ ys))))
theorem Vals.nil_iff {xs : List V} {us : List Value} (r : Vals xs us) : us = [] ↔ xs = [] := by
  cases r with
  | nil => simp
  | cons _ _ => simp
theorem op_catT : OpR X (binaryOp .Add) (rCatT X.K) := by
  intro pins s σ H x y v u Q I rx ry h
  obtain ⟨a, b, xs, ys, rfl, rfl, ha, hb, hx, hz, q1, q2⟩ := h
  cases rx
  cases ry
  obtain ⟨its, r1, p1, _⟩ := I.tuple ha
  obtain ⟨its2, r2, p2, _⟩ := I.tuple hb
  refine HT.cat_tup p1 p2 (fun z => hx (r1.nil_iff.mp z)) (fun z => ⟨.ref a, H, I, rfl, q1 (r2.nil_iff.mp z)⟩) (fun z => ?_) (by rw [← r1.length, ← r2.length]; exact hz)
  refine ⟨.ref s.heap.objs.size, _, I.laid (t' := s.toks) (o := .tup (xs ++ ys)) (fun b ob q => Heap.get?_push_of_some _ q) (Nat.le_refl _) ?_, rfl, q2 (fun w => z (r2.nil_iff.mpr w)) _ (I.hok.fresh (Nat.le_refl _))⟩
  exact ⟨by rw [List.length_append]; exact hz, _, r1.append r2, IsTup.new _ _⟩
end
end L2
namespace L2
open PySem PySem.Spec PyProof.Rows
def ixN (n : Nat) (i : Int) : Option Nat := if 0 ≤ i then (if i < n then some i.toNat else none) else if -(n : Int) ≤ i then some (i + n).toNat else none
def atI {α : Type} (xs : List α) (i : Int) : Option α := (ixN xs.length i).bind fun j => xs[j]?
theorem ixN_seq {n : Nat} {i : Int} {j : Nat} (h : ixN n i = some j) : seqIndex? i n = some j ∧ j < n ∧ -(n : Int) ≤ i ∧ i < n := by
  unfold ixN at h
  by_cases h0 : 0 ≤ i
  · rw [if_pos h0] at h
    by_cases h1 : i < n
    · rw [if_pos h1] at h
      have e : i.toNat = j := Option.some.inj h
      exact ⟨by rw [seqIndex_of h0 h1, e], by omega, by omega, h1⟩
    · rw [if_neg h1] at h; cases h
  · rw [if_neg h0] at h
    by_cases h1 : -(n : Int) ≤ i
    · rw [if_pos h1] at h
      have e : (i + n).toNat = j := Option.some.inj h
      exact ⟨by rw [seqIndex_neg (by omega) h1, e], by omega, h1, by omega⟩
    · rw [if_neg h1] at h; cases h
theorem atI_get {α : Type} {xs : List α} {i : Int} {v : α} (h : atI xs i = some v) : ∃ j, seqIndex? i xs.length = some j ∧ xs[j]? = some v ∧ j < xs.length ∧ -(xs.length : Int) ≤ i ∧ i < xs.length := by
  unfold atI at h
  cases e : ixN xs.length i with
  | none => rw [e] at h; cases h
  | some j =>
    rw [e] at h
    obtain ⟨h1, h2, h3, h4⟩ := ixN_seq e
    exact ⟨j, h1, h, h2, h3, h4⟩
def PlainIx (b : Expr) : Prop := ∀ o i, subscripted b false o i = operate [o, i] (getItem o i)
def IxR (X : Cx) (r : R2) : Prop :=
  ∀ (value slice : Expr) (pins : List (Addr × Obj)) (s : Shared) (σ : St) (H : Hp) (x y : V) (v u : Value) (Q : VK), Inv X pins σ H s → RelV x v → RelV y u → r x y H Q →
    subscripted slice false v u = operate [v, u] (getItem v u) → wpAny (model X.prog X.w) X.A (subscriptTail value slice v u) (EP X pins σ Q) X.xe s
def MtR (X : Cx) (id : String) (r : V → List V → Hp → VK → Prop) : Prop :=
  ∀ (pins : List (Addr × Obj)) (s : Shared) (σ : St) (H : Hp) (x : V) (xs : List V) (v : Value) (us : List Value) (Q : VK), Inv X pins σ H s → RelV x v → Vals xs us → r x xs H Q →
    wpAny (model X.prog X.w) X.A (call (.builtin id) (v :: us)) (EP X pins σ Q) X.xe s
section
variable {X : Cx} {a b : Expr} {ta tb : TE} {pos : Pos}
theorem IxR.or {r r' : R2} (h : IxR X r) (h' : IxR X r') : IxR X (fun x y H Q => r x y H Q ∨ r' x y H Q) := by
  intro value slice pins s σ H x y v u Q I rx ry q hs
  rcases q with q | q
  · exact h value slice pins s σ H x y v u Q I rx ry q hs
  · exact h' value slice pins s σ H x y v u Q I rx ry q hs
theorem MtR.or {id : String} {r r' : V → List V → Hp → VK → Prop} (h : MtR X id r) (h' : MtR X id r') : MtR X id (fun x xs H Q => r x xs H Q ∨ r' x xs H Q) := by
  intro pins s σ H x xs v us Q I rx rs q
  rcases q with q | q
  · exact h pins s σ H x xs v us Q I rx rs q
  · exact h' pins s σ H x xs v us Q I rx rs q
theorem pe_ix {r : R2} (hr : IxR X r) (ha : PE X a ta) (hb : PE X b tb) (hs : PlainIx b) : PE X (.Subscript a b pos) (tOp r ta tb) := by
  intro pins s σ H Q I h
  exact Subscript_ (binT ha hb I h fun v u s2 x y H2 I2 rx ry q => hr a b pins s2 σ H2 x y v u Q I2 rx ry q (hs _ _))
def rIxL (K : PySem.W.Frag) : R2 := fun x y H Q => ∃ p xs i v, x = .ref p ∧ y = .int i ∧ SqL K H p xs ∧ atI xs i = some v ∧ Q v H
def rIxT (K : PySem.W.Frag) : R2 := fun x y H Q => ∃ p xs i v, x = .ref p ∧ y = .int i ∧ SqT K H p xs ∧ atI xs i = some v ∧ Q v H
def rIxS : R2 := fun x y H Q => ∃ z i c, x = .str z ∧ y = .int i ∧ z.length ≤ sizeLine ∧ atI z.cps.toList i = some c ∧ Q (.str ⟨#[c]⟩) H
theorem ix_list : IxR X (rIxL X.K) := by
  intro value slice pins s σ H x y v u Q I rx ry h hs
  obtain ⟨p, xs, i, z, rfl, rfl, hq, he, q⟩ := h
  cases rx
  obtain ⟨t, rfl⟩ := ry
  obtain ⟨its, r, pl, hz⟩ := I.list hq
  obtain ⟨j, h1, h2, h3, h4, h5⟩ := atI_get he
  obtain ⟨w, ew, rw'⟩ := r.get h2
  have hl := r.length
  have hn := line63
  have fin : EP X pins σ Q w s := ⟨z, H, I, rw', q⟩
  by_cases h0 : 0 ≤ i
  · have hj : i.toNat = j := by
      rw [seqIndex_of h0 h5] at h1
      exact Option.some.inj h1
    exact item_listR pl.isList h0 (by omega) (by rw [hj]; simpa using ew) fin hs
  · have hj : (i + (its.toArray.size : Int)).toNat = j := by
      rw [seqIndex_neg (by omega) h4] at h1
      rw [List.size_toArray, ← hl]
      exact Option.some.inj h1
    exact subscriptTail_builtinR (x := w) pl.isList.typeIs slot_list_getitem.lookup
      (wpAny_getItem_list_neg (Q := fun r s' => r = w ∧ EP X pins σ Q r s') pl.isList (by omega) (by rw [List.size_toArray] <;> omega) (by omega) (by rw [hj]; simpa using ew) ⟨rfl, fin⟩) hs
theorem ix_tup : IxR X (rIxT X.K) := by
  intro value slice pins s σ H x y v u Q I rx ry h hs
  obtain ⟨p, xs, i, z, rfl, rfl, hq, he, q⟩ := h
  cases rx
  obtain ⟨t, rfl⟩ := ry
  obtain ⟨its, r, pl, hz⟩ := I.tuple hq
  obtain ⟨j, h1, h2, h3, h4, h5⟩ := atI_get he
  obtain ⟨w, ew, rw'⟩ := r.get h2
  have hl := r.length
  have hn := line63
  have fin : EP X pins σ Q w s := ⟨z, H, I, rw', q⟩
  exact subscriptTail_builtinR (x := w) pl.typeIs slot_tuple_getitem.lookup
    (getItem_tuple (j := j) (Q := fun r s' => r = w ∧ EP X pins σ Q r s') pl (by omega) (by omega) (by rw [List.size_toArray, ← hl]; exact h1) (by simpa using ew) ⟨rfl, fin⟩) hs
theorem ix_str : IxR X rIxS := by
  intro value slice pins s σ H x y v u Q I rx ry h hs
  obtain ⟨z, i, c, rfl, rfl, hz, he, q⟩ := h
  obtain ⟨t, rfl⟩ := rx
  obtain ⟨t', rfl⟩ := ry
  obtain ⟨j, h1, h2, h3, h4, h5⟩ := atI_get he
  have hl : z.cps.toList.length = z.length := by simp [Str.length]
  rw [hl] at h1 h4 h5
  have hn := line63
  exact tail_any (typeIs_str s z t) slot_str_getitem.lookup (getItem_str (c := c) (by
    have e1 : decide (i < -(2 ^ 63 : Int)) = false := decide_eq_false (by omega)
    have e2 : decide (i ≥ 2 ^ 63) = false := decide_eq_false (by omega)
    rw [e1, e2, Bool.or_false]) (by rw [h1]; simpa using h2) ⟨.str ⟨#[c]⟩, H, I.tok _, ⟨_, rfl⟩, q⟩) hs
def rIx (K : PySem.W.Frag) : R2 := fun x y H Q => rIxL K x y H Q ∨ rIxT K x y H Q ∨ rIxS x y H Q
theorem ix_seq : IxR X (rIx X.K) := ix_list.or (ix_tup.or ix_str)
theorem mapSeq_set (its : List Value) (n j : Nat) (u : Value) : Obj.mapSeq (·.setIfInBounds j u) { cls := .type "list", data := .seq its.toArray n } = { cls := .type "list", data := .seq (its.set j u).toArray n } := by
  simp [Obj.mapSeq]
theorem Inv.lst {pins : List (Addr × Obj)} {σ : St} {H : Hp} {s : Shared} {p : Addr} {xs : List V} (I : Inv X pins σ H s) (h : H p = some (.lst xs)) :
    ∃ (its : List Value) (n : Nat), Vals xs its ∧ s.heap.get? p = some { cls := .type "list", data := .seq its.toArray n } ∧ xs.length ≤ sizeLine := by
  obtain ⟨z, its, n, r, e⟩ := I.hok p _ h
  exact ⟨its, n, r, e, z⟩
theorem Inv.lstUpd {pins : List (Addr × Obj)} {σ : St} {H : Hp} {s : Shared} {p : Addr} {xs ys : List V} {its its' : List Value} {n n' : Nat} {f : Obj → Obj} (I : Inv X pins σ H s) (h : H p = some (.lst xs))
    (ho : s.heap.get? p = some { cls := .type "list", data := .seq its.toArray n }) (hf : f { cls := .type "list", data := .seq its.toArray n } = { cls := .type "list", data := .seq its'.toArray n' }) (r : Vals ys its') (hz : ys.length ≤ sizeLine) (t : Nat) :
    Inv X pins σ (upd H p (.lst ys)) { s with heap := s.heap.update p f, toks := t } := by
  have e : (s.heap.update p f).get? p = some { cls := .type "list", data := .seq its'.toArray n' } := by
    rw [Heap.get?_update_self f ho (by rw [hf] <;> rfl), hf]
  refine I.write (x := p) (e := p) (by rw [h]; trivial) (.inl rfl) (fun b u hb q => (Heap.get?_update_other _ _ (Ne.symm hb)).trans q) ⟨_, e⟩ ?_
  exact ⟨hz, its', n', r, e⟩
def rSetL : V → V → V → Hp → (Hp → Prop) → Prop := fun o i v H Q => ∃ p xs k j, o = .ref p ∧ i = .int k ∧ H p = some (.lst xs) ∧ ixN xs.length k = some j ∧ Q (upd H p (.lst (xs.set j v)))
theorem set_list : PSet X rSetL := by
  intro pins s σ H o i v ov iv u Q I ro ri rv h
  obtain ⟨p, xs, k, j, rfl, rfl, hp, hj, q⟩ := h
  cases ro
  obtain ⟨t, rfl⟩ := ri
  obtain ⟨its, n, r, ho, hz⟩ := I.lst hp
  obtain ⟨h1, h2, h3, h4⟩ := ixN_seq hj
  have hl := r.length
  have hn := line63
  have I' : Inv X pins σ (upd H p (.lst (xs.set j v))) { s with heap := s.heap.update p (Obj.mapSeq (·.setIfInBounds j u)) } :=
    I.lstUpd hp ho (mapSeq_set its n j u) (r.set rv j) (by rw [List.length_set]; exact hz) s.toks
  by_cases h0 : 0 ≤ k
  · have hk : k.toNat = j := by
      rw [seqIndex_of h0 h4] at h1
      exact Option.some.inj h1
    exact PySem.W.ki_setAt ho h0 (by omega) (by rw [List.size_toArray, ← hl]; exact h4) (by rw [hk]; exact ⟨_, I', q⟩)
  · have hk : (k + (its.toArray.size : Int)).toNat = j := by
      rw [seqIndex_neg (by omega) h3] at h1
      rw [List.size_toArray, ← hl]
      exact Option.some.inj h1
    exact PySem.W.ki_setBack ho (by omega) (by rw [List.size_toArray, ← hl]; exact h3) (by omega) (by rw [hk]; exact ⟨_, I', q⟩)
theorem slice_bounds (lo hi : Option Int) (n : Nat) : (sliceBounds lo hi none n).1 = ((HT.sIx n 0 lo : Nat) : Int) ∧ (sliceBounds lo hi none n).2.1 = ((HT.sIx n n hi : Nat) : Int) ∧ (sliceBounds lo hi none n).2.2 = 1 := by
  refine ⟨?_, ?_, rfl⟩
  · cases lo with
    | none => simp [sliceBounds, HT.sIx]
    | some i =>
      simp only [sliceBounds, HT.sIx, Option.getD_none, show (1 : Int) > 0 by decide, if_true]
      by_cases h : i < 0
      · simp only [h, if_true] <;> omega
      · simp only [h, if_false] <;> omega
  · cases hi with
    | none => simp [sliceBounds, HT.sIx]
    | some i =>
      simp only [sliceBounds, HT.sIx, Option.getD_none, show (1 : Int) > 0 by decide, if_true]
      by_cases h : i < 0
      · simp only [h, if_true] <;> omega
      · simp only [h, if_false] <;> omega
theorem slicePick_cut (its : List Value) (lo hi : Option Int) : slicePick its.toArray lo hi none = ((its.drop (HT.sIx its.length 0 lo)).take (HT.sIx its.length its.length hi - HT.sIx its.length 0 lo)).toArray := by
  obtain ⟨h1, h2, h3⟩ := slice_bounds lo hi its.toArray.size
  unfold slicePick
  rw [h1, h2, h3]
  simp only [sliceRange_one, pick_run, List.size_toArray] <;> rfl
def rSlL (K : PySem.W.Frag) : V → Option Int → Option Int → Hp → VK → Prop := fun x lo hi H Q => ∃ a xs, x = .ref a ∧ SqL K H a xs ∧ ∀ p, H p = none → Q (.ref p) (upd H p (.lst (cutV xs lo hi)))
theorem sl_list : SlR X (rSlL X.K) := by
  intro pins s σ H x v vl vu lo hi sl Q I rx hs pl pu h
  obtain ⟨a, xs, rfl, hx, q⟩ := h
  cases rx
  obtain ⟨its, r, ht, hz⟩ := I.list hx
  have hlen := r.length
  refine ⟨"list", _, slot_list_getitem.lookup, ht.isList.typeIs, ?_⟩
  refine wpAny_getItem_list_slice ht.isList hs pl pu .none (by simp) ?_ (by rw [List.size_toArray] <;> omega)
  rw [slicePick_cut, ← hlen]
  refine ⟨.ref s.heap.objs.size, _, I.laid (t' := s.toks) (o := .lst (cutV xs lo hi)) (fun b ob q => Heap.get?_push_of_some _ q) (Nat.le_refl _) ?_, rfl, q _ (I.hok.fresh (Nat.le_refl _))⟩
  exact ⟨Nat.le_trans (cutV_length xs lo hi) hz, _, 0, (r.drop (HT.sIx xs.length 0 lo)).take (HT.sIx xs.length xs.length hi - HT.sIx xs.length 0 lo), Heap.get?_push_size _ rfl⟩
def flatV : V → Bool
  | .non => true
  | .bl _ => true
  | .int _ => true
  | .str _ => true
  | _ => false
def eqV : V → V → Bool
  | .non, .non => true
  | .bl a, .bl b => a == b
  | .bl a, .int b => (if a then 1 else 0) == b
  | .int a, .bl b => a == (if b then 1 else 0)
  | .int a, .int b => a == b
  | .str a, .str b => a == b
  | _, _ => false
theorem eqAt_V {A : Around} {s : Shared} {y x : V} {u v : Value} (ry : RelV y u) (rx : RelV x v) (fy : flatV y = true) (fx : flatV x = true) : SeqAt.EqAt A s u v (eqV y x) := by
  cases y with
  | non =>
    cases ry
    cases x with
    | non => cases rx; exact SeqAt.EqAt.same _
    | bl b => cases rx; exact SeqAt.EqAt.none_bool b
    | int b => obtain ⟨t, rfl⟩ := rx; exact SeqAt.EqAt.none_int b t
    | str b => obtain ⟨t, rfl⟩ := rx; exact SeqAt.EqAt.none_str b t
    | _ => exact absurd (show false = true from fx) Bool.false_ne_true
  | bl a =>
    cases ry
    cases x with
    | non => cases rx; exact SeqAt.EqAt.bool_none a
    | bl b => cases rx; exact SeqAt.EqAt.bool_bool a b
    | int b => obtain ⟨t, rfl⟩ := rx; exact SeqAt.EqAt.bool_int a b t
    | str b => obtain ⟨t, rfl⟩ := rx; exact SeqAt.EqAt.bool_str a b t
    | _ => exact absurd (show false = true from fx) Bool.false_ne_true
  | int a =>
    obtain ⟨t', rfl⟩ := ry
    cases x with
    | non => cases rx; exact SeqAt.EqAt.int_none a t'
    | bl b => cases rx; exact SeqAt.EqAt.int_bool a t' b
    | int b => obtain ⟨t, rfl⟩ := rx; exact SeqAt.EqAt.int_int a t' b t
    | str b => obtain ⟨t, rfl⟩ := rx; exact SeqAt.EqAt.int_str a t' b t
    | _ => exact absurd (show false = true from fx) Bool.false_ne_true
  | str a =>
    obtain ⟨t', rfl⟩ := ry
    cases x with
    | non => cases rx; exact SeqAt.EqAt.str_none a t'
    | bl b => cases rx; exact SeqAt.EqAt.str_bool a t' b
    | int b => obtain ⟨t, rfl⟩ := rx; exact SeqAt.EqAt.str_int a t' b t
    | str b => obtain ⟨t, rfl⟩ := rx; exact SeqAt.EqAt.str_str a t' b t
    | _ => exact absurd (show false = true from fx) Bool.false_ne_true
  | _ => exact absurd (show false = true from fy) Bool.false_ne_true
def eqU (x : V) (u : Value) : Bool := match u with
  | .none => eqV .non x
  | .bool b => eqV (.bl b) x
  | .int i _ => eqV (.int i) x
  | .str z _ => eqV (.str z) x
  | _ => false
theorem eqU_of {x y : V} {u : Value} (r : RelV y u) (f : flatV y = true) : eqU x u = eqV y x := by
  cases y with
  | non => cases r; rfl
  | bl b => cases r; rfl
  | int i => obtain ⟨t, rfl⟩ := r; rfl
  | str z => obtain ⟨t, rfl⟩ := r; rfl
  | _ => exact absurd (show false = true from f) Bool.false_ne_true
theorem any_eqU {x : V} : ∀ {xs : List V} {us : List Value}, Vals xs us → xs.all flatV = true → us.any (eqU x) = xs.any fun y => eqV y x
  | _, _, .nil, _ => rfl
  | y :: xs, u :: us, .cons r t, f => by
    rw [List.all_cons, Bool.and_eq_true] at f
    rw [List.any_cons, List.any_cons, eqU_of r f.1, any_eqU t f.2]
theorem mem_eqAt {A : Around} {s : Shared} {x : V} {v : Value} (rx : RelV x v) (fx : flatV x = true) : ∀ {xs : List V} {us : List Value}, Vals xs us → xs.all flatV = true → ∀ u ∈ us, SeqAt.EqAt A s u v (eqU x u)
  | _, _, .nil, _ => fun u hu => by cases hu
  | y :: xs, u :: us, .cons r t, f => fun u' hu => by
    rw [List.all_cons, Bool.and_eq_true] at f
    rcases List.mem_cons.mp hu with rfl | hu
    · rw [eqU_of r f.1]; exact eqAt_V r rx f.1 fx
    · exact mem_eqAt rx fx t f.2 u' hu
def inV (x : V) (xs : List V) : Bool := xs.any fun y => eqV y x
def rIn (K : PySem.W.Frag) (neg : Bool) : R2 := fun x y H Q => ∃ p xs, y = .ref p ∧ (SqL K H p xs ∨ SqT K H p xs) ∧ flatV x = true ∧ xs.all flatV = true ∧ Q (.bl (if neg then !inV x xs else inV x xs)) H
theorem op_in_seq : OpR X (compareOp .In) (rIn X.K false) := by
  intro pins s σ H x y v u Q I rx ry h
  obtain ⟨p, xs, rfl, hq, fx, fs, q⟩ := h
  cases ry
  rcases hq with hq | hq
  · obtain ⟨its, r, pl, hz⟩ := I.list hq
    refine SeqAt.in_listAt (eqU x) pl.isList (fun w hw => mem_eqAt rx fx r fs w (by simpa using hw)) ⟨.bl _, H, I, rfl, ?_⟩
    rw [show its.toArray.any (eqU x) = its.any (eqU x) by simp, any_eqU r fs]
    exact q
  · obtain ⟨its, r, pl, hz⟩ := I.tuple hq
    refine SeqAt.in_tupleAt (eqU x) pl (fun w hw => mem_eqAt rx fx r fs w (by simpa using hw)) ⟨.bl _, H, I, rfl, ?_⟩
    rw [show its.toArray.any (eqU x) = its.any (eqU x) by simp, any_eqU r fs]
    exact q
theorem op_notIn_seq : OpR X (compareOp .NotIn) (rIn X.K true) := by
  intro pins s σ H x y v u Q I rx ry h
  obtain ⟨p, xs, rfl, hq, fx, fs, q⟩ := h
  cases ry
  rcases hq with hq | hq
  · obtain ⟨its, r, pl, hz⟩ := I.list hq
    refine SeqAt.notIn_listAt (eqU x) pl.isList (fun w hw => mem_eqAt rx fx r fs w (by simpa using hw)) ⟨.bl _, H, I, rfl, ?_⟩
    rw [show its.toArray.any (eqU x) = its.any (eqU x) by simp, any_eqU r fs]
    exact q
  · obtain ⟨its, r, pl, hz⟩ := I.tuple hq
    refine SeqAt.notIn_tupleAt (eqU x) pl (fun w hw => mem_eqAt rx fx r fs w (by simpa using hw)) ⟨.bl _, H, I, rfl, ?_⟩
    rw [show its.toArray.any (eqU x) = its.any (eqU x) by simp, any_eqU r fs]
    exact q
theorem CallR.or {f : Value} {r r' : List V → Hp → VK → Prop} (h : CallR X f r) (h' : CallR X f r') : CallR X f (fun xs H Q => r xs H Q ∨ r' xs H Q) := by
  intro pins s σ H xs us Q I rs q
  rcases q with q | q
  · exact h pins s σ H xs us Q I rs q
  · exact h' pins s σ H xs us Q I rs q
theorem call_list_of : CallR X (.type "list") (fun xs H Q => ∃ p ys, xs = [.ref p] ∧ (SqL X.K H p ys ∨ SqT X.K H p ys) ∧ ∀ l, H l = none → Q (.ref l) (upd H l (.lst ys))) := by
  intro pins s σ H xs us Q I r h
  obtain ⟨p, ys, rfl, hq, q⟩ := h
  obtain ⟨u, rfl, rx⟩ := vals1 r
  cases rx
  have fin : ∀ (its : List Value), Vals ys its → ys.length ≤ sizeLine → ∀ (h' : Heap) (c' : Nat), (∀ b o', s.heap.get? b = some o' → h'.get? b = some o') →
      h'.get? s.heap.objs.size = some { cls := .type "list", dict := none, data := .seq its.toArray c', slots := #[] } → EP X pins σ Q (.ref s.heap.objs.size) { s with heap := h' } := fun its r' hz h' c' kp e =>
    ⟨.ref s.heap.objs.size, _, I.laid (t' := s.toks) kp (Nat.le_refl _) (show ObjOk X.prog X.w _ h' _ (.lst ys) from ⟨hz, its, c', r', e⟩), rfl, q _ (I.hok.fresh (Nat.le_refl _))⟩
  rcases hq with hq | hq
  · obtain ⟨its, r', pl, hz⟩ := I.list hq
    have hlen := r'.length
    obtain ⟨o, ho, hc, n, hd⟩ := pl.isList
    exact call_list_seq p (.inl rfl) ho hc hd (fun h' c' kp e => fin its r' hz h' c' kp e) (by simp only [List.size_toArray] <;> omega)
  · obtain ⟨its, r', pl, hz⟩ := I.tuple hq
    have hlen := r'.length
    obtain ⟨o, ho, hc, n, hd⟩ := pl
    exact call_list_seq p (.inr rfl) ho hc hd (fun h' c' kp e => fin its r' hz h' c' kp e) (by simp only [List.size_toArray] <;> omega)
theorem call_tuple_of : CallR X (.type "tuple") (fun xs H Q => ∃ p ys, xs = [.ref p] ∧ ((SqL X.K H p ys ∧ ∀ l, H l = none → Q (.ref l) (upd H l (.tup ys))) ∨ (SqT X.K H p ys ∧ Q (.ref p) H))) := by
  intro pins s σ H xs us Q I r h
  obtain ⟨p, ys, rfl, h⟩ := h
  obtain ⟨u, rfl, rx⟩ := vals1 r
  cases rx
  rcases h with ⟨hq, q⟩ | ⟨hq, q⟩
  · obtain ⟨its, r', pl, hz⟩ := I.list hq
    have hlen := r'.length
    refine call_tuple_list pl.isList (fun h' kp => ?_) (by simp only [List.size_toArray] <;> omega)
    have I1 : Inv X pins σ H { s with heap := h' } := I.kept (t' := s.toks) kp
    have I2 : Inv X pins σ (upd H h'.objs.size (.tup ys)) { s with heap := h'.push { cls := .type "tuple", data := .seq its.toArray } } :=
      I1.laid (t' := s.toks) (fun b o e => Heap.get?_push_of_some _ e) (Nat.le_refl _) (show ObjOk X.prog X.w _ _ _ (.tup ys) from ⟨hz, its, r', IsTup.new _ _⟩)
    exact ⟨.ref h'.objs.size, _, I2, rfl, q _ (I1.hok.fresh (Nat.le_refl _))⟩
  · obtain ⟨its, r', pl, hz⟩ := I.tuple hq
    exact call_tuple_same pl ⟨.ref p, H, I, rfl, q⟩
def tyV (K : PySem.W.Frag) (T : String) (x : V) (H : Hp) : Prop := match x with
  | .str _ => T = "str"
  | .int _ => T = "int"
  | .ref p => (T = "list" ∧ ∃ xs, SqL K H p xs) ∨ (T = "tuple" ∧ ∃ o, K.lookup p = some o ∧ o.cls = .type "tuple" ∧ o.dict = none) ∨
      (T = "dict" ∧ ((∃ kvs, H p = some (.dK kvs)) ∨ ∃ kvs, H p = some (.dT kvs))) ∨ (T = "set" ∧ ∃ S n, H p = some (.set S n))
  | _ => False
theorem tyV_is {pins : List (Addr × Obj)} {σ : St} {H : Hp} {s : Shared} {T : String} {x : V} {v : Value} (I : Inv X pins σ H s) (r : RelV x v) (ty : tyV X.K T x H) :
    s.TypeIs v T ∧ ∀ a, v = .ref a → ∃ ob, s.heap.get? a = some ob ∧ ob.dict = none := by
  cases x with
  | str z =>
    obtain ⟨t, rfl⟩ := r
    cases (show T = "str" from ty)
    exact ⟨typeIs_str s z t, fun _ e => nomatch e⟩
  | int i =>
    obtain ⟨t, rfl⟩ := r
    cases (show T = "int" from ty)
    exact ⟨typeIs_int s i t, fun _ e => nomatch e⟩
  | ref p =>
    cases r
    rcases ty with ⟨rfl, xs, hq⟩ | ⟨rfl, o, hk, hc, hd⟩ | ⟨rfl, hk⟩ | ⟨rfl, S, n, hk⟩
    · obtain ⟨its, _, pl, _⟩ := I.list hq
      refine ⟨pl.isList.typeIs, fun a e => ?_⟩
      cases e
      obtain ⟨o, n, e, c, hd, _⟩ := pl
      exact ⟨o, e, hd⟩
    · refine ⟨⟨o, I.kIn p o hk, hc⟩, fun a e => ?_⟩
      cases e
      exact ⟨o, I.kIn _ o hk, hd⟩
    · have z : ∃ o, s.heap.get? p = some o ∧ o.ExactDict := by
        rcases hk with ⟨kvs, hk⟩ | ⟨kvs, hk⟩
        · obtain ⟨_, _, _, _, o, _, _, e, ex, _⟩ := I.hok p _ hk
          exact ⟨o, e, ex⟩
        · obtain ⟨_, _, _, _, o, _, _, e, ex, _⟩ := I.hok p _ hk
          exact ⟨o, e, ex⟩
      obtain ⟨o, e, ex⟩ := z
      refine ⟨⟨o, e, ex.1⟩, fun a e2 => ?_⟩
      cases e2
      exact ⟨o, e, ex.2.1⟩
    · obtain ⟨o, _, _, _, e, ex, _⟩ := I.hok p _ hk
      refine ⟨⟨o, e, ex.1⟩, fun a e2 => ?_⟩
      cases e2
      exact ⟨o, e, ex.2.1⟩
  | _ => exact False.elim ty
def tBM0 (K : PySem.W.Frag) (T : String) (r : V → List V → Hp → VK → Prop) (to : TE) : TE := fun σ H Q => to σ H fun x H1 => tyV K T x H1 ∧ r x [] H1 Q
def tBM (K : PySem.W.Frag) (T : String) (r : V → List V → Hp → VK → Prop) (to : TE) (t : TA) : TE := fun σ H Q => to σ H fun x H1 => tyV K T x H1 ∧ t σ H1 fun xs H2 => r x xs H2 Q
variable {o e : Expr} {es : List Expr} {to : TE} {t : TA} {name : Str} {apos cpos : Pos} {T id : String} {r : V → List V → Hp → VK → Prop}
theorem pe_bm0 (pa : PlainAttrs T) (slot : Slot T name id) (hty : typeOf (.builtin id) = pure (.type "method_descriptor")) (hm : MtR X id r) (ho : PE X o to)
    (hbase : attributeBase o name X.env (eval o X.env) = eval o X.env := by rfl) (hline : (apos.endLine == cpos.line) = true := by rfl) : PE X (.Call (.Attribute o name apos) [] [] cpos) (tBM0 X.K T r to) := by
  intro pins s σ H Q I h
  refine wpAny_Call_method0_late hbase hline (thn (ho pins s σ H _ I h) fun v s1 ⟨x, H1, I1, r1, ty, q1⟩ => ?_)
  obtain ⟨h1, h2⟩ := tyV_is I1 r1 ty
  exact ⟨T, id, pa, slot, hty, h1, h2, Calls.callWith_builtin rfl (PySem.evalArgs_none (hm pins s1 σ H1 x [] v [] Q I1 r1 .nil q1))⟩
theorem pe_bm (pa : PlainAttrs T) (slot : Slot T name id) (hty : typeOf (.builtin id) = pure (.type "method_descriptor")) (hm : MtR X id r) (ho : PE X o to) (ha : PA X (e :: es) t)
    (hbase : attributeBase o name X.env (eval o X.env) = eval o X.env := by rfl)
    (hfew : ((backTo cpos (starEach (e :: es) X.env)).all (fun x => !x.1) && (backToKw cpos (keywordEach [] X.env)).all (fun x => x.1.isSome)
      && decide ((e :: es).length + ([] : List Keyword).length + (if ([] : List Keyword).isEmpty then 0 else 1) < 30)) = true := by rfl)
    (hline : (apos.endLine == cpos.line) = true := by rfl) (hs : starEach (e :: es) X.env = (false, eval e X.env) :: starEach es X.env := by rfl) (hplain : (backTo cpos (starEach es X.env)).any (·.1) = false := by rfl) :
    PE X (.Call (.Attribute o name apos) (e :: es) [] cpos) (tBM X.K T r to t) := by
  intro pins s σ H Q I h
  refine wpAny_Call_method_late hbase hfew hline rfl (thn (ho pins s σ H _ I h) fun v s1 ⟨x, H1, I1, r1, ty, q1⟩ => ?_)
  obtain ⟨h1, h2⟩ := tyV_is I1 r1 ty
  refine ⟨T, id, pa, slot, hty, h1, h2, ?_⟩
  have hA := ha cpos pins s1 σ H1 _ I1 q1
  rw [hs] at hA ⊢
  refine Calls.callWith_builtin (by show (false || (backTo cpos (starEach es X.env)).any (·.1)) = false; rw [hplain] <;> rfl) (Calls.evalArgs_plain ?_)
  exact thn hA fun us s2 ⟨vs, H2, I2, r2, q2⟩ => hm pins s2 σ H2 x vs v us Q I2 r1 r2 q2
end
end L2
namespace L2
open PySem PySem.Spec PyProof.Rows
def MtM (X : Cx) (id : String) (r : V → List V → Hp → VK → Prop) : Prop :=
  ∀ (pins : List (Addr × Obj)) (s : Shared) (σ : St) (H : Hp) (x : V) (xs : List V) (v : Value) (us : List Value) (Q : VK), Inv X pins σ H s → RelV x v → Vals xs us → r x xs H Q →
    wpAny (model X.prog X.w) X.A (call (.builtin id) (v :: us)) (EP X pins σ Q) X.xe s
theorem Vals.one : ∀ {x : V} {us : List Value}, Vals [x] us → ∃ u, us = [u] ∧ RelV x u
  | _, _, .cons r .nil => ⟨_, rfl, r⟩
theorem Vals.zero : ∀ {us : List Value}, Vals [] us → us = []
  | _, .nil => rfl
theorem Vals.dropLast {xs : List V} {us : List Value} (h : Vals xs us) : Vals xs.dropLast us.dropLast := by
  induction h with
  | nil => exact .nil
  | cons r t ih =>
    cases t with
    | nil => exact .nil
    | cons q t' => exact .cons r ih
theorem Vals.reverse {xs : List V} {us : List Value} (h : Vals xs us) : Vals xs.reverse us.reverse := by
  induction h with
  | nil => exact .nil
  | cons r t ih => rw [List.reverse_cons, List.reverse_cons]; exact Vals.append ih (.cons r .nil)
section
variable {X : Cx} {pins : List (Addr × Obj)} {σ : St} {H : Hp} {s : Shared} {l b : Addr} {xs ys zs : List V}
theorem Inv.lset {its its' : List Value} {n : Nat} {f : Array Value → Array Value} {t' : Nat} (I : Inv X pins σ H s) (hH : H l = some (.lst xs))
    (e : s.heap.get? l = some { cls := .type "list", data := .seq its.toArray n }) (hf : f its.toArray = its'.toArray) (hv : Vals ys its') (hz : ys.length ≤ sizeLine) :
    Inv X pins σ (upd H l (.lst ys)) { s with heap := s.heap.update l (Obj.mapSeq f), toks := t' } := by
  have q := PySem.IsL.update e f
  rw [hf] at q
  refine I.write (x := l) (e := l) (by rw [hH]; exact trivial) (.inl rfl) (fun b' u hb hu => (Heap.get?_update_other s.heap (Obj.mapSeq f) (Ne.symm hb)).trans hu) ⟨_, q⟩ ?_
  exact ⟨hz, its', _, hv, q⟩
theorem Inv.lnew {its : List Value} {t' : Nat} (I : Inv X pins σ H s) (hv : Vals ys its) (hz : ys.length ≤ sizeLine) :
    Inv X pins σ (upd H s.heap.objs.size (.lst ys)) { s with heap := s.heap.push { cls := .type "list", data := .seq its.toArray }, toks := t' } :=
  I.laid (fun _ _ q => Heap.get?_push_of_some _ q) (Nat.le_refl _) ⟨hz, its, 0, hv, Heap.get?_push_size _ rfl⟩
theorem Inv.fresh (I : Inv X pins σ H s) : H s.heap.objs.size = none := I.hok.fresh (Nat.le_refl _)
theorem Inv.lstM (I : Inv X pins σ H s) (hH : H l = some (.lst xs)) : xs.length ≤ sizeLine ∧ ∃ (its : List Value) (n : Nat), Vals xs its ∧ xs.length = its.length ∧ s.heap.get? l = some { cls := .type "list", data := .seq its.toArray n } := by
  obtain ⟨z, its, n, r, e⟩ := I.hok l _ hH
  exact ⟨z, its, n, r, r.length, e⟩
theorem notLongL {n : Nat} (h : n ≤ sizeLine) : Builtin.List.listTooLong n = false := by
  unfold Builtin.List.listTooLong
  exact decide_eq_false (by omega)
end
section
variable {X : Cx}
def rAppend : V → List V → Hp → VK → Prop := fun x vs H Q => ∃ l xs y, x = .ref l ∧ vs = [y] ∧ H l = some (.lst xs) ∧ xs.length < sizeLine ∧ Q .non (upd H l (.lst (xs ++ [y])))
theorem mt_append : MtM X "list.append" rAppend := by
  intro pins s σ H x vs v us Q I rx rv h
  obtain ⟨l, xs, y, rfl, rfl, hH, hz, q⟩ := h
  cases rx
  obtain ⟨u, rfl, ru⟩ := rv.one
  obtain ⟨z, its, n, r, hl, e⟩ := I.lstM hH
  refine call_meets F.slot_list_append ⟨_, e, rfl⟩ F.entry_list_append (F.args_list_append_2 _ _) (PySem.list_append l its.toArray n u (by rw [List.size_toArray]; omega)) ⟨e, ?_⟩
  refine ⟨.non, _, I.lset (its' := its ++ [u]) hH e (by simp) (r.append (.cons ru .nil)) ?_, rfl, q⟩
  rw [List.length_append, List.length_singleton]
  omega
def rExtend : V → List V → Hp → VK → Prop := fun x vs H Q => ∃ l b xs zs, x = .ref l ∧ vs = [.ref b] ∧ H l = some (.lst xs) ∧ H b = some (.lst zs) ∧ xs.length + zs.length ≤ sizeLine ∧ Q .non (upd H l (.lst (xs ++ zs)))
theorem mt_extend : MtM X "list.extend" rExtend := by
  intro pins s σ H x vs v us Q I rx rv h
  obtain ⟨l, b, xs, zs, rfl, rfl, hH, hB, hz, q⟩ := h
  cases rx
  obtain ⟨u, rfl, ru⟩ := rv.one
  cases ru
  obtain ⟨z, its, n, r, hl, e⟩ := I.lstM hH
  obtain ⟨z2, its2, n2, r2, hl2, e2⟩ := I.lstM hB
  have hsz : its.toArray.size + its2.toArray.size ≤ sizeLine := by rw [List.size_toArray, List.size_toArray]; omega
  have hlong : ¬ (!its.toArray.isEmpty && Builtin.List.listTooLong (its.toArray.size + its2.toArray.size)) = true := by
    rw [notLongL hsz, Bool.and_false]
    exact Bool.false_ne_true
  refine call_meets F.slot_list_extend ⟨_, e, rfl⟩ F.entry_list_extend (F.args_list_extend_2 _ _)
    (AutoSeq1.list_extend_list_list_0 l its.toArray n b its2.toArray n2 hlong (by rw [List.size_toArray]; omega) (by omega)) ⟨e, e2, ?_⟩
  refine ⟨.non, _, I.lset (its' := its ++ its2) hH e (by simp) (r.append r2) ?_, rfl, q⟩
  rw [List.length_append]
  omega
def rClear : V → List V → Hp → VK → Prop := fun x vs H Q => ∃ l xs, x = .ref l ∧ vs = [] ∧ H l = some (.lst xs) ∧ Q .non (upd H l (.lst []))
theorem mt_clear : MtM X "list.clear" rClear := by
  intro pins s σ H x vs v us Q I rx rv h
  obtain ⟨l, xs, rfl, rfl, hH, q⟩ := h
  cases rx
  have hus := rv.zero
  subst hus
  obtain ⟨z, its, n, r, hl, e⟩ := I.lstM hH
  refine call_meets F.slot_list_clear ⟨_, e, rfl⟩ F.entry_list_clear (F.args_list_clear_1 _) (AutoSeq1.list_clear_list_0 l its.toArray n (by rw [List.size_toArray]; omega)) ⟨e, ?_⟩
  exact ⟨.non, _, I.lset (its' := []) (ys := []) hH e rfl .nil (Nat.zero_le _), rfl, q⟩
def rCat : R2 := fun x y H Q => ∃ l b xs zs, x = .ref l ∧ y = .ref b ∧ H l = some (.lst xs) ∧ H b = some (.lst zs) ∧ xs.length + zs.length ≤ sizeLine ∧ ∀ p, H p = none → Q (.ref p) (upd H p (.lst (xs ++ zs)))
theorem op_cat : OpR X (binaryOp .Add) rCat := by
  intro pins s σ H x y v u Q I rx ry h
  obtain ⟨l, b, xs, zs, rfl, rfl, hH, hB, hz, q⟩ := h
  cases rx
  cases ry
  obtain ⟨z, its, n, r, hl, e⟩ := I.lstM hH
  obtain ⟨z2, its2, n2, r2, hl2, e2⟩ := I.lstM hB
  refine PySem.P.add_list e e2 ?_ (by rw [List.size_toArray, List.size_toArray]; omega)
  have ea : its.toArray ++ its2.toArray = (its ++ its2).toArray := by simp
  rw [ea]
  exact ⟨.ref _, _, I.lnew (t' := s.toks) (r.append r2) (by rw [List.length_append]; omega), rfl, q _ I.fresh⟩
end
section
variable {prog : Program} {w : World} {A : Around} {E : Value → Shared → Prop} {s : Shared}
set_option maxRecDepth 100000 in
end
section
variable {X : Cx}
end
end L2
namespace L2
open PySem PySem.Spec PyProof.Rows
section
variable {κ : Type} [DecidableEq κ]
def valV (kvs : List (κ × V)) (k : κ) : Option V := (kvs.find? fun kv => decide (kv.1 = k)).map (·.2)
def putK (kvs : List (κ × V)) (k : κ) (v : V) : List (κ × V) :=
  if (kvs.any fun kv => decide (kv.1 = k)) = true then kvs.map (fun kv => if kv.1 = k then (kv.1, v) else kv) else kvs ++ [(k, v)]
def dropK (kvs : List (κ × V)) (k : κ) : List (κ × V) := kvs.filter fun kv => decide (kv.1 ≠ k)
theorem valV_pos {p : κ × V} {r : List (κ × V)} {k : κ} (e : p.1 = k) : valV (p :: r) k = some p.2 := by simp [valV, List.find?_cons, e]
theorem valV_neg {p : κ × V} {r : List (κ × V)} {k : κ} (e : ¬ p.1 = k) : valV (p :: r) k = valV r k := by simp [valV, List.find?_cons, e]
theorem valV_any (k : κ) : ∀ kvs : List (κ × V), (kvs.any fun kv => decide (kv.1 = k)) = (valV kvs k).isSome
  | [] => rfl
  | p :: r => by
    rw [List.any_cons]
    by_cases e : p.1 = k
    · simp only [valV_pos e, decide_eq_true e, Bool.true_or, Option.isSome_some]
    · rw [valV_neg e, decide_eq_false e, Bool.false_or]; exact valV_any k r
theorem length_putK (kvs : List (κ × V)) (k : κ) (v : V) : (putK kvs k v).length ≤ kvs.length + 1 := by
  unfold putK
  split
  · rw [List.length_map]; omega
  · rw [List.length_append, List.length_cons, List.length_nil]; omega
theorem RelO.isSome_eq {o : Option V} {u : Option Value} (r : RelO o u) : o.isSome = u.isSome := by
  cases o with
  | none => cases u with
    | none => rfl
    | some _ => exact (show False from r).elim
  | some _ => cases u with
    | none => exact (show False from r).elim
    | some _ => rfl
theorem RelO.getD {o : Option V} {u : Option Value} {d : V} {d' : Value} (r : RelO o u) (rd : RelV d d') : RelV (o.getD d) (u.getD d') := by
  cases o with
  | none => cases u with
    | none => exact rd
    | some _ => exact (show False from r).elim
  | some _ => cases u with
    | none => exact (show False from r).elim
    | some _ => exact r
theorem KV.val {kvs : List (κ × V)} {vs : List (κ × Value)} (r : KV kvs vs) (k : κ) : RelO (valV kvs k) (valueAt vs k) := by
  unfold KV at r
  induction r with
  | nil => exact True.intro
  | @cons p q ps qs h t ih =>
    obtain ⟨h1, h2⟩ := h
    by_cases e : p.1 = k
    · have e' : q.1 = k := h1.symm.trans e
      have b : valueAt (q :: qs) k = some q.2 := by simp [valueAt, List.find?_cons, e']
      rw [valV_pos e, b]; exact h2
    · have e' : ¬ q.1 = k := fun z => e (h1.trans z)
      have b : valueAt (q :: qs) k = valueAt qs k := by simp [valueAt, List.find?_cons, e']
      rw [valV_neg e, b]; exact ih
theorem KV.any {kvs : List (κ × V)} {vs : List (κ × Value)} (r : KV kvs vs) (k : κ) : (kvs.any fun kv => decide (kv.1 = k)) = vs.any fun kv => decide (kv.1 = k) := by
  unfold KV at r
  induction r with
  | nil => rfl
  | cons h t ih => rw [List.any_cons, List.any_cons, ih, h.1]
theorem KV.repl {kvs : List (κ × V)} {vs : List (κ × Value)} (r : KV kvs vs) (k : κ) {y : V} {u : Value} (ry : RelV y u) :
    KV (kvs.map fun kv => if kv.1 = k then (kv.1, y) else kv) (vs.map fun kv => if kv.1 = k then (kv.1, u) else kv) := by
  unfold KV at r ⊢
  induction r with
  | nil => exact .nil
  | @cons p q ps qs h t ih =>
    rw [List.map_cons, List.map_cons]
    refine .cons ?_ ih
    obtain ⟨h1, h2⟩ := h
    by_cases e : p.1 = k
    · rw [if_pos e, if_pos (h1.symm.trans e)]; exact ⟨h1, ry⟩
    · rw [if_neg e, if_neg (fun z => e (h1.trans z))]; exact ⟨h1, h2⟩
theorem KV.put {kvs : List (κ × V)} {vs : List (κ × Value)} (r : KV kvs vs) (k : κ) {y : V} {u : Value} (ry : RelV y u) : KV (putK kvs k y) (stored vs k u) := by
  unfold putK stored
  rw [r.any k]
  by_cases e : (vs.any fun kv => decide (kv.1 = k)) = true
  · rw [if_pos e, if_pos e]; exact r.repl k ry
  · rw [if_neg e, if_neg e]; exact Paired.snoc r ⟨rfl, ry⟩
theorem KV.drop {kvs : List (κ × V)} {vs : List (κ × Value)} (r : KV kvs vs) (k : κ) : KV (dropK kvs k) (without vs k) := by
  unfold KV at r ⊢
  unfold dropK without
  induction r with
  | nil => exact .nil
  | @cons p q ps qs h t ih =>
    obtain ⟨h1, h2⟩ := h
    rw [List.filter_cons, List.filter_cons]
    by_cases e : p.1 = k
    · have a : ¬ decide (p.1 ≠ k) = true := by simp [e]
      have b : ¬ decide (q.1 ≠ k) = true := by simp [h1.symm.trans e]
      rw [if_neg a, if_neg b]; exact ih
    · have e' : ¬ q.1 = k := fun z => e (h1.trans z)
      have a : decide (p.1 ≠ k) = true := by simp [e]
      have b : decide (q.1 ≠ k) = true := by simp [e']
      rw [if_pos a, if_pos b]; exact .cons ⟨h1, h2⟩ ih
theorem KV.length {kvs : List (κ × V)} {vs : List (κ × Value)} (r : KV kvs vs) : kvs.length = vs.length := Paired.length r
end
theorem kV_is {P : Program} {w : World} {k : Key} {u : Value} (r : RelV (kV k) u) : (mixKind P w).is k u = true := by
  cases k with
  | inl i => obtain ⟨t, e⟩ := (show ∃ t, u = Value.int i t from r); subst e; exact mixKind_int P w i t
  | inr x => obtain ⟨t, e⟩ := (show ∃ t, u = Value.str x t from r); subst e; exact mixKind_str P w x t
theorem items_are {P : Program} {w : World} : ∀ {ks : List Key} {us : List Value}, Vals (ks.map kV) us → ItemsAre (mixKind P w) ks us
  | [], _, r => by rw [List.map_nil] at r; cases r; exact .nil
  | k :: ks, _, r => by
    rw [List.map_cons] at r
    cases r with
    | cons h t => exact .cons (kV_is h) (items_are t)
abbrev KT (H : Hp) : List (List Key × V) → List (List Key × Addr × Value) → Prop := Paired fun p q => p.1 = q.1 ∧ H q.2.1 = some (.tup (p.1.map kV)) ∧ RelV p.2 q.2.2
theorem KT.val {H : Hp} {kvs : List (List Key × V)} {xs : List (List Key × Addr × Value)} (r : KT H kvs xs) (k : List Key) : RelO (valV kvs k) ((atKey xs k).map (·.2)) := by
  induction r with
  | nil => exact True.intro
  | @cons p q ps qs h t ih =>
    obtain ⟨h1, _, h2⟩ := h
    by_cases e : p.1 = k
    · have e' : q.1 = k := h1.symm.trans e
      have b : atKey (q :: qs) k = some q.2 := by simp [atKey, List.find?_cons, e']
      rw [valV_pos e, b]; exact h2
    · have e' : ¬ q.1 = k := fun z => e (h1.trans z)
      have b : atKey (q :: qs) k = atKey qs k := by simp [atKey, List.find?_cons, e']
      rw [valV_neg e, b]; exact ih
theorem KT.repl {H : Hp} {kvs : List (List Key × V)} {xs : List (List Key × Addr × Value)} (r : KT H kvs xs) (k : List Key) {y : V} {u : Value} (ry : RelV y u) :
    KT H (kvs.map fun kv => if kv.1 = k then (kv.1, y) else kv) (xs.map (putAt k u)) := by
  induction r with
  | nil => exact .nil
  | @cons p q ps qs h t ih =>
    rw [List.map_cons, List.map_cons]
    refine .cons ?_ ih
    obtain ⟨h1, h2, h3⟩ := h
    unfold putAt
    by_cases e : p.1 = k
    · rw [if_pos e, if_pos (h1.symm.trans e)]; exact ⟨h1, h2, ry⟩
    · rw [if_neg e, if_neg (fun z => e (h1.trans z))]; exact ⟨h1, h2, h3⟩
theorem KT.put {H : Hp} {kvs : List (List Key × V)} {xs : List (List Key × Addr × Value)} (r : KT H kvs xs) (k : List Key) {b : Addr} {y : V} {u : Value} (hb : H b = some (.tup (k.map kV))) (ry : RelV y u) :
    KT H (putK kvs k y) (storedH xs k b u) := by
  have e : (kvs.any fun kv => decide (kv.1 = k)) = (atKey xs k).isSome := by
    rw [valV_any, (r.val k).isSome_eq, Option.isSome_map]
  unfold putK storedH
  rw [e]
  by_cases q : (atKey xs k).isSome = true
  · rw [if_pos q, if_pos q]; exact r.repl k ry
  · rw [if_neg q, if_neg q]; exact Paired.snoc r ⟨rfl, hb, ry⟩
theorem KT.keeps {H H' : Hp} {kvs : List (List Key × V)} {xs : List (List Key × Addr × Value)} (r : KT H kvs xs) (ht : ∀ b ys, H b = some (.tup ys) → H' b = some (.tup ys)) : KT H' kvs xs :=
  Paired.mapP r fun _ _ z => ⟨z.1, ht _ _ z.2.1, z.2.2⟩
section
variable {P : Program} {w : World} {H : Hp} {h : Heap} {a : Addr}
theorem rd_of {u : HO} (ok : HOk P w H h) (e : Rd H a u) : ObjOk P w H h a u := e.ok ok
theorem dk_rd {kvs : List (Key × V)} (ok : HOk P w H h) (e : Rd H a (.dK kvs)) : kvs.length ≤ sizeLine ∧ (a == sysModules) = false ∧ ∃ vs, KV kvs vs ∧ h.DictOf (mixKind P w) a vs :=
  show ObjOk P w H h a (.dK kvs) from rd_of ok e
theorem dk_of {kvs : List (Key × V)} (ok : HOk P w H h) (e : H a = some (.dK kvs)) : kvs.length ≤ sizeLine ∧ (a == sysModules) = false ∧ ∃ vs, KV kvs vs ∧ h.DictOf (mixKind P w) a vs := dk_rd ok (.inl e)
theorem key_of {ks : List Key} (ok : HOk P w H h) (e : H a = some (.tup (ks.map kV))) : (tupleKind (mixKind P w)).is h ks a := by
  obtain ⟨_, its, r, o, h1, h2, n, h3⟩ := (show ObjOk P w H h a (.tup (ks.map kV)) from ok a _ e)
  exact ⟨o, its.toArray, n, h1, h2, h3, by simpa using items_are r⟩
theorem dt_rd {kvs : List (List Key × V)} (ok : HOk P w H h) (e : Rd H a (.dT kvs)) : kvs.length ≤ sizeLine ∧ (a == sysModules) = false ∧
    ∃ xs, KT H kvs xs ∧ h.DictOfH (tupleKind (mixKind P w)) a xs := by
  obtain ⟨z, y, xs, r, o, es, ep, h1, h2, h3, h4, h5⟩ := (show ObjOk P w H h a (.dT kvs) from rd_of ok e)
  refine ⟨z, y, xs, r, o, es, ep, h1, h2, h3, h4, fun x hx => ?_, h5⟩
  have all : ∀ {l : List (List Key × V)} {m : List (List Key × Addr × Value)}, KT H l m → ∀ x ∈ m, (tupleKind (mixKind P w)).is h x.1 x.2.1 := by
    intro l m q
    induction q with
    | nil => intro x hx; exact nomatch hx
    | @cons p q ps qs hq t ih =>
      intro x hx
      rcases List.mem_cons.mp hx with e | hx
      · subst e
        exact key_of ok (by rw [← hq.1]; exact hq.2.1)
      · exact ih x hx
  exact all r x hx
theorem dt_of {kvs : List (List Key × V)} (ok : HOk P w H h) (e : H a = some (.dT kvs)) : kvs.length ≤ sizeLine ∧ (a == sysModules) = false ∧
    ∃ xs, KT H kvs xs ∧ h.DictOfH (tupleKind (mixKind P w)) a xs := dt_rd ok (.inl e)
end
def DGet (H : Hp) (a : Addr) (y : V) (r : Option V) : Prop :=
  (∃ kvs k, Rd H a (.dK kvs) ∧ y = kV k ∧ r = valV kvs k) ∨ ∃ kvs k b, Rd H a (.dT kvs) ∧ y = .ref b ∧ H b = some (.tup (k.map kV)) ∧ r = valV kvs k
def DPut (H : Hp) (a : Addr) (y v : V) (H' : Hp) : Prop :=
  (∃ kvs k, H a = some (.dK kvs) ∧ y = kV k ∧ kvs.length < sizeLine ∧ H' = upd H a (.dK (putK kvs k v))) ∨
  ∃ kvs k b, H a = some (.dT kvs) ∧ y = .ref b ∧ H b = some (.tup (k.map kV)) ∧ kvs.length < sizeLine ∧ H' = upd H a (.dT (putK kvs k v))
theorem DGet.k {H : Hp} {a : Addr} {kvs : List (Key × V)} {k : Key} (e : H a = some (.dK kvs)) : DGet H a (kV k) (valV kvs k) := .inl ⟨kvs, k, .inl e, rfl, rfl⟩
theorem DPut.k {H : Hp} {a : Addr} {kvs : List (Key × V)} {k : Key} {v : V} (e : H a = some (.dK kvs)) (hl : kvs.length < sizeLine) : DPut H a (kV k) v (upd H a (.dK (putK kvs k v))) := .inl ⟨kvs, k, e, rfl, hl, rfl⟩
section
variable {X : Cx} {pins : List (Addr × Obj)} {σ : St} {H : Hp} {s : Shared} {a : Addr} {y v : V} {u r : Value} {o : Option V} {A : Around} {E : Value → Shared → Prop}
theorem Inv.big (I : Inv X pins σ H s) : sysModules < s.heap.objs.size := by
  have h : mainGlobals < s.heap.objs.size := (I.mod.glob.keeps I.bk).lt
  exact Nat.lt_trans (by decide) h
theorem d_getItem {Q : Value → Shared → Prop} (hu : A.units + 1 < cLine) (I : Inv X pins σ H s) (g : DGet H a y (some v)) (ry : RelV y u) (h : ∀ w' s', Inv X pins σ H s' → RelV v w' → Q w' s') :
    wpAny (model X.prog X.w) A (getItem (.ref a) u) Q E s := by
  rcases g with ⟨kvs, k, e, ey, l⟩ | ⟨kvs, k, b, e, ey, eb, l⟩
  · subst ey
    obtain ⟨z, hd, vs, rel, dd⟩ := dk_rd I.hok e
    obtain ⟨w', hw, rw'⟩ := RelO.some_of (v := v) (o := valueAt vs k) (by rw [l]; exact rel.val k)
    exact wpAny_getItem_of (kV_is ry) dd.mapOf hw (h w' _ (I.tok _) rw')
  · subst ey
    cases (show u = Value.ref b from ry)
    obtain ⟨z, hd, xs, rel, dd⟩ := dt_rd I.hok e
    obtain ⟨w', hw, rw'⟩ := RelO.some_of (v := v) (o := (atKey xs k).map (·.2)) (by rw [l]; exact rel.val k)
    obtain ⟨p, hp, hp2⟩ := Option.map_eq_some_iff.mp hw
    refine wpAny_getItem_heap (tupleKind_room_in1 hu) (key_of I.hok eb) dd hp ?_
    rw [hp2]
    exact h w' _ (I.tok _) rw'
theorem d_in {Q : Value → Shared → Prop} (hu : A.units + 1 < cLine) (I : Inv X pins σ H s) (g : DGet H a y o) (ry : RelV y u) (h : ∀ s', Inv X pins σ H s' → Q (.bool o.isSome) s') :
    wpAny (model X.prog X.w) A (compareOp .In u (.ref a)) Q E s := by
  rcases g with ⟨kvs, k, e, ey, l⟩ | ⟨kvs, k, b, e, ey, eb, l⟩
  · subst ey
    obtain ⟨z, hd, vs, rel, dd⟩ := dk_rd I.hok e
    refine wpAny_in_of (kV_is ry) hd dd.mapOf ?_
    rw [← (rel.val k).isSome_eq, ← l]
    exact h _ (I.tok _)
  · subst ey
    cases (show u = Value.ref b from ry)
    obtain ⟨z, hd, xs, rel, dd⟩ := dt_rd I.hok e
    refine wpAny_in_heap (tupleKind_room_in1 hu) (key_of I.hok eb) hd dd ?_
    have q := (rel.val k).isSome_eq
    rw [Option.isSome_map] at q
    rw [← q, ← l]
    exact h _ (I.tok _)
theorem d_write {h' : Heap} {t' : Nat} {ob : HO} (I : Inv X pins σ H s) (mu : Mut (H a)) (hs : Heap.SameBut a s.heap h') (he : ∃ q, h'.get? a = some q) (new : ObjOk X.prog X.w (upd H a ob) h' a ob) :
    Inv X pins σ (upd H a ob) { s with heap := h', toks := t' } :=
  I.write (x := a) (e := a) mu (.inl rfl) (fun b q hb z => (hs.2 b hb).trans z) he new
theorem dk_new {P : Program} {w : World} {H' : Hp} {h' : Heap} {kvs : List (Key × V)} {vs : List (Key × Value)} (z : kvs.length ≤ sizeLine) (hd : (a == sysModules) = false) (rel : KV kvs vs) (dd : h'.DictOf (mixKind P w) a vs) :
    ObjOk P w H' h' a (.dK kvs) := ⟨z, hd, vs, rel, dd⟩
theorem d_setItem {H' : Hp} {Q : Unit → Shared → Prop} (hu : A.units + 1 < cLine) (I : Inv X pins σ H s) (g : DPut H a y v H') (ry : RelV y u) (rv : RelV v r) (h : ∀ s', Inv X pins σ H' s' → Q () s') :
    wpAny (model X.prog X.w) A (setItem (.ref a) u r) Q E s := by
  rcases g with ⟨kvs, k, e, ey, l, eH⟩ | ⟨kvs, k, b, e, ey, eb, l, eH⟩
  · subst ey eH
    obtain ⟨z, hd, vs, rel, dd⟩ := dk_of I.hok e
    have hz : vs.length ≤ sizeLine := by rw [← rel.length]; exact z
    have hl : (putK kvs k v).length ≤ sizeLine := by have := length_putK kvs k v; omega
    refine wpAny_setItem_pairs (hsz := hz) (kV_is ry) dd fun h' dd' hs => h _ ?_
    have he : ∃ q, h'.get? a = some q := let ⟨q, _, _, hq, _⟩ := dd'; ⟨q, hq⟩
    exact d_write I (by rw [e]; exact True.intro) hs he (dk_new hl hd (rel.put k rv) dd')
  · subst ey eH
    cases (show u = Value.ref b from ry)
    obtain ⟨z, hd, xs, rel, dd⟩ := dt_of I.hok e
    have hz : xs.length ≤ sizeLine := by rw [← Paired.length rel]; exact z
    have hl : (putK kvs k v).length ≤ sizeLine := by have := length_putK kvs k v; omega
    refine wpAny_setItem_heap (hsz := hz) (tupleKind_room_in1 hu) (key_of I.hok eb) dd fun h' dd' hs => h _ ?_
    obtain ⟨q, es, ep, hq, h2, h3, h4, _, h5⟩ := dd'
    refine d_write I (by rw [e]; exact True.intro) hs ⟨q, hq⟩ ⟨hl, hd, _, (rel.put k eb rv).keeps fun c ys ec => ?_, q, es, ep, hq, h2, h3, h4, h5⟩
    rw [upd_ne (ne_of ec e (fun z => nomatch z))]
    exact ec
end
section
variable {X : Cx} {pins : List (Addr × Obj)} {σ : St} {H : Hp} {s : Shared} {a : Addr} {kvs : List (Key × V)} {k : Key} {u : Value} {A : Around} {E : Value → Shared → Prop}
theorem d_len {Q : Value → Shared → Prop} (I : Inv X pins σ H s) (e : Rd H a (.dK kvs)) (h : ∀ t s', Inv X pins σ H s' → Q (.int kvs.length t) s') : wpAny (model X.prog X.w) A (call (.builtin "len") [.ref a]) Q E s := by
  obtain ⟨z, hd, vs, rel, dd⟩ := dk_rd I.hok e
  refine call_len_dict hd dd (by rw [← rel.length]; rw [sizeLine_eq] at z; omega) ?_
  rw [← rel.length]
  exact h _ _ (I.tok _)
end
def NoSl (i : Expr) : Prop := ∀ ov iv, subscripted i false ov iv = operate [ov, iv] (getItem ov iv)
theorem subD_of {prog : Program} {w : World} {A : Around} {E : Value → Shared → Prop} {s : Shared} {env : Env} {value slice : Expr} {pos : Pos} {T id : String} {Q : Value → Shared → Prop}
    (hl : typeLookup (.type T) "__getitem__" = pure (some (.builtin id))) (hs : NoSl slice)
    (h : wpAny (model prog w) A (eval value env) (fun o s₁ => wpAny (model prog w) A (eval slice env) (fun i s₂ => s₂.TypeIs o T ∧ wpAny (model prog w) A (getItem o i) Q E s₂) E s₁) E s) :
    wpAny (model prog w) A (eval (.Subscript value slice pos) env) Q E s := by
  refine Subscript_ (wpAny_mono h (fun o s₁ h₁ => wpAny_mono h₁ (fun i s₂ h₂ => ?_) fun _ _ x => x) fun _ _ x => x)
  obtain ⟨hT, h₂⟩ := h₂
  unfold subscriptTail
  refine wpAny_bind ?_
  rw [getitemInPython_of_ne hT.not_modules]
  refine wpAny_bind (wpAny_specialOf hT hl ?_)
  have fin : wpAny (model prog w) A (subscripted slice false o i) (fun r s₃ => wpAny (model prog w) A (letTemporaryGo value o r >>= fun _ => pure r) Q E s₃) E s₂ := by
    rw [hs o i]
    exact wpAny_operating (wpAny_mono h₂ (fun r s₃ h₃ => wpAny_bind (wpAny_letTemporaryGo (wpAny_pure h₃))) fun _ _ x => x)
  first
    | exact wpAny_pure (wpAny_bind fin)
    | exact wpAny_bind (wpAny_pure (wpAny_bind fin))
    | exact wpAny_bind fin
theorem dict_typeIs {X : Cx} {pins : List (Addr × Obj)} {σ : St} {H : Hp} {s : Shared} {a : Addr} {y : V} {o : Option V} (I : Inv X pins σ H s) (g : DGet H a y o) : s.TypeIs (.ref a) "dict" := by
  rcases g with ⟨kvs, k, e, _, _⟩ | ⟨kvs, k, b, e, _, _, _⟩
  · obtain ⟨_, _, vs, _, dd⟩ := dk_rd I.hok e
    exact dd.typeIs
  · obtain ⟨_, _, xs, _, dd⟩ := dt_rd I.hok e
    exact dd.typeIs
def tDGet (td ty : TE) : TE := fun σ H Q => td σ H fun x H1 => ty σ H1 fun y H2 => ∃ a v, x = .ref a ∧ DGet H2 a y (some v) ∧ Q v H2
def tDIn (ty td : TE) : TE := fun σ H Q => ty σ H fun y H1 => td σ H1 fun x H2 => ∃ a o, x = .ref a ∧ DGet H2 a y o ∧ Q (.bl o.isSome) H2
def sDPut (td ty tv : TE) : TS := fun D σ H => tv σ H fun v H1 => td σ H1 fun x H2 => ty σ H2 fun y H3 => ∃ a H4, x = .ref a ∧ DPut H3 a y v H4 ∧ D.nx σ H4
section
variable {X : Cx} {o i e value : Expr} {pos pos' tpos : Pos} {td ty tv : TE}
theorem pe_dget (hu : X.A.units + 1 < cLine) (ho : PE X o td) (hi : PE X i ty) (hs : NoSl i) : PE X (.Subscript o i pos) (tDGet td ty) := by
  intro pins s σ H Q I h
  refine subD_of PySem.F.slot_dict_getitem.lookup hs (thn (ho pins s σ H _ I h) fun u s1 ⟨x, H1, I1, rx, q1⟩ => thn (hi pins s1 σ H1 _ I1 q1) fun iv s2 ⟨y, H2, I2, ry, a, v, ex, g, q2⟩ => ?_)
  subst ex
  obtain rfl : u = Value.ref a := rx
  exact ⟨dict_typeIs I2 g, d_getItem hu I2 g ry fun w' s3 I3 rw' => ⟨v, H2, I3, rw', q2⟩⟩
theorem pc_din (hu : X.A.units + 1 < cLine) (hi : PE X i ty) (ho : PE X o td) : PC X .In i o (tDIn ty td) := by
  intro pins s σ H Q I h
  refine thn (hi pins s σ H _ I h) fun iv s1 ⟨y, H1, I1, ry, q1⟩ => thn (ho pins s1 σ H1 _ I1 q1) fun u s2 ⟨x, H2, I2, rx, a, ov, ex, g, q2⟩ => ?_
  subst ex
  obtain rfl : u = Value.ref a := rx
  exact d_in hu I2 g ry fun s3 I3 => ⟨.bl ov.isSome, H2, I3, rfl, q2⟩
theorem ps_dput (hu : X.A.units + 1 < cLine) (ho : PE X o td) (hi : PE X i ty) (hv : PE X value tv) (hs : swapsWith value (some (.Subscript o i pos')) pos.line X.env = pure false) :
    PS X (.Assign [.Subscript o i pos'] value pos) (sDPut td ty tv) := by
  intro pins s σ H D I h
  refine wpAny_Assign_Subscript (thn (hv pins s σ H _ I h) fun r s1 ⟨v, H1, I1, rv, q1⟩ => thn (ho pins s1 σ H1 _ I1 q1) fun u s2 ⟨x, H2, I2, rx, q2⟩ => thn (hi pins s2 σ H2 _ I2 q2) fun iv s3 ⟨y, H3, I3, ry, a, H4, ex, g, q3⟩ => ?_) hs
  subst ex
  obtain rfl : u = Value.ref a := rx
  exact d_setItem hu I3 g ry rv fun s4 I4 => ⟨σ, H4, I4, q3⟩
end
theorem dk_empty {P : Program} {w : World} {H : Hp} (h : Heap) (hb : sysModules < h.objs.size) : ObjOk P w H (h.push { cls := .type "dict", data := .dict #[] }) h.objs.size (.dK []) :=
  ⟨Nat.zero_le _, beq_eq_false_iff_ne.mpr (Ne.symm (Nat.ne_of_lt hb)), [], .nil, Heap.DictOf.new h⟩
def tDNewK : TE := fun _ H Q => ∀ p, H p = none → Q (.ref p) (upd H p (.dK []))
section
variable {X : Cx} {pos : Pos}
theorem pe_dnewK : PE X (.Dict [] [] pos) tDNewK := fun pins s σ H Q I h =>
  wpAny_Dict_empty ⟨.ref s.heap.objs.size, _, I.laid (a := s.heap.objs.size) (o := .dK []) (t' := s.toks) (fun _ _ q => Heap.get?_push_of_some _ q) (Nat.le_refl _) (dk_empty s.heap I.big), rfl, h _ (I.hok.fresh (Nat.le_refl _))⟩
end
structure M2 (X : Cx) (o : Expr) (m : Str) (apos : Pos) (e f : Expr) (cpos : Pos) : Prop where
  base : attributeBase o m X.env (eval o X.env) = eval o X.env
  few : ((backTo cpos (starEach [e, f] X.env)).all (fun x => !x.1) && (backToKw cpos (keywordEach [] X.env)).all (fun x => x.1.isSome)
    && decide (([e, f] : List Expr).length + ([] : List Keyword).length + (if ([] : List Keyword).isEmpty then 0 else 1) < 30)) = true
  line : (apos.endLine == cpos.line) = true
  trees : backTo cpos (starEach [e, f] X.env) = [(false, eval e X.env), (false, eval f X.env)]
def IsD (H : Hp) (a : Addr) : Prop := (∃ kvs, Rd H a (.dK kvs)) ∨ ∃ kvs, Rd H a (.dT kvs)
theorem isD_at {X : Cx} {pins : List (Addr × Obj)} {σ : St} {H : Hp} {s : Shared} {a : Addr} (I : Inv X pins σ H s) (d : IsD H a) :
    s.TypeIs (.ref a) "dict" ∧ (∀ b, Value.ref a = .ref b → ∃ ob, s.heap.get? b = some ob ∧ ob.dict = none) ∧ (a == sysModules) = false := by
  rcases d with ⟨kvs, e⟩ | ⟨kvs, e⟩
  · obtain ⟨_, hd, vs, _, dd⟩ := dk_rd I.hok e
    refine ⟨dd.typeIs, fun b q => ?_, hd⟩
    cases q
    obtain ⟨ob, _, _, h1, h2, _⟩ := dd
    exact ⟨ob, h1, h2.2.1⟩
  · obtain ⟨_, hd, xs, _, dd⟩ := dt_rd I.hok e
    refine ⟨dd.typeIs, fun b q => ?_, hd⟩
    cases q
    obtain ⟨ob, _, _, h1, h2, _⟩ := dd
    exact ⟨ob, h1, h2.2.1⟩
section
variable {X : Cx} {pins : List (Addr × Obj)} {σ : St} {H : Hp} {s : Shared} {a : Addr} {y d : V} {u r : Value} {o : Option V} {A : Around} {E : Value → Shared → Prop}
theorem d_get2 {Q : Value → Shared → Prop} (hu : A.units + 1 < cLine) (I : Inv X pins σ H s) (g : DGet H a y o) (ry : RelV y u) (rd : RelV d r) (h : ∀ w' s', Inv X pins σ H s' → RelV (o.getD d) w' → Q w' s') :
    wpAny (model X.prog X.w) A (call (.builtin "dict.get") [.ref a, u, r]) Q E s := by
  rcases g with ⟨kvs, k, e, ey, l⟩ | ⟨kvs, k, b, e, ey, eb, l⟩
  · subst ey
    obtain ⟨z, hd, vs, rel, dd⟩ := dk_rd I.hok e
    refine call_meetsIn PySem.F.slot_dict_get dd.typeIs PySem.F.entry_dict_get (PySem.F.args_dict_get_3 _ _ _) (meets_dict_get_default (mixKind X.prog X.w) a (kV_is ry) hd r) ⟨_, dd.mapOf, h _ _ (I.tok _) ?_⟩
    rw [l]
    exact (rel.val k).getD rd
  · subst ey
    cases (show u = Value.ref b from ry)
    obtain ⟨z, hd, xs, rel, dd⟩ := dt_rd I.hok e
    refine call_meetsIn PySem.F.slot_dict_get dd.typeIs PySem.F.entry_dict_get (PySem.F.args_dict_get_3 _ _ _) (meetsH_dict_get_default (tupleKind (mixKind X.prog X.w)) a b hd r) ⟨tupleKind_room_in1 hu, k, xs, key_of I.hok eb, dd, h _ _ (I.tok _) ?_⟩
    rw [l]
    exact (rel.val k).getD rd
end
def tDGet2 (td ty tx : TE) : TE := fun σ H Q => td σ H fun x H1 => ∃ a, x = .ref a ∧ IsD H1 a ∧ ty σ H1 fun y H2 => tx σ H2 fun z H3 => ∃ o, DGet H3 a y o ∧ Q (o.getD z) H3
section
variable {X : Cx} {o e f : Expr} {apos cpos : Pos} {td ty tx : TE}
theorem pe_dget2 (hu : X.A.units + 1 < cLine) (ho : PE X o td) (he : PE X e ty) (hf : PE X f tx) (m : M2 X o "get" apos e f cpos) : PE X (.Call (.Attribute o "get" apos) [e, f] [] cpos) (tDGet2 td ty tx) := by
  intro pins s σ H Q I h
  refine wpAny_Call_method m.base m.few m.line PySem.F.plainAttrs_dict PySem.F.slot_dict_get PySem.F.type_dict_get (thn (ho pins s σ H _ I h) fun u s1 ⟨x, H1, I1, rx, a, ex, d, q1⟩ => ?_)
  subst ex
  obtain rfl : u = Value.ref a := rx
  obtain ⟨t1, t2, _⟩ := isD_at I1 d
  refine ⟨t1, t2, ?_⟩
  rw [m.trees]
  refine Calls.callWith_builtin rfl (Calls.evalArgs_plain (Calls.spliced_cons (thn (he pins s1 σ H1 _ I1 q1) fun iv s2 ⟨y, H2, I2, ry, q2⟩ =>
    Calls.spliced_cons (thn (hf pins s2 σ H2 _ I2 q2) fun fv s3 ⟨z, H3, I3, rz, ov, g, q3⟩ => Calls.spliced_nil ?_))))
  exact d_get2 hu I3 g ry rz fun w' s4 I4 rw' => ⟨_, H3, I4, rw', q3⟩
end
section
variable {X : Cx} {pins : List (Addr × Obj)} {σ : St} {H : Hp} {s : Shared} {a : Addr} {kvs : List (Key × V)} {A : Around} {E : Value → Shared → Prop}
end
section
variable {X : Cx} {pins : List (Addr × Obj)} {σ : St} {H : Hp} {s : Shared} {a : Addr} {y : V} {u : Value} {A : Around} {E : Value → Shared → Prop}
end
end L2
namespace Att
open PySem PySem.W PySem.Calls PyProof.Rows
theorem ints_of_wellAll {P : Params} {h : Heap} : ∀ (ns : List Int) (vs : List Value), WellAll P h vs (ns.map WData.int) → IntsAre vs ns := by
  intro ns
  induction ns with
  | nil =>
    intro vs w
    rw [List.map_nil] at w
    cases w
    exact .nil
  | cons n ns ih =>
    intro vs w
    rw [List.map_cons] at w
    cases w with
    | cons a b =>
      cases a
      exact .cons _ _ (ih _ b)
theorem script_of {l : OpenLaw} {n : Nat} (hn : l.most = some n) {P : Params} {h : Heap} {args : List WData} {vals : List Value}
    (hpre : l.row.toRowW.claim.pre args = true) (hwl : WellAll P h vals args) :
    ∃ a vs ns, vals = [Value.ref a] ∧ args = [WData.list (ns.map WData.int)] ∧ h.get? a = some { cls := .type "list", data := .seq vs.toArray } ∧ IntsAre vs ns ∧ ns.length ≤ n := by
  have hsh : WShape.hasAll [] args [.list .int] = true := (pre_splitW hpre).1
  have hc : l.pre.holds [] { args := args } = true := (pre_splitW hpre).2
  obtain ⟨d, r, rfl, h1, h2⟩ := hasAllW_cons hsh
  obtain rfl := hasAllW_nil h2
  obtain ⟨xs, rfl, h3⟩ := hasW_list h1
  obtain ⟨ns, rfl⟩ := items_int h3
  have hlen : ns.length ≤ n := by
    unfold OpenLaw.pre at hc
    have h4 : (WTm.not (.lt (.lit (.int (n : Int))) (.len (.arg 0)))).holds [] { args := [.list (ns.map .int)] } = true := by
      have h4 := (holds_andW hc).1
      rw [hn] at h4
      exact h4
    have h5 := condW_of h4 (w_not (w_lt w_lit (w_len_list (w_arg rfl))))
    rw [List.length_map] at h5
    refine Nat.le_of_not_lt fun q => ?_
    have q' : (n : Int) < ((ns.length : Nat) : Int) := by omega
    first
      | (rw [decide_eq_true q'] at h5; exact absurd h5 (by decide))
      | (simp at h5; omega)
  cases hwl with
  | cons w1 w2 =>
    cases w2
    cases w1 with
    | list ho hall => exact ⟨_, _, ns, rfl, rfl, ho, ints_of_wellAll ns _ hall, hlen⟩
theorem post_true (l : OpenLaw) (args : List WData) : l.row.toRowW.claim.post args (.bool true) args = true :=
  postW_of (r := l.row.toRowW) (X := (true == true))
    (show WShape.has [] (.bool true) .bool = true by first | rfl | decide | simp [WShape.has, WShape.arms, WShape.armsAll])
    (show (WTm.eq .res (.lit (.bool true))).value [] { args := args, res := some (.bool true), after := args } = some (.bool (true == true)) from w_eq_bool (w_res rfl) w_lit) rfl
theorem attach_call {l : OpenLaw} {n : Nat} {q : Program} {loose : List Str} {XP : (Str → Option Value) → Heap → Prop} {YP : World → Heap → Prop} {d : DefRec}
    (hn : l.most = some n) (hdf : d.params.defaults = [])
    (call : ∀ (w : World) (s₀ s₁ : Shared) (mg mb : Str → Option Value) (fa : Addr) (o : Obj) (pm cd doc : Value) (a : Addr) (vs : List Value) (ns : List Int),
      Ground q loose [] XP w s₀ mg mb s₁.heap → YP w s₁.heap →
      s₁.heap.get? fa = some o → o.data = .func (docDef d.name d.params d.body d.scope pm cd doc) → s₁.heap.CodeRec cd d.name → mg d.name = some (.ref fa) →
      s₁.heap.get? a = some { cls := .type "list", data := .seq vs.toArray } → IntsAre vs ns → ns.length ≤ n → s₁.gens = #[] →
      codeAny (model l.prog w) callerA (.call (.ref fa) ⟨[.ref a], []⟩) (fun r s' => r = .ok (.ret (.bool true)) ∧ OldK s₁.heap s'.heap ∧ s'.os = s₁.os ∧ AllBare s'.gens) s₁) :
    WalkO q loose XP YP l.row.toRowW d [] (fun f vs => PySem.call f vs) := by
  intro w s₀ s₁ mg mb G Y fa o pm cd doc dV kV ho hd hcd hD hmg hg args vals as hpre hlay hrd hwl hlo
  obtain rfl : dV = .none := Dflts.none hD hdf
  obtain rfl : kV = .none := Dflts.noKw hD
  obtain ⟨a, vs, ns, rfl, rfl, hobj, hints, hlen⟩ := script_of hn hpre hwl
  refine enter_call (codeAny_mono (call w s₀ s₁ mg mb fa o pm cd doc a vs ns G Y ho (fd_plain hd) hcd hmg hobj hints hlen hg) fun r s' hq => ?_)
  obtain ⟨rfl, h2, h3, h4⟩ := hq
  exact ⟨.inl ⟨.bool true, .bool true, [], rfl, fun _ => rfl, .bool true, post_true l _, fun _ => ⟨List.Pairwise.nil, fun _ hm => (nomatch hm)⟩⟩, h2, h3, h4⟩
section
variable {prog : Program} {w : World} {A : Around} {E : Value → Shared → Prop} {s : Shared} {K : Frag}
end
end Att
namespace L2
open PySem PySem.Spec PyProof.Rows
theorem vals_ints : ∀ {vs : List Value} {ns : List Int}, IntsAre vs ns → Vals (ns.map V.int) vs
  | _, _, .nil => .nil
  | _, _, .cons n t h => .cons ⟨t, rfl⟩ (vals_ints h)
def Only (H : Hp) : Prop := ∀ b, H b = none ∨ ∃ o xs, H b = some (.frz o (.lst xs))
theorem law_call {P : Program} {w : World} {K : PySem.W.Frag} {mg mb : Str → Option Value} {CX : CXT} {k : Nat} {fa a : Addr} {fd : FuncData} {x : Str} {sp : Sp} {s₁ : Shared} {vs : List Value} {ns : List Int}
    (KX : K.In s₁.heap) (hns : s₁.heap.Ns mainGlobals mg) (hb : s₁.heap.Ns builtinsNs mb) (hbb : ∀ x : Str, x ≠ "__name__" → mb x = bootBuiltins x) (hlim : s₁.heap.NoLimit) (hg : s₁.gens = #[])
    (ha : s₁.heap.get? a = some { cls := .type "list", data := .seq vs.toArray }) (hi : IntsAre vs ns) (hl : ns.length ≤ sizeLine) (hr : Room k callerA)
    (F : ∀ base : Heap, K.In base → base.Ns mainGlobals mg → FnOk P w K mg base CX k fa fd [x] sp) (hbind : ∀ (s : Shared) (u : Value), BindsTo s fd ⟨[u], []⟩ [(x, u)])
    (hsp : ∀ H : Hp, Only H → SqL K H a (ns.map V.int) → sp [.ref a] H (fun v _ => v = .bl true) fun _ _ _ => False)
    (hCX : ∀ H e s', CX [] H s₁ (fun _ _ _ => False) e s' → False) :
    codeAny (model P w) callerA (.call (.ref fa) ⟨[.ref a], []⟩) (fun r s' => r = .ok (.ret (.bool true)) ∧ OldK s₁.heap s'.heap ∧ s'.os = s₁.os ∧ AllBare s'.gens) s₁ := by
  have rv := vals_ints hi
  have lenV := hi.length
  have core : ∀ H : Hp, Only H → SqL K H a (ns.map V.int) → HOk P w H s₁.heap → (∀ b, H b ≠ none → b = a) → (H a ≠ none → K.lookup a = none) →
      codeAny (model P w) callerA (.call (.ref fa) ⟨[.ref a], []⟩) (fun r s' => r = .ok (.ret (.bool true)) ∧ OldK s₁.heap s'.heap ∧ s'.os = s₁.os ∧ AllBare s'.gens) s₁ := by
    intro H hO hS hok hA hK
    have base_of : ∀ {b : Addr} {o : Obj}, s₁.heap.get? b = some o → H b = none → (hidT s₁.heap H).get? b = some o := fun e n => hidT_get e n
    have noA : ∀ {b : Addr} {o : Obj} {es : Array DictEntry} {ep : Nat}, s₁.heap.get? b = some o → o.data = .dict es ep → H b = none := fun {b o es ep} e d => by
      cases q : H b with
      | none => rfl
      | some u =>
        have e' : b = a := hA b (by rw [q]; simp)
        subst e'
        rw [ha] at e; cases e
        have d' : Data.seq vs.toArray _ = Data.dict es ep := d
        cases d'
    have nsK : ∀ {b : Addr} {m : Str → Option Value}, s₁.heap.Ns b m → (hidT s₁.heap H).Ns b m := fun {b m} ⟨o, es, ep, e, d, r⟩ => ⟨o, es, ep, base_of e (noA e d), d, r⟩
    have hKb : K.In (hidT s₁.heap H) := fun b o e => base_of (KX b o e) (by
      cases q : H b with
      | none => rfl
      | some u =>
        have e' : b = a := hA b (by rw [q]; simp)
        subst e'
        rw [hK (by rw [q]; simp)] at e; cases e)
    have hM : Mod K mg (hidT s₁.heap H) := ⟨hKb, nsK hns, ⟨mb, nsK hb, hbb⟩, let ⟨mc, h1, h2⟩ := hlim; ⟨mc, nsK h1, h2⟩⟩
    have e0 : Env0 P w K mg (hidT s₁.heap H) callerA [] s₁ H := ⟨rfl, hM, fun b o e => of_hidT e, Nat.le_of_eq (hidT_size _ _), trivial, fun b hb => absurd (show b ∈ ([] : List Addr) from hb) (by simp), hok, .of_eq hg⟩
    refine codeAny_mono ((F _ hKb (nsK hns)).run callerA [] s₁ H ⟨[.ref a], []⟩ [.ref a] [.ref a] _ _ hr e0 (hbind s₁ (.ref a)) (.cons rfl .nil) (hsp H hO hS)) fun r s' h => ?_
    cases r with
    | error e => exact (hCX H e s' h).elim
    | ok fl =>
      cases fl with
      | next => exact False.elim h
      | brk => exact False.elim h
      | cont => exact False.elim h
      | ret u =>
        obtain ⟨v, H', os, bare, un, hok', r', q⟩ := h
        have q' : v = .bl true := q
        subst q'
        obtain rfl : u = Value.bool true := r'
        refine ⟨rfl, OldK.of_keep fun b o e => ?_, os, bare⟩
        cases q : H b with
        | none => exact un.keep b o e q (by intro z; exact absurd (show b ∈ ([] : List Addr) from z) (by simp)) (by simp)
        | some u =>
          rcases hO b with z | ⟨ob, xs, z⟩
          · rw [q] at z; cases z
          · have z2 := un.frzs b ob _ z
            obtain ⟨e1, _⟩ := hok b _ z
            obtain ⟨e2, _⟩ := hok' b _ z2
            rw [e] at e1; cases e1
            exact e2
  cases hk : K.lookup a with
  | some o =>
    have e := KX a o hk
    rw [ha] at e
    cases e
    refine core (fun _ => none) (fun _ => .inl rfl) (.inr ⟨_, vs.toArray, _, hk, rfl, rfl, rfl, by rw [List.size_toArray, lenV]; exact hl, by simpa using rv⟩) (fun b u z => by have z' : (none : Option HO) = some u := z; cases z') (fun b z => absurd rfl z) fun z => absurd rfl z
  | none =>
    refine core (fun b => if b = a then some (.frz { cls := .type "list", data := .seq vs.toArray } (.lst (ns.map V.int))) else none) (fun b => ?_) (.inl (.inr ⟨{ cls := .type "list", data := .seq vs.toArray }, if_pos rfl⟩)) (fun b u z => ?_) (fun b z => ?_) fun _ => hk
    · by_cases hb : b = a
      · exact .inr ⟨_, _, if_pos hb⟩
      · exact .inl (if_neg hb)
    · by_cases hb : b = a
      · have z' := (if_pos hb).symm.trans z
        cases z'
        subst hb
        exact ⟨ha, by rw [List.length_map]; exact hl, vs, _, rv, ha⟩
      · have z' := (if_neg hb).symm.trans z
        cases z'
    · by_cases hb : b = a
      · exact hb
      · exact absurd (if_neg hb) z
end L2
namespace L2
open PySem PySem.Spec PyProof.Rows
abbrev KOf {K : PySem.W.Frag} {h : Heap} (_ : K.In h) : PySem.W.Frag := K
theorem walk_of {l : PySem.W.OpenLaw} {n k : Nat} {q : Program} {loose : List Str} {XP : (Str → Option Value) → Heap → Prop} {YP : World → Heap → Prop} {d : DefRec} {K : Params → PySem.W.Frag} {CX : World → CXT} {sp : World → Sp} {x : Str}
    (hn : l.most = some n) (hn2 : n ≤ sizeLine) (hdf : d.params.defaults = []) (hr : Room k callerA)
    (hY : ∀ (w : World) (h : Heap), YP w h → (K w.params).In h)
    (F : ∀ (w : World) (mg : Str → Option Value) (fa : Addr) (h : Heap), (K w.params).In h → h.Ns mainGlobals mg → mg d.name = some (.ref fa) →
      ∃ fd : FuncData, (∀ (s : Shared) (u : Value), BindsTo s fd ⟨[u], []⟩ [(x, u)]) ∧
        ∀ base : Heap, (K w.params).In base → base.Ns mainGlobals mg → FnOk l.prog w (K w.params) mg base (CX w) k fa fd [x] (sp w))
    (hsp : ∀ (w : World) (H : Hp) (a : Addr) (ns : List Int), ns.length ≤ n → Only H → SqL (K w.params) H a (ns.map V.int) → sp w [.ref a] H (fun v _ => v = .bl true) fun _ _ _ => False)
    (hCX : ∀ (w : World) (H : Hp) (s : Shared) (e : Value) (s' : Shared), CX w [] H s (fun _ _ _ => False) e s' → False) :
    PySem.W.WalkO q loose XP YP l.row.toRowW d [] (fun f vs => PySem.call f vs) := by
  refine Att.attach_call hn hdf fun w s₀ s₁ mg mb fa o pm cd doc a vs ns G Y ho hd hcd hmg hobj hints hlen hg => ?_
  have KX := hY w _ Y
  obtain ⟨fd, hb, hF⟩ := F w mg fa _ KX G.T.g hmg
  exact law_call KX G.T.g G.T.b G.T.builtins G.T.nolimit hg hobj hints (Nat.le_trans hlen hn2) hr hF hb (fun H hO hS => hsp w H a ns hlen hO hS) fun H e s' => hCX w H s₁ e s'
theorem walk_ofK {l : PySem.W.OpenLaw} {n k : Nat} {q : Program} {loose : List Str} {XP : (Str → Option Value) → Heap → Prop} {YP : World → Heap → Prop} {d : DefRec} {K : Params → PySem.W.Frag} {CX : CXT} {sp : PySem.W.Frag → Sp} {x : Str}
    (hn : l.most = some n) (hn2 : n ≤ sizeLine) (hdf : d.params.defaults = []) (hr : Room k callerA)
    (hY : ∀ (w : World) (h : Heap), YP w h → (K w.params).In h)
    (F : ∀ (w : World) (mg : Str → Option Value) (fa : Addr) (h : Heap), (K w.params).In h → h.Ns mainGlobals mg → mg d.name = some (.ref fa) →
      ∃ fd : FuncData, (∀ (s : Shared) (u : Value), BindsTo s fd ⟨[u], []⟩ [(x, u)]) ∧
        ∀ base : Heap, (K w.params).In base → base.Ns mainGlobals mg → FnOk l.prog w (K w.params) mg base CX k fa fd [x] (sp (K w.params)))
    (hsp : ∀ (K : PySem.W.Frag) (H : Hp) (a : Addr) (ns : List Int), ns.length ≤ n → Only H → SqL K H a (ns.map V.int) → sp K [.ref a] H (fun v _ => v = .bl true) fun _ _ _ => False)
    (hCX : ∀ (H : Hp) (s : Shared) (e : Value) (s' : Shared), CX [] H s (fun _ _ _ => False) e s' → False) :
    PySem.W.WalkO q loose XP YP l.row.toRowW d [] (fun f vs => PySem.call f vs) :=
  walk_of (K := K) (CX := fun _ => CX) (sp := fun w => sp (K w.params)) hn hn2 hdf hr hY F (fun w H a ns h1 h2 h3 => hsp (K w.params) H a ns h1 h2 h3) fun _ H s e s' => hCX H s e s'
end L2
namespace L2
open PySem PySem.Spec PyProof.Rows
def inClass (s : Stmt) (j : Nat) : Stmt := match s with
  | .ClassDef _ _ _ body _ _ _ _ _ _ _ => body.getD j (.Pass ⟨0, 0, 0, 0⟩)
  | _ => .Pass ⟨0, 0, 0, 0⟩
def defArgs (s : Stmt) : Arguments := match s with
  | .FunctionDef _ a _ _ _ _ _ _ _ _ => a
  | _ => { posonlyargs := [], args := [], vararg := none, kwonlyargs := [], kw_defaults := [], kwarg := none, defaults := [] }
def defBody (s : Stmt) : List Stmt := match s with
  | .FunctionDef _ _ b _ _ _ _ _ _ _ => b
  | _ => []
def defScope (s : Stmt) : Scope := match s with
  | .FunctionDef _ _ _ _ _ _ sc _ _ _ => sc
  | _ => { kind := .function, names := [], isGenerator := false, isCoroutine := false }
abbrev CX0 : CXT := fun _ _ _ _ _ _ => False
abbrev E0 : XK := fun _ _ _ => False
theorem pass0 {X : Cx} : Passes CX0 X E0 := fun _ _ _ _ _ _ _ h => h.elim
structure Fun (K : PySem.W.Frag) (x qual : Str) (st : Stmt) (f : Addr) (fd : FuncData) : Prop where
  ex : ∃ (oc : Value) (od : Option Addr) (kV doc pm : Value) (an : Option Addr) (cdv ct : Value) (osl : Array (Option Value)),
    fd = PySem.W.fnOf x qual (defArgs st) (defBody st) (defScope st) .none kV doc pm an cdv ct ∧ K.lookup f = some ⟨oc, od, .func fd, osl⟩ ∧ PySem.W.codeIn K cdv qual = true
  kp : PySem.W.keepIn K (.ref f) = true
section
variable {P : Program} {w : World} {K : PySem.W.Frag} {mg : Str → Option Value} {base : Heap}
theorem Fun.ok {x qual : Str} {st : Stmt} {f : Addr} {fd : FuncData} {N ps : List Str} {k : Nat} {sp : Sp} (F : Fun K x qual st f fd) (S : FnScope N ps (defScope st)) (len : ∀ vs H Q E, sp vs H Q E → vs.length = ps.length)
    (hbody : ∀ (cdv : Value) (A : Around) (outer : List Env) (s : Shared) (H : Hp) (vs : List V) (Q : VK) (E : XK), Room k (A.deeper (envOfC qual (defScope st) s.heap.objs.size f cdv)) → sp vs H Q E →
      ∃ t, PSs (cxOf CX0 P w K mg base N qual (defScope st) f cdv A outer s H E).nox (defBody st) t ∧ t { nx := fun _ H' => Q .non H', rt := Q } (start N vs) H) : FnOk P w K mg base CX0 (k + 1) f fd ps sp := by
  obtain ⟨oc, od, kV, doc, pm, an, cdv, ct, osl, rfl, lk, hcd⟩ := F.ex
  refine fn_of lk hcd S len fun A outer s H vs Q E hr hsp => ?_
  obtain ⟨t, h, q⟩ := hbody cdv A outer s H vs Q E hr hsp
  exact ⟨t, h.nox, q⟩
theorem Fun.binds {x qual : Str} {st : Stmt} {f : Addr} {fd : FuncData} {ps : List Str} (F : Fun K x qual st f fd)
    (h : ∀ (kV doc pm : Value) (an : Option Addr) (cdv ct : Value) (us : List Value), us.length = ps.length → bindArgs (PySem.W.fnOf x qual (defArgs st) (defBody st) (defScope st) .none kV doc pm an cdv ct) ⟨us, []⟩ = pure (ps.zip us)) : Binds K fd ps [] := by
  obtain ⟨oc, od, kV, doc, pm, an, cdv, ct, osl, rfl, lk, hcd⟩ := F.ex
  exact .all (h kV doc pm an cdv ct)
theorem fun_mk {x qual : Str} {st : Stmt} {f : Addr} {oc : Value} {od an : Option Addr} {osl : Array (Option Value)} {kV doc pm cdv ct : Value} (l : K.lookup f = some ⟨oc, od, .func (PySem.W.fnOf x qual (defArgs st) (defBody st) (defScope st) .none kV doc pm an cdv ct), osl⟩)
    (c : PySem.W.codeIn K cdv qual = true) (k : PySem.W.keepIn K (.ref f) = true) : Fun K x qual st f (PySem.W.fnOf x qual (defArgs st) (defBody st) (defScope st) .none kV doc pm an cdv ct) := ⟨⟨oc, od, kV, doc, pm, an, cdv, ct, osl, rfl, l, c⟩, k⟩
end
theorem hu_of {A : Around} {k : Nat} (hr : Room k A) : A.units + 1 < cLine := Nat.lt_of_le_of_lt (Nat.add_le_add_left (by decide : 1 ≤ 64) _) hr.units
section
variable {X : Cx}
theorem pv (i : Nat) {x : Str} {pos : Pos} (hN : X.N[i]? = some x := by rfl) (hv : Vis X.env.scope x := by first | exact Or.inl rfl | exact Or.inr (Or.inl rfl) | exact Or.inr (Or.inr rfl)) (hd : (x == ("__debug__" : Str)) = false := by decide)
    (hcd : (x == ("__classdict__" : Str)) = false := by decide) : PE X (.Name x pos) (tVar i) := pe_var hN hv hd hcd
end
theorem ite2 {c A B : Prop} [Decidable c] (h1 : c → A) (h2 : ¬ c → B) : if c then A else B := by
  by_cases h : c
  · rw [if_pos h]
    exact h1 h
  · rw [if_neg h]
    exact h2 h
def Same (H H' : Hp) : Prop := ∀ b o, H b = some o → H' b = some o
theorem Same.refl (H : Hp) : Same H H := fun _ _ h => h
theorem Same.trans {H H1 H2 : Hp} (a : Same H H1) (b : Same H1 H2) : Same H H2 := fun c o h => b c o (a c o h)
theorem Same.free {H H' : Hp} (e : Same H H') {l : Addr} (h : H' l = Option.none) : H l = Option.none := by
  cases q : H l with
  | none => rfl
  | some o =>
    rw [e l o q] at h
    cases h
theorem Same.seq {K : PySem.W.Frag} {H H' : Hp} {a : Addr} {xs : List V} (e : Same H H') (h : SqL K H a xs) : SqL K H' a xs := by
  rcases h with (h | ⟨o, h⟩) | h
  · exact .inl (.inl (e _ _ h))
  · exact .inl (.inr ⟨o, e _ _ h⟩)
  · exact .inr h
section
variable {X : Cx}
theorem call_lenD : CallR X (.builtin "len") (fun xs H Q => ∃ a kvs, xs = [V.ref a] ∧ H a = some (.dK kvs) ∧ Q (.int kvs.length) H) := by
  intro pins s σ H xs us Q I r h
  obtain ⟨a, kvs, rfl, ha, q⟩ := h
  obtain ⟨u, rfl, ru⟩ := vals1 r
  cases ru
  exact d_len I (.inl ha) fun t s' I' => ⟨.int kvs.length, H, I', ⟨t, rfl⟩, q⟩
end
section
variable {κ : Type} [DecidableEq κ]
end
end L2
namespace Tx
open PySem PySem.Builtin PySem.Builtin.Str PySem.StrLaws PyProof.Rows
abbrev mk (l : List Nat) : Str := ⟨l.toArray⟩
theorem mk_eta (x : Str) : mk x.cps.toList = x := by obtain ⟨⟨l⟩⟩ := x; rfl
theorem mk_len (l : List Nat) : (mk l).length = l.length := by show l.toArray.size = _; simp
theorem mk_app (a b : List Nat) : mk a ++ mk b = mk (a ++ b) := by
  show (⟨a.toArray ++ b.toArray⟩ : Str) = _
  simp
theorem mk_inj {a b : List Nat} (h : mk a = mk b) : a = b := by simpa [mk] using h
theorem subAt_one (l : List Nat) (c i : Nat) : subAt (mk l) (mk [c]) i = decide (l[i]? = some c) := by
  rw [subAt_eq]
  show ((l.drop i).take 1 == [c]) = _
  cases e : l[i]? with
  | none =>
    have : l.drop i = [] := List.drop_eq_nil_of_le (by simpa using e)
    rw [this]; simp
  | some d =>
    have hi := (List.getElem?_eq_some_iff.mp e)
    obtain ⟨h1, h2⟩ := hi
    rw [List.drop_eq_getElem_cons h1, h2]
    show (d == c && true) = decide (some d = some c)
    by_cases z : d = c
    · subst z; simp
    · simp [z]
def idx (l : List Nat) (c : Nat) (is : List Nat) : List Nat := is.filter fun i => decide (l[i]? = some c)
theorem occ_run (l : List Nat) (c limit : Nat) : ∀ (is : List Nat) (st : Array Nat × Nat), is.Pairwise (· < ·) → (∀ i ∈ is, st.2 ≤ i) → st.1.size ≤ limit →
    (forIn is st (occBody (mk l) (mk [c]) (mk l).length limit)).run.1.toList = st.1.toList ++ (idx l c is).take (limit - st.1.size)
  | [], st, _, _, _ => by
    show st.1.toList = _
    simp [idx]
  | i :: is, st, hp, hf, hs => by
    have hp' := (List.pairwise_cons.mp hp)
    by_cases hc : ((st.fst.size < limit ∧ st.snd ≤ i) ∧ i + (mk [c]).length ≤ (mk l).length) ∧ subAt (mk l) (mk [c]) i = true
    · have hb : occBody (mk l) (mk [c]) (mk l).length limit i st = pure (ForInStep.yield (st.fst.push i, i + (mk [c]).length)) := if_pos hc
      have hd : decide (l[i]? = some c) = true := by rw [← subAt_one]; exact hc.2
      have ih := occ_run l c limit is (st.1.push i, i + (mk [c]).length) hp'.2 (fun j hj => by rw [mk_len]; exact hp'.1 j hj) (by simp; omega)
      rw [List.forIn_cons, hb]
      refine Eq.trans ih ?_
      unfold idx
      rw [List.filter_cons, if_pos hd]
      have e : limit - st.1.size = (limit - (st.1.push i).size) + 1 := by simp; omega
      rw [e, List.take_succ_cons]
      simp
    · have hb : occBody (mk l) (mk [c]) (mk l).length limit i st = pure (ForInStep.yield (st.fst, st.snd)) := if_neg hc
      have ih := occ_run l c limit is st hp'.2 (fun j hj => hf j (List.mem_cons_of_mem _ hj)) hs
      rw [List.forIn_cons, hb]
      refine Eq.trans ih ?_
      by_cases hd : decide (l[i]? = some c) = true
      · have hi : i < l.length := (List.getElem?_eq_some_iff.mp (by simpa using hd)).1
        have hsz : ¬ st.1.size < limit := fun z => hc ⟨⟨⟨z, hf i List.mem_cons_self⟩, by rw [mk_len, mk_len]; exact hi⟩, by rw [subAt_one]; exact hd⟩
        have e : limit - st.1.size = 0 := by omega
        rw [e]; simp
      · unfold idx
        rw [List.filter_cons, if_neg hd]
theorem range_lt (n : Nat) : (List.range' 0 n).Pairwise (· < ·) := by
  rw [← List.range_eq_range']; exact List.pairwise_lt_range
theorem occ_sign (l : List Nat) (c limit : Nat) : occurrences (mk l) (mk [c]) 0 (mk l).length limit = (idx l c (List.range (l.length + 1))).take limit := by
  rw [occ_eq, occ_run l c limit _ _ (range_lt _) (fun _ _ => Nat.zero_le _) (Nat.zero_le _)]
  rw [mk_len, List.range_eq_range']
  simp
theorem idx_no {l : List Nat} {c : Nat} (h : c ∉ l) (is : List Nat) : idx l c is = [] := by
  unfold idx
  rw [List.filter_eq_nil_iff]
  intro i _ z
  exact h (List.mem_of_getElem? (by simpa using z))
theorem idx_app {a b : List Nat} {c : Nat} (h : c ∉ a) : idx (a ++ c :: b) c (List.range ((a ++ c :: b).length + 1)) = a.length :: (idx b c (List.range (b.length + 1))).map (· + (a.length + 1)) := by
  have e : (a ++ c :: b).length + 1 = a.length + (1 + (b.length + 1)) := by simp; omega
  unfold idx
  rw [e, List.range_add, List.filter_append, List.filter_eq_nil_iff.mpr, List.nil_append]
  · have e2 : List.range (1 + (b.length + 1)) = 0 :: (List.range (b.length + 1)).map (· + 1) := by rw [Nat.add_comm 1, List.range_succ_eq_map]
    rw [e2, List.map_cons, List.map_map, List.filter_cons, if_pos (by simp), List.filter_map]
    congr 1
    have e3 : ((fun x => a.length + x) ∘ (fun x => x + 1)) = (fun x => x + (a.length + 1)) := by funext x; simp; omega
    rw [e3]
    congr 1
    refine List.filter_congr fun i _ => ?_
    simp only [Function.comp]
    rw [List.getElem?_append_right (by omega), show i + (a.length + 1) - a.length = i + 1 by omega, List.getElem?_cons_succ]
  · intro i hi z
    have hi' := List.mem_range.mp hi
    have z' : (a ++ c :: b)[i]? = some c := by simpa using z
    rw [List.getElem?_append_left hi'] at z'
    exact h (List.mem_of_getElem? z')
theorem sub_mk (l : List Nat) (i j : Nat) : strSub (mk l) i j = mk ((l.drop i).take (j - i)) := by
  rw [← mk_eta (strSub (mk l) i j), strSub_toList]
theorem sub_shift (p b : List Nat) (i j : Nat) : strSub (mk (p ++ b)) (i + p.length) (j + p.length) = strSub (mk b) i j := by
  rw [sub_mk, sub_mk, List.drop_append, List.drop_eq_nil_of_le (by omega), List.nil_append, show i + p.length - p.length = i by omega, show j + p.length - (i + p.length) = j - i by omega]
theorem parts_shift (p b : List Nat) (w : Nat) : ∀ (cuts : List Nat) (a : Nat), partsFrom (mk (p ++ b)) w (a + p.length) (cuts.map (· + p.length)) = partsFrom (mk b) w a cuts
  | [], a => by
    show [strSub (mk (p ++ b)) (a + p.length) (mk (p ++ b)).length] = [strSub (mk b) a (mk b).length]
    rw [mk_len, mk_len, List.length_append, Nat.add_comm p.length, sub_shift]
  | k :: ks, a => by
    show strSub (mk (p ++ b)) (a + p.length) (k + p.length) :: partsFrom (mk (p ++ b)) w (k + p.length + w) (ks.map (· + p.length)) = strSub (mk b) a k :: partsFrom (mk b) w (k + w) ks
    rw [sub_shift, show k + p.length + w = (k + w) + p.length by omega, parts_shift p b w ks]
def splitL (c : Nat) : List Nat → List (List Nat)
  | [] => [[]]
  | d :: r => if d = c then [] :: splitL c r else match splitL c r with
    | [] => [[d]]
    | p :: ps => (d :: p) :: ps
theorem splitL_no {c : Nat} : ∀ {l : List Nat}, c ∉ l → splitL c l = [l]
  | [], _ => rfl
  | d :: r, h => by
    have h1 : d ≠ c := fun e => h (by simp [e])
    have h2 : c ∉ r := fun e => h (List.mem_cons_of_mem _ e)
    unfold splitL
    rw [if_neg h1, splitL_no h2]
theorem splitL_at {c : Nat} {b : List Nat} : ∀ {a : List Nat}, c ∉ a → splitL c (a ++ c :: b) = a :: splitL c b
  | [], _ => by show (if c = c then _ else _) = _; rw [if_pos rfl]
  | d :: r, h => by
    have h1 : d ≠ c := fun e => h (by simp [e])
    have h2 : c ∉ r := fun e => h (List.mem_cons_of_mem _ e)
    show (if d = c then _ else _) = _
    rw [if_neg h1]
    show (match splitL c (r ++ c :: b) with | [] => [[d]] | p :: ps => (d :: p) :: ps) = _
    rw [splitL_at h2]
theorem cut_at {c : Nat} : ∀ {l : List Nat}, c ∈ l → ∃ a b, l = a ++ c :: b ∧ c ∉ a
  | d :: r, h => by
    by_cases e : d = c
    · exact ⟨[], r, by rw [e]; rfl, by simp⟩
    · obtain ⟨a, b, e1, h1⟩ := cut_at (l := r) (by
        rcases List.mem_cons.mp h with z | z
        · exact absurd z.symm e
        · exact z)
      exact ⟨d :: a, b, by rw [e1]; rfl, by simp [h1, Ne.symm e]⟩
theorem idx_parts (c : Nat) : ∀ (n : Nat) (l : List Nat), l.length ≤ n → partsFrom (mk l) 1 0 (idx l c (List.range (l.length + 1))) = (splitL c l).map mk := by
  intro n
  induction n with
  | zero =>
    intro l h
    have : l = [] := List.length_eq_zero_iff.mp (by omega)
    subst this
    rw [idx_no (by simp)]
    rfl
  | succ n ih =>
    intro l h
    by_cases hc : c ∈ l
    · obtain ⟨a, b, rfl, ha⟩ := cut_at hc
      rw [idx_app ha, splitL_at ha, List.map_cons]
      show strSub (mk (a ++ c :: b)) 0 a.length :: partsFrom (mk (a ++ c :: b)) 1 (a.length + 1) _ = _
      have e : a ++ c :: b = (a ++ [c]) ++ b := by simp
      have hl : (a ++ [c]).length = a.length + 1 := by simp
      rw [sub_mk]
      refine congr (congrArg List.cons (by simp)) ?_
      rw [e, ← hl]
      have := parts_shift (a ++ [c]) b 1 (idx b c (List.range (b.length + 1))) 0
      rw [Nat.zero_add] at this
      rw [this]
      exact ih b (by simp at h; omega)
    · rw [idx_no hc, splitL_no hc]
      show [strSub (mk l) 0 (mk l).length] = [mk l]
      rw [sub_whole]
theorem kind_small {c : Nat} (h : c < 256) (x : Str) : decide (PySem.Builtin.Str.strKind x < PySem.Builtin.Str.strKind (mk [c])) = false := by
  have e : PySem.Builtin.Str.strKind (mk [c]) = 1 := by
    unfold PySem.Builtin.Str.strKind
    rw [if_pos (by simp [h])]
  rw [e, decide_eq_false_iff_not]
  unfold PySem.Builtin.Str.strKind
  split
  · omega
  · split <;> omega
theorem split_sign {c : Nat} (h : c < 256) (l : List Nat) : Txt.split (mk l) (mk [c]) = (splitL c l).map mk := by
  unfold Txt.split
  rw [kind_small h, Bool.or_false, mk_len, mk_len]
  by_cases h0 : l.length < 1
  · have : l = [] := List.length_eq_zero_iff.mp (by omega)
    subst this
    rfl
  · rw [if_neg (by simp only [List.length_singleton, decide_eq_true_eq]; exact h0)]
    have e : occurrences (mk l) (mk [c]) 0 l.length (l.length + 1) = idx l c (List.range (l.length + 1)) := by
      have := occ_sign l c (l.length + 1)
      rw [mk_len] at this
      rw [this, List.take_of_length_le]
      unfold idx
      exact Nat.le_trans (List.length_filter_le _ _) (by simp)
    rw [e, partsBetween_eq]
    by_cases hc : c ∈ l
    · rw [if_neg, List.length_singleton]
      · exact idx_parts c l.length l (Nat.le_refl _)
      · obtain ⟨a, b, rfl, ha⟩ := cut_at hc
        rw [idx_app ha]; simp
    · rw [idx_no hc, splitL_no hc]; rfl
theorem part_no {c : Nat} {l : List Nat} (h : c ∉ l) : Txt.partition (mk l) (mk [c]) = (mk l, Str.empty, Str.empty) := by
  unfold Txt.partition
  rw [occ_sign, idx_no h]; rfl
theorem part_at {c : Nat} {a b : List Nat} (h : c ∉ a) : Txt.partition (mk (a ++ c :: b)) (mk [c]) = (mk a, mk [c], mk b) := by
  unfold Txt.partition
  rw [occ_sign, idx_app h]
  show (strSub (mk (a ++ c :: b)) 0 a.length, mk [c], strSub (mk (a ++ c :: b)) (a.length + 1) (mk (a ++ c :: b)).length) = _
  rw [sub_mk, sub_mk, mk_len]
  have e1 : List.drop (a.length + 1) (a ++ c :: b) = b := by
    rw [List.drop_append, List.drop_eq_nil_of_le (by omega), show a.length + 1 - a.length = 1 by omega]; rfl
  rw [e1]
  simp
  exact List.take_of_length_le (by omega)
theorem starts_one (c : Nat) (l : List Nat) : Txt.startswith (mk l) (mk [c]) = decide (l[0]? = some c) := by
  unfold Txt.startswith
  rw [subAt_one, mk_len, mk_len]
  cases l with
  | nil => rfl
  | cons d r => simp
theorem ends_one (c : Nat) (l : List Nat) : Txt.endswith (mk l) (mk [c]) = decide (l.getLast? = some c) := by
  unfold Txt.endswith
  rw [subAt_one, mk_len, mk_len, List.getLast?_eq_getElem?]
  cases l with
  | nil => rfl
  | cons d r => simp
theorem slice_from (l : List Nat) {i : Int} (h0 : 0 ≤ i) (h1 : i ≤ l.length) : Txt.slice (mk l) (some i) none = mk (l.drop i.toNat) := by
  have := slice_closes_fromL (x := mk l) (b := l.length) h0 (by rw [mk_len]; exact h1) (by rw [mk_len])
  have e := eq_of_beq this
  rw [e]
  simp
  rw [List.take_of_length_le]
  rw [List.length_drop]; omega
theorem slice_last (l : List Nat) (h : l ≠ []) : Txt.slice (mk l) none (some (-1)) = mk l.dropLast := by
  have hl : 0 < l.length := List.length_pos_iff.mpr h
  have := slice_closes_to_neg (x := mk l) (j := -1) (k := -1 + l.length) (by decide) (by rw [mk_len]; omega) (by rw [mk_len])
  have e := eq_of_beq this
  rw [e, List.dropLast_eq_take]
  simp
  congr 1; omega
theorem join_two (c a b : List Nat) : Txt.join (mk c) [mk a, mk b] = mk (a ++ c ++ b) := by
  show (⟨a.toArray ++ c.toArray ++ b.toArray⟩ : Str) = _
  simp
theorem in_one (c : Nat) (x : Str) : (!(occurrences x (mk [c]) 0 x.length 1).isEmpty) = decide (c ∈ x.cps.toList) := found_one x c
end Tx
namespace L2
open PySem PySem.Spec PyProof.Rows
abbrev NoE : Value → Shared → Prop := fun _ _ => False
section
variable {prog : Program} {w : World} {A : Around} {R : Result → Shared → Prop} {s : Shared}
theorem compLoop_any {elt target iter : Expr} {ifs : List Expr} {scope : Scope} {pos : Pos} {it acc : Value} {env : Env} (I : Nat → Shared → Prop)
    (turn : ∀ n s, I n s → wpAny (model prog w) A (pyNext it) (fun r s₁ => match r with
      | none => R (.ok .next) s₁
      | some v => wpAny (model prog w) A (letOwnedTupleGo target it v) (fun _ s₂ => wpAny (model prog w) A (assign target env v) (fun _ s₃ =>
          wpAny (model prog w) A (forIn ifs true fun c r => if r = true then do let ok ← isTrue c env (eval c env); pure (ForInStep.yield ok) else pure (ForInStep.yield r)) (fun ok s₄ =>
            if ok = true then wpAny (model prog w) A (eval elt env) (fun x s₅ => wpAny (model prog w) A (call (.builtin "list.append") [acc, x]) (fun _ s₆ => ∃ m, m < n ∧ I m s₆) NoE s₅) NoE s₄
            else ∃ m, m < n ∧ I m s₄) NoE s₃) NoE s₂) NoE s₁) NoE s)
    (n : Nat) (h : I n s) : codeAny (model prog w) A (.compLoop (.ListComp elt [⟨target, iter, ifs, 0⟩] scope pos) 0 it acc env) R s := by
  refine codeAny_loop rfl I (fun n s hI => ?_) n h
  show wpAny _ A ((compTurn (.ListComp elt [⟨target, iter, ifs, 0⟩] scope pos) 0 it acc env).onRaise (fun x => do noteFrame x env; theTreesLotGoes x)) _ _ s
  refine wpAny_noted ?_
  rw [compTurn_list]
  refine wpAny_noRaise ?_
  refine wpAny_bind (wpAny_standAt (wpAny_bind (wpAny_mono (turn n s hI) (fun r s₁ h₁ => ?_) fun _ _ h' => h')))
  cases r with
  | none => exact wpAny_pure h₁
  | some v =>
    refine wpAny_bind (wpAny_mono h₁ (fun _ s₂ h₂ => wpAny_bind (wpAny_mono h₂ (fun _ s₃ h₃ => wpAny_bind (wpAny_mono h₃ (fun ok s₄ h₄ => ?_) fun _ _ h' => h')) fun _ _ h' => h')) fun _ _ h' => h')
    cases ok with
    | false => exact wpAny_pure ⟨rfl, h₄⟩
    | true => exact wpAny_bind (wpAny_bind (wpAny_mono h₄ (fun x s₅ h₅ => wpAny_bind (wpAny_mono h₅ (fun _ s₆ h₆ => wpAny_pure (wpAny_pure ⟨rfl, h₆⟩)) fun _ _ h' => h')) fun _ _ h' => h'))
end
def clos (env : Env) : List (Str × NameKind) → List (Str × Addr) → List (Str × Addr)
  | [], cs => cs
  | (n, k) :: r, cs => clos env r (if (k == NameKind.free) = true then (n, (env.cells.lookup n).getD 0) :: cs else cs)
theorem closureFor_clos {scope : Scope} {env : Env} (h : ∀ y ∈ scope.names, y.2 = NameKind.free → ∃ c, env.cells.lookup y.1 = some c) : closureFor scope env = pure (clos env scope.names []) := by
  have all : ∀ (l : List (Str × NameKind)) (cs : List (Str × Addr)), (∀ y ∈ l, y.2 = NameKind.free → ∃ c, env.cells.lookup y.1 = some c) →
      (forIn l cs fun (x : Str × NameKind) (cs : List (Str × Addr)) => (if (x.2 == NameKind.free) = true then do let a ← cellOf env x.1; pure (ForInStep.yield ((x.1, a) :: cs)) else pure (ForInStep.yield cs) : Sem (ForInStep (List (Str × Addr))))) = pure (clos env l cs) := by
    intro l
    induction l with
    | nil => intro cs _; rfl
    | cons y l ih =>
      intro cs hy
      obtain ⟨n, k⟩ := y
      rw [List.forIn_cons]
      by_cases hk : (k == NameKind.free) = true
      · obtain ⟨c, hc⟩ := hy (n, k) List.mem_cons_self (by simpa using hk)
        have e1 : cellOf env n = pure c := by unfold cellOf; rw [hc]
        have e2 : clos env ((n, k) :: l) cs = clos env l ((n, c) :: cs) := by
          show clos env l (if (k == NameKind.free) = true then (n, (env.cells.lookup n).getD 0) :: cs else cs) = _
          rw [if_pos hk, hc]; rfl
        rw [e2, ← ih ((n, c) :: cs) fun z hz => hy z (List.mem_cons_of_mem _ hz)]
        simp only [hk, if_true, e1, pure_bind]
      · have e2 : clos env ((n, k) :: l) cs = clos env l cs := by
          show clos env l (if (k == NameKind.free) = true then (n, (env.cells.lookup n).getD 0) :: cs else cs) = _
          rw [if_neg hk]
        rw [e2, ← ih cs fun z hz => hy z (List.mem_cons_of_mem _ hz)]
        have hk' : (k == NameKind.free) = false := by simpa using hk
        simp only [hk', Bool.false_eq_true, if_false, pure_bind]
  have e := all scope.names [] h
  unfold closureFor
  first
    | (rw [show (pure (clos env scope.names []) : Sem (List (Str × Addr))) = (pure (clos env scope.names []) >>= fun cs => pure cs) from rfl, ← e]; rfl)
    | (simp only [bind_pure]; exact e)
    | (simpa using e)
theorem clos_look {env : Env} {x : Str} {c : Addr} : ∀ {l : List (Str × NameKind)} {cs : List (Str × Addr)}, (∀ y ∈ l, y.2 = NameKind.free → ∃ c, env.cells.lookup y.1 = some c) →
    (∀ y d, cs.lookup y = some d → env.cells.lookup y = some d) → (clos env l cs).lookup x = some c → env.cells.lookup x = some c
  | [], _, _, hc, h => hc x c h
  | (n, k) :: r, cs, hy, hc, h => by
    refine clos_look (l := r) (cs := if (k == NameKind.free) = true then (n, (env.cells.lookup n).getD 0) :: cs else cs) (fun z hz => hy z (List.mem_cons_of_mem _ hz)) (fun y d q => ?_) h
    by_cases hk : (k == NameKind.free) = true
    · rw [if_pos hk] at q
      obtain ⟨c', hc'⟩ := hy (n, k) List.mem_cons_self (by simpa using hk)
      rw [hc', List.lookup_cons] at q
      by_cases e : (y == n) = true
      · rw [e] at q
        have e' : y = n := by simpa using e
        rw [e', hc']; exact q
      · have e' : (y == n) = false := by simpa using e
        rw [e'] at q
        exact hc y d q
    · rw [if_neg hk] at q
      exact hc y d q
theorem clos_has {env : Env} {x : Str} : ∀ {l : List (Str × NameKind)} {cs : List (Str × Addr)}, ((x, NameKind.free) ∈ l ∨ ∃ c, cs.lookup x = some c) → ∃ c, (clos env l cs).lookup x = some c
  | [], _, h => by
    rcases h with h | h
    · cases h
    · exact h
  | (n, k) :: r, cs, h => by
    refine clos_has (l := r) (cs := if (k == NameKind.free) = true then (n, (env.cells.lookup n).getD 0) :: cs else cs) ?_
    rcases h with h | ⟨c, h⟩
    · rcases List.mem_cons.mp h with e | e
      · cases e
        refine .inr ?_
        rw [if_pos (by rfl), List.lookup_cons, beq_self_eq_true]
        exact ⟨_, rfl⟩
      · exact .inl e
    · refine .inr ?_
      by_cases hk : (k == NameKind.free) = true
      · rw [if_pos hk, List.lookup_cons]
        by_cases e : (x == n) = true
        · rw [e]; exact ⟨_, rfl⟩
        · have e' : (x == n) = false := by simpa using e
          rw [e']; exact ⟨c, h⟩
      · rw [if_neg hk]; exact ⟨c, h⟩
theorem lookup_relabel_free {env : Env} : ∀ {names : List (Str × NameKind)} {x : Str}, names.lookup x = some .free →
    (names.map fun (n, k) => if (k == NameKind.free && env.scope.kind == .function && env.kindOf n == some .cell) then (n, NameKind.cell) else (n, k)).lookup x = some .cell ∨
    (names.map fun (n, k) => if (k == NameKind.free && env.scope.kind == .function && env.kindOf n == some .cell) then (n, NameKind.cell) else (n, k)).lookup x = some .free
  | [], _, h => by simp at h
  | (n, k) :: r, x, h => by
    have ih := @lookup_relabel_free env r x
    rw [List.map_cons]
    show List.lookup x ((if (k == NameKind.free && env.scope.kind == .function && env.kindOf n == some .cell) = true then (n, NameKind.cell) else (n, k)) :: _) = _ ∨ List.lookup x ((if (k == NameKind.free && env.scope.kind == .function && env.kindOf n == some .cell) = true then (n, NameKind.cell) else (n, k)) :: _) = _
    cases hx : x == n with
    | true =>
      simp only [List.lookup_cons, hx] at h
      cases h
      by_cases hc : (NameKind.free == NameKind.free && env.scope.kind == .function && env.kindOf n == some .cell) = true
      · rw [if_pos hc]; exact .inl (by simp only [List.lookup_cons, hx])
      · rw [if_neg hc]; exact .inr (by simp only [List.lookup_cons, hx])
    | false =>
      simp only [List.lookup_cons, hx] at h
      by_cases hc : (k == NameKind.free && env.scope.kind == .function && env.kindOf n == some .cell) = true
      · rw [if_pos hc]; simp only [List.lookup_cons, hx]; exact ih h
      · rw [if_neg hc]; simp only [List.lookup_cons, hx]; exact ih h
theorem relabel_cf {env : Env} : ∀ {names : List (Str × NameKind)} {x : Str}, (∀ y ∈ names, y.2 ≠ NameKind.cell) →
    ((names.map fun (n, k) => if (k == NameKind.free && env.scope.kind == .function && env.kindOf n == some .cell) then (n, NameKind.cell) else (n, k)).lookup x = some .cell ∨
    (names.map fun (n, k) => if (k == NameKind.free && env.scope.kind == .function && env.kindOf n == some .cell) then (n, NameKind.cell) else (n, k)).lookup x = some .free) → (x, NameKind.free) ∈ names
  | [], _, _, h => by rcases h with h | h <;> simp at h
  | (n, k) :: r, x, hn, h => by
    have ih := @relabel_cf env r x fun y hy => hn y (List.mem_cons_of_mem _ hy)
    have hk := hn (n, k) List.mem_cons_self
    rw [List.map_cons] at h
    by_cases hc : (k == NameKind.free && env.scope.kind == .function && env.kindOf n == some .cell) = true
    · have hk1 : k = NameKind.free := by
        rw [Bool.and_eq_true, Bool.and_eq_true] at hc
        simpa using hc.1.1
      simp only [hc, if_true, List.lookup_cons] at h
      cases hx : x == n with
      | true => have e : x = n := by simpa using hx
                rw [e, hk1]; exact List.mem_cons_self
      | false => rw [hx] at h; exact List.mem_cons_of_mem _ (ih h)
    · have hc' : (k == NameKind.free && env.scope.kind == .function && env.kindOf n == some .cell) = false := by simpa using hc
      simp only [hc', Bool.false_eq_true, if_false, List.lookup_cons] at h
      cases hx : x == n with
      | true =>
        rw [hx] at h
        have e : x = n := by simpa using hx
        rcases h with h | h
        · exact absurd (Option.some.inj h) hk
        · rw [e, Option.some.inj h]; exact List.mem_cons_self
      | false => rw [hx] at h; exact List.mem_cons_of_mem _ (ih h)
def cxComp (X : Cx) (Nc : List Str) (scope : Scope) (cl : List (Str × Addr)) (C : Addr) (s : Shared) (H : Hp) (ex : List Addr) : Cx where
  prog := X.prog
  w := X.w
  K := X.K
  mg := X.mg
  base := X.base
  A := X.A
  N := Nc
  s₀ := s
  H₀ := H
  env := compEnvC scope cl C X.env
  outer := X.stack
  stack := X.stack
  ex := ex
  fn := fun _ => false
  calm := X.calm
  pn := []
  xe := NoE
def pickS (js : List (Option Nat)) (σ : St) : St := js.map fun o => match o with
  | none => none
  | some j => (σ[j]?).getD none
structure CompOk (X : Cx) (Nc : List Str) (js : List (Option Nat)) (scope : Scope) : Prop where
  kind : scope.kind = .function
  nocell : ∀ y ∈ scope.names, y.2 ≠ NameKind.cell
  names : ∀ y ∈ scope.names, y.2 = NameKind.local → scope.names.lookup y.1 = some NameKind.local
  free : ∀ y ∈ scope.names, y.2 = NameKind.free → X.env.kindOf y.1 = some NameKind.cell ∨ X.env.kindOf y.1 = some NameKind.free
  len : js.length = Nc.length
  map : ∀ (i : Nat) (y : Str) (j : Nat), Nc[i]? = some y → js[i]? = some (some j) → X.N[j]? = some y ∧ scope.names.lookup y = some NameKind.free
def compB (sc : Scope) (N Nc : List Str) (js : List (Option Nat)) (scope : Scope) : Bool :=
  scope.kind == .function && scope.names.all (fun y => y.2 != NameKind.cell) && scope.names.all (fun y => y.2 != NameKind.local || scope.names.lookup y.1 == some NameKind.local) &&
  scope.names.all (fun y => y.2 != NameKind.free || sc.names.lookup y.1 == some NameKind.cell || sc.names.lookup y.1 == some NameKind.free) && js.length == Nc.length &&
  (Nc.zip js).all (fun p => match p.2 with | none => true | some j => N[j]? == some p.1 && scope.names.lookup p.1 == some NameKind.free)
theorem compOk_of {X : Cx} {sc : Scope} {N Nc : List Str} {js : List (Option Nat)} {scope : Scope} (hsc : X.env.scope = sc) (hN : X.N = N) (h : compB sc N Nc js scope = true) : CompOk X Nc js scope := by
  unfold compB at h
  rw [Bool.and_eq_true, Bool.and_eq_true, Bool.and_eq_true, Bool.and_eq_true, Bool.and_eq_true] at h
  obtain ⟨⟨⟨⟨⟨h1, h2⟩, h3⟩, h4⟩, h5⟩, h6⟩ := h
  rw [List.all_eq_true] at h2 h3 h4 h6
  have h5' : js.length = Nc.length := by simpa using h5
  refine ⟨by simpa using h1, fun y hy => by simpa using h2 y hy, fun y hy e => ?_, fun y hy e => ?_, h5', fun i y j e1 e2 => ?_⟩
  · have q := h3 y hy
    rw [e] at q
    simpa using q
  · have q := h4 y hy
    rw [e] at q
    show X.env.scope.names.lookup y.1 = _ ∨ X.env.scope.names.lookup y.1 = _
    rw [hsc]
    simpa using q
  · have hm : (y, some j) ∈ Nc.zip js := by
      refine List.mem_of_getElem? (i := i) ?_
      rw [List.getElem?_zip_eq_some]
      exact ⟨e1, e2⟩
    have q := h6 _ hm
    simp only [Bool.and_eq_true, beq_iff_eq] at q
    rw [hN]
    exact q
def PTs (X : Cx) (ifs : List Expr) (t : TT) : Prop :=
  ∀ (pins : List (Addr × Obj)) (s : Shared) (σ : St) (H : Hp) (Q : Bool → Hp → Prop), Inv X pins σ H s → t σ H Q →
    wpAny (model X.prog X.w) X.A (forIn ifs true fun c r => if r = true then do let ok ← isTrue c X.env (eval c X.env); pure (ForInStep.yield ok) else pure (ForInStep.yield r)) (TP X pins σ Q) X.xe s
def tYes : TT := fun _ H Q => Q true H
theorem pts_nil {X : Cx} : PTs X [] tYes := fun pins s σ H Q I h => wpAny_tests_nil ⟨H, I, h⟩
theorem pts_one {X : Cx} {c : Expr} {t : TT} (hc : PT X c t) : PTs X [c] t := fun pins s σ H Q I h => wpAny_tests_one (hc pins s σ H Q I h)
def tComp (js : List (Option Nat)) (wi : TI) (g : TG) (tt : TT) (te : TE) : TE := fun σ H Q => wi σ H fun J H1 => ∀ D, H1 D = none → ∃ W : Nat → Nat → St → Hp → List V → Prop, (∃ m, W 0 m (pickS js σ) (upd H1 D (.lst [])) []) ∧
  ∀ i m σ' H' ys, W i m σ' H' ys → H' D = some (.lst ys) ∧ ((J.stop i H' ∧ Q (.ref D) H') ∨ (J.go i H' ∧ ys.length < sizeLine ∧ ∀ x H2, J.yld i H' x H2 → g x σ' H2 fun σ2 H3 => tt σ2 H3 fun b H4 =>
    if b = true then te σ2 H4 fun v H5 => H5 D = some (.lst ys) ∧ ∃ m', m' < m ∧ W (i + 1) m' σ2 (upd H5 D (.lst (ys ++ [v]))) (ys ++ [v]) else ∃ m', m' < m ∧ W (i + 1) m' σ2 H4 ys))
section
variable {X : Cx} {elt target iter : Expr} {ifs : List Expr} {scope : Scope} {pos : Pos} {Nc : List Str} {js : List (Option Nat)} {wi : TI} {g : TG} {tt : TT} {te : TE}
theorem comp_block {pins : List (Addr × Obj)} {σ : St} {H2 : Hp} {s₂ : Shared} {E : Value → Shared → Prop} {it : Addr} {fp : List Addr} {tn : Nat → Heap → Prop} {J : It} {Q : VK} {RR : Value → Addr → Result → Shared → Prop} (ok : CompOk X Nc js scope) (hc : X.calm = true)
    (hg : ∀ C cl s H ex, PG (cxComp X Nc scope cl C s H ex) target g) (ht : ∀ C cl s H ex, PTs (cxComp X Nc scope cl C s H ex) ifs tt) (he : ∀ C cl s H ex, PE (cxComp X Nc scope cl C s H ex) elt te)
    (I2 : Inv X pins σ H2 s₂) (T : Turn X.prog X.w X.K target J fp it tn) (st2 : tn 0 s₂.heap) (f2 : ∀ b ∈ fp, FpOk X pins H2 b)
    (h : ∀ D, H2 D = none → ∃ W : Nat → Nat → St → Hp → List V → Prop, (∃ m, W 0 m (pickS js σ) (upd H2 D (.lst [])) []) ∧
      ∀ i m σ' H' ys, W i m σ' H' ys → H' D = some (.lst ys) ∧ ((J.stop i H' ∧ Q (.ref D) H') ∨ (J.go i H' ∧ ys.length < sizeLine ∧ ∀ x H2, J.yld i H' x H2 → g x σ' H2 fun σ2 H3 => tt σ2 H3 fun b H4 =>
        if b = true then te σ2 H4 fun v H5 => H5 D = some (.lst ys) ∧ ∃ m', m' < m ∧ W (i + 1) m' σ2 (upd H5 D (.lst (ys ++ [v]))) (ys ++ [v]) else ∃ m', m' < m ∧ W (i + 1) m' σ2 H4 ys)))
    (hRR : ∀ (D C : Addr) (s' : Shared) (H' : Hp) (m : Str → Option Value), Inv X pins σ H' s' → s'.heap.Ns C m → FpOk X pins H' C → Q (.ref D) H' → RR (.ref D) C (.ok .next) s') :
    wpAny (model X.prog X.w) X.A (newList []) (fun acc s₃ => wpAny (model X.prog X.w) X.A (newFunctionEnv scope X.env.globals (clos X.env scope.names []) [] X.env.qual none .none (some X.env)) (fun cenv s₄ =>
      codeAny (model X.prog X.w) X.A (.compStart (.ListComp elt [⟨target, iter, ifs, 0⟩] scope pos) 0 (.ref it) acc { cenv with scope := relabel scope X.env }) (RR acc cenv.locals) s₄) E s₃) E s₂ := by
  have hfr : ∀ y ∈ scope.names, y.2 = NameKind.free → ∃ c, X.env.cells.lookup y.1 = some c := fun y hy e => I2.ok.has y.1 (ok.free y hy e)
  refine wpAny_newObj_type (wpAny_newFunctionEnv ok.nocell (by intro y hy; simp at hy) (fun h₁ hns₁ hsb₁ => ?_) ok.kind)
  dsimp only at hns₁ hsb₁ ⊢
  generalize hHL : s₂.heap.push { cls := .type "list", dict := none, data := .seq ([] : List Value).toArray } = HL at hns₁ hsb₁ ⊢
  have hC : HL.objs.size = s₂.heap.objs.size + 1 := by rw [← hHL, Heap.size_push]
  have hCle : s₂.heap.objs.size ≤ HL.objs.size := by rw [hC]; exact Nat.le_succ _
  have hDC : s₂.heap.objs.size ≠ HL.objs.size := by rw [hC]; exact Nat.ne_of_lt (Nat.lt_succ_self _)
  have old : ∀ b o, s₂.heap.get? b = some o → h₁.get? b = some o := fun b o e => hsb₁.extBut b o (Nat.ne_of_lt (Nat.lt_of_lt_of_le (Heap.lt_size e) hCle)) (Heap.get?_push_of_some _ (hHL ▸ Heap.get?_push_of_some _ e))
  have hacc : h₁.get? s₂.heap.objs.size = some { cls := .type "list", dict := none, data := .seq ([] : List Value).toArray } := hsb₁.extBut _ _ hDC (Heap.get?_push_of_some _ (hHL ▸ Heap.get?_push_size _ rfl))
  have hD0 : H2 s₂.heap.objs.size = none := I2.hok.fresh (Nat.le_refl _)
  have hC0 : H2 HL.objs.size = none := I2.hok.fresh hCle
  obtain ⟨W, ⟨m0, w0⟩, turn⟩ := h _ hD0
  have hlook : ∀ x c, (clos X.env scope.names []).lookup x = some c → X.env.cells.lookup x = some c := fun x c e => clos_look hfr (fun y d q => by simp at q) e
  have hlt : ∀ b ∈ fp, b < s₂.heap.objs.size := fun b hb => let ⟨o, e, _⟩ := T.obj 0 _ st2 b hb; Heap.lt_size e
  have okc : (cxComp X Nc scope (clos X.env scope.names []) HL.objs.size s₂ H2 fp).Ok := by
    refine ⟨I2.ok.mod, by show scope.kind = _; exact ok.kind, I2.ok.glob, I2.ok.blt, hCle, fun x y c e1 e2 => I2.ok.inj x y c (hlook x c e1) (hlook y c e2), fun x hx => ?_, fun x c z _ => absurd z Bool.false_ne_true, I2.ok.hd, I2.ok.frames, .inl rfl, fun b hb => ⟨?_, fun x c e => (f2 b hb).2.2.2.2.1 x c (hlook x c e)⟩,
      I2.bs, Nat.le_trans I2.ok.bsz I2.sz, fun b o e hb => ?_, fun b hb z => ?_, I2.stack, I2.stkFree⟩
    · exact clos_has (.inl (relabel_cf ok.nocell hx))
    · exact Nat.ne_of_lt (Nat.lt_of_lt_of_le (hlt b hb) hCle)
    · rcases (f2 b hb).2.2.2.1 with z | z
      · exact I2.ok.noex b o e z
      · exact absurd (Nat.lt_of_lt_of_le (Heap.lt_size e) (Nat.le_trans I2.ok.bsz z)) (Nat.lt_irrefl _)
    · rcases List.mem_cons.mp (I2.stkSub b z) with e | e
      · exact (f2 b hb).2.1 e
      · exact (f2 b hb).2.2.1 e
  have fpc : ∀ {H' : Hp}, (∀ b ∈ fp, H' b = none) → ∀ b ∈ fp, FpOk (cxComp X Nc scope (clos X.env scope.names []) HL.objs.size s₂ H2 fp) [] H' b := fun {H'} hn b hb =>
    ⟨hn b hb, (okc.exf b hb).1, okc.exfs b hb, .inl hb, (okc.exf b hb).2, fun p hp => absurd (show p ∈ ([] : List (Addr × Obj)) from hp) (by simp)⟩
  have Ic : Inv (cxComp X Nc scope (clos X.env scope.names []) HL.objs.size s₂ H2 fp) [] (pickS js σ) (upd H2 s₂.heap.objs.size (.lst [])) { s₂ with heap := h₁, toks := s₂.toks + ([] : List (Str × Value)).length } := by
    refine ⟨okc, rfl, I2.bare, Un.laid old (Nat.le_refl _) hD0, ⟨_, hns₁, fun i x v e1 e2 e3 => ?_⟩, fun x c e => ?_, ?_, fun x c e => ?_, fun p hp => absurd (show p ∈ ([] : List (Addr × Obj)) from hp) (by simp), ?_, ?_⟩
    · have e1' : Nc[i]? = some x := e1
      unfold pickS at e2
      rw [List.getElem?_map] at e2
      cases ej : js[i]? with
      | none => rw [ej] at e2; simp at e2
      | some oj =>
        rw [ej] at e2
        cases oj with
        | none => simp at e2
        | some j =>
          have e2' : (σ[j]?).getD none = some v := by simpa using e2
          have e2'' : σ[j]? = some (some v) := by
            cases q : σ[j]? with
            | none => rw [q] at e2'; simp at e2'
            | some z => rw [q] at e2'; simp at e2'; rw [e2']
          obtain ⟨hN, hF⟩ := ok.map i x j e1' ej
          have hmem : (x, NameKind.free) ∈ scope.names := PySem.mem_of_lookup hF
          have hkX := ok.free _ hmem rfl
          obtain ⟨m, hn, hl⟩ := I2.loc
          have hvis : Vis X.env.scope x := by
            rcases hkX with z | z
            · exact .inr (.inl z)
            · exact .inr (.inr z)
          obtain ⟨u, ru, lk⟩ := hl j x v hN e2'' hvis
          refine ⟨u, ru, .inr ?_⟩
          rcases lk with ⟨k1, _⟩ | ⟨_, c, ec, ic⟩
          · have k1' : X.env.kindOf x = some NameKind.local := k1
            rcases hkX with z | z
            · rw [z] at k1'; cases k1'
            · rw [z] at k1'; cases k1'
          · obtain ⟨c', hc'⟩ := clos_has (env := X.env) (l := scope.names) (cs := []) (x := x) (.inl hmem)
            have e' := hlook x c' hc'
            rw [ec] at e'
            cases e'
            exact ⟨lookup_relabel_free hF, c, hc', ic.keeps old⟩
    · obtain ⟨v, q⟩ := I2.cell x c (hlook x c e)
      exact ⟨v, q.keeps old⟩
    · show upd H2 s₂.heap.objs.size (.lst []) HL.objs.size = none
      rw [upd_ne (Ne.symm hDC)]; exact hC0
    · obtain ⟨v, q⟩ := I2.cell x c (hlook x c e)
      rw [upd_ne (Nat.ne_of_lt q.lt)]
      exact I2.freeC x c (hlook x c e)
    · exact I2.hok.laid old (Nat.le_refl _) ⟨Nat.zero_le _, [], _, .nil, hacc⟩
    · show (pickS js σ).length = Nc.length
      unfold pickS
      rw [List.length_map]; exact ok.len
  have back : ∀ {σ' : St} {H' : Hp} {s' : Shared}, Inv (cxComp X Nc scope (clos X.env scope.names []) HL.objs.size s₂ H2 fp) [] σ' H' s' → Inv X pins σ H' s' := fun {σ' H' s'} I4 =>
    I2.call' (ch := fp) I4.os I4.base I4.hok I4.bare fun b hb => ⟨(f2 b hb).2.2.2.1, (f2 b hb).2.1, (f2 b hb).2.2.2.2.1, (f2 b hb).2.2.2.2.2⟩
  have st1 : tn 0 h₁ := T.keep 0 _ _ st2 fun b _ o e => old b o e
  have loop : ∀ s₃ : Shared, s₃ = { s₂ with heap := h₁, toks := s₂.toks + ([] : List (Str × Value)).length } →
      codeAny (model X.prog X.w) X.A (.compLoop (.ListComp elt [⟨target, iter, ifs, 0⟩] scope pos) 0 (.ref it) (.ref s₂.heap.objs.size) (compEnvC scope (clos X.env scope.names []) HL.objs.size X.env))
        (RR (.ref s₂.heap.objs.size) HL.objs.size) s₃ := by
    rintro s₃ rfl
    refine compLoop_any (fun n s' => ∃ i σ' H' ys, Inv (cxComp X Nc scope (clos X.env scope.names []) HL.objs.size s₂ H2 fp) [] σ' H' s' ∧ tn i s'.heap ∧ (∀ b ∈ fp, H' b = none) ∧ W i n σ' H' ys) ?_ m0
      ⟨0, pickS js σ, _, [], Ic, st1, fun b hb => by rw [upd_ne (Nat.ne_of_lt (hlt b hb))]; exact (f2 b hb).1, w0⟩
    rintro n s3 ⟨i, σ3, H3, ys, I3, st3, fr3, w3⟩
    obtain ⟨hD3, tn3⟩ := turn i n σ3 H3 ys w3
    rcases tn3 with ⟨stop, q⟩ | ⟨go, hys, step⟩
    · refine thn (T.done (cxComp X Nc scope (clos X.env scope.names []) HL.objs.size s₂ H2 fp) rfl rfl rfl hc i [] s3 σ3 H3 NoE I3 (fpc fr3) st3 stop) fun r s4 ⟨hr, I4⟩ => ?_
      subst hr
      obtain ⟨m4, n4, _⟩ := I4.loc
      exact hRR _ _ s4 H3 m4 (back I4) n4 (I2.fpOk hCle I4.free) q
    · refine thn (T.item (cxComp X Nc scope (clos X.env scope.names []) HL.objs.size s₂ H2 fp) rfl rfl rfl hc i [] s3 σ3 H3 NoE I3 (fpc fr3) st3 go) fun r s4 ⟨u, hr, h4⟩ => ?_
      subst hr
      refine thn h4 fun _ s5 ⟨x, H5, I5, r5, y5, st5, fr5⟩ => ?_
      have I5' := I5.pinned (fpc fr5) (T.obj _ _ st5)
      have fin : ∀ {σ7 : St} {H7 : Hp} {s7 : Shared} {zs : List V} {m' : Nat}, Inv (cxComp X Nc scope (clos X.env scope.names []) HL.objs.size s₂ H2 fp) ([] ++ pinsAt fp s5.heap) σ7 H7 s7 → m' < n → W (i + 1) m' σ7 H7 zs →
          ∃ m, m < n ∧ ∃ i σ' H' ys, Inv (cxComp X Nc scope (clos X.env scope.names []) HL.objs.size s₂ H2 fp) [] σ' H' s7 ∧ tn i s7.heap ∧ (∀ b ∈ fp, H' b = none) ∧ W i m σ' H' ys := fun {σ7 H7 s7 zs m'} I7 hm w7 => by
        refine ⟨m', hm, i + 1, σ7, H7, zs, I7.unpinned, T.keep _ _ _ st5 fun b hb o e => (I7.pin (b, o) (List.mem_append_right _ (List.mem_append_right _ (mem_pinsAt hb e)))).1, fun b hb => ?_, w7⟩
        obtain ⟨o, e, d⟩ := T.obj _ _ st5 b hb
        exact (I7.pin (b, o) (List.mem_append_right _ (List.mem_append_right _ (mem_pinsAt hb e)))).2.1
      refine thn (hg _ _ _ _ _ _ s5 σ3 H5 x u _ I5' r5 (step x H5 y5)) fun _ s6 ⟨σ6, H6, I6, q6⟩ => ?_
      refine thn (ht _ _ _ _ _ _ s6 σ6 H6 _ I6 q6) fun b s7 ⟨H7, I7, q7⟩ => ?_
      cases b with
      | false =>
        obtain ⟨m', hm, w7⟩ := q7
        exact fin I7 hm w7
      | true =>
        refine thn (he _ _ _ _ _ _ s7 σ6 H7 _ I7 q7) fun v s8 ⟨y, H8, I8, r8, hD8, m', hm, w8⟩ => ?_
        refine thn (mt_append _ s8 σ6 H8 (.ref s₂.heap.objs.size) [y] (.ref s₂.heap.objs.size) [v] (fun _ H9 => H9 = upd H8 s₂.heap.objs.size (.lst (ys ++ [y]))) I8 rfl (.cons r8 .nil) ⟨_, ys, y, rfl, rfl, hD8, hys, rfl⟩) fun v9 s9 ⟨_, H9, I9, _, e9⟩ => ?_
        subst e9
        exact fin I9 hm w8
  exact codeAny_compStart_list (loop _ rfl) (T.self X.A 0 _ _ _ st1 (loop _ rfl))
theorem pe_comp (ok : CompOk X Nc js scope) (hc : X.calm = true) (hi : PI X target iter wi)
    (hg : ∀ C cl s H ex, PG (cxComp X Nc scope cl C s H ex) target g) (ht : ∀ C cl s H ex, PTs (cxComp X Nc scope cl C s H ex) ifs tt) (he : ∀ C cl s H ex, PE (cxComp X Nc scope cl C s H ex) elt te)
    (hs : ∀ x, foldedSetIterable iter X.env x = pure x := by intro _; rfl) : PE X (.ListComp elt [⟨target, iter, ifs, 0⟩] scope pos) (tComp js wi g tt te) := by
  intro pins s σ H Q I h
  have hfr : ∀ y ∈ scope.names, y.2 = NameKind.free → ∃ c, X.env.cells.lookup y.1 = some c := fun y hy e => I.ok.has y.1 (ok.free y hy e)
  rw [eval_ListComp]
  refine wpAny_comprehension_free (use := none) rfl hs (closureFor_clos hfr) ok.kind ok.names (thn (hi pins s σ H _ I h) fun v s1 h1 => thn h1 fun itv s2 h2 => ?_)
  obtain ⟨it, fp, tn, J, H2, e, I2, T, st2, f2, h⟩ := h2
  subst e
  refine comp_block (RR := fun acc C => compPost (model X.prog X.w) X.A X.xe none (EP X pins σ Q) acc C) (Q := Q) ok hc hg ht he I2 T st2 f2 h ?_
  intro D C s' H' m I' n' fC q
  refine ⟨m, n', fun h' sb => ⟨.ref D, H', ?_, rfl, q⟩⟩
  exact I'.turned (t' := s'.toks) (fun b o hb e => (sb.2 b hb).trans e) fC.1 fC.2.1 fC.2.2.2.1 fC.2.2.2.2.1 fC.2.2.2.2.2
theorem ps_setComp {i : Nat} {y : Str} {py spos : Pos} (ok : CompOk X Nc js scope) (hc : X.calm = true) (hi : PI X target iter wi)
    (hg : ∀ C cl s H ex, PG (cxComp X Nc scope cl C s H ex) target g) (ht : ∀ C cl s H ex, PTs (cxComp X Nc scope cl C s H ex) ifs tt) (he : ∀ C cl s H ex, PE (cxComp X Nc scope cl C s H ex) elt te)
    (hN : X.N.Nodup) (hy : X.N[i]? = some y) (hx : Loc X.env.scope y) (hsw : swapsWith (.ListComp elt [⟨target, iter, ifs, 0⟩] scope pos) (some (.Name y py)) spos.line X.env = pure true)
    (hs : ∀ x, foldedSetIterable iter X.env x = pure x := by intro _; rfl) (hf : X.fn y = true ∨ X.env.scope.names.lookup y = some .local := by first | exact .inl rfl | exact .inr rfl | assumption) :
    PS X (.Assign [.Name y py] (.ListComp elt [⟨target, iter, ifs, 0⟩] scope pos) spos) (fun D σ H => tComp js wi g tt te σ H fun v H' => D.nx (σ.set i (some v)) H') := by
  intro pins s σ H D I h
  have hfr : ∀ y ∈ scope.names, y.2 = NameKind.free → ∃ c, X.env.cells.lookup y.1 = some c := fun y hy e => I.ok.has y.1 (ok.free y hy e)
  rw [exec_Assign_Name_used _ _ _ _ hsw]
  refine wpAny_bind (wpAny_standAt (wpAny_bind ?_))
  show wpAny _ X.A (do let _ ← comprehension (.ListComp elt [⟨target, iter, ifs, 0⟩] scope pos) scope X.env _ (newList []) false (eval iter X.env) (some (assign (.Name y py) X.env))) _ _ s
  refine wpAny_bind (thn (wpAny_comprehension_free (use := some (assign (.Name y py) X.env)) (Q := fun _ s' => SP X pins D .next s') rfl hs (closureFor_clos hfr) ok.kind ok.names
    (thn (hi pins s σ H _ I h) fun v s1 h1 => thn h1 fun itv s2 h2 => ?_)) fun _ s' hq => wpAny_pure (wpAny_pure hq))
  obtain ⟨it, fp, tn, J, H2, e, I2, T, st2, f2, h⟩ := h2
  subst e
  refine comp_block (RR := fun acc C => compPost (model X.prog X.w) X.A X.xe (some (assign (.Name y py) X.env)) (fun _ s' => SP X pins D .next s') acc C) (Q := fun v H' => D.nx (σ.set i (some v)) H') ok hc hg ht he I2 T st2 f2 h ?_
  intro Da C s' H' m I' n' fC q
  show wpAny _ X.A (assign (.Name y py) X.env (.ref Da)) _ _ _
  refine wpAny_assign_Name (store_ok2 I' hN hy hx (show RelV (.ref Da) (.ref Da) from rfl) (fun s'' I'' hsb => ?_) hf)
  obtain ⟨a, sb, ha⟩ := hsb
  have hCa : C ≠ a := by
    rcases ha with e | e
    · rw [e]; exact fC.2.1
    · exact fun z => fC.2.2.2.2.1 y a e z.symm
  refine ⟨m, n'.sameBut sb hCa, fun h' sb' => ⟨σ.set i (some (.ref Da)), H', ?_, q⟩⟩
  exact I''.turned (t' := s''.toks) (fun b o hb e => (sb'.2 b hb).trans e) fC.1 fC.2.1 fC.2.2.2.1 fC.2.2.2.2.1 fC.2.2.2.2.2
end
section
variable {js : List (Option Nat)} {g : TG} {tt : TT} {te : TE} {σ : St} {H : Hp} {Q : VK}
def CompW (J : It) (js : List (Option Nat)) (g : TG) (tt : TT) (te : TE) (σ : St) (H : Hp) (Q : VK) : Prop :=
  ∀ D, H D = none → ∃ W : Nat → Nat → St → Hp → List V → Prop, (∃ m, W 0 m (pickS js σ) (upd H D (.lst [])) []) ∧
  ∀ i m σ' H' ys, W i m σ' H' ys → H' D = some (.lst ys) ∧ ((J.stop i H' ∧ Q (.ref D) H') ∨ (J.go i H' ∧ ys.length < sizeLine ∧ ∀ x H2, J.yld i H' x H2 → g x σ' H2 fun σ2 H3 => tt σ2 H3 fun b H4 =>
    if b = true then te σ2 H4 fun v H5 => H5 D = some (.lst ys) ∧ ∃ m', m' < m ∧ W (i + 1) m' σ2 (upd H5 D (.lst (ys ++ [v]))) (ys ++ [v]) else ∃ m', m' < m ∧ W (i + 1) m' σ2 H4 ys))
structure Src (J : It) (n : Nat) (f : Nat → V) (Ok : Hp → Prop) : Prop where
  go : ∀ i H, i < n → Ok H → J.go i H
  yld : ∀ i H x H', i < n → Ok H → J.yld i H x H' → H' = H ∧ x = f i
  stop : ∀ H, Ok H → J.stop n H
theorem src_list {K : PySem.W.Frag} {a : Addr} {xs : List V} : Src (Itl K a) xs.length (fun i => (xs[i]?).getD .non) (fun H => SqL K H a xs) :=
  ⟨fun i H hi h => ⟨xs, xs[i], h, by simp [hi]⟩, fun i H x H' hi h y => ⟨y.1, by rw [y.2 xs h]; rfl⟩, fun H h => ⟨xs, h, Nat.le_refl _⟩⟩
theorem src_tup {K : PySem.W.Frag} {a : Addr} {xs : List V} : Src (Itt K a) xs.length (fun i => (xs[i]?).getD .non) (fun H => SqT K H a xs) :=
  ⟨fun i H hi h => ⟨xs, xs[i], h, by simp [hi]⟩, fun i H x H' hi h y => ⟨y.1, by rw [y.2 xs h]; rfl⟩, fun H h => ⟨xs, h, Nat.le_refl _⟩⟩
theorem src_range {lo : Int} {n : Nat} : Src (Itr lo n) n (fun i => .int (lo + i)) (fun _ => True) :=
  ⟨fun i H hi _ => hi, fun i H x H' hi _ y => y, fun H _ => Nat.le_refl _⟩
theorem comp_by {J : It} {n : Nat} {f : Nat → V} {Ok : Hp → Prop} (S : Src J n f Ok) (hn : n ≤ sizeLine) (Pv : Addr → Nat → St → Hp → List V → Prop) (h0 : ∀ D, H D = none → Pv D 0 (pickS js σ) (upd H D (.lst [])) [])
    (hk : ∀ D i σ' H' ys, H D = none → i ≤ n → Pv D i σ' H' ys → Ok H' ∧ H' D = some (.lst ys) ∧ ys.length ≤ i)
    (hs : ∀ D i σ' H' ys (R : St → Hp → List V → Prop), H D = none → i < n → Pv D i σ' H' ys → (∀ a b c, Pv D (i + 1) a b c → R a b c) → g (f i) σ' H' fun σ2 H3 => tt σ2 H3 fun b H4 =>
      if b = true then te σ2 H4 fun v H5 => H5 D = some (.lst ys) ∧ R σ2 (upd H5 D (.lst (ys ++ [v]))) (ys ++ [v]) else R σ2 H4 ys)
    (hd : ∀ D σ' H' ys, H D = none → Pv D n σ' H' ys → Q (.ref D) H') : CompW J js g tt te σ H Q := by
  intro D hD
  refine ⟨fun i m σ' H' ys => m = n - i ∧ i ≤ n ∧ Pv D i σ' H' ys, ⟨n, by simp, Nat.zero_le _, h0 D hD⟩, ?_⟩
  rintro i m σ' H' ys ⟨rfl, hi, p⟩
  obtain ⟨q1, q2, q3⟩ := hk D i σ' H' ys hD hi p
  refine ⟨q2, ?_⟩
  by_cases hlt : i < n
  · refine .inr ⟨S.go i H' hlt q1, by omega, fun x H2 y => ?_⟩
    obtain ⟨rfl, rfl⟩ := S.yld i H' x H2 hlt q1 y
    exact hs D i σ' _ ys (fun σ2 H3 ys' => ∃ m', m' < n - i ∧ (m' = n - (i + 1) ∧ i + 1 ≤ n ∧ Pv D (i + 1) σ2 H3 ys')) hD hlt p fun a b c r => ⟨n - (i + 1), by omega, rfl, hlt, r⟩
  · have e : i = n := by omega
    subst e
    exact .inl ⟨S.stop H' q1, hd D σ' H' ys hD p⟩
end
end L2
namespace L2
open PySem PySem.Spec PyProof.Rows
def Itf (n : Nat) (f : Nat → V) : It := ⟨fun i _ => i < n, fun i H x H' => H' = H ∧ x = f i, fun i _ => i = n⟩
theorem src_f {n : Nat} {f : Nat → V} : Src (Itf n f) n f (fun _ => True) := ⟨fun _ _ hi _ => hi, fun _ _ _ _ _ _ y => y, fun _ _ => rfl⟩
theorem turn_of {P : Program} {w : World} {K : PySem.W.Frag} {tg : Expr} {it : Addr} {n : Nat} {Pv : Nat → Value → Prop} {St' : Nat → Heap → Prop} {f : Nat → V}
    (W : ∀ A : Around, A.handled = none → Walks P w A it [it] [it] n Pv St') (hP : ∀ i v, Pv i v → RelV (f i) v)
    (ho : ∀ i h, St' i h → ∃ o ty vs, h.get? it = some o ∧ o.cls = .type ty ∧ o.data = .fields vs ∧ ["enumerate", "zip", "dict_itemiterator", "dict_reverseitemiterator", "odict_iterator", "itertools.zip_longest", "itertools.pairwise"].contains ty = false)
    (hself : ∀ (A : Around) (i : Nat) (s : Shared) (Q : Value → Shared → Prop) (E : Value → Shared → Prop), St' i s.heap → Q (.ref it) s → wpAny (model P w) A (pyIter (.ref it)) Q E s) : Turn P w K tg (Itf n f) [it] it St' where
  mem := by simp
  obj := fun i h st b hb => by
    have e : b = it := by simpa using hb
    subst e
    obtain ⟨o, ty, vs, h1, h2, h3, _⟩ := ho i h st
    exact ⟨o, h1, fun v z => by rw [h3] at z; cases z⟩
  keep := fun i h h' st k => by
    exact (W { depth := 0, units := 0, frames := none, handled := none } rfl).frame i h h' st k
  item := by
    intro X hPr hw hK hc i pins s σ H E I hf st hg
    subst hPr hw hK
    obtain ⟨f0, f1, f2, f3, f4, f5⟩ := hf it (by simp)
    refine (W X.A (I.ok.hd hc)).item i s _ E hg st fun v h' tk pv st' kp => ?_
    have I1 : Inv X pins σ H { s with heap := h', toks := tk } := I.turned (t' := tk) (fun b o hb e => kp b o (by simpa using hb) e) f0 f1 f3 f4 f5
    obtain ⟨o, ty, vs, h1, h2, h3, h4⟩ := ho (i + 1) h' st'
    exact ⟨v, rfl, go_of (s := { s with heap := h', toks := tk }) h1 h2 h3 h4 ⟨f i, H, I1, hP i v pv, ⟨rfl, rfl⟩, st', fun b hb => (hf b hb).1⟩⟩
  done := by
    intro X hPr hw hK hc i pins s σ H E I hf st hg
    subst hPr hw hK
    obtain ⟨f0, f1, f2, f3, f4, f5⟩ := hf it (by simp)
    have hg' : i = n := hg
    subst hg'
    exact (W X.A (I.ok.hd hc)).done s _ E st fun h' tk kp => ⟨rfl, I.turned (t' := tk) (fun b o hb e => kp b o (by simpa using hb) e) f0 f1 f3 f4 f5⟩
  self := hself
def signV (z : Str) (i : Nat) : V := .str ⟨#[(z.cps[i]?).getD 0]⟩
section
variable {X : Cx} {tg : Expr}
def iStr (tl : TE) : TI := fun σ H R => tl σ H fun x H1 => ∃ z, x = .str z ∧ R (Itf z.cps.size (signV z)) H1
theorem sign_rel {z : Str} (i : Nat) (v : Value) (h : SignAt z i v) : RelV (signV z i) v := by
  obtain ⟨c, u, e, rfl⟩ := h
  exact ⟨u, by rw [e]; rfl⟩
theorem pi_str {l : Expr} {tl : TE} (hl : PE X l tl) : PI X tg l (iStr tl) := by
  intro pins s σ H R I h
  refine thn (hl pins s σ H _ I h) fun v s1 ⟨x, H1, I1, r1, q1⟩ => ?_
  obtain ⟨z, e, q⟩ := q1
  subst e
  obtain ⟨t, rfl⟩ := r1
  cases ha : z.cps.all (· < 128) with
  | false =>
    refine wpAny_pyIter_wide ha ?_
    refine ⟨s1.heap.objs.size, [s1.heap.objs.size], _, _, H1, rfl, I1.kept (t' := s1.toks) fun b o e => Heap.get?_push_of_some _ e,
      turn_of (fun A hA => Walks.strWide hA _ z t) sign_rel (fun i h ⟨o, h1, h2, h3⟩ => ⟨o, _, _, h1, h2, h3, by decide⟩) (fun A i s Q E st q => wpAny_pyIter_striter_wide st q), ⟨_, Heap.get?_push_size _ rfl, rfl, rfl⟩, fun b hb => ?_, q⟩
    have e : b = s1.heap.objs.size := by simpa using hb
    subst e
    exact I1.fpOk (Nat.le_refl _) (I1.hok.fresh (Nat.le_refl _))
  | true =>
    refine wpAny_pyIter_ascii ha ?_
    refine ⟨s1.heap.objs.size, [s1.heap.objs.size], _, _, H1, rfl, I1.kept (t' := s1.toks) fun b o e => Heap.get?_push_of_some _ e,
      turn_of (fun A hA => Walks.strAscii hA _ z t) sign_rel (fun i h ⟨o, h1, h2, h3⟩ => ⟨o, _, _, h1, h2, h3, by decide⟩) (fun A i s Q E st q => wpAny_pyIter_striter_ascii st q), ⟨_, Heap.get?_push_size _ rfl, rfl, rfl⟩, fun b hb => ?_, q⟩
    have e : b = s1.heap.objs.size := by simpa using hb
    subst e
    exact I1.fpOk (Nat.le_refl _) (I1.hok.fresh (Nat.le_refl _))
end
section
variable {X : Cx}
def clsV : V → Option Value
  | .ty n => some (.type n)
  | .ref a => some (.ref a)
  | _ => none
theorem clsV_rel {c : V} {u v : Value} (h : clsV c = some u) (r : RelV c v) : v = u := by
  cases c with
  | ty n => cases h; exact r
  | ref a => cases h; exact r
  | _ => cases h
def rIsi (K : PySem.W.Frag) : List V → Hp → VK → Prop := fun xs H Q => ∃ x c u t b, xs = [x, c] ∧ clsV c = some u ∧ TyOf K H x t ∧ PySem.W.kitOne K t u = some b ∧ Q (.bl b) H
theorem call_isinst : CallR X (.builtin "isinstance") (rIsi X.K) := by
  intro pins s σ H xs us Q I r h
  obtain ⟨x, c, u, t, b, rfl, hu, ty, e, q⟩ := h
  obtain ⟨v, u', rfl, rv, ru'⟩ := vals2 r
  cases clsV_rel hu ru'
  exact isinst_ok I rv ty e fun tk => ⟨.bl b, H, I.tok _, rfl, q⟩
theorem bools_at {bs : List Bool} {its : List Value} (r : Vals (bs.map V.bl) its) {i : Nat} {v : Value} (h : its[i]? = some v) : ∃ b, bs[i]? = some b ∧ v = .bool b := by
  have hi : i < its.length := (List.getElem?_eq_some_iff.mp h).1
  have hl := r.length
  rw [List.length_map] at hl
  have hb : bs[i]? = some bs[i] := List.getElem?_eq_getElem (by omega)
  obtain ⟨u, hu, ru⟩ := r.get (i := i) (x := V.bl bs[i]) (by rw [List.getElem?_map, hb]; rfl)
  rw [h] at hu; cases hu
  exact ⟨_, hb, ru⟩
theorem call_all_bools (hc : X.calm = true) : CallR X (.builtin "all") (fun xs H Q => ∃ (p : Addr) (bs : List Bool), xs = [.ref p] ∧ SqL X.K H p (bs.map V.bl) ∧ Q (.bl (bs.all id)) H) := by
  intro pins s σ H xs us Q I r h
  obtain ⟨p, bs, rfl, hq, q⟩ := h
  obtain ⟨u, rfl, ru⟩ := vals1 r
  cases ru
  obtain ⟨its, rv, pl, hz⟩ := I.list hq
  have hl := pl.isList
  have hlt : p < s.heap.objs.size := by obtain ⟨_, e, _⟩ := hl; exact Heap.lt_size e
  refine call_all_walk (wpAny_pyIter_list hl ?_)
  refine ⟨s.heap.objs.size, [s.heap.objs.size, p], [s.heap.objs.size], its.toArray.size, _, _, fun i => (bs[i]?).getD true, rfl, Walks.list (A := X.A.in1) (I.ok.hd hc) _ p (Nat.ne_of_lt hlt) its.toArray,
    ⟨⟨_, Heap.get?_push_size _ rfl, rfl, rfl⟩, hl.push _⟩, fun i v s' Q' E' hP hQ => ?_, fun h' tk hk => ?_⟩
  · obtain ⟨b, e, rfl⟩ := bools_at rv (i := i) (v := v) (by simpa using hP)
    simp only [e, Option.getD_some] at hQ
    exact wpAny_truthy_bool hQ
  · have e : ((List.range its.toArray.size).all fun i => (bs[i]?).getD true) = bs.all id := by
      have hb := rv.length
      rw [List.length_map] at hb
      rw [List.size_toArray, ← hb]; exact LSm.range_all bs
    rw [e]
    exact ⟨.bl (bs.all id), H, I.kept (t' := tk) (LSm.kept_iter hk), rfl, q⟩
def rSlS : V → Option Int → Option Int → Hp → VK → Prop := fun x lo hi H Q => ∃ z, x = .str z ∧ z.length ≤ sizeLine ∧ Q (.str (Txt.slice z lo hi)) H
theorem sl_str : SlR X rSlS := by
  intro pins s σ H x v vl vu lo hi sl Q I rx hs pl pu h
  obtain ⟨z, rfl, hz, q⟩ := h
  obtain ⟨t, rfl⟩ := rx
  obtain ⟨o, ho, hc, hd⟩ := hs
  refine ⟨"str", _, PySem.F.slot_str_getitem.lookup, typeIs_str _ _ _, ?_⟩
  have fin : ∀ (l u : Option Int) (t' : Tok) (k : Nat), Q (.str (Txt.slice z l u)) H → EP X pins σ Q (.str (Txt.slice z l u) t') { s with toks := k } := fun l u t' k q => ⟨.str _, H, I.tok _, ⟨_, rfl⟩, q⟩
  cases pl with
  | none =>
    cases pu with
    | none => exact wpAny_getItem_str_slice (l := none) (u := none) (st := none) ⟨o, ho, hc, hd⟩ rfl (post_val_or_str ⟨Nat.le_trans (Txt.slice_le z _ _) hz, fun t' k => fin _ _ t' k q⟩)
    | int j uj => exact wpAny_getItem_str_slice (l := none) (u := some (j, uj)) (st := none) ⟨o, ho, hc, hd⟩ rfl (post_val_or_str ⟨Nat.le_trans (Txt.slice_le z _ _) hz, fun t' k => fin _ _ t' k q⟩)
  | int i ui =>
    cases pu with
    | none => exact wpAny_getItem_str_slice (l := some (i, ui)) (u := none) (st := none) ⟨o, ho, hc, hd⟩ rfl (post_val_or_str ⟨Nat.le_trans (Txt.slice_le z _ _) hz, fun t' k => fin _ _ t' k q⟩)
    | int j uj => exact wpAny_getItem_str_slice (l := some (i, ui)) (u := some (j, uj)) (st := none) ⟨o, ho, hc, hd⟩ rfl (post_val_or_str ⟨Nat.le_trans (Txt.slice_le z _ _) hz, fun t' k => fin _ _ t' k q⟩)
theorem mt_startswith : MtR X "str.startswith" (fun x xs H Q => ∃ a b, x = .str a ∧ xs = [.str b] ∧ Q (.bl (Txt.startswith a b)) H) := by
  intro pins s σ H x xs v us Q I rx rs h
  obtain ⟨a, b, rfl, rfl, q⟩ := h
  obtain ⟨t, rfl⟩ := rx
  obtain ⟨u, rfl, t', rfl⟩ := vals1 rs
  exact SC.startswith ⟨.bl _, H, I, rfl, q⟩
theorem mt_endswith : MtR X "str.endswith" (fun x xs H Q => ∃ a b, x = .str a ∧ xs = [.str b] ∧ Q (.bl (Txt.endswith a b)) H) := by
  intro pins s σ H x xs v us Q I rx rs h
  obtain ⟨a, b, rfl, rfl, q⟩ := h
  obtain ⟨t, rfl⟩ := rx
  obtain ⟨u, rfl, t', rfl⟩ := vals1 rs
  exact SC.endswith ⟨.bl _, H, I, rfl, q⟩
end
end L2
namespace L2
open PySem PySem.Spec PyProof.Rows
theorem boot_lenT : bootBuiltins "len" = some (.builtin "len") := by decide +kernel
theorem boot_isinstanceT : bootBuiltins "isinstance" = some (.builtin "isinstance") := by decide +kernel
theorem boot_allT : bootBuiltins "all" = some (.builtin "all") := by decide +kernel
theorem boot_strT : bootBuiltins "str" = some (.type "str") := by decide +kernel
theorem boot_listT : bootBuiltins "list" = some (.type "list") := by decide +kernel
theorem boot_tupleT : bootBuiltins "tuple" = some (.type "tuple") := by decide +kernel
theorem boot_dictT : bootBuiltins "dict" = some (.type "dict") := by decide +kernel
section
variable {X : Cx}
def rAddS : R2 := fun x y H Q => ∃ i j, x = .str i ∧ y = .str j ∧ i.length + j.length ≤ sizeLine ∧ Q (.str (i ++ j)) H
def rAddI : R2 := rI0 fun i j => .int (i + j)
def rAddA (K : PySem.W.Frag) : R2 := fun x y H Q => rAddI x y H Q ∨ rAddS x y H Q ∨ rCat x y H Q ∨ rCatT K x y H Q
theorem op_addA : OpR X (binaryOp .Add) (rAddA X.K) := op_add.or (op_add_str.or (op_cat.or op_catT))
theorem rAddA_int {K : PySem.W.Frag} {i j : Int} {H : Hp} {Q : VK} : rAddA K (.int i) (.int j) H Q ↔ Q (.int (i + j)) H := by
  constructor
  · rintro (⟨a, b, e1, e2, q⟩ | ⟨a, b, e1, _⟩ | ⟨a, b, _, _, e1, _⟩ | ⟨a, b, _, _, e1, _⟩)
    · cases e1; cases e2; exact q
    · cases e1
    · cases e1
    · cases e1
  · exact fun q => .inl ⟨i, j, rfl, rfl, q⟩
theorem rAddA_str {K : PySem.W.Frag} {i j : Str} {H : Hp} {Q : VK} : rAddA K (.str i) (.str j) H Q ↔ (i.length + j.length ≤ sizeLine ∧ Q (.str (i ++ j)) H) := by
  constructor
  · rintro (⟨a, b, e1, _⟩ | ⟨a, b, e1, e2, q⟩ | ⟨a, b, _, _, e1, _⟩ | ⟨a, b, _, _, e1, _⟩)
    · cases e1
    · cases e1; cases e2; exact q
    · cases e1
    · cases e1
  · exact fun q => .inr (.inl ⟨i, j, rfl, rfl, q⟩)
theorem rEq_int {i j : Int} {H : Hp} {Q : VK} : rEq (.int i) (.int j) H Q ↔ Q (.bl (decide (i = j))) H := by
  unfold rEq
  have e : decide (V.int i = V.int j) = decide (i = j) := by
    by_cases h : i = j
    · subst h; simp
    · simp [h]
  rw [e]
  exact ⟨fun h => h.2, fun h => ⟨rfl, h⟩⟩
theorem rEq_str {i j : Str} {H : Hp} {Q : VK} : rEq (.str i) (.str j) H Q ↔ Q (.bl (decide (i = j))) H := by
  unfold rEq
  have e : decide (V.str i = V.str j) = decide (i = j) := by
    by_cases h : i = j
    · subst h; simp
    · simp [h]
  rw [e]
  exact ⟨fun h => h.2, fun h => ⟨rfl, h⟩⟩
def inS (c s : Str) : Bool := !(Builtin.Str.occurrences s c 0 s.length 1).isEmpty
def rInS : R2 := fun x y H Q => ∃ i j, x = .str i ∧ y = .str j ∧ Q (.bl (inS i j)) H
def rNotInS : R2 := fun x y H Q => ∃ i j, x = .str i ∧ y = .str j ∧ Q (.bl (!inS i j)) H
def rInA (K : PySem.W.Frag) : R2 := fun x y H Q => rInS x y H Q ∨ rIn K false x y H Q
def rNotInA (K : PySem.W.Frag) : R2 := fun x y H Q => rNotInS x y H Q ∨ rIn K true x y H Q
theorem op_inS : OpR X (compareOp .In) rInS := op_in_str
theorem op_notinS : OpR X (compareOp .NotIn) rNotInS := op_notin_str
theorem op_inA : OpR X (compareOp .In) (rInA X.K) := op_inS.or op_in_seq
theorem op_notinA : OpR X (compareOp .NotIn) (rNotInA X.K) := op_notinS.or op_notIn_seq
theorem rInA_str {K : PySem.W.Frag} {i j : Str} {H : Hp} {Q : VK} : rInA K (.str i) (.str j) H Q ↔ Q (.bl (inS i j)) H := by
  constructor
  · rintro (⟨a, b, e1, e2, q⟩ | ⟨a, b, e1, _⟩)
    · cases e1; cases e2; exact q
    · cases e1
  · exact fun q => .inl ⟨i, j, rfl, rfl, q⟩
def rLenA (K : PySem.W.Frag) : List V → Hp → VK → Prop := fun xs H Q => (∃ x n, xs = [x] ∧ LenV K x H n ∧ Q (.int n) H) ∨ ∃ a kvs, xs = [V.ref a] ∧ H a = some (.dK kvs) ∧ Q (.int kvs.length) H
theorem call_lenA : CallR X (.builtin "len") (rLenA X.K) := call_len.or call_lenD
theorem rLenA_str {K : PySem.W.Frag} {z : Str} {H : Hp} {Q : VK} : rLenA K [.str z] H Q ↔ (z.length ≤ sizeLine ∧ Q (.int z.length) H) := by
  constructor
  · rintro (⟨x, n, e1, e2, q⟩ | ⟨a, kvs, e1, _⟩)
    · cases e1
      obtain ⟨h1, rfl⟩ : z.length ≤ sizeLine ∧ n = z.length := e2
      exact ⟨h1, q⟩
    · cases e1
  · exact fun q => .inl ⟨.str z, z.length, rfl, ⟨q.1, rfl⟩, q.2⟩
theorem rLenA_lst {K : PySem.W.Frag} {a : Addr} {xs : List V} {H : Hp} {Q : VK} (h : SqL K H a xs) (q : Q (.int xs.length) H) : rLenA K [.ref a] H Q := .inl ⟨.ref a, xs.length, rfl, .inl ⟨xs, h, rfl⟩, q⟩
theorem rLenA_tup {K : PySem.W.Frag} {a : Addr} {xs : List V} {H : Hp} {Q : VK} (h : SqT K H a xs) (q : Q (.int xs.length) H) : rLenA K [.ref a] H Q := .inl ⟨.ref a, xs.length, rfl, .inr ⟨xs, h, rfl⟩, q⟩
def rSlA (K : PySem.W.Frag) : V → Option Int → Option Int → Hp → VK → Prop := fun x lo hi H Q => rSlS x lo hi H Q ∨ rSlL K x lo hi H Q ∨ rSlT K x lo hi H Q
theorem sl_any : SlR X (rSlA X.K) := sl_str.or (sl_list.or sl_tup)
theorem rSlA_str {K : PySem.W.Frag} {z : Str} {lo hi : Option Int} {H : Hp} {Q : VK} : rSlA K (.str z) lo hi H Q ↔ (z.length ≤ sizeLine ∧ Q (.str (Txt.slice z lo hi)) H) := by
  constructor
  · rintro (⟨x, e1, q⟩ | ⟨a, xs, e1, _⟩ | ⟨a, xs, e1, _⟩)
    · cases e1; exact q
    · cases e1
    · cases e1
  · exact fun q => .inl ⟨z, rfl, q⟩
theorem rIx_str {K : PySem.W.Frag} {z : Str} {i : Int} {H : Hp} {Q : VK} : rIx K (.str z) (.int i) H Q ↔ (z.length ≤ sizeLine ∧ ∃ c, atI z.cps.toList i = some c ∧ Q (.str ⟨#[c]⟩) H) := by
  constructor
  · rintro (⟨p, xs, j, v, e1, _⟩ | ⟨p, xs, j, v, e1, _⟩ | ⟨y, j, c, e1, e2, h1, h2, q⟩)
    · cases e1
    · cases e1
    · cases e1; cases e2; exact ⟨h1, c, h2, q⟩
  · rintro ⟨h1, c, h2, q⟩
    exact .inr (.inr ⟨z, i, c, rfl, rfl, h1, h2, q⟩)
theorem rIx_lst {K : PySem.W.Frag} {a : Addr} {xs : List V} {i : Int} {v : V} {H : Hp} {Q : VK} (h : SqL K H a xs) (e : atI xs i = some v) (q : Q v H) : rIx K (.ref a) (.int i) H Q := .inl ⟨a, xs, i, v, rfl, rfl, h, e, q⟩
theorem rIx_tup {K : PySem.W.Frag} {a : Addr} {xs : List V} {i : Int} {v : V} {H : Hp} {Q : VK} (h : SqT K H a xs) (e : atI xs i = some v) (q : Q v H) : rIx K (.ref a) (.int i) H Q := .inr (.inl ⟨a, xs, i, v, rfl, rfl, h, e, q⟩)
theorem rI_int {C : Int → Int → Prop} {g : Int → Int → V} {i j : Int} {H : Hp} {Q : VK} : rI C g (.int i) (.int j) H Q ↔ (C i j ∧ Q (g i j) H) := by
  constructor
  · rintro ⟨a, b, e1, e2, q⟩; cases e1; cases e2; exact q
  · exact fun q => ⟨i, j, rfl, rfl, q⟩
theorem rI0_int {g : Int → Int → V} {i j : Int} {H : Hp} {Q : VK} : rI0 g (.int i) (.int j) H Q ↔ Q (g i j) H := by
  constructor
  · rintro ⟨a, b, e1, e2, q⟩; cases e1; cases e2; exact q
  · exact fun q => ⟨i, j, rfl, rfl, q⟩
theorem rU_int {g : Int → V} {i : Int} {H : Hp} {Q : VK} : rU g (.int i) H Q ↔ Q (g i) H := by
  constructor
  · rintro ⟨a, e1, q⟩; cases e1; exact q
  · exact fun q => ⟨i, rfl, q⟩
theorem exBl {k : Bool} {P : Bool → Prop} : (∃ c, V.bl k = V.bl c ∧ P c) ↔ P k := by
  constructor
  · rintro ⟨c, e, q⟩; cases e; exact q
  · exact fun q => ⟨k, rfl, q⟩
theorem exInt {k : Int} {P : Int → Prop} : (∃ c, V.int k = V.int c ∧ P c) ↔ P k := by
  constructor
  · rintro ⟨c, e, q⟩; cases e; exact q
  · exact fun q => ⟨k, rfl, q⟩
theorem exStr {k : Str} {P : Str → Prop} : (∃ c, V.str k = V.str c ∧ P c) ↔ P k := by
  constructor
  · rintro ⟨c, e, q⟩; cases e; exact q
  · exact fun q => ⟨k, rfl, q⟩
theorem exSlot {v : V} {P : V → Prop} : (∃ x, some (some v) = some (some x) ∧ P x) ↔ P v := by
  constructor
  · rintro ⟨c, e, q⟩; cases e; exact q
  · exact fun q => ⟨v, rfl, q⟩
end
theorem Same.upd {H : Hp} {a : Addr} {o : HO} (h : H a = none) : Same H (upd H a o) := fun b u e => by rw [upd_ne (ne_of_none e h)]; exact e
theorem Same.up {H H' : Hp} {a : Addr} {o : HO} (s : Same H H') (h : H' a = none) : Same H (L2.upd H' a o) := s.trans (Same.upd h)
theorem Same.tup {K : PySem.W.Frag} {H H' : Hp} {a : Addr} {xs : List V} (e : Same H H') (h : SqT K H a xs) : SqT K H' a xs := by
  rcases h with (h | ⟨o, h⟩) | h
  · exact .inl (.inl (e _ _ h))
  · exact .inl (.inr ⟨o, e _ _ h⟩)
  · exact .inr h
theorem TyOf.same {K : PySem.W.Frag} {H H' : Hp} {x : V} {t : Value} (s : Same H H') (h : TyOf K H x t) : TyOf K H' x t := by
  cases h with
  | non => exact .non
  | bl b => exact .bl b
  | int i => exact .int i
  | str z => exact .str z
  | flt z => exact .flt z
  | lst e => exact .lst (s _ _ e)
  | frz e => exact .frz (s _ _ e)
  | tup e => exact .tup (s _ _ e)
  | dK e => exact .dK (s _ _ e)
  | dT e => exact .dT (s _ _ e)
  | ins e cl ha hn htk hm => exact .ins (s _ _ e) cl ha hn htk hm
section
variable {X : Cx} {st : Stmt} {rest : List Stmt} {t u : TS}
def tMid (t u : TS) : TS := fun D σ H => ∃ M : St → Hp → Prop, t { D with nx := M } σ H ∧ ∀ σ' H', M σ' H' → u D σ' H'
theorem pss_mid (h1 : PS X st t) (h2 : PSs X rest u) : PSs X (st :: rest) (tMid t u) := by
  intro pins s σ H D I h
  obtain ⟨M, q1, q2⟩ := h
  refine wpAny_execs_cons (thn (h1 pins s σ H { D with nx := M } I q1) fun f s1 q => ?_)
  cases f with
  | next =>
    obtain ⟨σ', H', I', q⟩ := q
    exact h2 pins s1 σ' H' D I' (q2 σ' H' q)
  | ret v => exact q
  | brk => exact q
  | cont => exact q
end
theorem kit_str_str {K : PySem.W.Frag} : PySem.W.kitOne K (.type "str") (.type "str") = some true := by kernel_rfl
end L2
namespace L2
open PySem PySem.Spec PyProof.Rows
theorem exRef {k : Addr} {P : Addr → Prop} : (∃ c, V.ref k = V.ref c ∧ P c) ↔ P k := by
  constructor
  · rintro ⟨c, e, q⟩; cases e; exact q
  · exact fun q => ⟨k, rfl, q⟩
theorem rNe_int {i j : Int} {H : Hp} {Q : VK} : rNe (.int i) (.int j) H Q ↔ Q (.bl (!decide (i = j))) H := by
  unfold rNe
  have e : decide (V.int i = V.int j) = decide (i = j) := by
    by_cases h : i = j
    · subst h; simp
    · simp [h]
  rw [e]
  exact ⟨fun h => h.2, fun h => ⟨rfl, h⟩⟩
theorem rNe_str {i j : Str} {H : Hp} {Q : VK} : rNe (.str i) (.str j) H Q ↔ Q (.bl (!decide (i = j))) H := by
  unfold rNe
  have e : decide (V.str i = V.str j) = decide (i = j) := by
    by_cases h : i = j
    · subst h; simp
    · simp [h]
  rw [e]
  exact ⟨fun h => h.2, fun h => ⟨rfl, h⟩⟩
theorem atI_in {α : Type} {xs : List α} {i : Int} (h0 : 0 ≤ i) (h1 : i < xs.length) : ∃ v, atI xs i = some v ∧ v ∈ xs ∧ xs[i.toNat]? = some v := by
  have hk : i.toNat < xs.length := by omega
  refine ⟨xs[i.toNat], ?_, List.getElem_mem hk, List.getElem?_eq_getElem hk⟩
  unfold atI ixN
  rw [if_pos h0, if_pos h1]
  exact List.getElem?_eq_getElem hk
theorem mod_lt' {i j : Int} (h : 0 < j) : 0 ≤ i % j ∧ i % j < j := ⟨Int.emod_nonneg _ (by omega), Int.emod_lt_of_pos _ h⟩
theorem ite_tt {A B : Prop} : (if true = true then A else B) = A := if_pos rfl
theorem ite_ft {A B : Prop} : (if false = true then A else B) = B := if_neg Bool.false_ne_true
theorem ite_tf {A B : Prop} : (if true = false then A else B) = B := if_neg (by decide)
theorem ite_ff {A B : Prop} : (if false = false then A else B) = A := if_pos rfl
theorem newO {H : Hp} {p : Addr} (hp : H p = none) (o : HO) : ∃ H', upd H p o = H' ∧ Same H H' ∧ H' p = some o := ⟨_, rfl, Same.upd hp, upd_same⟩
def ForW (J : It) (g : TG) (tb : TS) (D : Ends) (σ : St) (H : Hp) : Prop := ∃ W : Nat → Nat → St → Hp → Prop, (∃ m, W 0 m σ H) ∧ ∀ i m σ H, W i m σ H →
  (J.stop i H ∧ D.nx σ H) ∨ (J.go i H ∧ ∃ N : St → Hp → Prop, (∀ σ' H', N σ' H' → ∃ m', m' < m ∧ W (i + 1) m' σ' H') ∧ ∀ x H', J.yld i H x H' → g x σ H' fun σ2 H2 => tb { D with nx := N, ct := N, bk := D.nx } σ2 H2)
theorem tFor_eq {wi : TI} {g : TG} {tb : TS} {D : Ends} {σ : St} {H : Hp} : tFor wi g tb D σ H = wi σ H fun J H1 => ForW J g tb D σ H1 := rfl
theorem tComp_eq {js : List (Option Nat)} {wi : TI} {g : TG} {tt : TT} {te : TE} {σ : St} {H : Hp} {Q : VK} : tComp js wi g tt te σ H Q = wi σ H fun J H1 => CompW J js g tt te σ H1 Q := rfl
theorem comp_1 {J : It} {n : Nat} {f : Nat → V} {Ok : Hp → Prop} {js : List (Option Nat)} {te : TE} {σ : St} {H : Hp} {Q : VK} (S : Src J n f Ok) (hn : n ≤ sizeLine) (σr : St) (hσ : pickS js σ = none :: σr) (Pr : Nat → V → Prop)
    (hOk : ∀ H', Same H H' → Ok H') (hs : ∀ i H' (R : V → Hp → Prop), i < n → Same H H' → (∀ v H'', Same H' H'' → Pr i v → R v H'') → te (some (f i) :: σr) H' R)
    (hd : ∀ D H' ys, H D = none → Same H H' → H' D = some (.lst ys) → ys.length = n → (∀ i v, ys[i]? = some v → Pr i v) → Q (.ref D) H') : CompW J js (gName 0) tYes te σ H Q := by
  refine comp_by S hn (fun D i σ' H' ys => (∃ a, σ' = a :: σr) ∧ Same H H' ∧ H' D = some (.lst ys) ∧ ys.length = i ∧ ∀ j v, ys[j]? = some v → Pr j v) ?_ ?_ ?_ ?_
  · intro D hD
    exact ⟨⟨none, hσ⟩, Same.upd hD, upd_same, rfl, fun j v e => by simp at e⟩
  · rintro D i σ' H' ys hD hi ⟨_, s, h, hl, _⟩
    exact ⟨hOk _ s, h, Nat.le_of_eq hl⟩
  · rintro D i σ' H' ys R hD hi ⟨⟨a, rfl⟩, s, h, hl, hp⟩ hR
    show te (some (f i) :: σr) H' _
    refine hs i H' _ hi s fun v H'' s2 pv => ⟨s2 _ _ h, hR _ _ _ ⟨⟨_, rfl⟩, ?_, upd_same, by simp [hl], fun j v' e => ?_⟩⟩
    · intro b o e
      rw [upd_ne (ne_of_none e hD)]
      exact s2 b o (s b o e)
    · rw [List.getElem?_append] at e
      split at e
      · exact hp j v' e
      · rename_i hj
        have e1 : j = ys.length := by
          have := (List.getElem?_eq_some_iff.mp e).1
          simp at this; omega
        subst e1
        simp at e
        subst e
        rw [hl]; exact pv
  · rintro D σ' H' ys hD ⟨_, s, h, hl, hp⟩
    exact hd D H' ys hD s h hl hp
section
variable {K : PySem.W.Frag} {H : Hp} {Q : VK}
theorem rIsi_str_str {z : Str} : rIsi K [.str z, .ty "str"] H Q ↔ Q (.bl true) H := by
  constructor
  · rintro ⟨x, c, u, t, b, e1, hu, ty, e, q⟩
    cases e1; cases hu; cases ty
    rw [kit_str_str] at e; cases e; exact q
  · exact fun q => ⟨_, _, _, _, _, rfl, rfl, .str z, kit_str_str, q⟩
def NotStr (K : PySem.W.Frag) (H : Hp) (x : V) : Prop := ∃ t, TyOf K H x t ∧ PySem.W.kitOne K t (.type "str") = some false
theorem NotStr.same {H' : Hp} {x : V} (s : Same H H') (h : NotStr K H x) : NotStr K H' x := let ⟨t, a, b⟩ := h; ⟨t, a.same s, b⟩
end
end L2
namespace L2
open PySem PySem.Spec PyProof.Rows
theorem kit_tuple_tuple {K : PySem.W.Frag} : PySem.W.kitOne K (.type "tuple") (.type "tuple") = some true := by kernel_rfl
theorem kit_list_list {K : PySem.W.Frag} : PySem.W.kitOne K (.type "list") (.type "list") = some true := by kernel_rfl
section
variable {K : PySem.W.Frag} {H : Hp} {Q : VK}
def rStarts : V → List V → Hp → VK → Prop := fun x xs H Q => ∃ a b, x = .str a ∧ xs = [.str b] ∧ Q (.bl (Txt.startswith a b)) H
def rEnds : V → List V → Hp → VK → Prop := fun x xs H Q => ∃ a b, x = .str a ∧ xs = [.str b] ∧ Q (.bl (Txt.endswith a b)) H
def rSplit : V → List V → Hp → VK → Prop := fun x xs H Q => ∃ a b, x = .str a ∧ xs = [.str b] ∧ (b.length == 0) = false ∧ a.length + 2 ≤ sizeLine ∧ ∀ p, H p = none → Q (.ref p) (upd H p (.lst ((Txt.split a b).map V.str)))
def rPart : V → List V → Hp → VK → Prop := fun x xs H Q => ∃ a b, x = .str a ∧ xs = [.str b] ∧ (b.length == 0) = false ∧ a.length ≤ sizeLine ∧
  ∀ p, H p = none → Q (.ref p) (upd H p (.tup [.str (Txt.partition a b).1, .str (Txt.partition a b).2.1, .str (Txt.partition a b).2.2]))
def rJoin (K : PySem.W.Frag) : V → List V → Hp → VK → Prop := fun x xs H Q => ∃ z p ys, x = .str z ∧ xs = [.ref p] ∧ (SqL K H p (ys.map V.str) ∨ SqT K H p (ys.map V.str)) ∧ (ys.map (·.length)).sum + ys.length * z.length ≤ 16777216 ∧ Q (.str (Txt.join z ys)) H
theorem rStarts_at {a b : Str} : rStarts (.str a) [.str b] H Q ↔ Q (.bl (Txt.startswith a b)) H := ⟨by rintro ⟨_, _, e1, e2, q⟩; cases e1; cases e2; exact q, fun q => ⟨_, _, rfl, rfl, q⟩⟩
theorem rEnds_at {a b : Str} : rEnds (.str a) [.str b] H Q ↔ Q (.bl (Txt.endswith a b)) H := ⟨by rintro ⟨_, _, e1, e2, q⟩; cases e1; cases e2; exact q, fun q => ⟨_, _, rfl, rfl, q⟩⟩
theorem rSplit_at {a b : Str} : rSplit (.str a) [.str b] H Q ↔ ((b.length == 0) = false ∧ a.length + 2 ≤ sizeLine ∧ ∀ p, H p = none → Q (.ref p) (upd H p (.lst ((Txt.split a b).map V.str)))) :=
  ⟨by rintro ⟨_, _, e1, e2, q⟩; cases e1; cases e2; exact q, fun q => ⟨_, _, rfl, rfl, q⟩⟩
theorem rPart_at {a b : Str} : rPart (.str a) [.str b] H Q ↔ ((b.length == 0) = false ∧ a.length ≤ sizeLine ∧
    ∀ p, H p = none → Q (.ref p) (upd H p (.tup [.str (Txt.partition a b).1, .str (Txt.partition a b).2.1, .str (Txt.partition a b).2.2]))) := ⟨by rintro ⟨_, _, e1, e2, q⟩; cases e1; cases e2; exact q, fun q => ⟨_, _, rfl, rfl, q⟩⟩
theorem rJoin_of {z : Str} {p : Addr} {ys : List Str} (h : SqL K H p (ys.map V.str) ∨ SqT K H p (ys.map V.str)) (hl : (ys.map (·.length)).sum + ys.length * z.length ≤ 16777216) (q : Q (.str (Txt.join z ys)) H) : rJoin K (.str z) [.ref p] H Q := ⟨z, p, ys, rfl, rfl, h, hl, q⟩
theorem tyV_str {z : Str} {P : Prop} : (tyV K "str" (.str z) H ∧ P) ↔ P := ⟨fun h => h.2, fun h => ⟨rfl, h⟩⟩
def rTupOf (K : PySem.W.Frag) : List V → Hp → VK → Prop := fun xs H Q => ∃ p ys, xs = [.ref p] ∧ ((SqL K H p ys ∧ ∀ l, H l = none → Q (.ref l) (upd H l (.tup ys))) ∨ SqT K H p ys ∧ Q (.ref p) H)
def rListOf (K : PySem.W.Frag) : List V → Hp → VK → Prop := fun xs H Q => ∃ p ys, xs = [.ref p] ∧ (SqL K H p ys ∨ SqT K H p ys) ∧ ∀ l, H l = none → Q (.ref l) (upd H l (.lst ys))
end
def rIsN : R2 := fun x y H Q => y = .non ∧ Q (.bl (decide (x = .non))) H
section
variable {H : Hp} {Q : VK}
theorem rIsN_ref {a : Addr} : rIsN (.ref a) .non H Q ↔ Q (.bl false) H := ⟨fun h => h.2, fun h => ⟨rfl, h⟩⟩
end
mutual
inductive Den (K : PySem.W.Frag) (H : Hp) : V → PyData → Prop
  | non : Den K H .non .none
  | bl (b : Bool) : Den K H (.bl b) (.bool b)
  | int (i : Int) : Den K H (.int i) (.int i)
  | str (x : Str) : Den K H (.str x) (.str x)
  | lst {a : Addr} {xs : List V} {ds : List PyData} : SqL K H a xs → DenAll K H xs ds → Den K H (.ref a) (.list ds)
  | tup {a : Addr} {xs : List V} {ds : List PyData} : SqT K H a xs → DenAll K H xs ds → Den K H (.ref a) (.tuple ds)
inductive DenAll (K : PySem.W.Frag) (H : Hp) : List V → List PyData → Prop
  | nil : DenAll K H [] []
  | cons {x : V} {xs : List V} {d : PyData} {ds : List PyData} : Den K H x d → DenAll K H xs ds → DenAll K H (x :: xs) (d :: ds)
end
theorem denStrs {K : PySem.W.Frag} {H : Hp} : ∀ ys : List Str, DenAll K H (ys.map V.str) (ys.map PyData.str)
  | [] => .nil
  | y :: ys => .cons (.str y) (denStrs ys)
theorem denBls {K : PySem.W.Frag} {H : Hp} : ∀ ys : List Bool, DenAll K H (ys.map V.bl) (ys.map PyData.bool)
  | [] => .nil
  | y :: ys => .cons (.bl y) (denBls ys)
def rEqD (K : PySem.W.Frag) : R2 := fun x y H Q => ∃ d e, Den K H x d ∧ Den K H y e ∧ SeqAt.shaped d = true ∧ SeqAt.shaped e = true ∧ Q (.bl (PyData.eqv d e)) H
def rNeD (K : PySem.W.Frag) : R2 := fun x y H Q => ∃ d e, Den K H x d ∧ Den K H y e ∧ SeqAt.shaped d = true ∧ SeqAt.shaped e = true ∧ Q (.bl (!PyData.eqv d e)) H
def rEqH (K : PySem.W.Frag) : R2 := fun x y H Q => rEq x y H Q ∨ rEqD K x y H Q
def rNeH (K : PySem.W.Frag) : R2 := fun x y H Q => rNe x y H Q ∨ rNeD K x y H Q
section
variable {K : PySem.W.Frag} {H : Hp} {Q : VK}
theorem rEqH_str {i j : Str} : rEqH K (.str i) (.str j) H Q ↔ Q (.bl (decide (i = j))) H := by
  constructor
  · rintro (h | ⟨d, e, h1, h2, _, _, q⟩)
    · exact rEq_str.mp h
    · cases h1; cases h2
      rw [show decide (i = j) = PyData.eqv (.str i) (.str j) from by simp only [PyData.eqv]; by_cases z : i = j <;> simp [z]]; exact q
  · exact fun q => .inl (rEq_str.mpr q)
theorem rEqH_int {i j : Int} : rEqH K (.int i) (.int j) H Q ↔ Q (.bl (decide (i = j))) H := by
  constructor
  · rintro (h | ⟨d, e, h1, h2, _, _, q⟩)
    · exact rEq_int.mp h
    · cases h1; cases h2
      rw [show decide (i = j) = PyData.eqv (.int i) (.int j) from by simp only [PyData.eqv]; by_cases z : i = j <;> simp [z]]; exact q
  · exact fun q => .inl (rEq_int.mpr q)
theorem rNeH_str {i j : Str} : rNeH K (.str i) (.str j) H Q ↔ Q (.bl (!decide (i = j))) H := by
  constructor
  · rintro (h | ⟨d, e, h1, h2, _, _, q⟩)
    · exact rNe_str.mp h
    · cases h1; cases h2
      rw [show decide (i = j) = PyData.eqv (.str i) (.str j) from by simp only [PyData.eqv]; by_cases z : i = j <;> simp [z]]; exact q
  · exact fun q => .inl (rNe_str.mpr q)
theorem rNeH_int {i j : Int} : rNeH K (.int i) (.int j) H Q ↔ Q (.bl (!decide (i = j))) H := by
  constructor
  · rintro (h | ⟨d, e, h1, h2, _, _, q⟩)
    · exact rNe_int.mp h
    · cases h1; cases h2
      rw [show decide (i = j) = PyData.eqv (.int i) (.int j) from by simp only [PyData.eqv]; by_cases z : i = j <;> simp [z]]; exact q
  · exact fun q => .inl (rNe_int.mpr q)
mutual
theorem eqv_self : ∀ d : PyData, SeqAt.shaped d = true → PyData.eqv d d = true
  | .none, _ => rfl
  | .bool b, _ => by simp [PyData.eqv]
  | .int i, _ => by simp [PyData.eqv]
  | .str x, _ => by simp [PyData.eqv]
  | .list xs, h => by
    simp only [PyData.eqv]
    exact eqvAll_self xs (by unfold SeqAt.shaped at h; simpa [PyData.canLay0] using (Bool.and_eq_true_iff.mp h).1)
  | .tuple xs, h => by
    simp only [PyData.eqv]
    exact eqvAll_self xs (by unfold SeqAt.shaped at h; simpa [PyData.canLay0] using (Bool.and_eq_true_iff.mp h).1)
  | .dict _, h => by unfold SeqAt.shaped at h; simp [PyData.canLay0] at h
theorem eqvAll_self : ∀ ds : List PyData, PyData.canLayAll0 ds = true → PyData.eqvAll ds ds = true
  | [], _ => rfl
  | d :: ds, h => by
    simp only [PyData.canLayAll0, Bool.and_eq_true] at h
    simp only [PyData.eqvAll, Bool.and_eq_true]
    exact ⟨eqv_self' d h.1, eqvAll_self ds h.2⟩
theorem eqv_self' : ∀ d : PyData, PyData.canLay0 d = true → PyData.eqv d d = true
  | .none, _ => rfl
  | .bool b, _ => by simp [PyData.eqv]
  | .int i, _ => by simp [PyData.eqv]
  | .str x, _ => by simp [PyData.eqv]
  | .list xs, h => by
    simp only [PyData.eqv]
    exact eqvAll_self xs (by simpa [PyData.canLay0] using h)
  | .tuple xs, h => by
    simp only [PyData.eqv]
    exact eqvAll_self xs (by simpa [PyData.canLay0] using h)
  | .dict _, h => by simp [PyData.canLay0] at h
end
theorem rNeD_same {x y : V} {d : PyData} (h1 : Den K H x d) (h2 : Den K H y d) (hs : SeqAt.shaped d = true) (q : Q (.bl false) H) : rNeH K x y H Q := .inr ⟨d, d, h1, h2, hs, hs, by rw [eqv_self d hs]; exact q⟩
theorem rIsi_tup {a : Addr} {xs : List V} (h : H a = some (.tup xs)) (q : Q (.bl true) H) : rIsi K [.ref a, .ty "tuple"] H Q := ⟨_, _, _, _, _, rfl, rfl, .tup h, kit_tuple_tuple, q⟩
theorem rIsi_lst {a : Addr} {xs : List V} (h : H a = some (.lst xs)) (q : Q (.bl true) H) : rIsi K [.ref a, .ty "list"] H Q := ⟨_, _, _, _, _, rfl, rfl, .lst h, kit_list_list, q⟩
end
section
variable {X : Cx}
theorem op_isX : OpR X (compareOp .Is) rIsN := op_isN
theorem mt_starts : MtR X "str.startswith" rStarts := mt_startswith
theorem mt_ends : MtR X "str.endswith" rEnds := mt_endswith
theorem vals_strs : ∀ l : List (Str × Tok), Vals ((l.map (·.1)).map V.str) (strValues l)
  | [] => .nil
  | p :: r => .cons ⟨p.2, rfl⟩ (vals_strs r)
theorem mt_split : MtR X "str.split" rSplit := by
  intro pins s σ H x xs v us Q I rx rs h
  obtain ⟨z, y, rfl, rfl, hy, hz, q⟩ := h
  obtain ⟨t, rfl⟩ := rx
  obtain ⟨u, rfl, t', rfl⟩ := vals1 rs
  have fin : ∀ (l : List (Str × Tok)) (k : Nat), l.map (·.1) = Txt.split z y → l.length ≤ sizeLine →
      EP X pins σ Q (.ref s.heap.objs.size) { s with heap := s.heap.push { cls := .type "list", data := .seq (strValues l).toArray }, toks := k } := fun l k e hl =>
    ⟨.ref s.heap.objs.size, _, I.laid (t' := k) (fun _ _ q => Heap.get?_push_of_some _ q) (Nat.le_refl _) (show ObjOk X.prog X.w _ _ _ (.lst ((Txt.split z y).map V.str)) from
      ⟨by rw [List.length_map, ← e, List.length_map]; exact hl, strValues l, _, by rw [← e]; exact vals_strs l, Heap.get?_push_size _ rfl⟩), rfl, q _ (I.hok.fresh (Nat.le_refl _))⟩
  have hn : (Builtin.Str.partsBetween z (Builtin.Str.occurrences z y 0 z.length (z.length + 1)) y.length).length ≤ sizeLine := by
    have e1 := StrLaws.occ_length_le z y 0 z.length (z.length + 1)
    rw [length_partsBetween]; omega
  cases h1 : (decide (z.length < y.length) || decide (Builtin.Str.strKind z < Builtin.Str.strKind y))
  · cases hf : (Builtin.Str.occurrences z y 0 z.length (z.length + 1)).isEmpty
    · refine call_meets F.slot_str_split (typeIs_str _ _ _) F.entry_str_split (F.args_str_split_2 _ _) (meets_str_split_sep z y t t' h1 hy hf (by omega) hn) ?_
      show wants (EP X pins σ Q) X.xe _ { s with toks := _, heap := s.heap.push { cls := .type "list", data := .seq (strsFrom s.toks (Builtin.Str.partsBetween z (Builtin.Str.occurrences z y 0 z.length (z.length + 1)) y.length)).toArray } }
      rw [strsFrom_eq]
      refine fin (numbered s.toks _) _ ((numbered_texts _ _).trans ((if_neg (ne_true_of_eq_false h1)).trans (if_neg (ne_true_of_eq_false hf))).symm) ?_
      have := congrArg List.length (numbered_texts s.toks (Builtin.Str.partsBetween z (Builtin.Str.occurrences z y 0 z.length (z.length + 1)) y.length))
      rw [List.length_map] at this
      rw [this]; exact hn
    · exact call_meets F.slot_str_split (typeIs_str _ _ _) F.entry_str_split (F.args_str_split_2 _ _) (meets_str_split_not_found z y t t' h1 hy hf)
        (fin [(z, t)] s.toks ((if_neg (ne_true_of_eq_false h1)).trans (if_pos hf)).symm (by show 1 ≤ sizeLine; decide))
  · exact call_meets F.slot_str_split (typeIs_str _ _ _) F.entry_str_split (F.args_str_split_2 _ _) (meets_str_split_cannot_occur z y t t' h1)
      (fin [(z, t)] s.toks (if_pos h1).symm (by show 1 ≤ sizeLine; decide))
theorem mt_partition : MtR X "str.partition" rPart := by
  intro pins s σ H x xs v us Q I rx rs h
  obtain ⟨z, y, rfl, rfl, hy, hz, q⟩ := h
  obtain ⟨t, rfl⟩ := rx
  obtain ⟨u, rfl, t', rfl⟩ := vals1 rs
  have fin : ∀ (a b c : Str) (ta tb tc : Tok) (k : Nat), Txt.partition z y = (a, b, c) →
      EP X pins σ Q (.ref s.heap.objs.size) { s with heap := s.heap.push { cls := .type "tuple", data := .seq [.str a ta, .str b tb, .str c tc].toArray }, toks := k } := fun a b c ta tb tc k e =>
    ⟨.ref s.heap.objs.size, _, I.laid (t' := k) (fun _ _ q => Heap.get?_push_of_some _ q) (Nat.le_refl _) (show ObjOk X.prog X.w _ _ _ (.tup [.str (Txt.partition z y).1, .str (Txt.partition z y).2.1, .str (Txt.partition z y).2.2]) from
      ⟨by show 3 ≤ sizeLine; decide, [.str a ta, .str b tb, .str c tc], by rw [e]; exact .cons ⟨ta, rfl⟩ (.cons ⟨tb, rfl⟩ (.cons ⟨tc, rfl⟩ .nil)), ⟨_, Heap.get?_push_size _ rfl, rfl, _, rfl⟩⟩), rfl, q _ (I.hok.fresh (Nat.le_refl _))⟩
  refine call_meets F.slot_str_partition (typeIs_str _ _ _) F.entry_str_partition (F.args_str_partition_2 _ _) (meets_str_partition z y t t' hy hz) ?_
  have h' := fin
  unfold Txt.partition at h'
  revert h'
  cases Builtin.Str.occurrences z y 0 z.length 1 with
  | nil => intro h'; exact h' _ _ _ _ _ _ _ rfl
  | cons i r => intro h'; exact h' _ _ _ _ _ _ _ rfl
theorem strs_are : ∀ {ys : List Str} {us : List Value}, Vals (ys.map V.str) us → StrsAre us ys
  | [], _, r => by rw [List.map_nil] at r; cases r; exact .nil
  | y :: ys, _, r => by
    rw [List.map_cons] at r
    cases r with
    | cons h t => obtain ⟨tk, rfl⟩ := h; exact .cons y tk (strs_are t)
theorem mt_join : MtR X "str.join" (rJoin X.K) := by
  intro pins s σ H x xs v us Q I rx rs h
  obtain ⟨z, p, ys, rfl, rfl, hq, hl, q⟩ := h
  obtain ⟨t, rfl⟩ := rx
  obtain ⟨u, rfl, ru⟩ := vals1 rs
  cases ru
  rcases hq with hq | hq
  · obtain ⟨its, r, pl, _⟩ := I.list hq
    exact join_list pl.isList (by simpa using strs_are r) hl fun t' k => ⟨.str _, H, I.tok _, ⟨_, rfl⟩, q⟩
  · obtain ⟨its, r, pl, _⟩ := I.tuple hq
    exact join_tuple pl (by simpa using strs_are r) hl fun t' k => ⟨.str _, H, I.tok _, ⟨_, rfl⟩, q⟩
theorem call_tupOf : CallR X (.type "tuple") (rTupOf X.K) := by
  intro pins s σ H xs us Q I r h
  obtain ⟨p, ys, e, h⟩ := h
  exact call_tuple_of pins s σ H xs us Q I r ⟨p, ys, e, h⟩
theorem call_listOf : CallR X (.type "list") (rListOf X.K) := call_list_of
mutual
theorem Den.reads {pins : List (Addr × Obj)} {σ : St} {H : Hp} {s : Shared} (I : Inv X pins σ H s) : ∀ {x : V} {d : PyData} {u : Value}, Den X.K H x d → RelV x u → ∃ as, Reads s.heap u d as
  | _, _, _, .non, r => by cases r; exact ⟨_, .none⟩
  | _, _, _, .bl b, r => by cases r; exact ⟨_, .bool b⟩
  | _, _, _, .int i, r => by obtain ⟨t, rfl⟩ := r; exact ⟨_, .int i t⟩
  | _, _, _, .str x, r => by obtain ⟨t, rfl⟩ := r; exact ⟨_, .str x t⟩
  | _, _, _, .lst h hs, r => by
    cases r
    obtain ⟨its, rv, pl, _⟩ := I.list h
    obtain ⟨o, ho, hc, n, hd⟩ := pl.isList
    obtain ⟨as, ra⟩ := DenAll.reads I hs rv
    exact ⟨_, .list ho hc hd (by simpa using ra)⟩
  | _, _, _, .tup h hs, r => by
    cases r
    obtain ⟨its, rv, pl, _⟩ := I.tuple h
    obtain ⟨o, ho, hc, n, hd⟩ := pl
    obtain ⟨as, ra⟩ := DenAll.reads I hs rv
    exact ⟨_, .tuple ho hc hd (by simpa using ra)⟩
theorem DenAll.reads {pins : List (Addr × Obj)} {σ : St} {H : Hp} {s : Shared} (I : Inv X pins σ H s) : ∀ {xs : List V} {ds : List PyData} {us : List Value}, DenAll X.K H xs ds → Vals xs us → ∃ as, ReadsAll s.heap us ds as
  | _, _, _, .nil, r => by cases r; exact ⟨_, .nil⟩
  | _, _, _, .cons h hs, r => by
    cases r with
    | cons r1 r2 =>
      obtain ⟨as, ra⟩ := Den.reads I h r1
      obtain ⟨bs, rb⟩ := DenAll.reads I hs r2
      exact ⟨_, .cons ra rb⟩
end
theorem op_eqD (hu : X.A.units + 64 < cLine) : OpR X (compareOp .Eq) (rEqD X.K) := by
  intro pins s σ H x y v u Q I rx ry h
  obtain ⟨d, e, h1, h2, s1, s2, q⟩ := h
  obtain ⟨as, ra⟩ := h1.reads I rx
  obtain ⟨bs, rb⟩ := h2.reads I ry
  exact eq_dataH ra rb s1 s2 hu ⟨.bl _, H, I, rfl, q⟩
theorem op_neD (hu : X.A.units + 64 < cLine) : OpR X (compareOp .NotEq) (rNeD X.K) := by
  intro pins s σ H x y v u Q I rx ry h
  obtain ⟨d, e, h1, h2, s1, s2, q⟩ := h
  obtain ⟨as, ra⟩ := h1.reads I rx
  obtain ⟨bs, rb⟩ := h2.reads I ry
  exact ne_dataH ra rb s1 s2 hu ⟨.bl _, H, I, rfl, q⟩
theorem op_eqH (hu : X.A.units + 64 < cLine) : OpR X (compareOp .Eq) (rEqH X.K) := op_eq.or (op_eqD hu)
theorem op_neH (hu : X.A.units + 64 < cLine) : OpR X (compareOp .NotEq) (rNeH X.K) := op_ne.or (op_neD hu)
variable {K : PySem.W.Frag}
theorem op_addK (h : X.K = K) : OpR X (binaryOp .Add) (rAddA K) := h ▸ op_addA
theorem op_inK (h : X.K = K) : OpR X (compareOp .In) (rInA K) := h ▸ op_inA
theorem op_notinK (h : X.K = K) : OpR X (compareOp .NotIn) (rNotInA K) := h ▸ op_notinA
theorem op_eqK (hu : X.A.units + 64 < cLine) (h : X.K = K) : OpR X (compareOp .Eq) (rEqH K) := h ▸ op_eqH hu
theorem ix_seqK (h : X.K = K) : IxR X (rIx K) := h ▸ ix_seq
end
end L2
namespace L2
open PySem PySem.Spec PyProof.Rows PySem.W
section
variable {H : Hp} {Q : VK}
def rDictOf : List V → Hp → VK → Prop := fun xs H Q => ∃ p kvs, xs = [.ref p] ∧ H p = some (.dK kvs) ∧ ∀ l, H l = none → Q (.ref l) (upd H l (.dK kvs))
end
section
variable {X : Cx}
theorem call_dictOf : CallR X (.type "dict") rDictOf := by
  intro pins s σ H xs us Q I r h
  obtain ⟨p, kvs, rfl, hp, q⟩ := h
  obtain ⟨u, rfl, ru⟩ := vals1 r
  cases ru
  obtain ⟨z, hd, vs, rel, dd⟩ := dk_of I.hok hp
  refine kt_call_dict (knd := mixKind X.prog X.w) hd dd (by rw [← rel.length]; exact z) fun h' dn sb => ?_
  have hm : (s.heap.objs.size == sysModules) = false := by
    have := I.big
    rw [beq_eq_false_iff_ne]
    exact fun z => absurd (z ▸ this) (Nat.lt_irrefl _)
  exact ⟨.ref s.heap.objs.size, _, I.laid (t' := s.toks) (fun b u e => sb.extBut b u (Nat.ne_of_lt (Heap.lt_size e)) (Heap.get?_push_of_some _ e)) (Nat.le_refl _) (dk_new z hm rel dn), rfl, q _ (I.hok.fresh (Nat.le_refl _))⟩
end
end L2
namespace L2
open PySem PySem.Spec PyProof.Rows
theorem comp_1d {J : It} {n : Nat} {f : Nat → V} {Ok : Hp → Prop} {js : List (Option Nat)} {te : TE} {σ : St} {H : Hp} {Q : VK} (S : Src J n f Ok) (hn : n ≤ sizeLine) (σr : St) (hσ : pickS js σ = none :: σr) (Pr : Addr → Nat → V → Hp → Prop)
    (mono : ∀ D i v (H1 H2 : Hp), (∀ b o, b ≠ D → H1 b = some o → H2 b = some o) → Pr D i v H1 → Pr D i v H2)
    (hOk : ∀ H', Same H H' → Ok H') (hs : ∀ D i H' (R : V → Hp → Prop), i < n → H D = none → Same H H' → (∃ ys, H' D = some (.lst ys)) → (∀ v H'', Same H' H'' → Pr D i v H'' → R v H'') → te (some (f i) :: σr) H' R)
    (hd : ∀ D H' ys, H D = none → Same H H' → H' D = some (.lst ys) → ys.length = n → (∀ i v, ys[i]? = some v → Pr D i v H') → Q (.ref D) H') : CompW J js (gName 0) tYes te σ H Q := by
  refine comp_by S hn (fun D i σ' H' ys => (∃ a, σ' = a :: σr) ∧ Same H H' ∧ H' D = some (.lst ys) ∧ ys.length = i ∧ ∀ j v, ys[j]? = some v → Pr D j v H') ?_ ?_ ?_ ?_
  · intro D hD
    exact ⟨⟨none, hσ⟩, Same.upd hD, upd_same, rfl, fun j v e => by simp at e⟩
  · rintro D i σ' H' ys hD hi ⟨_, s, h, hl, _⟩
    exact ⟨hOk _ s, h, Nat.le_of_eq hl⟩
  · rintro D i σ' H' ys R hD hi ⟨⟨a, rfl⟩, s, h, hl, hp⟩ hR
    show te (some (f i) :: σr) H' _
    refine hs D i H' _ hi hD s ⟨_, h⟩ fun v H'' s2 pv => ⟨s2 _ _ h, hR _ _ _ ⟨⟨_, rfl⟩, ?_, upd_same, by simp [hl], fun j v' e => ?_⟩⟩
    · intro b o e
      rw [upd_ne (ne_of_none e hD)]
      exact s2 b o (s b o e)
    · have up : ∀ b o, b ≠ D → H'' b = some o → upd H'' D (.lst (ys ++ [v])) b = some o := fun b o hb e => by rw [upd_ne hb]; exact e
      rw [List.getElem?_append] at e
      split at e
      · exact mono _ _ _ _ _ (fun b o hb e => up b o hb (s2 b o e)) (hp j v' e)
      · have e1 : j = ys.length := by
          have := (List.getElem?_eq_some_iff.mp e).1
          simp at this; omega
        subst e1
        simp at e
        subst e
        rw [hl]; exact mono _ _ _ _ _ up pv
  · rintro D σ' H' ys hD ⟨_, s, h, hl, hp⟩
    exact hd D H' ys hD s h hl hp
theorem comp_f {J : It} {n : Nat} {f : Nat → V} {Ok : Hp → Prop} {js : List (Option Nat)} {tt : TT} {te : TE} {σ : St} {H : Hp} {Q : VK} (S : Src J n f Ok) (hn : n ≤ sizeLine) (σr : St) (hσ : pickS js σ = none :: σr) (keep : Nat → Bool) (val : Nat → V)
    (hOk : ∀ H', Same H H' → Ok H') (hs : ∀ i H' (R : Bool → Hp → Prop), i < n → Same H H' → (∀ H'', Same H' H'' → R (keep i) H'') → tt (some (f i) :: σr) H' R)
    (he : ∀ i H' (R : V → Hp → Prop), i < n → Same H H' → (∀ H'', Same H' H'' → R (val i) H'') → te (some (f i) :: σr) H' R)
    (hd : ∀ D H', H D = none → Same H H' → H' D = some (.lst (((List.range n).filter keep).map val)) → Q (.ref D) H') : CompW J js (gName 0) tt te σ H Q := by
  refine comp_by S hn (fun D i σ' H' ys => (∃ a, σ' = a :: σr) ∧ Same H H' ∧ H' D = some (.lst ys) ∧ ys = ((List.range i).filter keep).map val) ?_ ?_ ?_ ?_
  · intro D hD
    exact ⟨⟨none, hσ⟩, Same.upd hD, upd_same, rfl⟩
  · rintro D i σ' H' ys hD hi ⟨_, s, h, rfl⟩
    refine ⟨hOk _ s, h, ?_⟩
    rw [List.length_map]
    exact Nat.le_trans (List.length_filter_le _ _) (by simp)
  · rintro D i σ' H' ys R hD hi ⟨⟨a, rfl⟩, s, h, rfl⟩ hR
    show tt (some (f i) :: σr) H' _
    refine hs i H' _ hi s fun H2 s2 => ?_
    cases hk : keep i with
    | false =>
      rw [if_neg Bool.false_ne_true]
      refine hR _ _ _ ⟨⟨_, rfl⟩, s.trans s2, s2 _ _ h, ?_⟩
      rw [List.range_succ, List.filter_append, List.filter_cons, hk]; simp
    | true =>
      rw [if_pos rfl]
      refine he i H2 _ hi (s.trans s2) fun H3 s3 => ⟨s3 _ _ (s2 _ _ h), hR _ _ _ ⟨⟨_, rfl⟩, ?_, upd_same, ?_⟩⟩
      · intro b o e
        rw [upd_ne (ne_of_none e hD)]
        exact s3 b o (s2 b o (s b o e))
      · rw [List.range_succ, List.filter_append, List.filter_cons, hk]; simp
  · rintro D σ' H' ys hD ⟨_, s, h, rfl⟩
    exact hd D H' hD s h
structure CMeth (K : PySem.W.Frag) (C : Addr) (m : Str) (f : Addr) : Prop where
  ga : PySem.W.specialIn K (.ref C) "__getattribute__" = some (some (.builtin "type.__getattribute__"))
  rd : PySem.W.readsIn K C (.type "type") = true
  at_ : PySem.W.findCls K (.ref C) (.type "type") m = some (.val (.ref f))
  kp : PySem.W.keepIn K (.ref f) = true
structure TyI (K : PySem.W.Frag) (C : Addr) : Prop where
  ha : PySem.W.findIn K (.ref C) "__class__" = some (some (.builtin "object.__class__"))
  hn : PySem.W.specialIn K (.builtin "object.__class__") "__get__" = some (some (.builtin "getset_descriptor.__get__"))
  htk : PySem.W.takesIn K (.builtin "object.__class__") = some true
  hm : PySem.W.mroIn K C (.type "object") = some true
theorem kit_mk {K : PySem.W.Frag} {C D : Addr} {cd : ClassData} {b : Bool} (hc : PySem.W.clsIn K D = some cd) (ht : PySem.W.typeIn K (.ref D) = some (.type "type")) (hs : PySem.W.subIn K (.ref C) (.ref D) = some b) (ho : PySem.W.subIn K (.ref C) (.ref C) = some true) :
    PySem.W.kitOne K (.ref C) (.ref D) = some b := by
  unfold PySem.W.kitOne
  by_cases e : (Value.ref C == Value.ref D) = true
  · rw [if_pos e]
    have e' : C = D := by
      have := eq_of_beq e
      injection this
    rw [← e', ho] at hs
    exact hs
  · rw [if_neg e]
    show (if ((PySem.W.clsIn K D).isSome && PySem.W.typeIn K (.ref D) == some (.type "type")) = true then PySem.W.subIn K (.ref C) (.ref D) else none) = _
    rw [hc, ht, if_pos (by simp), hs]
theorem rIsi_ins {K : PySem.W.Frag} {H : Hp} {Q : VK} {a C D dx : Addr} {fs : List (Str × V)} {b : Bool} (h : H a = some (.ins C dx fs)) (c : Cls K C) (ty : TyI K C) (k : PySem.W.kitOne K (.ref C) (.ref D) = some b) (q : Q (.bl b) H) : rIsi K [.ref a, .ref D] H Q :=
  ⟨_, _, _, _, _, rfl, rfl, .ins h c ty.ha ty.hn ty.htk ty.hm, k, q⟩
section
variable {X : Cx}
def rLtS : R2 := fun x y H Q => ∃ i j, x = .str i ∧ y = .str j ∧ Q (.bl (decide (i.cps.toList < j.cps.toList))) H
def rLtA : R2 := fun x y H Q => rI0 (fun i j => .bl (decide (i < j))) x y H Q ∨ rLtS x y H Q
theorem op_ltA : OpR X (compareOp .Lt) rLtA := op_lt.or op_lt_str
theorem rLtA_int {i j : Int} {H : Hp} {Q : VK} : rLtA (.int i) (.int j) H Q ↔ Q (.bl (decide (i < j))) H := by
  constructor
  · rintro (⟨a, b, e1, e2, q⟩ | ⟨a, b, e1, _⟩)
    · cases e1; cases e2; exact q
    · cases e1
  · exact fun q => .inl ⟨i, j, rfl, rfl, q⟩
end
section
variable {X : Cx} {o e : Expr} {es : List Expr} {apos pos : Pos} {m : Str} {C f : Addr} {fd : FuncData} {ps : List Str} {sp : Sp} {CX : CXT} {k : Nat} {E : XK} {dvs : List V} {ds : List Value} {ta : TE} {t : TA}
def tAlt (t u : TE) : TE := fun σ H Q => t σ H Q ∨ u σ H Q
theorem pe_alt {t u : TE} (h1 : PE X e t) (h2 : PE X e u) : PE X e (tAlt t u) := fun pins s σ H Q I h => h.elim (h1 pins s σ H Q I) (h2 pins s σ H Q I)
def tCMeth (C : Addr) (sp : Sp) (dvs : List V) (E : XK) (ta : TE) (t : TA) : TE := fun σ H Q => ta σ H fun x H1 => x = .ref C ∧ t σ H1 fun vs H2 => sp (vs ++ dvs) H2 Q E
theorem pe_cmeth {pl : Sem Bool} (he : PE X o ta) (hm : CMeth X.K C m f) (F : FnOk X.prog X.w X.K X.mg X.base CX k f fd ps sp) (hr : Room k X.A) (hb : Binds X.K fd ps ds) (hd : Vals dvs ds) (hx : Passes CX X E) (ha : PA X (e :: es) t)
    (hst : starEach (e :: es) X.env = (false, eval e X.env) :: starEach es X.env := by rfl) (hpl : (backTo pos (starEach es X.env)).any (·.1) = false := by rfl)
    (ht : eval (.Call (.Attribute o m apos) (e :: es) [] pos) X.env = (do
      let ov ← eval o X.env
      standAt apos.atName
      let (f, first) ← holding [ov] (getMethod ov m pl)
      callWith pos f first (backTo pos (starEach (e :: es) X.env)) (backToKw pos (keywordEach [] X.env))) := by rfl) :
    PE X (.Call (.Attribute o m apos) (e :: es) [] pos) (tCMeth C sp dvs E ta t) := by
  intro pins s σ H Q I h
  refine PySem.W.methodCall_KW (pl := pl) (thn (he pins s σ H _ I h) fun u s1 ⟨x, H1, I1, rx, ex, q⟩ => ?_) ht
  subst ex
  obtain rfl : u = Value.ref C := rx
  refine PySem.W.method_cls I1.kIn hm.ga (PySem.W.cls_value I1.kIn hm.rd hm.at_ rfl ?_)
  refine PySem.W.callWith_K (first := []) (h₀ := X.base) I.ok.mod.kin hm.kp (thn (ha pos pins _ σ H1 _ (I1.tok _) q) fun us s2 ⟨vs, H2, I2, r, q2⟩ => ⟨I2.kIn, ?_⟩) hst hpl
  exact run_fn (us := us) (vs := vs) F hr hb hd hx I2 r q2
end
end L2
namespace L2
open PySem PySem.Spec PyProof.Rows
theorem none_of {H H' : Hp} (s : Same H H') {p : Addr} (h : H' p = none) : H p = none := by
  cases e : H p with
  | none => rfl
  | some o => rw [s _ _ e] at h; cases h
section
variable {X : Cx}
end
end L2
namespace L2
open PySem PySem.Spec PyProof.Rows PySem.W
section
variable {X : Cx} {pins : List (Addr × Obj)} {σ : St} {H : Hp} {s : Shared} {h' : Heap} {tg : Expr}
end
end L2
namespace L2
open PySem PySem.Spec PyProof.Rows PySem.W
section
variable {prog : Program} {w : World} {A : Around} {E : Value → Shared → Prop} {s : Shared}
end
section
variable {X : Cx}
theorem boot_reversedT : bootBuiltins "reversed" = some (.type "reversed") := by decide +kernel
end
section
variable {X : Cx} {pins : List (Addr × Obj)} {σ : St} {H : Hp} {s : Shared} {a : Addr} {kvs : List (Key × V)} {tg : Expr}
end
structure FunD (K : PySem.W.Frag) (x qual : Str) (st : Stmt) (f : Addr) (fd : FuncData) (T : Addr) (ds : List Value) : Prop where
  ex : ∃ (oc : Value) (od : Option Addr) (kV doc pm : Value) (an : Option Addr) (cdv ct : Value) (osl : Array (Option Value)) (oT : Obj) (nT : Nat),
    fd = PySem.W.fnOf x qual (defArgs st) (defBody st) (defScope st) (.ref T) kV doc pm an cdv ct ∧ K.lookup f = some ⟨oc, od, .func fd, osl⟩ ∧ PySem.W.codeIn K cdv qual = true ∧ K.lookup T = some oT ∧ oT.data = .seq ds.toArray nT
  kp : PySem.W.keepIn K (.ref f) = true
section
variable {P : Program} {w : World} {K : PySem.W.Frag} {mg : Str → Option Value} {base : Heap}
theorem FunD.ok {x qual : Str} {st : Stmt} {f : Addr} {fd : FuncData} {T : Addr} {ds : List Value} {N ps : List Str} {k : Nat} {sp : Sp} (F : FunD K x qual st f fd T ds) (S : FnScope N ps (defScope st)) (len : ∀ vs H Q E, sp vs H Q E → vs.length = ps.length)
    (hbody : ∀ (cdv : Value) (A : Around) (outer : List Env) (s : Shared) (H : Hp) (vs : List V) (Q : VK) (E : XK), Room k (A.deeper (envOfC qual (defScope st) s.heap.objs.size f cdv)) → sp vs H Q E →
      ∃ t, PSs (cxOf CX0 P w K mg base N qual (defScope st) f cdv A outer s H E).nox (defBody st) t ∧ t { nx := fun _ H' => Q .non H', rt := Q } (start N vs) H) : FnOk P w K mg base CX0 (k + 1) f fd ps sp := by
  obtain ⟨oc, od, kV, doc, pm, an, cdv, ct, osl, oT, nT, rfl, lk, hcd, _⟩ := F.ex
  refine fn_of lk hcd S len fun A outer s H vs Q E hr hsp => ?_
  obtain ⟨t, h, q⟩ := hbody cdv A outer s H vs Q E hr hsp
  exact ⟨t, h.nox, q⟩
theorem FunD.binds {x qual : Str} {st : Stmt} {f : Addr} {fd : FuncData} {T : Addr} {ds : List Value} {ps : List Str} (es : List Value) (F : FunD K x qual st f fd T ds)
    (h : ∀ (kV doc pm : Value) (an : Option Addr) (cdv ct : Value) (us : List Value), (us ++ es).length = ps.length → ∃ k, bindArgs (PySem.W.fnOf x qual (defArgs st) (defBody st) (defScope st) (.ref T) kV doc pm an cdv ct) ⟨us, []⟩ = seqItems? (.ref T) >>= k ∧ k (some ds.toArray) = pure (ps.zip (us ++ es))) : Binds K fd ps es := by
  obtain ⟨oc, od, kV, doc, pm, an, cdv, ct, osl, oT, nT, rfl, lk, hcd, lT, hT⟩ := F.ex
  intro s us X hl
  obtain ⟨k, h1, h2⟩ := h kV doc pm an cdv ct us hl
  exact PySem.W.binds_K X rfl lT hT h1 h2
end
end L2
namespace L2
open PySem PySem.Spec PyProof.Rows PySem.W
def Itz (K : PySem.W.Frag) (a b : Addr) : It :=
  ⟨fun i H => ∃ xs ys x y, SqL K H a xs ∧ SqL K H b ys ∧ xs[i]? = some x ∧ ys[i]? = some y, fun i H x H' => ∃ p v w, H p = none ∧ (∀ xs, SqL K H a xs → xs[i]? = some v) ∧ (∀ ys, SqL K H b ys → ys[i]? = some w) ∧ x = .ref p ∧ H' = upd H p (.tup [v, w]),
    fun i H => ∃ xs ys, SqL K H a xs ∧ SqL K H b ys ∧ (xs.length ≤ i ∨ ys.length ≤ i)⟩
def iZip (K : PySem.W.Frag) (ta : TA) : TI := fun σ H R => ta σ H fun vs H1 => ∃ a b, vs = [.ref a, .ref b] ∧ (∃ xs, SqL K H1 a xs) ∧ (∃ ys, SqL K H1 b ys) ∧ R (Itz K a b) H1
def Itb (K : PySem.W.Frag) (a : Addr) (xs : List V) : It := ⟨fun i H => SqL K H a xs ∧ i < xs.length, fun i H x H' => H' = H ∧ xs[xs.length - 1 - i]? = some x, fun i H => SqL K H a xs ∧ xs.length = i⟩
def iRev (K : PySem.W.Frag) (ta : TA) : TI := fun σ H R => ta σ H fun vs H1 => ∃ a xs, vs = [.ref a] ∧ SqL K H1 a xs ∧ R (Itb K a xs) H1
def rLeS : R2 := fun x y H Q => ∃ i j, x = .str i ∧ y = .str j ∧ Q (.bl (!decide (j.cps.toList < i.cps.toList))) H
section
variable {X : Cx} {pins : List (Addr × Obj)} {σ : St} {H : Hp} {s : Shared} {h' : Heap} {tg : Expr}
theorem Inv.turnedL {t' : Nat} (fp : List Addr) (I : Inv X pins σ H s) (k : ∀ b o, b ∉ fp → s.heap.get? b = some o → h'.get? b = some o) (f : ∀ b ∈ fp, FpOk X pins H b) : Inv X pins σ H { s with heap := h', toks := t' } := by
  have ne : ∀ b u, H b = some u → b ∉ fp := fun b u q z => by rw [(f b z).1] at q; cases q
  refine I.step (g' := s.gens) (d' := s.drawn) (ch := fp) (fun b hb => ?_) (fun b o _ _ hc q _ => k b o hc q) (fun b o _ _ hc q _ => ⟨o.slots, k b o hc q⟩) (fun _ _ _ _ n => n)
    (fun b o hc q => ⟨o, k b o hc q⟩) (fun _ _ q => q) (fun _ _ _ q => q) (fun b ps q => ⟨#[], by rw [q]; simp⟩) (fun m hm => ?_) (fun b u q => ?_) I.bare
  · obtain ⟨_, a1, _, a3, a4, a5⟩ := f b hb
    exact ⟨a3, a1, a4, a5⟩
  · obtain ⟨o, es, ep, ho, r⟩ := hm
    exact ⟨o, es, ep, k _ o (fun z => (f _ z).2.1 rfl) ho, r⟩
  · refine (I.hok b u q).stay (fun c v hc z => k c v ?_ z) (fun _ z => z) fun _ _ z => z
    rcases hc with z | z
    · rw [z]; exact ne b u q
    · exact ne c _ z
theorem turn_zip {P : Program} {w : World} {K : PySem.W.Frag} {elts : List Expr} {x1 : Nat} {pos : Pos} (l1 l2 z TI TO i1 i2 : Addr) (D : ZipApart z TI TO i1 i2 l1 l2) : Turn P w K (.Tuple elts x1 pos) (Itz K l1 l2) [z, TI, TO, i1, i2] z
    (fun i h => IsZip h z TI TO .none ∧ IsPair h TI (.ref i1) (.ref i2) ∧ (∃ a b, IsPair h TO a b) ∧ h.IsListIter i1 l1 i ∧ h.IsListIter i2 l2 i) where
  mem := by simp
  obj := fun i h st b hb => by
    obtain ⟨hz, hTI, ⟨a, b', hTO⟩, ⟨o1, e1, _, d1⟩, o2, e2, _, d2⟩ := st
    simp only [List.mem_cons, List.not_mem_nil, or_false] at hb
    rcases hb with rfl | rfl | rfl | rfl | rfl
    · exact ⟨_, hz, fun v z => by cases z⟩
    · exact ⟨_, hTI, fun v z => by cases z⟩
    · exact ⟨_, hTO, fun v z => by cases z⟩
    · exact ⟨o1, e1, fun v z => by rw [d1] at z; cases z⟩
    · exact ⟨o2, e2, fun v z => by rw [d2] at z; cases z⟩
  keep := fun i h h' st k => by
    obtain ⟨hz, hTI, ⟨a, b', hTO⟩, h1, h2⟩ := st
    exact ⟨k z (by simp) _ hz, k TI (by simp) _ hTI, ⟨a, b', k TO (by simp) _ hTO⟩, h1.at fun o q => k i1 (by simp) o q, h2.at fun o q => k i2 (by simp) o q⟩
  item := by
    intro X hP hw hK hc i pins s σ H E I hf st hg
    subst hP hw hK
    obtain ⟨hz, hTI, ⟨a, b', hTO⟩, h1, h2⟩ := st
    obtain ⟨xs, ys, x, y, hq1, hq2, hx, hy⟩ := hg
    obtain ⟨its1, rv1, p1, hz1⟩ := I.list hq1
    obtain ⟨its2, rv2, p2, hz2⟩ := I.list hq2
    obtain ⟨u1, hu1, ru1⟩ := rv1.get hx
    obtain ⟨u2, hu2, ru2⟩ := rv2.get hy
    refine wpAny_pyNext_zip_item D hz hTI hTO h1 h2 p1.isList p2.isList (x := u1) (y := u2) (by simpa using hu1) (by simpa using hu2) fun h' hz' hTO' h1' h2' hT hsz hk => ?_
    refine ⟨_, rfl, ?_⟩
    refine wpAny_letOwnedTupleGo_zip hz' fun hh hzz hs2 => ?_
    have hfr : H s.heap.objs.size = none := I.hok.fresh (Nat.le_refl _)
    have hlt : ∀ b ∈ [z, TI, TO, i1, i2], b < s.heap.objs.size := fun b hb => by
      obtain ⟨⟨o1, e1, _⟩, o2, e2, _⟩ := And.intro h1 h2
      simp only [List.mem_cons, List.not_mem_nil, or_false] at hb
      rcases hb with rfl | rfl | rfl | rfl | rfl
      · exact Heap.lt_size hz
      · exact Heap.lt_size hTI
      · exact Heap.lt_size hTO
      · exact Heap.lt_size e1
      · exact Heap.lt_size e2
    have hL := Heap.get?_push_size s.heap (o := { cls := .type "tuple", data := .seq #[u1, u2] }) rfl
    have I1 : Inv X pins σ (upd H s.heap.objs.size (.tup [x, y])) { s with heap := s.heap.push { cls := .type "tuple", data := .seq #[u1, u2] }, toks := s.toks } :=
      I.laid (t' := s.toks) (fun b o q => Heap.get?_push_of_some _ q) (Nat.le_refl _) ⟨by simp only [List.length_cons, List.length_nil]; decide, [u1, u2], .cons ru1 (.cons ru2 .nil), ⟨_, hL, rfl, _, rfl⟩⟩
    have up : ∀ b, b < s.heap.objs.size → upd H s.heap.objs.size (.tup [x, y]) b = H b := fun b hb => upd_ne (Nat.ne_of_lt hb)
    have I2 : Inv X pins σ (upd H s.heap.objs.size (.tup [x, y])) { s with heap := hh, toks := s.toks } := by
      refine Inv.turnedL (s := { s with heap := s.heap.push { cls := .type "tuple", data := .seq #[u1, u2] }, toks := s.toks }) (h' := hh) (t' := s.toks) [z, TI, TO, i1, i2] I1 (fun b o hb q => ?_) (fun b hb => ?_)
      · simp only [List.mem_cons, List.not_mem_nil, or_false, not_or] at hb
        obtain ⟨n1, n2, n3, n4, n5⟩ := hb
        rw [hs2.2 b n1]
        by_cases e : b = s.heap.objs.size
        · subst e
          have q' : (s.heap.push { cls := .type "tuple", data := .seq #[u1, u2] }).get? s.heap.objs.size = some o := q
          rw [hL] at q'; rw [← q']; exact hT
        · have q2 : (s.heap.push { cls := .type "tuple", data := .seq #[u1, u2] }).get? b = some o := q
          rw [Heap.get?_push_ne _ _ _ e] at q2
          exact hk b o n1 n3 n4 n5 q2
      · obtain ⟨c0, c1, c2, c3, c4, c5⟩ := hf b hb
        exact ⟨by rw [up b (hlt b hb)]; exact c0, c1, c2, c3, c4, c5⟩
    have hTI' : h'.get? TI = _ := hk TI _ D.TIz D.TITO D.TIi1 D.TIi2 hTI
    refine ⟨.ref s.heap.objs.size, _, I2, rfl, ⟨s.heap.objs.size, x, y, hfr, fun zs hy' => by rw [I.list_inj hy' hq1]; exact hx, fun zs hy' => by rw [I.list_inj hy' hq2]; exact hy, rfl, rfl⟩, ⟨hzz, ?_, ⟨u1, u2, ?_⟩, ?_, ?_⟩, fun b hb => ?_⟩
    · exact (hs2.2 TI D.TIz).trans hTI'
    · exact (hs2.2 TO D.TOz).trans hTO'
    · exact h1'.at fun o q => (hs2.2 i1 D.i1z).trans q
    · exact h2'.at fun o q => (hs2.2 i2 D.i2z).trans q
    · rw [up b (hlt b hb)]; exact (hf b hb).1
  done := by
    intro X hP hw hK hc i pins s σ H E I hf st hg
    subst hP hw hK
    obtain ⟨hz, hTI, ⟨a, b', hTO⟩, h1, h2⟩ := st
    obtain ⟨xs, ys, hq1, hq2, hx⟩ := hg
    obtain ⟨its1, rv1, p1, hz1⟩ := I.list hq1
    obtain ⟨its2, rv2, p2, hz2⟩ := I.list hq2
    have hl1 := rv1.length
    have hl2 := rv2.length
    exact wpAny_pyNext_zip_end (I.ok.hd hc) D hz hTI hTO h1 h2 p1.isList p2.isList (by simp; omega) fun h' hk => ⟨rfl, I.turnedL (t' := s.toks) [z, TI, TO, i1, i2] (fun b o hb q => by
      simp only [List.mem_cons, List.not_mem_nil, or_false, not_or] at hb
      exact hk b o hb.1 hb.2.2.1 hb.2.2.2.1 hb.2.2.2.2 q) hf⟩
  self := fun _ _ _ _ _ st h => wpAny_pyIter_zip st.1 h
theorem boot_zipT : bootBuiltins "zip" = some (.type "zip") := by decide +kernel
theorem pi_zip {a b : Expr} {ta : TA} {p pos : Pos} {elts : List Expr} {x1 : Nat} {tpos : Pos} (hg : Gl X "zip") (hm : X.mg "zip" = none) (ha : PA X [a, b] ta) (hs : starEach [a, b] X.env = [(false, eval a X.env), (false, eval b X.env)] := by rfl) (hs2 : starEach [b] X.env = [(false, eval b X.env)] := by rfl) :
    PI X (.Tuple elts x1 tpos) (.Call (.Name "zip" p) [a, b] [] pos) (iZip X.K ta) := by
  intro pins s σ H R I h
  refine Call_ (ld_blt I hg hm boot_zipT (PyProof.Rows.callWith_type1 (thn (ha pos pins s σ H _ I h) fun us s1 ⟨vs, H1, I1, r1, q1⟩ => ?_) (by rw [hs, hs2]) (by rw [hs2]; rfl)))
  obtain ⟨l1, l2, e, ⟨xs, hq1⟩, ⟨ys, hq2⟩, q⟩ := q1
  subst e
  cases r1 with
  | cons r rr =>
    cases rr with
    | cons r' rr =>
      cases rr
      cases r
      cases r'
      obtain ⟨its1, rv1, p1, _⟩ := I1.list hq1
      obtain ⟨its2, rv2, p2, _⟩ := I1.list hq2
      have a1 : l1 < s1.heap.objs.size := by obtain ⟨_, e, _⟩ := p1.isList; exact Heap.lt_size e
      have a2 : l2 < s1.heap.objs.size := by obtain ⟨_, e, _⟩ := p2.isList; exact Heap.lt_size e
      refine call_zip_2 p1.isList p2.isList fun h' hz hTI hTO hi1 hi2 hsz hk => ?_
      refine wpAny_pyIter_zip hz ?_
      have I2 := I1.kept (t' := s1.toks) hk
      refine ⟨s1.heap.objs.size + 4, [s1.heap.objs.size + 4, s1.heap.objs.size + 2, s1.heap.objs.size + 3, s1.heap.objs.size, s1.heap.objs.size + 1], _, _, H1, rfl, I2, turn_zip l1 l2 _ _ _ _ _ (PyProof.Rows.zipApart_new a1 a2), ⟨hz, hTI, ⟨_, _, hTO⟩, hi1, hi2⟩, fun b hb => ?_, q⟩
      have hb' : s1.heap.objs.size ≤ b := by
        simp only [List.mem_cons, List.not_mem_nil, or_false] at hb
        rcases hb with rfl | rfl | rfl | rfl | rfl
        · exact Nat.le_add_right _ 4
        · exact Nat.le_add_right _ 2
        · exact Nat.le_add_right _ 3
        · exact Nat.le_refl _
        · exact Nat.le_add_right _ 1
      exact I1.fpOk hb' (I1.hok.fresh hb')
theorem turn_rev {P : Program} {w : World} {K : PySem.W.Frag} {tg : Expr} (a it : Addr) (xs : List V) : Turn P w K tg (Itb K a xs) [it] it (fun i h => h.IsRevIter it a ((xs.length : Int) - 1 - i)) where
  mem := by simp
  obj := fun i h st b hb => by
    have e : b = it := by simpa using hb
    subst e
    obtain ⟨o, e, c, d⟩ := st
    exact ⟨o, e, fun v z => by rw [d] at z; cases z⟩
  keep := fun i h h' st k => st.at fun o e => k it (by simp) o e
  item := by
    intro X hP hw hK hc i pins s σ H E I hf st hg
    subst hP hw hK
    obtain ⟨hq, hi⟩ := hg
    obtain ⟨its, rv, p, hz⟩ := I.list hq
    have hx : xs[xs.length - 1 - i]? = some xs[xs.length - 1 - i] := List.getElem?_eq_getElem (by omega)
    obtain ⟨u, hu, ru⟩ := rv.get hx
    obtain ⟨f0, f1, f2, f3, f4, f5⟩ := hf it (by simp)
    have st1 : s.heap.IsRevIter it a ((xs.length - 1 - i : Nat) : Int) := by
      have e : ((xs.length : Int) - 1 - i) = ((xs.length - 1 - i : Nat) : Int) := by omega
      rw [← e]; exact st
    refine wpAny_pyNext_rev_item st1 p.isList (x := u) (by simpa using hu) fun h' st' sb => ?_
    have I1 : Inv X pins σ H { s with heap := h' } := I.turned (t' := s.toks) (fun b o hb e => (sb.2 b hb).trans e) f0 f1 f3 f4 f5
    obtain ⟨o, e, c, d⟩ := id st'
    refine ⟨u, rfl, go_of (s := { s with heap := h' }) e c d (by decide) ⟨_, H, I1, ru, ⟨rfl, hx⟩, ?_, fun b hb => (hf b hb).1⟩⟩
    have e : ((xs.length : Int) - 1 - ((i + 1 : Nat) : Int)) = ((xs.length - 1 - i : Nat) : Int) - 1 := by omega
    show h'.IsRevIter it a ((xs.length : Int) - 1 - ((i + 1 : Nat) : Int))
    rw [e]; exact st'
  done := by
    intro X hP hw hK hc i pins s σ H E I hf st hg
    subst hP hw hK
    obtain ⟨hq, hx⟩ := hg
    obtain ⟨f0, f1, f2, f3, f4, f5⟩ := hf it (by simp)
    have st1 : s.heap.IsRevIter it a (-1) := by
      have e : ((xs.length : Int) - 1 - i) = -1 := by omega
      rw [← e]; exact st
    exact wpAny_pyNext_rev_end (I.ok.hd hc) st1 fun h' eb => ⟨rfl, I.turned (t' := s.toks) (fun b o hb e => eb b o hb e) f0 f1 f3 f4 f5⟩
  self := fun _ _ _ _ _ st h => wpAny_pyIter_revIter st h
theorem pi_rev {a : Expr} {ta : TA} {p pos : Pos} (hg : Gl X "reversed") (hm : X.mg "reversed" = none) (ha : PA X [a] ta) (hs : starEach [a] X.env = [(false, eval a X.env)] := by rfl) : PI X tg (.Call (.Name "reversed" p) [a] [] pos) (iRev X.K ta) := by
  intro pins s σ H R I h
  refine Call_ (ld_blt I hg hm boot_reversedT (PyProof.Rows.callWith_type1 (thn (ha pos pins s σ H _ I h) fun us s1 ⟨vs, H1, I1, r1, q1⟩ => ?_) hs rfl))
  obtain ⟨l, xs, e, hq, q⟩ := q1
  subst e
  cases r1 with
  | cons r rr =>
    cases rr
    cases r
    obtain ⟨its, rv, pl, hz⟩ := I1.list hq
    have hlen := rv.length
    refine call_reversed_list pl.isList ?_
    have hit : (s1.heap.push (revObj l ((its.toArray.size : Int) - 1))).IsRevIter s1.heap.objs.size l ((xs.length : Int) - 1 - (0 : Nat)) := ⟨_, Heap.get?_push_size _ rfl, rfl, by
      show Data.fields #[.ref l, rawInt ((its.toArray.size : Int) - 1)] = _
      rw [show ((its.toArray.size : Int) - 1) = ((xs.length : Int) - 1 - (0 : Nat)) from by rw [List.size_toArray, ← hlen]; omega]⟩
    refine wpAny_pyIter_revIter hit ?_
    refine ⟨s1.heap.objs.size, [s1.heap.objs.size], _, _, H1, rfl, I1.kept (t' := s1.toks) fun b o e => Heap.get?_push_of_some _ e, turn_rev l _ xs, hit, fun b hb => ?_, q⟩
    have e : b = s1.heap.objs.size := by simpa using hb
    subst e
    exact I1.fpOk (Nat.le_refl _) (I1.hok.fresh (Nat.le_refl _))
theorem op_leS : OpR X (compareOp .LtE) rLeS := by
  intro pins s σ H x y v u Q I rx ry h
  obtain ⟨i, j, rfl, rfl, q⟩ := h
  obtain ⟨t, rfl⟩ := rx
  obtain ⟨t', rfl⟩ := ry
  exact PySem.P.le_str (fin_bl I q rfl)
end
end L2
namespace L2
open PySem PySem.Spec PyProof.Rows PySem.W
section
variable {X : Cx} {pins : List (Addr × Obj)} {σ : St} {H : Hp} {s : Shared} {a : Addr} {kvs : List (Key × V)} {k : Key} {u : Value} {A : Around} {E : Value → Shared → Prop}
end
section
variable {X : Cx} {o e f : Expr} {apos cpos : Pos} {td ty tx : TE}
end
section
variable {α β : Type}
def TOk (n : Nat) (P : α → Prop) : KasT α → Prop
  | .ret a => P a
  | .ask i j k => i < n ∧ j < n ∧ ∀ b, TOk n P (k b)
def kRun (lt : Nat → Nat → Bool) : KasT α → α
  | .ret a => a
  | .ask i j k => kRun lt (k (lt i j))
theorem TOk.run {n : Nat} {P : α → Prop} {lt : Nat → Nat → Bool} : ∀ {t : KasT α}, TOk n P t → P (kRun lt t)
  | .ret _, h => h
  | .ask i j k, h => show P (kRun lt (k (lt i j))) from TOk.run (h.2.2 (lt i j))
theorem TOk.bind {n : Nat} {P : α → Prop} {R : β → Prop} {f : α → KasT β} (hf : ∀ a, P a → TOk n R (f a)) : ∀ {t : KasT α}, TOk n P t → TOk n R (t.bind f)
  | .ret _, h => hf _ h
  | .ask i j k, h => ⟨h.1, h.2.1, fun b => TOk.bind hf (h.2.2 b)⟩
end
def PermN (n : Nat) (p : Array Nat) : Prop := p.Perm (List.toArray (List.range n))
theorem PermN.list {n : Nat} {p : Array Nat} (h : PermN n p) : p.toList.Perm (List.range n) := Array.perm_iff_toList_perm.mp h
theorem PermN.lt {n : Nat} {p : Array Nat} (h : PermN n p) (hn : 0 < n) (i : Nat) : p.getD i 0 < n := by
  by_cases hi : i < p.size
  · have h1 : p[i] ∈ List.range n := h.list.mem_iff.mp (by simp)
    have e : p.getD i 0 = p[i] := by simp [Array.getD, hi]
    rw [e]; exact List.mem_range.mp h1
  · have e : p.getD i 0 = 0 := by simp [Array.getD, hi]
    rw [e]; exact hn
section
variable {n : Nat} (hn : 0 < n)
include hn
end
section
variable {prog : Program} {w : World} {A : Around} {E : Value → Shared → Prop} {s : Shared}
end
section
variable {X : Cx}
end
section
variable {X : Cx}
end
section
variable {X : Cx} {K : PySem.W.Frag} {tg e : Expr} {te : TE}
end
end L2
namespace L2
open PySem
theorem vis0 {a b c : Prop} (h : a) : a ∨ b ∨ c := Or.inl h
theorem vis1 {a b c : Prop} (h : b) : a ∨ b ∨ c := Or.inr (Or.inl h)
theorem vis2 {a b c : Prop} (h : c) : a ∨ b ∨ c := Or.inr (Or.inr h)
end L2
namespace K21
open PySem L2 Tx
def top (i : Nat) : Stmt := PySem.Challenge.pw_mostwise_k21_written_out.main.body.getD i (.Pass ⟨0, 0, 0, 0⟩)
abbrev s_d_is_made_of : Stmt := top 9
abbrev n_d_is_made_of : List Str := ["thing", "signs", "most"]
theorem sc_d_is_made_of : FnScope n_d_is_made_of ["thing", "signs", "most"] (defScope s_d_is_made_of) := ⟨rfl, rfl, rfl, by decide +kernel, rfl, by decide +kernel, by decide +kernel⟩
abbrev s_d_is_name : Stmt := top 10
abbrev n_d_is_name : List Str := ["thing"]
theorem sc_d_is_name : FnScope n_d_is_name ["thing"] (defScope s_d_is_name) := ⟨rfl, rfl, rfl, by decide +kernel, rfl, by decide +kernel, by decide +kernel⟩
abbrev s_d_is_letter : Stmt := top 11
abbrev n_d_is_letter : List Str := ["thing"]
theorem sc_d_is_letter : FnScope n_d_is_letter ["thing"] (defScope s_d_is_letter) := ⟨rfl, rfl, rfl, by decide +kernel, rfl, by decide +kernel, by decide +kernel⟩
abbrev s_d_places_of : Stmt := top 12
abbrev n_d_places_of : List Str := ["behind", "places"]
theorem sc_d_places_of : FnScope n_d_places_of ["behind"] (defScope s_d_places_of) := ⟨rfl, rfl, rfl, by decide +kernel, rfl, by decide +kernel, by decide +kernel⟩
abbrev s_d_parts_of : Stmt := top 13
abbrev n_d_parts_of : List Str := ["statement", "side", "cut", "places"]
theorem sc_d_parts_of : FnScope n_d_parts_of ["statement"] (defScope s_d_parts_of) := ⟨rfl, rfl, rfl, by decide +kernel, rfl, by decide +kernel, by decide +kernel⟩
abbrev s_d_text_of : Stmt := top 14
abbrev n_d_text_of : List Str := ["side", "name", "places"]
theorem sc_d_text_of : FnScope n_d_text_of ["side", "name", "places"] (defScope s_d_text_of) := ⟨rfl, rfl, rfl, by decide +kernel, rfl, by decide +kernel, by decide +kernel⟩
abbrev s_d_letters_of : Stmt := top 15
abbrev n_d_letters_of : List Str := ["statement", "letters", "place"]
theorem sc_d_letters_of : FnScope n_d_letters_of ["statement"] (defScope s_d_letters_of) := ⟨rfl, rfl, rfl, by decide +kernel, rfl, by decide +kernel, by decide +kernel⟩
abbrev s_d_put_for : Stmt := top 16
abbrev n_d_put_for : List Str := ["place", "given"]
theorem sc_d_put_for : FnScope n_d_put_for ["place", "given"] (defScope s_d_put_for) := ⟨rfl, rfl, rfl, by decide +kernel, rfl, by decide +kernel, by decide +kernel⟩
abbrev s_d_filled : Stmt := top 17
abbrev n_d_filled : List Str := ["statement", "given", "parts"]
theorem sc_d_filled : FnScope n_d_filled ["statement", "given"] (defScope s_d_filled) := ⟨rfl, rfl, rfl, by decide +kernel, rfl, by decide +kernel, by decide +kernel⟩
abbrev s_c_Rule_init : Stmt := inClass (top 20) 0
abbrev n_c_Rule_init : List Str := ["self", "label", "head", "body"]
theorem sc_c_Rule_init : FnScope n_c_Rule_init ["self", "label", "head", "body"] (defScope s_c_Rule_init) := ⟨rfl, rfl, rfl, by decide +kernel, rfl, by decide +kernel, by decide +kernel⟩
abbrev s_c_Rule_letters : Stmt := inClass (top 20) 4
abbrev n_c_Rule_letters : List Str := ["self", "told", "statement"]
theorem sc_c_Rule_letters : FnScope n_c_Rule_letters ["self"] (defScope s_c_Rule_letters) := ⟨rfl, rfl, rfl, by decide +kernel, rfl, by decide +kernel, by decide +kernel⟩
abbrev s_c_Rule_filled : Stmt := inClass (top 20) 6
abbrev n_c_Rule_filled : List Str := ["self", "given"]
theorem sc_c_Rule_filled : FnScope n_c_Rule_filled ["self", "given"] (defScope s_c_Rule_filled) := ⟨rfl, rfl, rfl, by decide +kernel, rfl, by decide +kernel, by decide +kernel⟩
abbrev s_c_Fact_init : Stmt := inClass (top 21) 0
abbrev n_c_Fact_init : List Str := ["self", "head"]
theorem sc_c_Fact_init : FnScope n_c_Fact_init ["self", "head"] (defScope s_c_Fact_init) := ⟨rfl, rfl, rfl, by decide +kernel, rfl, by decide +kernel, by decide +kernel⟩
abbrev s_c_Fact_again : Stmt := inClass (top 21) 3
abbrev n_c_Fact_again : List Str := ["self", "head", "body"]
theorem sc_c_Fact_again : FnScope n_c_Fact_again ["self", "head", "body"] (defScope s_c_Fact_again) := ⟨rfl, rfl, rfl, by decide +kernel, rfl, by decide +kernel, by decide +kernel⟩
abbrev s_c_Sure_again : Stmt := inClass (top 22) 2
abbrev n_c_Sure_again : List Str := ["self", "head", "body"]
theorem sc_c_Sure_again : FnScope n_c_Sure_again ["self", "head", "body"] (defScope s_c_Sure_again) := ⟨rfl, rfl, rfl, by decide +kernel, rfl, by decide +kernel, by decide +kernel⟩
abbrev s_c_Most_again : Stmt := inClass (top 23) 1
abbrev n_c_Most_again : List Str := ["self", "head", "body"]
theorem sc_c_Most_again : FnScope n_c_Most_again ["self", "head", "body"] (defScope s_c_Most_again) := ⟨rfl, rfl, rfl, by decide +kernel, rfl, by decide +kernel, by decide +kernel⟩
abbrev s_c_Block_again : Stmt := inClass (top 24) 2
abbrev n_c_Block_again : List Str := ["self", "head", "body"]
theorem sc_c_Block_again : FnScope n_c_Block_again ["self", "head", "body"] (defScope s_c_Block_again) := ⟨rfl, rfl, rfl, by decide +kernel, rfl, by decide +kernel, by decide +kernel⟩
abbrev s_d_ways_to_give : Stmt := top 26
abbrev n_d_ways_to_give : List Str := ["letters", "things", "ways", "letter", "longer", "way", "thing", "given"]
theorem sc_d_ways_to_give : FnScope n_d_ways_to_give ["letters", "things"] (defScope s_d_ways_to_give) := ⟨rfl, rfl, rfl, by decide +kernel, rfl, by decide +kernel, by decide +kernel⟩
abbrev s_d_written_out : Stmt := top 27
abbrev n_d_written_out : List Str := ["rule", "things", "letters"]
theorem sc_d_written_out : FnScope n_d_written_out ["rule", "things"] (defScope s_d_written_out) := ⟨rfl, rfl, rfl, by decide +kernel, rfl, by decide +kernel, by decide +kernel⟩
abbrev s_d_l_cell_at : Stmt := top 29
abbrev n_d_l_cell_at : List Str := ["_law_script", "_law_k"]
theorem sc_d_l_cell_at : FnScope n_d_l_cell_at ["_law_script", "_law_k"] (defScope s_d_l_cell_at) := ⟨rfl, rfl, rfl, by decide +kernel, rfl, by decide +kernel, by decide +kernel⟩
abbrev s_d_l_mix : Stmt := top 30
abbrev n_d_l_mix : List Str := ["_law_cell", "_law_k", "_law_number"]
theorem sc_d_l_mix : FnScope n_d_l_mix ["_law_cell", "_law_k"] (defScope s_d_l_mix) := ⟨rfl, rfl, rfl, by decide +kernel, rfl, by decide +kernel, by decide +kernel⟩
abbrev s_d_l_words : Stmt := top 31
abbrev n_d_l_words : List Str := ["_law_cell", "_law_many", "_law_signs", "_law_base", "_law_size", "_law_at", "_law_found", "_law_k", "_law_other"]
theorem sc_d_l_words : FnScope n_d_l_words ["_law_cell", "_law_many"] (defScope s_d_l_words) := ⟨rfl, rfl, rfl, by decide +kernel, rfl, by decide +kernel, by decide +kernel⟩
abbrev s_d_l_statement : Stmt := top 32
abbrev n_d_l_statement : List Str := ["_law_number", "_law_names", "_law_some", "_law_places", "_law_rest", "_law_k"]
theorem sc_d_l_statement : FnScope n_d_l_statement ["_law_number", "_law_names", "_law_some"] (defScope s_d_l_statement) := ⟨rfl, rfl, rfl, by decide +kernel, rfl, by decide +kernel, by decide +kernel⟩
abbrev s_d_l_text : Stmt := top 33
abbrev n_d_l_text : List Str := ["_law_spec", "_law_given", "_law_side", "_law_name", "_law_places"]
theorem sc_d_l_text : FnScope n_d_l_text ["_law_spec", "_law_given"] (defScope s_d_l_text) := ⟨rfl, rfl, rfl, by decide +kernel, rfl, by decide +kernel, by decide +kernel⟩
abbrev s_d_l_order : Stmt := top 34
abbrev n_d_l_order : List Str := ["_law_specs_here", "_law_found", "_law_side", "_law_name", "_law_places", "_law_place"]
theorem sc_d_l_order : FnScope n_d_l_order ["_law_specs_here"] (defScope s_d_l_order) := ⟨rfl, rfl, rfl, by decide +kernel, rfl, by decide +kernel, by decide +kernel⟩
abbrev s_d_l_made : Stmt := top 35
abbrev n_d_l_made : List Str := ["_law_kind", "_law_label", "_law_texts"]
theorem sc_d_l_made : FnScope n_d_l_made ["_law_kind", "_law_label", "_law_texts"] (defScope s_d_l_made) := ⟨rfl, rfl, rfl, by decide +kernel, rfl, by decide +kernel, by decide +kernel⟩
abbrev s_d_l_specs : Stmt := top 36
abbrev n_d_l_specs : List Str := ["_law_script", "_law_kind", "_law_things", "_law_names", "_law_signs", "_law_first", "_law_some", "_law_many", "_law_numbers"]
theorem sc_d_l_specs : FnScope n_d_l_specs ["_law_script", "_law_kind", "_law_things", "_law_names"] (defScope s_d_l_specs) := ⟨rfl, rfl, rfl, by decide +kernel, rfl, by decide +kernel, by decide +kernel⟩
abbrev s_d_l_due : Stmt := top 37
abbrev n_d_l_due : List Str := ["_law_specs_here", "_law_things", "_law_order_here", "_law_many", "_law_letter", "_law_due_here", "_law_number", "_law_given", "_law_left"]
theorem sc_d_l_due : FnScope n_d_l_due ["_law_specs_here", "_law_things"] (defScope s_d_l_due) := ⟨rfl, rfl, rfl, by decide +kernel, rfl, by decide +kernel, by decide +kernel⟩
abbrev s_d_l_good : Stmt := top 38
abbrev n_d_l_good : List Str := ["_law_found", "_law_kind", "_law_label", "_law_due_here", "_law_rule", "_law_texts", "_law_kinds"]
theorem sc_d_l_good : FnScope n_d_l_good ["_law_found", "_law_kind", "_law_label", "_law_due_here"] (defScope s_d_l_good) := ⟨rfl, rfl, rfl, by decide +kernel, rfl, by decide +kernel, by decide +kernel⟩
abbrev s_d_law : Stmt := top 39
abbrev n_d_law : List Str := ["_law_script", "_law_things", "_law_names", "_law_kind", "_law_label", "_law_specs_here", "_law_texts", "_law_rule", "_law_due_here", "_law_handed", "_law_found"]
theorem sc_d_law : FnScope n_d_law ["_law_script"] (defScope s_d_law) := ⟨rfl, rfl, rfl, by decide +kernel, rfl, by decide +kernel, by decide +kernel⟩
structure Adr where
  f_d_is_made_of : Addr
  fd_d_is_made_of : FuncData
  f_d_is_name : Addr
  fd_d_is_name : FuncData
  f_d_is_letter : Addr
  fd_d_is_letter : FuncData
  f_d_places_of : Addr
  fd_d_places_of : FuncData
  f_d_parts_of : Addr
  fd_d_parts_of : FuncData
  f_d_text_of : Addr
  fd_d_text_of : FuncData
  f_d_letters_of : Addr
  fd_d_letters_of : FuncData
  f_d_put_for : Addr
  fd_d_put_for : FuncData
  f_d_filled : Addr
  fd_d_filled : FuncData
  f_c_Rule_init : Addr
  fd_c_Rule_init : FuncData
  f_c_Rule_letters : Addr
  fd_c_Rule_letters : FuncData
  f_c_Rule_filled : Addr
  fd_c_Rule_filled : FuncData
  f_c_Fact_init : Addr
  fd_c_Fact_init : FuncData
  f_c_Fact_again : Addr
  fd_c_Fact_again : FuncData
  f_c_Sure_again : Addr
  fd_c_Sure_again : FuncData
  f_c_Most_again : Addr
  fd_c_Most_again : FuncData
  f_c_Block_again : Addr
  fd_c_Block_again : FuncData
  f_d_ways_to_give : Addr
  fd_d_ways_to_give : FuncData
  f_d_written_out : Addr
  fd_d_written_out : FuncData
  f_d_l_cell_at : Addr
  fd_d_l_cell_at : FuncData
  f_d_l_mix : Addr
  fd_d_l_mix : FuncData
  f_d_l_words : Addr
  fd_d_l_words : FuncData
  f_d_l_statement : Addr
  fd_d_l_statement : FuncData
  f_d_l_text : Addr
  fd_d_l_text : FuncData
  f_d_l_order : Addr
  fd_d_l_order : FuncData
  f_d_l_made : Addr
  fd_d_l_made : FuncData
  f_d_l_specs : Addr
  fd_d_l_specs : FuncData
  f_d_l_due : Addr
  fd_d_l_due : FuncData
  f_d_l_good : Addr
  fd_d_l_good : FuncData
  f_d_law : Addr
  fd_d_law : FuncData
  C_MostError : Addr
  C_NoStatement : Addr
  C_Rule : Addr
  C_Fact : Addr
  C_Sure : Addr
  C_Most : Addr
  C_Block : Addr
structure Txt (K : PySem.W.Frag) (mg : Str → Option Value) (t : Adr) : Prop where
  F_d_is_made_of : Fun K "is_made_of" "is_made_of" s_d_is_made_of t.f_d_is_made_of t.fd_d_is_made_of
  b_d_is_made_of : Binds K t.fd_d_is_made_of ["thing", "signs", "most"] []
  g_d_is_made_of : mg "is_made_of" = some (.ref t.f_d_is_made_of)
  F_d_is_name : Fun K "is_name" "is_name" s_d_is_name t.f_d_is_name t.fd_d_is_name
  b_d_is_name : Binds K t.fd_d_is_name ["thing"] []
  g_d_is_name : mg "is_name" = some (.ref t.f_d_is_name)
  F_d_is_letter : Fun K "is_letter" "is_letter" s_d_is_letter t.f_d_is_letter t.fd_d_is_letter
  b_d_is_letter : Binds K t.fd_d_is_letter ["thing"] []
  g_d_is_letter : mg "is_letter" = some (.ref t.f_d_is_letter)
  F_d_places_of : Fun K "places_of" "places_of" s_d_places_of t.f_d_places_of t.fd_d_places_of
  b_d_places_of : Binds K t.fd_d_places_of ["behind"] []
  g_d_places_of : mg "places_of" = some (.ref t.f_d_places_of)
  F_d_parts_of : Fun K "parts_of" "parts_of" s_d_parts_of t.f_d_parts_of t.fd_d_parts_of
  b_d_parts_of : Binds K t.fd_d_parts_of ["statement"] []
  g_d_parts_of : mg "parts_of" = some (.ref t.f_d_parts_of)
  F_d_text_of : Fun K "text_of" "text_of" s_d_text_of t.f_d_text_of t.fd_d_text_of
  b_d_text_of : Binds K t.fd_d_text_of ["side", "name", "places"] []
  g_d_text_of : mg "text_of" = some (.ref t.f_d_text_of)
  F_d_letters_of : Fun K "letters_of" "letters_of" s_d_letters_of t.f_d_letters_of t.fd_d_letters_of
  b_d_letters_of : Binds K t.fd_d_letters_of ["statement"] []
  g_d_letters_of : mg "letters_of" = some (.ref t.f_d_letters_of)
  F_d_put_for : Fun K "put_for" "put_for" s_d_put_for t.f_d_put_for t.fd_d_put_for
  b_d_put_for : Binds K t.fd_d_put_for ["place", "given"] []
  g_d_put_for : mg "put_for" = some (.ref t.f_d_put_for)
  F_d_filled : Fun K "filled" "filled" s_d_filled t.f_d_filled t.fd_d_filled
  b_d_filled : Binds K t.fd_d_filled ["statement", "given"] []
  g_d_filled : mg "filled" = some (.ref t.f_d_filled)
  F_c_Rule_init : Fun K "__init__" "Rule.__init__" s_c_Rule_init t.f_c_Rule_init t.fd_c_Rule_init
  b_c_Rule_init : Binds K t.fd_c_Rule_init ["self", "label", "head", "body"] []
  F_c_Rule_letters : Fun K "letters" "Rule.letters" s_c_Rule_letters t.f_c_Rule_letters t.fd_c_Rule_letters
  b_c_Rule_letters : Binds K t.fd_c_Rule_letters ["self"] []
  F_c_Rule_filled : Fun K "filled" "Rule.filled" s_c_Rule_filled t.f_c_Rule_filled t.fd_c_Rule_filled
  b_c_Rule_filled : Binds K t.fd_c_Rule_filled ["self", "given"] []
  F_c_Fact_init : Fun K "__init__" "Fact.__init__" s_c_Fact_init t.f_c_Fact_init t.fd_c_Fact_init
  b_c_Fact_init : Binds K t.fd_c_Fact_init ["self", "head"] []
  F_c_Fact_again : Fun K "again" "Fact.again" s_c_Fact_again t.f_c_Fact_again t.fd_c_Fact_again
  b_c_Fact_again : Binds K t.fd_c_Fact_again ["self", "head", "body"] []
  F_c_Sure_again : Fun K "again" "Sure.again" s_c_Sure_again t.f_c_Sure_again t.fd_c_Sure_again
  b_c_Sure_again : Binds K t.fd_c_Sure_again ["self", "head", "body"] []
  F_c_Most_again : Fun K "again" "Most.again" s_c_Most_again t.f_c_Most_again t.fd_c_Most_again
  b_c_Most_again : Binds K t.fd_c_Most_again ["self", "head", "body"] []
  F_c_Block_again : Fun K "again" "Block.again" s_c_Block_again t.f_c_Block_again t.fd_c_Block_again
  b_c_Block_again : Binds K t.fd_c_Block_again ["self", "head", "body"] []
  F_d_ways_to_give : Fun K "ways_to_give" "ways_to_give" s_d_ways_to_give t.f_d_ways_to_give t.fd_d_ways_to_give
  b_d_ways_to_give : Binds K t.fd_d_ways_to_give ["letters", "things"] []
  g_d_ways_to_give : mg "ways_to_give" = some (.ref t.f_d_ways_to_give)
  F_d_written_out : Fun K "written_out" "written_out" s_d_written_out t.f_d_written_out t.fd_d_written_out
  b_d_written_out : Binds K t.fd_d_written_out ["rule", "things"] []
  g_d_written_out : mg "written_out" = some (.ref t.f_d_written_out)
  F_d_l_cell_at : Fun K "_law_cell_at" "_law_cell_at" s_d_l_cell_at t.f_d_l_cell_at t.fd_d_l_cell_at
  b_d_l_cell_at : Binds K t.fd_d_l_cell_at ["_law_script", "_law_k"] []
  g_d_l_cell_at : mg "_law_cell_at" = some (.ref t.f_d_l_cell_at)
  F_d_l_mix : Fun K "_law_mix" "_law_mix" s_d_l_mix t.f_d_l_mix t.fd_d_l_mix
  b_d_l_mix : Binds K t.fd_d_l_mix ["_law_cell", "_law_k"] []
  g_d_l_mix : mg "_law_mix" = some (.ref t.f_d_l_mix)
  F_d_l_words : Fun K "_law_words" "_law_words" s_d_l_words t.f_d_l_words t.fd_d_l_words
  b_d_l_words : Binds K t.fd_d_l_words ["_law_cell", "_law_many"] []
  g_d_l_words : mg "_law_words" = some (.ref t.f_d_l_words)
  F_d_l_statement : Fun K "_law_statement" "_law_statement" s_d_l_statement t.f_d_l_statement t.fd_d_l_statement
  b_d_l_statement : Binds K t.fd_d_l_statement ["_law_number", "_law_names", "_law_some"] []
  g_d_l_statement : mg "_law_statement" = some (.ref t.f_d_l_statement)
  F_d_l_text : Fun K "_law_text" "_law_text" s_d_l_text t.f_d_l_text t.fd_d_l_text
  b_d_l_text : Binds K t.fd_d_l_text ["_law_spec", "_law_given"] []
  g_d_l_text : mg "_law_text" = some (.ref t.f_d_l_text)
  F_d_l_order : Fun K "_law_order" "_law_order" s_d_l_order t.f_d_l_order t.fd_d_l_order
  b_d_l_order : Binds K t.fd_d_l_order ["_law_specs_here"] []
  g_d_l_order : mg "_law_order" = some (.ref t.f_d_l_order)
  F_d_l_made : Fun K "_law_made" "_law_made" s_d_l_made t.f_d_l_made t.fd_d_l_made
  b_d_l_made : Binds K t.fd_d_l_made ["_law_kind", "_law_label", "_law_texts"] []
  g_d_l_made : mg "_law_made" = some (.ref t.f_d_l_made)
  F_d_l_specs : Fun K "_law_specs" "_law_specs" s_d_l_specs t.f_d_l_specs t.fd_d_l_specs
  b_d_l_specs : Binds K t.fd_d_l_specs ["_law_script", "_law_kind", "_law_things", "_law_names"] []
  g_d_l_specs : mg "_law_specs" = some (.ref t.f_d_l_specs)
  F_d_l_due : Fun K "_law_due" "_law_due" s_d_l_due t.f_d_l_due t.fd_d_l_due
  b_d_l_due : Binds K t.fd_d_l_due ["_law_specs_here", "_law_things"] []
  g_d_l_due : mg "_law_due" = some (.ref t.f_d_l_due)
  F_d_l_good : Fun K "_law_good" "_law_good" s_d_l_good t.f_d_l_good t.fd_d_l_good
  b_d_l_good : Binds K t.fd_d_l_good ["_law_found", "_law_kind", "_law_label", "_law_due_here"] []
  g_d_l_good : mg "_law_good" = some (.ref t.f_d_l_good)
  F_d_law : Fun K "law" "law" s_d_law t.f_d_law t.fd_d_law
  b_d_law : Binds K t.fd_d_law ["_law_script"] []
  g_d_law : mg "law" = some (.ref t.f_d_law)
  k_SMALL : ∃ u, mg "SMALL" = some (.str "abcdefghijklmnopqrstuvwxyz" u)
  k_GREAT : ∃ u, mg "GREAT" = some (.str "ABCDEFGHIJKLMNOPQRSTUVWXYZ" u)
  k_LONGEST : ∃ u, mg "LONGEST" = some (.int 8 u)
  k_MOST_PLACES : ∃ u, mg "MOST_PLACES" = some (.int 2 u)
  ga_filled_words : mg "filled_words" = some (.ref t.f_d_filled)
  g_MostError : mg "MostError" = some (.ref t.C_MostError)
  g_NoStatement : mg "NoStatement" = some (.ref t.C_NoStatement)
  g_Rule : mg "Rule" = some (.ref t.C_Rule)
  g_Fact : mg "Fact" = some (.ref t.C_Fact)
  g_Sure : mg "Sure" = some (.ref t.C_Sure)
  g_Most : mg "Most" = some (.ref t.C_Most)
  g_Block : mg "Block" = some (.ref t.C_Block)
  z_NotImplementedError : mg "NotImplementedError" = none
  z_ValueError : mg "ValueError" = none
  z_all : mg "all" = none
  z_dict : mg "dict" = none
  z_isinstance : mg "isinstance" = none
  z_len : mg "len" = none
  z_list : mg "list" = none
  z_range : mg "range" = none
  z_reversed : mg "reversed" = none
  z_str : mg "str" = none
  z_tuple : mg "tuple" = none
  z_zip : mg "zip" = none
  cm_Rule : CMeth K t.C_Rule "__init__" t.f_c_Rule_init
  cl_Fact : Cls K t.C_Fact
  ty_Fact : TyI K t.C_Fact
  nf_Fact_label : NoAttr K t.C_Fact "label"
  nf_Fact_head : NoAttr K t.C_Fact "head"
  nf_Fact_body : NoAttr K t.C_Fact "body"
  mk_Fact : Mk K t.C_Fact t.f_c_Fact_init
  me_Fact_letters : Meth K t.C_Fact "letters" t.f_c_Rule_letters
  me_Fact_again : Meth K t.C_Fact "again" t.f_c_Fact_again
  me_Fact_filled : Meth K t.C_Fact "filled" t.f_c_Rule_filled
  ki_Fact_Rule : PySem.W.kitOne K (.ref t.C_Fact) (.ref t.C_Rule) = some true
  ki_Fact_Fact : PySem.W.kitOne K (.ref t.C_Fact) (.ref t.C_Fact) = some true
  ki_Fact_Sure : PySem.W.kitOne K (.ref t.C_Fact) (.ref t.C_Sure) = some false
  ki_Fact_Most : PySem.W.kitOne K (.ref t.C_Fact) (.ref t.C_Most) = some false
  ki_Fact_Block : PySem.W.kitOne K (.ref t.C_Fact) (.ref t.C_Block) = some false
  cl_Sure : Cls K t.C_Sure
  ty_Sure : TyI K t.C_Sure
  nf_Sure_label : NoAttr K t.C_Sure "label"
  nf_Sure_head : NoAttr K t.C_Sure "head"
  nf_Sure_body : NoAttr K t.C_Sure "body"
  mk_Sure : Mk K t.C_Sure t.f_c_Rule_init
  me_Sure_letters : Meth K t.C_Sure "letters" t.f_c_Rule_letters
  me_Sure_again : Meth K t.C_Sure "again" t.f_c_Sure_again
  me_Sure_filled : Meth K t.C_Sure "filled" t.f_c_Rule_filled
  ki_Sure_Rule : PySem.W.kitOne K (.ref t.C_Sure) (.ref t.C_Rule) = some true
  ki_Sure_Fact : PySem.W.kitOne K (.ref t.C_Sure) (.ref t.C_Fact) = some false
  ki_Sure_Sure : PySem.W.kitOne K (.ref t.C_Sure) (.ref t.C_Sure) = some true
  ki_Sure_Most : PySem.W.kitOne K (.ref t.C_Sure) (.ref t.C_Most) = some false
  ki_Sure_Block : PySem.W.kitOne K (.ref t.C_Sure) (.ref t.C_Block) = some false
  cl_Most : Cls K t.C_Most
  ty_Most : TyI K t.C_Most
  nf_Most_label : NoAttr K t.C_Most "label"
  nf_Most_head : NoAttr K t.C_Most "head"
  nf_Most_body : NoAttr K t.C_Most "body"
  mk_Most : Mk K t.C_Most t.f_c_Rule_init
  me_Most_letters : Meth K t.C_Most "letters" t.f_c_Rule_letters
  me_Most_again : Meth K t.C_Most "again" t.f_c_Most_again
  me_Most_filled : Meth K t.C_Most "filled" t.f_c_Rule_filled
  ki_Most_Rule : PySem.W.kitOne K (.ref t.C_Most) (.ref t.C_Rule) = some true
  ki_Most_Fact : PySem.W.kitOne K (.ref t.C_Most) (.ref t.C_Fact) = some false
  ki_Most_Sure : PySem.W.kitOne K (.ref t.C_Most) (.ref t.C_Sure) = some false
  ki_Most_Most : PySem.W.kitOne K (.ref t.C_Most) (.ref t.C_Most) = some true
  ki_Most_Block : PySem.W.kitOne K (.ref t.C_Most) (.ref t.C_Block) = some false
  cl_Block : Cls K t.C_Block
  ty_Block : TyI K t.C_Block
  nf_Block_label : NoAttr K t.C_Block "label"
  nf_Block_head : NoAttr K t.C_Block "head"
  nf_Block_body : NoAttr K t.C_Block "body"
  mk_Block : Mk K t.C_Block t.f_c_Rule_init
  me_Block_letters : Meth K t.C_Block "letters" t.f_c_Rule_letters
  me_Block_again : Meth K t.C_Block "again" t.f_c_Block_again
  me_Block_filled : Meth K t.C_Block "filled" t.f_c_Rule_filled
  ki_Block_Rule : PySem.W.kitOne K (.ref t.C_Block) (.ref t.C_Rule) = some true
  ki_Block_Fact : PySem.W.kitOne K (.ref t.C_Block) (.ref t.C_Fact) = some false
  ki_Block_Sure : PySem.W.kitOne K (.ref t.C_Block) (.ref t.C_Sure) = some false
  ki_Block_Most : PySem.W.kitOne K (.ref t.C_Block) (.ref t.C_Most) = some false
  ki_Block_Block : PySem.W.kitOne K (.ref t.C_Block) (.ref t.C_Block) = some true
theorem txt_mk {K : PySem.W.Frag} {h : Heap} {mg : Str → Option Value} (X : K.In h) (G : h.Ns mainGlobals mg)
    {f_d_is_made_of : Addr} {od_d_is_made_of an_d_is_made_of : Option Addr} {sl_d_is_made_of : Array (Option Value)} {oc_d_is_made_of kV_d_is_made_of dc_d_is_made_of pm_d_is_made_of cd_d_is_made_of ct_d_is_made_of : Value}
    {f_d_is_name : Addr} {od_d_is_name an_d_is_name : Option Addr} {sl_d_is_name : Array (Option Value)} {oc_d_is_name kV_d_is_name dc_d_is_name pm_d_is_name cd_d_is_name ct_d_is_name : Value}
    {f_d_is_letter : Addr} {od_d_is_letter an_d_is_letter : Option Addr} {sl_d_is_letter : Array (Option Value)} {oc_d_is_letter kV_d_is_letter dc_d_is_letter pm_d_is_letter cd_d_is_letter ct_d_is_letter : Value}
    {f_d_places_of : Addr} {od_d_places_of an_d_places_of : Option Addr} {sl_d_places_of : Array (Option Value)} {oc_d_places_of kV_d_places_of dc_d_places_of pm_d_places_of cd_d_places_of ct_d_places_of : Value}
    {f_d_parts_of : Addr} {od_d_parts_of an_d_parts_of : Option Addr} {sl_d_parts_of : Array (Option Value)} {oc_d_parts_of kV_d_parts_of dc_d_parts_of pm_d_parts_of cd_d_parts_of ct_d_parts_of : Value}
    {f_d_text_of : Addr} {od_d_text_of an_d_text_of : Option Addr} {sl_d_text_of : Array (Option Value)} {oc_d_text_of kV_d_text_of dc_d_text_of pm_d_text_of cd_d_text_of ct_d_text_of : Value}
    {f_d_letters_of : Addr} {od_d_letters_of an_d_letters_of : Option Addr} {sl_d_letters_of : Array (Option Value)} {oc_d_letters_of kV_d_letters_of dc_d_letters_of pm_d_letters_of cd_d_letters_of ct_d_letters_of : Value}
    {f_d_put_for : Addr} {od_d_put_for an_d_put_for : Option Addr} {sl_d_put_for : Array (Option Value)} {oc_d_put_for kV_d_put_for dc_d_put_for pm_d_put_for cd_d_put_for ct_d_put_for : Value}
    {f_d_filled : Addr} {od_d_filled an_d_filled : Option Addr} {sl_d_filled : Array (Option Value)} {oc_d_filled kV_d_filled dc_d_filled pm_d_filled cd_d_filled ct_d_filled : Value}
    {f_c_Rule_init : Addr} {od_c_Rule_init an_c_Rule_init : Option Addr} {sl_c_Rule_init : Array (Option Value)} {oc_c_Rule_init kV_c_Rule_init dc_c_Rule_init pm_c_Rule_init cd_c_Rule_init ct_c_Rule_init : Value}
    {f_c_Rule_letters : Addr} {od_c_Rule_letters an_c_Rule_letters : Option Addr} {sl_c_Rule_letters : Array (Option Value)} {oc_c_Rule_letters kV_c_Rule_letters dc_c_Rule_letters pm_c_Rule_letters cd_c_Rule_letters ct_c_Rule_letters : Value}
    {f_c_Rule_filled : Addr} {od_c_Rule_filled an_c_Rule_filled : Option Addr} {sl_c_Rule_filled : Array (Option Value)} {oc_c_Rule_filled kV_c_Rule_filled dc_c_Rule_filled pm_c_Rule_filled cd_c_Rule_filled ct_c_Rule_filled : Value}
    {f_c_Fact_init : Addr} {od_c_Fact_init an_c_Fact_init : Option Addr} {sl_c_Fact_init : Array (Option Value)} {oc_c_Fact_init kV_c_Fact_init dc_c_Fact_init pm_c_Fact_init cd_c_Fact_init ct_c_Fact_init : Value}
    {f_c_Fact_again : Addr} {od_c_Fact_again an_c_Fact_again : Option Addr} {sl_c_Fact_again : Array (Option Value)} {oc_c_Fact_again kV_c_Fact_again dc_c_Fact_again pm_c_Fact_again cd_c_Fact_again ct_c_Fact_again : Value}
    {f_c_Sure_again : Addr} {od_c_Sure_again an_c_Sure_again : Option Addr} {sl_c_Sure_again : Array (Option Value)} {oc_c_Sure_again kV_c_Sure_again dc_c_Sure_again pm_c_Sure_again cd_c_Sure_again ct_c_Sure_again : Value}
    {f_c_Most_again : Addr} {od_c_Most_again an_c_Most_again : Option Addr} {sl_c_Most_again : Array (Option Value)} {oc_c_Most_again kV_c_Most_again dc_c_Most_again pm_c_Most_again cd_c_Most_again ct_c_Most_again : Value}
    {f_c_Block_again : Addr} {od_c_Block_again an_c_Block_again : Option Addr} {sl_c_Block_again : Array (Option Value)} {oc_c_Block_again kV_c_Block_again dc_c_Block_again pm_c_Block_again cd_c_Block_again ct_c_Block_again : Value}
    {f_d_ways_to_give : Addr} {od_d_ways_to_give an_d_ways_to_give : Option Addr} {sl_d_ways_to_give : Array (Option Value)} {oc_d_ways_to_give kV_d_ways_to_give dc_d_ways_to_give pm_d_ways_to_give cd_d_ways_to_give ct_d_ways_to_give : Value}
    {f_d_written_out : Addr} {od_d_written_out an_d_written_out : Option Addr} {sl_d_written_out : Array (Option Value)} {oc_d_written_out kV_d_written_out dc_d_written_out pm_d_written_out cd_d_written_out ct_d_written_out : Value}
    {f_d_l_cell_at : Addr} {od_d_l_cell_at an_d_l_cell_at : Option Addr} {sl_d_l_cell_at : Array (Option Value)} {oc_d_l_cell_at kV_d_l_cell_at dc_d_l_cell_at pm_d_l_cell_at cd_d_l_cell_at ct_d_l_cell_at : Value}
    {f_d_l_mix : Addr} {od_d_l_mix an_d_l_mix : Option Addr} {sl_d_l_mix : Array (Option Value)} {oc_d_l_mix kV_d_l_mix dc_d_l_mix pm_d_l_mix cd_d_l_mix ct_d_l_mix : Value}
    {f_d_l_words : Addr} {od_d_l_words an_d_l_words : Option Addr} {sl_d_l_words : Array (Option Value)} {oc_d_l_words kV_d_l_words dc_d_l_words pm_d_l_words cd_d_l_words ct_d_l_words : Value}
    {f_d_l_statement : Addr} {od_d_l_statement an_d_l_statement : Option Addr} {sl_d_l_statement : Array (Option Value)} {oc_d_l_statement kV_d_l_statement dc_d_l_statement pm_d_l_statement cd_d_l_statement ct_d_l_statement : Value}
    {f_d_l_text : Addr} {od_d_l_text an_d_l_text : Option Addr} {sl_d_l_text : Array (Option Value)} {oc_d_l_text kV_d_l_text dc_d_l_text pm_d_l_text cd_d_l_text ct_d_l_text : Value}
    {f_d_l_order : Addr} {od_d_l_order an_d_l_order : Option Addr} {sl_d_l_order : Array (Option Value)} {oc_d_l_order kV_d_l_order dc_d_l_order pm_d_l_order cd_d_l_order ct_d_l_order : Value}
    {f_d_l_made : Addr} {od_d_l_made an_d_l_made : Option Addr} {sl_d_l_made : Array (Option Value)} {oc_d_l_made kV_d_l_made dc_d_l_made pm_d_l_made cd_d_l_made ct_d_l_made : Value}
    {f_d_l_specs : Addr} {od_d_l_specs an_d_l_specs : Option Addr} {sl_d_l_specs : Array (Option Value)} {oc_d_l_specs kV_d_l_specs dc_d_l_specs pm_d_l_specs cd_d_l_specs ct_d_l_specs : Value}
    {f_d_l_due : Addr} {od_d_l_due an_d_l_due : Option Addr} {sl_d_l_due : Array (Option Value)} {oc_d_l_due kV_d_l_due dc_d_l_due pm_d_l_due cd_d_l_due ct_d_l_due : Value}
    {f_d_l_good : Addr} {od_d_l_good an_d_l_good : Option Addr} {sl_d_l_good : Array (Option Value)} {oc_d_l_good kV_d_l_good dc_d_l_good pm_d_l_good cd_d_l_good ct_d_l_good : Value}
    {f_d_law : Addr} {od_d_law an_d_law : Option Addr} {sl_d_law : Array (Option Value)} {oc_d_law kV_d_law dc_d_law pm_d_law cd_d_law ct_d_law : Value}
    {C_MostError : Addr}
    {C_NoStatement : Addr}
    {C_Rule : Addr}
    {C_Fact : Addr}
    {C_Sure : Addr}
    {C_Most : Addr}
    {C_Block : Addr}
    {u_SMALL : Tok}
    {u_GREAT : Tok}
    {u_LONGEST : Tok}
    {u_MOST_PLACES : Tok}
    (a_MostError : PySem.W.nsIn K mainGlobals "MostError" = some (some (.ref C_MostError)))
    (a_NoStatement : PySem.W.nsIn K mainGlobals "NoStatement" = some (some (.ref C_NoStatement)))
    (a_Rule : PySem.W.nsIn K mainGlobals "Rule" = some (some (.ref C_Rule)))
    (a_Fact : PySem.W.nsIn K mainGlobals "Fact" = some (some (.ref C_Fact)))
    (a_Sure : PySem.W.nsIn K mainGlobals "Sure" = some (some (.ref C_Sure)))
    (a_Most : PySem.W.nsIn K mainGlobals "Most" = some (some (.ref C_Most)))
    (a_Block : PySem.W.nsIn K mainGlobals "Block" = some (some (.ref C_Block)))
    (a_d_is_made_of : PySem.W.nsIn K mainGlobals "is_made_of" = some (some (.ref f_d_is_made_of)))
    (l_d_is_made_of : K.lookup f_d_is_made_of = some ⟨oc_d_is_made_of, od_d_is_made_of, .func (PySem.W.fnOf "is_made_of" "is_made_of" (defArgs s_d_is_made_of) (defBody s_d_is_made_of) (defScope s_d_is_made_of) .none kV_d_is_made_of dc_d_is_made_of pm_d_is_made_of an_d_is_made_of cd_d_is_made_of ct_d_is_made_of), sl_d_is_made_of⟩)
    (c_d_is_made_of : PySem.W.codeIn K cd_d_is_made_of "is_made_of" = true) (p_d_is_made_of : PySem.W.keepIn K (.ref f_d_is_made_of) = true)
    (a_d_is_name : PySem.W.nsIn K mainGlobals "is_name" = some (some (.ref f_d_is_name)))
    (l_d_is_name : K.lookup f_d_is_name = some ⟨oc_d_is_name, od_d_is_name, .func (PySem.W.fnOf "is_name" "is_name" (defArgs s_d_is_name) (defBody s_d_is_name) (defScope s_d_is_name) .none kV_d_is_name dc_d_is_name pm_d_is_name an_d_is_name cd_d_is_name ct_d_is_name), sl_d_is_name⟩)
    (c_d_is_name : PySem.W.codeIn K cd_d_is_name "is_name" = true) (p_d_is_name : PySem.W.keepIn K (.ref f_d_is_name) = true)
    (a_d_is_letter : PySem.W.nsIn K mainGlobals "is_letter" = some (some (.ref f_d_is_letter)))
    (l_d_is_letter : K.lookup f_d_is_letter = some ⟨oc_d_is_letter, od_d_is_letter, .func (PySem.W.fnOf "is_letter" "is_letter" (defArgs s_d_is_letter) (defBody s_d_is_letter) (defScope s_d_is_letter) .none kV_d_is_letter dc_d_is_letter pm_d_is_letter an_d_is_letter cd_d_is_letter ct_d_is_letter), sl_d_is_letter⟩)
    (c_d_is_letter : PySem.W.codeIn K cd_d_is_letter "is_letter" = true) (p_d_is_letter : PySem.W.keepIn K (.ref f_d_is_letter) = true)
    (a_d_places_of : PySem.W.nsIn K mainGlobals "places_of" = some (some (.ref f_d_places_of)))
    (l_d_places_of : K.lookup f_d_places_of = some ⟨oc_d_places_of, od_d_places_of, .func (PySem.W.fnOf "places_of" "places_of" (defArgs s_d_places_of) (defBody s_d_places_of) (defScope s_d_places_of) .none kV_d_places_of dc_d_places_of pm_d_places_of an_d_places_of cd_d_places_of ct_d_places_of), sl_d_places_of⟩)
    (c_d_places_of : PySem.W.codeIn K cd_d_places_of "places_of" = true) (p_d_places_of : PySem.W.keepIn K (.ref f_d_places_of) = true)
    (a_d_parts_of : PySem.W.nsIn K mainGlobals "parts_of" = some (some (.ref f_d_parts_of)))
    (l_d_parts_of : K.lookup f_d_parts_of = some ⟨oc_d_parts_of, od_d_parts_of, .func (PySem.W.fnOf "parts_of" "parts_of" (defArgs s_d_parts_of) (defBody s_d_parts_of) (defScope s_d_parts_of) .none kV_d_parts_of dc_d_parts_of pm_d_parts_of an_d_parts_of cd_d_parts_of ct_d_parts_of), sl_d_parts_of⟩)
    (c_d_parts_of : PySem.W.codeIn K cd_d_parts_of "parts_of" = true) (p_d_parts_of : PySem.W.keepIn K (.ref f_d_parts_of) = true)
    (a_d_text_of : PySem.W.nsIn K mainGlobals "text_of" = some (some (.ref f_d_text_of)))
    (l_d_text_of : K.lookup f_d_text_of = some ⟨oc_d_text_of, od_d_text_of, .func (PySem.W.fnOf "text_of" "text_of" (defArgs s_d_text_of) (defBody s_d_text_of) (defScope s_d_text_of) .none kV_d_text_of dc_d_text_of pm_d_text_of an_d_text_of cd_d_text_of ct_d_text_of), sl_d_text_of⟩)
    (c_d_text_of : PySem.W.codeIn K cd_d_text_of "text_of" = true) (p_d_text_of : PySem.W.keepIn K (.ref f_d_text_of) = true)
    (a_d_letters_of : PySem.W.nsIn K mainGlobals "letters_of" = some (some (.ref f_d_letters_of)))
    (l_d_letters_of : K.lookup f_d_letters_of = some ⟨oc_d_letters_of, od_d_letters_of, .func (PySem.W.fnOf "letters_of" "letters_of" (defArgs s_d_letters_of) (defBody s_d_letters_of) (defScope s_d_letters_of) .none kV_d_letters_of dc_d_letters_of pm_d_letters_of an_d_letters_of cd_d_letters_of ct_d_letters_of), sl_d_letters_of⟩)
    (c_d_letters_of : PySem.W.codeIn K cd_d_letters_of "letters_of" = true) (p_d_letters_of : PySem.W.keepIn K (.ref f_d_letters_of) = true)
    (a_d_put_for : PySem.W.nsIn K mainGlobals "put_for" = some (some (.ref f_d_put_for)))
    (l_d_put_for : K.lookup f_d_put_for = some ⟨oc_d_put_for, od_d_put_for, .func (PySem.W.fnOf "put_for" "put_for" (defArgs s_d_put_for) (defBody s_d_put_for) (defScope s_d_put_for) .none kV_d_put_for dc_d_put_for pm_d_put_for an_d_put_for cd_d_put_for ct_d_put_for), sl_d_put_for⟩)
    (c_d_put_for : PySem.W.codeIn K cd_d_put_for "put_for" = true) (p_d_put_for : PySem.W.keepIn K (.ref f_d_put_for) = true)
    (a_d_filled : PySem.W.nsIn K mainGlobals "filled" = some (some (.ref f_d_filled)))
    (l_d_filled : K.lookup f_d_filled = some ⟨oc_d_filled, od_d_filled, .func (PySem.W.fnOf "filled" "filled" (defArgs s_d_filled) (defBody s_d_filled) (defScope s_d_filled) .none kV_d_filled dc_d_filled pm_d_filled an_d_filled cd_d_filled ct_d_filled), sl_d_filled⟩)
    (c_d_filled : PySem.W.codeIn K cd_d_filled "filled" = true) (p_d_filled : PySem.W.keepIn K (.ref f_d_filled) = true)
    (a_c_Rule_init : PySem.W.findIn K (.ref C_Rule) "__init__" = some (some (.ref f_c_Rule_init)))
    (l_c_Rule_init : K.lookup f_c_Rule_init = some ⟨oc_c_Rule_init, od_c_Rule_init, .func (PySem.W.fnOf "__init__" "Rule.__init__" (defArgs s_c_Rule_init) (defBody s_c_Rule_init) (defScope s_c_Rule_init) .none kV_c_Rule_init dc_c_Rule_init pm_c_Rule_init an_c_Rule_init cd_c_Rule_init ct_c_Rule_init), sl_c_Rule_init⟩)
    (c_c_Rule_init : PySem.W.codeIn K cd_c_Rule_init "Rule.__init__" = true) (p_c_Rule_init : PySem.W.keepIn K (.ref f_c_Rule_init) = true)
    (a_c_Rule_letters : PySem.W.findIn K (.ref C_Rule) "letters" = some (some (.ref f_c_Rule_letters)))
    (l_c_Rule_letters : K.lookup f_c_Rule_letters = some ⟨oc_c_Rule_letters, od_c_Rule_letters, .func (PySem.W.fnOf "letters" "Rule.letters" (defArgs s_c_Rule_letters) (defBody s_c_Rule_letters) (defScope s_c_Rule_letters) .none kV_c_Rule_letters dc_c_Rule_letters pm_c_Rule_letters an_c_Rule_letters cd_c_Rule_letters ct_c_Rule_letters), sl_c_Rule_letters⟩)
    (c_c_Rule_letters : PySem.W.codeIn K cd_c_Rule_letters "Rule.letters" = true) (p_c_Rule_letters : PySem.W.keepIn K (.ref f_c_Rule_letters) = true)
    (a_c_Rule_filled : PySem.W.findIn K (.ref C_Rule) "filled" = some (some (.ref f_c_Rule_filled)))
    (l_c_Rule_filled : K.lookup f_c_Rule_filled = some ⟨oc_c_Rule_filled, od_c_Rule_filled, .func (PySem.W.fnOf "filled" "Rule.filled" (defArgs s_c_Rule_filled) (defBody s_c_Rule_filled) (defScope s_c_Rule_filled) .none kV_c_Rule_filled dc_c_Rule_filled pm_c_Rule_filled an_c_Rule_filled cd_c_Rule_filled ct_c_Rule_filled), sl_c_Rule_filled⟩)
    (c_c_Rule_filled : PySem.W.codeIn K cd_c_Rule_filled "Rule.filled" = true) (p_c_Rule_filled : PySem.W.keepIn K (.ref f_c_Rule_filled) = true)
    (a_c_Fact_init : PySem.W.findIn K (.ref C_Fact) "__init__" = some (some (.ref f_c_Fact_init)))
    (l_c_Fact_init : K.lookup f_c_Fact_init = some ⟨oc_c_Fact_init, od_c_Fact_init, .func (PySem.W.fnOf "__init__" "Fact.__init__" (defArgs s_c_Fact_init) (defBody s_c_Fact_init) (defScope s_c_Fact_init) .none kV_c_Fact_init dc_c_Fact_init pm_c_Fact_init an_c_Fact_init cd_c_Fact_init ct_c_Fact_init), sl_c_Fact_init⟩)
    (c_c_Fact_init : PySem.W.codeIn K cd_c_Fact_init "Fact.__init__" = true) (p_c_Fact_init : PySem.W.keepIn K (.ref f_c_Fact_init) = true)
    (a_c_Fact_again : PySem.W.findIn K (.ref C_Fact) "again" = some (some (.ref f_c_Fact_again)))
    (l_c_Fact_again : K.lookup f_c_Fact_again = some ⟨oc_c_Fact_again, od_c_Fact_again, .func (PySem.W.fnOf "again" "Fact.again" (defArgs s_c_Fact_again) (defBody s_c_Fact_again) (defScope s_c_Fact_again) .none kV_c_Fact_again dc_c_Fact_again pm_c_Fact_again an_c_Fact_again cd_c_Fact_again ct_c_Fact_again), sl_c_Fact_again⟩)
    (c_c_Fact_again : PySem.W.codeIn K cd_c_Fact_again "Fact.again" = true) (p_c_Fact_again : PySem.W.keepIn K (.ref f_c_Fact_again) = true)
    (a_c_Sure_again : PySem.W.findIn K (.ref C_Sure) "again" = some (some (.ref f_c_Sure_again)))
    (l_c_Sure_again : K.lookup f_c_Sure_again = some ⟨oc_c_Sure_again, od_c_Sure_again, .func (PySem.W.fnOf "again" "Sure.again" (defArgs s_c_Sure_again) (defBody s_c_Sure_again) (defScope s_c_Sure_again) .none kV_c_Sure_again dc_c_Sure_again pm_c_Sure_again an_c_Sure_again cd_c_Sure_again ct_c_Sure_again), sl_c_Sure_again⟩)
    (c_c_Sure_again : PySem.W.codeIn K cd_c_Sure_again "Sure.again" = true) (p_c_Sure_again : PySem.W.keepIn K (.ref f_c_Sure_again) = true)
    (a_c_Most_again : PySem.W.findIn K (.ref C_Most) "again" = some (some (.ref f_c_Most_again)))
    (l_c_Most_again : K.lookup f_c_Most_again = some ⟨oc_c_Most_again, od_c_Most_again, .func (PySem.W.fnOf "again" "Most.again" (defArgs s_c_Most_again) (defBody s_c_Most_again) (defScope s_c_Most_again) .none kV_c_Most_again dc_c_Most_again pm_c_Most_again an_c_Most_again cd_c_Most_again ct_c_Most_again), sl_c_Most_again⟩)
    (c_c_Most_again : PySem.W.codeIn K cd_c_Most_again "Most.again" = true) (p_c_Most_again : PySem.W.keepIn K (.ref f_c_Most_again) = true)
    (a_c_Block_again : PySem.W.findIn K (.ref C_Block) "again" = some (some (.ref f_c_Block_again)))
    (l_c_Block_again : K.lookup f_c_Block_again = some ⟨oc_c_Block_again, od_c_Block_again, .func (PySem.W.fnOf "again" "Block.again" (defArgs s_c_Block_again) (defBody s_c_Block_again) (defScope s_c_Block_again) .none kV_c_Block_again dc_c_Block_again pm_c_Block_again an_c_Block_again cd_c_Block_again ct_c_Block_again), sl_c_Block_again⟩)
    (c_c_Block_again : PySem.W.codeIn K cd_c_Block_again "Block.again" = true) (p_c_Block_again : PySem.W.keepIn K (.ref f_c_Block_again) = true)
    (a_d_ways_to_give : PySem.W.nsIn K mainGlobals "ways_to_give" = some (some (.ref f_d_ways_to_give)))
    (l_d_ways_to_give : K.lookup f_d_ways_to_give = some ⟨oc_d_ways_to_give, od_d_ways_to_give, .func (PySem.W.fnOf "ways_to_give" "ways_to_give" (defArgs s_d_ways_to_give) (defBody s_d_ways_to_give) (defScope s_d_ways_to_give) .none kV_d_ways_to_give dc_d_ways_to_give pm_d_ways_to_give an_d_ways_to_give cd_d_ways_to_give ct_d_ways_to_give), sl_d_ways_to_give⟩)
    (c_d_ways_to_give : PySem.W.codeIn K cd_d_ways_to_give "ways_to_give" = true) (p_d_ways_to_give : PySem.W.keepIn K (.ref f_d_ways_to_give) = true)
    (a_d_written_out : PySem.W.nsIn K mainGlobals "written_out" = some (some (.ref f_d_written_out)))
    (l_d_written_out : K.lookup f_d_written_out = some ⟨oc_d_written_out, od_d_written_out, .func (PySem.W.fnOf "written_out" "written_out" (defArgs s_d_written_out) (defBody s_d_written_out) (defScope s_d_written_out) .none kV_d_written_out dc_d_written_out pm_d_written_out an_d_written_out cd_d_written_out ct_d_written_out), sl_d_written_out⟩)
    (c_d_written_out : PySem.W.codeIn K cd_d_written_out "written_out" = true) (p_d_written_out : PySem.W.keepIn K (.ref f_d_written_out) = true)
    (a_d_l_cell_at : PySem.W.nsIn K mainGlobals "_law_cell_at" = some (some (.ref f_d_l_cell_at)))
    (l_d_l_cell_at : K.lookup f_d_l_cell_at = some ⟨oc_d_l_cell_at, od_d_l_cell_at, .func (PySem.W.fnOf "_law_cell_at" "_law_cell_at" (defArgs s_d_l_cell_at) (defBody s_d_l_cell_at) (defScope s_d_l_cell_at) .none kV_d_l_cell_at dc_d_l_cell_at pm_d_l_cell_at an_d_l_cell_at cd_d_l_cell_at ct_d_l_cell_at), sl_d_l_cell_at⟩)
    (c_d_l_cell_at : PySem.W.codeIn K cd_d_l_cell_at "_law_cell_at" = true) (p_d_l_cell_at : PySem.W.keepIn K (.ref f_d_l_cell_at) = true)
    (a_d_l_mix : PySem.W.nsIn K mainGlobals "_law_mix" = some (some (.ref f_d_l_mix)))
    (l_d_l_mix : K.lookup f_d_l_mix = some ⟨oc_d_l_mix, od_d_l_mix, .func (PySem.W.fnOf "_law_mix" "_law_mix" (defArgs s_d_l_mix) (defBody s_d_l_mix) (defScope s_d_l_mix) .none kV_d_l_mix dc_d_l_mix pm_d_l_mix an_d_l_mix cd_d_l_mix ct_d_l_mix), sl_d_l_mix⟩)
    (c_d_l_mix : PySem.W.codeIn K cd_d_l_mix "_law_mix" = true) (p_d_l_mix : PySem.W.keepIn K (.ref f_d_l_mix) = true)
    (a_d_l_words : PySem.W.nsIn K mainGlobals "_law_words" = some (some (.ref f_d_l_words)))
    (l_d_l_words : K.lookup f_d_l_words = some ⟨oc_d_l_words, od_d_l_words, .func (PySem.W.fnOf "_law_words" "_law_words" (defArgs s_d_l_words) (defBody s_d_l_words) (defScope s_d_l_words) .none kV_d_l_words dc_d_l_words pm_d_l_words an_d_l_words cd_d_l_words ct_d_l_words), sl_d_l_words⟩)
    (c_d_l_words : PySem.W.codeIn K cd_d_l_words "_law_words" = true) (p_d_l_words : PySem.W.keepIn K (.ref f_d_l_words) = true)
    (a_d_l_statement : PySem.W.nsIn K mainGlobals "_law_statement" = some (some (.ref f_d_l_statement)))
    (l_d_l_statement : K.lookup f_d_l_statement = some ⟨oc_d_l_statement, od_d_l_statement, .func (PySem.W.fnOf "_law_statement" "_law_statement" (defArgs s_d_l_statement) (defBody s_d_l_statement) (defScope s_d_l_statement) .none kV_d_l_statement dc_d_l_statement pm_d_l_statement an_d_l_statement cd_d_l_statement ct_d_l_statement), sl_d_l_statement⟩)
    (c_d_l_statement : PySem.W.codeIn K cd_d_l_statement "_law_statement" = true) (p_d_l_statement : PySem.W.keepIn K (.ref f_d_l_statement) = true)
    (a_d_l_text : PySem.W.nsIn K mainGlobals "_law_text" = some (some (.ref f_d_l_text)))
    (l_d_l_text : K.lookup f_d_l_text = some ⟨oc_d_l_text, od_d_l_text, .func (PySem.W.fnOf "_law_text" "_law_text" (defArgs s_d_l_text) (defBody s_d_l_text) (defScope s_d_l_text) .none kV_d_l_text dc_d_l_text pm_d_l_text an_d_l_text cd_d_l_text ct_d_l_text), sl_d_l_text⟩)
    (c_d_l_text : PySem.W.codeIn K cd_d_l_text "_law_text" = true) (p_d_l_text : PySem.W.keepIn K (.ref f_d_l_text) = true)
    (a_d_l_order : PySem.W.nsIn K mainGlobals "_law_order" = some (some (.ref f_d_l_order)))
    (l_d_l_order : K.lookup f_d_l_order = some ⟨oc_d_l_order, od_d_l_order, .func (PySem.W.fnOf "_law_order" "_law_order" (defArgs s_d_l_order) (defBody s_d_l_order) (defScope s_d_l_order) .none kV_d_l_order dc_d_l_order pm_d_l_order an_d_l_order cd_d_l_order ct_d_l_order), sl_d_l_order⟩)
    (c_d_l_order : PySem.W.codeIn K cd_d_l_order "_law_order" = true) (p_d_l_order : PySem.W.keepIn K (.ref f_d_l_order) = true)
    (a_d_l_made : PySem.W.nsIn K mainGlobals "_law_made" = some (some (.ref f_d_l_made)))
    (l_d_l_made : K.lookup f_d_l_made = some ⟨oc_d_l_made, od_d_l_made, .func (PySem.W.fnOf "_law_made" "_law_made" (defArgs s_d_l_made) (defBody s_d_l_made) (defScope s_d_l_made) .none kV_d_l_made dc_d_l_made pm_d_l_made an_d_l_made cd_d_l_made ct_d_l_made), sl_d_l_made⟩)
    (c_d_l_made : PySem.W.codeIn K cd_d_l_made "_law_made" = true) (p_d_l_made : PySem.W.keepIn K (.ref f_d_l_made) = true)
    (a_d_l_specs : PySem.W.nsIn K mainGlobals "_law_specs" = some (some (.ref f_d_l_specs)))
    (l_d_l_specs : K.lookup f_d_l_specs = some ⟨oc_d_l_specs, od_d_l_specs, .func (PySem.W.fnOf "_law_specs" "_law_specs" (defArgs s_d_l_specs) (defBody s_d_l_specs) (defScope s_d_l_specs) .none kV_d_l_specs dc_d_l_specs pm_d_l_specs an_d_l_specs cd_d_l_specs ct_d_l_specs), sl_d_l_specs⟩)
    (c_d_l_specs : PySem.W.codeIn K cd_d_l_specs "_law_specs" = true) (p_d_l_specs : PySem.W.keepIn K (.ref f_d_l_specs) = true)
    (a_d_l_due : PySem.W.nsIn K mainGlobals "_law_due" = some (some (.ref f_d_l_due)))
    (l_d_l_due : K.lookup f_d_l_due = some ⟨oc_d_l_due, od_d_l_due, .func (PySem.W.fnOf "_law_due" "_law_due" (defArgs s_d_l_due) (defBody s_d_l_due) (defScope s_d_l_due) .none kV_d_l_due dc_d_l_due pm_d_l_due an_d_l_due cd_d_l_due ct_d_l_due), sl_d_l_due⟩)
    (c_d_l_due : PySem.W.codeIn K cd_d_l_due "_law_due" = true) (p_d_l_due : PySem.W.keepIn K (.ref f_d_l_due) = true)
    (a_d_l_good : PySem.W.nsIn K mainGlobals "_law_good" = some (some (.ref f_d_l_good)))
    (l_d_l_good : K.lookup f_d_l_good = some ⟨oc_d_l_good, od_d_l_good, .func (PySem.W.fnOf "_law_good" "_law_good" (defArgs s_d_l_good) (defBody s_d_l_good) (defScope s_d_l_good) .none kV_d_l_good dc_d_l_good pm_d_l_good an_d_l_good cd_d_l_good ct_d_l_good), sl_d_l_good⟩)
    (c_d_l_good : PySem.W.codeIn K cd_d_l_good "_law_good" = true) (p_d_l_good : PySem.W.keepIn K (.ref f_d_l_good) = true)
    (a_d_law : PySem.W.nsIn K mainGlobals "law" = some (some (.ref f_d_law)))
    (l_d_law : K.lookup f_d_law = some ⟨oc_d_law, od_d_law, .func (PySem.W.fnOf "law" "law" (defArgs s_d_law) (defBody s_d_law) (defScope s_d_law) .none kV_d_law dc_d_law pm_d_law an_d_law cd_d_law ct_d_law), sl_d_law⟩)
    (c_d_law : PySem.W.codeIn K cd_d_law "law" = true) (p_d_law : PySem.W.keepIn K (.ref f_d_law) = true)
    (k_SMALL : PySem.W.nsIn K mainGlobals "SMALL" = some (some (.str "abcdefghijklmnopqrstuvwxyz" u_SMALL)))
    (k_GREAT : PySem.W.nsIn K mainGlobals "GREAT" = some (some (.str "ABCDEFGHIJKLMNOPQRSTUVWXYZ" u_GREAT)))
    (k_LONGEST : PySem.W.nsIn K mainGlobals "LONGEST" = some (some (.int 8 u_LONGEST)))
    (k_MOST_PLACES : PySem.W.nsIn K mainGlobals "MOST_PLACES" = some (some (.int 2 u_MOST_PLACES)))
    (aa_filled_words : PySem.W.nsIn K mainGlobals "filled_words" = some (some (.ref f_d_filled)))
    (z_NotImplementedError : PySem.W.nsIn K mainGlobals "NotImplementedError" = some none)
    (z_ValueError : PySem.W.nsIn K mainGlobals "ValueError" = some none)
    (z_all : PySem.W.nsIn K mainGlobals "all" = some none)
    (z_dict : PySem.W.nsIn K mainGlobals "dict" = some none)
    (z_isinstance : PySem.W.nsIn K mainGlobals "isinstance" = some none)
    (z_len : PySem.W.nsIn K mainGlobals "len" = some none)
    (z_list : PySem.W.nsIn K mainGlobals "list" = some none)
    (z_range : PySem.W.nsIn K mainGlobals "range" = some none)
    (z_reversed : PySem.W.nsIn K mainGlobals "reversed" = some none)
    (z_str : PySem.W.nsIn K mainGlobals "str" = some none)
    (z_tuple : PySem.W.nsIn K mainGlobals "tuple" = some none)
    (z_zip : PySem.W.nsIn K mainGlobals "zip" = some none)
    {cdd_Rule : ClassData} (kc_Rule : PySem.W.clsIn K C_Rule = some cdd_Rule) (kt_Rule : PySem.W.typeIn K (.ref C_Rule) = some (.type "type"))
    (cg_Rule : PySem.W.specialIn K (.ref C_Rule) "__getattribute__" = some (some (.builtin "type.__getattribute__"))) (cr_Rule : PySem.W.readsIn K C_Rule (.type "type") = true) (ca_Rule : PySem.W.findCls K (.ref C_Rule) (.type "type") "__init__" = some (.val (.ref f_c_Rule_init)))
    {cdd_Fact : ClassData} (kc_Fact : PySem.W.clsIn K C_Fact = some cdd_Fact) (kt_Fact : PySem.W.typeIn K (.ref C_Fact) = some (.type "type"))
    (pg_Fact : PySem.W.plainGet K C_Fact Str.empty = true) (hd_Fact : PySem.W.hasDictIn K C_Fact = true) (po_Fact : PySem.W.plainOver K C_Fact = true) (sa_Fact : PySem.W.findIn K (.ref C_Fact) "__setattr__" = some (some (.builtin "object.__setattr__")))
    (th_Fact : PySem.W.findIn K (.ref C_Fact) "__class__" = some (some (.builtin "object.__class__"))) (tn_Fact : PySem.W.specialIn K (.builtin "object.__class__") "__get__" = some (some (.builtin "getset_descriptor.__get__"))) (tt_Fact : PySem.W.takesIn K (.builtin "object.__class__") = some true) (tm_Fact : PySem.W.mroIn K C_Fact (.type "object") = some true)
    (nf_Fact_label : PySem.W.findIn K (.ref C_Fact) "label" = some none)
    (nf_Fact_head : PySem.W.findIn K (.ref C_Fact) "head" = some none)
    (nf_Fact_body : PySem.W.findIn K (.ref C_Fact) "body" = some none)
    (mm_Fact : PySem.W.makesIn K C_Fact = true) (mi_Fact : PySem.W.findIn K (.ref C_Fact) "__init__" = some (some (.ref f_c_Fact_init))) (mf_Fact : PySem.W.isFn K (.ref f_c_Fact_init) = true) (mq_Fact : PySem.W.keepIn K (.ref C_Fact) = true)
    (ma_Fact_letters : PySem.W.findIn K (.ref C_Fact) "letters" = some (some (.ref f_c_Rule_letters))) (mb_Fact_letters : PySem.W.isFn K (.ref f_c_Rule_letters) = true)
    (ma_Fact_again : PySem.W.findIn K (.ref C_Fact) "again" = some (some (.ref f_c_Fact_again))) (mb_Fact_again : PySem.W.isFn K (.ref f_c_Fact_again) = true)
    (ma_Fact_filled : PySem.W.findIn K (.ref C_Fact) "filled" = some (some (.ref f_c_Rule_filled))) (mb_Fact_filled : PySem.W.isFn K (.ref f_c_Rule_filled) = true)
    (ks_Fact_Rule : PySem.W.subIn K (.ref C_Fact) (.ref C_Rule) = some true)
    (ks_Fact_Fact : PySem.W.subIn K (.ref C_Fact) (.ref C_Fact) = some true)
    (ks_Fact_Sure : PySem.W.subIn K (.ref C_Fact) (.ref C_Sure) = some false)
    (ks_Fact_Most : PySem.W.subIn K (.ref C_Fact) (.ref C_Most) = some false)
    (ks_Fact_Block : PySem.W.subIn K (.ref C_Fact) (.ref C_Block) = some false)
    {cdd_Sure : ClassData} (kc_Sure : PySem.W.clsIn K C_Sure = some cdd_Sure) (kt_Sure : PySem.W.typeIn K (.ref C_Sure) = some (.type "type"))
    (pg_Sure : PySem.W.plainGet K C_Sure Str.empty = true) (hd_Sure : PySem.W.hasDictIn K C_Sure = true) (po_Sure : PySem.W.plainOver K C_Sure = true) (sa_Sure : PySem.W.findIn K (.ref C_Sure) "__setattr__" = some (some (.builtin "object.__setattr__")))
    (th_Sure : PySem.W.findIn K (.ref C_Sure) "__class__" = some (some (.builtin "object.__class__"))) (tn_Sure : PySem.W.specialIn K (.builtin "object.__class__") "__get__" = some (some (.builtin "getset_descriptor.__get__"))) (tt_Sure : PySem.W.takesIn K (.builtin "object.__class__") = some true) (tm_Sure : PySem.W.mroIn K C_Sure (.type "object") = some true)
    (nf_Sure_label : PySem.W.findIn K (.ref C_Sure) "label" = some none)
    (nf_Sure_head : PySem.W.findIn K (.ref C_Sure) "head" = some none)
    (nf_Sure_body : PySem.W.findIn K (.ref C_Sure) "body" = some none)
    (mm_Sure : PySem.W.makesIn K C_Sure = true) (mi_Sure : PySem.W.findIn K (.ref C_Sure) "__init__" = some (some (.ref f_c_Rule_init))) (mf_Sure : PySem.W.isFn K (.ref f_c_Rule_init) = true) (mq_Sure : PySem.W.keepIn K (.ref C_Sure) = true)
    (ma_Sure_letters : PySem.W.findIn K (.ref C_Sure) "letters" = some (some (.ref f_c_Rule_letters))) (mb_Sure_letters : PySem.W.isFn K (.ref f_c_Rule_letters) = true)
    (ma_Sure_again : PySem.W.findIn K (.ref C_Sure) "again" = some (some (.ref f_c_Sure_again))) (mb_Sure_again : PySem.W.isFn K (.ref f_c_Sure_again) = true)
    (ma_Sure_filled : PySem.W.findIn K (.ref C_Sure) "filled" = some (some (.ref f_c_Rule_filled))) (mb_Sure_filled : PySem.W.isFn K (.ref f_c_Rule_filled) = true)
    (ks_Sure_Rule : PySem.W.subIn K (.ref C_Sure) (.ref C_Rule) = some true)
    (ks_Sure_Fact : PySem.W.subIn K (.ref C_Sure) (.ref C_Fact) = some false)
    (ks_Sure_Sure : PySem.W.subIn K (.ref C_Sure) (.ref C_Sure) = some true)
    (ks_Sure_Most : PySem.W.subIn K (.ref C_Sure) (.ref C_Most) = some false)
    (ks_Sure_Block : PySem.W.subIn K (.ref C_Sure) (.ref C_Block) = some false)
    {cdd_Most : ClassData} (kc_Most : PySem.W.clsIn K C_Most = some cdd_Most) (kt_Most : PySem.W.typeIn K (.ref C_Most) = some (.type "type"))
    (pg_Most : PySem.W.plainGet K C_Most Str.empty = true) (hd_Most : PySem.W.hasDictIn K C_Most = true) (po_Most : PySem.W.plainOver K C_Most = true) (sa_Most : PySem.W.findIn K (.ref C_Most) "__setattr__" = some (some (.builtin "object.__setattr__")))
    (th_Most : PySem.W.findIn K (.ref C_Most) "__class__" = some (some (.builtin "object.__class__"))) (tn_Most : PySem.W.specialIn K (.builtin "object.__class__") "__get__" = some (some (.builtin "getset_descriptor.__get__"))) (tt_Most : PySem.W.takesIn K (.builtin "object.__class__") = some true) (tm_Most : PySem.W.mroIn K C_Most (.type "object") = some true)
    (nf_Most_label : PySem.W.findIn K (.ref C_Most) "label" = some none)
    (nf_Most_head : PySem.W.findIn K (.ref C_Most) "head" = some none)
    (nf_Most_body : PySem.W.findIn K (.ref C_Most) "body" = some none)
    (mm_Most : PySem.W.makesIn K C_Most = true) (mi_Most : PySem.W.findIn K (.ref C_Most) "__init__" = some (some (.ref f_c_Rule_init))) (mf_Most : PySem.W.isFn K (.ref f_c_Rule_init) = true) (mq_Most : PySem.W.keepIn K (.ref C_Most) = true)
    (ma_Most_letters : PySem.W.findIn K (.ref C_Most) "letters" = some (some (.ref f_c_Rule_letters))) (mb_Most_letters : PySem.W.isFn K (.ref f_c_Rule_letters) = true)
    (ma_Most_again : PySem.W.findIn K (.ref C_Most) "again" = some (some (.ref f_c_Most_again))) (mb_Most_again : PySem.W.isFn K (.ref f_c_Most_again) = true)
    (ma_Most_filled : PySem.W.findIn K (.ref C_Most) "filled" = some (some (.ref f_c_Rule_filled))) (mb_Most_filled : PySem.W.isFn K (.ref f_c_Rule_filled) = true)
    (ks_Most_Rule : PySem.W.subIn K (.ref C_Most) (.ref C_Rule) = some true)
    (ks_Most_Fact : PySem.W.subIn K (.ref C_Most) (.ref C_Fact) = some false)
    (ks_Most_Sure : PySem.W.subIn K (.ref C_Most) (.ref C_Sure) = some false)
    (ks_Most_Most : PySem.W.subIn K (.ref C_Most) (.ref C_Most) = some true)
    (ks_Most_Block : PySem.W.subIn K (.ref C_Most) (.ref C_Block) = some false)
    {cdd_Block : ClassData} (kc_Block : PySem.W.clsIn K C_Block = some cdd_Block) (kt_Block : PySem.W.typeIn K (.ref C_Block) = some (.type "type"))
    (pg_Block : PySem.W.plainGet K C_Block Str.empty = true) (hd_Block : PySem.W.hasDictIn K C_Block = true) (po_Block : PySem.W.plainOver K C_Block = true) (sa_Block : PySem.W.findIn K (.ref C_Block) "__setattr__" = some (some (.builtin "object.__setattr__")))
    (th_Block : PySem.W.findIn K (.ref C_Block) "__class__" = some (some (.builtin "object.__class__"))) (tn_Block : PySem.W.specialIn K (.builtin "object.__class__") "__get__" = some (some (.builtin "getset_descriptor.__get__"))) (tt_Block : PySem.W.takesIn K (.builtin "object.__class__") = some true) (tm_Block : PySem.W.mroIn K C_Block (.type "object") = some true)
    (nf_Block_label : PySem.W.findIn K (.ref C_Block) "label" = some none)
    (nf_Block_head : PySem.W.findIn K (.ref C_Block) "head" = some none)
    (nf_Block_body : PySem.W.findIn K (.ref C_Block) "body" = some none)
    (mm_Block : PySem.W.makesIn K C_Block = true) (mi_Block : PySem.W.findIn K (.ref C_Block) "__init__" = some (some (.ref f_c_Rule_init))) (mf_Block : PySem.W.isFn K (.ref f_c_Rule_init) = true) (mq_Block : PySem.W.keepIn K (.ref C_Block) = true)
    (ma_Block_letters : PySem.W.findIn K (.ref C_Block) "letters" = some (some (.ref f_c_Rule_letters))) (mb_Block_letters : PySem.W.isFn K (.ref f_c_Rule_letters) = true)
    (ma_Block_again : PySem.W.findIn K (.ref C_Block) "again" = some (some (.ref f_c_Block_again))) (mb_Block_again : PySem.W.isFn K (.ref f_c_Block_again) = true)
    (ma_Block_filled : PySem.W.findIn K (.ref C_Block) "filled" = some (some (.ref f_c_Rule_filled))) (mb_Block_filled : PySem.W.isFn K (.ref f_c_Rule_filled) = true)
    (ks_Block_Rule : PySem.W.subIn K (.ref C_Block) (.ref C_Rule) = some true)
    (ks_Block_Fact : PySem.W.subIn K (.ref C_Block) (.ref C_Fact) = some false)
    (ks_Block_Sure : PySem.W.subIn K (.ref C_Block) (.ref C_Sure) = some false)
    (ks_Block_Most : PySem.W.subIn K (.ref C_Block) (.ref C_Most) = some false)
    (ks_Block_Block : PySem.W.subIn K (.ref C_Block) (.ref C_Block) = some true)
    : ∃ t : Adr, t.f_d_law = f_d_law ∧ t.fd_d_law = PySem.W.fnOf "law" "law" (defArgs s_d_law) (defBody s_d_law) (defScope s_d_law) .none kV_d_law dc_d_law pm_d_law an_d_law cd_d_law ct_d_law ∧ Txt K mg t := by
  refine ⟨⟨f_d_is_made_of, PySem.W.fnOf "is_made_of" "is_made_of" (defArgs s_d_is_made_of) (defBody s_d_is_made_of) (defScope s_d_is_made_of) .none kV_d_is_made_of dc_d_is_made_of pm_d_is_made_of an_d_is_made_of cd_d_is_made_of ct_d_is_made_of, f_d_is_name, PySem.W.fnOf "is_name" "is_name" (defArgs s_d_is_name) (defBody s_d_is_name) (defScope s_d_is_name) .none kV_d_is_name dc_d_is_name pm_d_is_name an_d_is_name cd_d_is_name ct_d_is_name, f_d_is_letter, PySem.W.fnOf "is_letter" "is_letter" (defArgs s_d_is_letter) (defBody s_d_is_letter) (defScope s_d_is_letter) .none kV_d_is_letter dc_d_is_letter pm_d_is_letter an_d_is_letter cd_d_is_letter ct_d_is_letter, f_d_places_of, PySem.W.fnOf "places_of" "places_of" (defArgs s_d_places_of) (defBody s_d_places_of) (defScope s_d_places_of) .none kV_d_places_of dc_d_places_of pm_d_places_of an_d_places_of cd_d_places_of ct_d_places_of, f_d_parts_of, PySem.W.fnOf "parts_of" "parts_of" (defArgs s_d_parts_of) (defBody s_d_parts_of) (defScope s_d_parts_of) .none kV_d_parts_of dc_d_parts_of pm_d_parts_of an_d_parts_of cd_d_parts_of ct_d_parts_of, f_d_text_of, PySem.W.fnOf "text_of" "text_of" (defArgs s_d_text_of) (defBody s_d_text_of) (defScope s_d_text_of) .none kV_d_text_of dc_d_text_of pm_d_text_of an_d_text_of cd_d_text_of ct_d_text_of, f_d_letters_of, PySem.W.fnOf "letters_of" "letters_of" (defArgs s_d_letters_of) (defBody s_d_letters_of) (defScope s_d_letters_of) .none kV_d_letters_of dc_d_letters_of pm_d_letters_of an_d_letters_of cd_d_letters_of ct_d_letters_of, f_d_put_for, PySem.W.fnOf "put_for" "put_for" (defArgs s_d_put_for) (defBody s_d_put_for) (defScope s_d_put_for) .none kV_d_put_for dc_d_put_for pm_d_put_for an_d_put_for cd_d_put_for ct_d_put_for, f_d_filled, PySem.W.fnOf "filled" "filled" (defArgs s_d_filled) (defBody s_d_filled) (defScope s_d_filled) .none kV_d_filled dc_d_filled pm_d_filled an_d_filled cd_d_filled ct_d_filled, f_c_Rule_init, PySem.W.fnOf "__init__" "Rule.__init__" (defArgs s_c_Rule_init) (defBody s_c_Rule_init) (defScope s_c_Rule_init) .none kV_c_Rule_init dc_c_Rule_init pm_c_Rule_init an_c_Rule_init cd_c_Rule_init ct_c_Rule_init, f_c_Rule_letters, PySem.W.fnOf "letters" "Rule.letters" (defArgs s_c_Rule_letters) (defBody s_c_Rule_letters) (defScope s_c_Rule_letters) .none kV_c_Rule_letters dc_c_Rule_letters pm_c_Rule_letters an_c_Rule_letters cd_c_Rule_letters ct_c_Rule_letters, f_c_Rule_filled, PySem.W.fnOf "filled" "Rule.filled" (defArgs s_c_Rule_filled) (defBody s_c_Rule_filled) (defScope s_c_Rule_filled) .none kV_c_Rule_filled dc_c_Rule_filled pm_c_Rule_filled an_c_Rule_filled cd_c_Rule_filled ct_c_Rule_filled, f_c_Fact_init, PySem.W.fnOf "__init__" "Fact.__init__" (defArgs s_c_Fact_init) (defBody s_c_Fact_init) (defScope s_c_Fact_init) .none kV_c_Fact_init dc_c_Fact_init pm_c_Fact_init an_c_Fact_init cd_c_Fact_init ct_c_Fact_init, f_c_Fact_again, PySem.W.fnOf "again" "Fact.again" (defArgs s_c_Fact_again) (defBody s_c_Fact_again) (defScope s_c_Fact_again) .none kV_c_Fact_again dc_c_Fact_again pm_c_Fact_again an_c_Fact_again cd_c_Fact_again ct_c_Fact_again, f_c_Sure_again, PySem.W.fnOf "again" "Sure.again" (defArgs s_c_Sure_again) (defBody s_c_Sure_again) (defScope s_c_Sure_again) .none kV_c_Sure_again dc_c_Sure_again pm_c_Sure_again an_c_Sure_again cd_c_Sure_again ct_c_Sure_again, f_c_Most_again, PySem.W.fnOf "again" "Most.again" (defArgs s_c_Most_again) (defBody s_c_Most_again) (defScope s_c_Most_again) .none kV_c_Most_again dc_c_Most_again pm_c_Most_again an_c_Most_again cd_c_Most_again ct_c_Most_again, f_c_Block_again, PySem.W.fnOf "again" "Block.again" (defArgs s_c_Block_again) (defBody s_c_Block_again) (defScope s_c_Block_again) .none kV_c_Block_again dc_c_Block_again pm_c_Block_again an_c_Block_again cd_c_Block_again ct_c_Block_again, f_d_ways_to_give, PySem.W.fnOf "ways_to_give" "ways_to_give" (defArgs s_d_ways_to_give) (defBody s_d_ways_to_give) (defScope s_d_ways_to_give) .none kV_d_ways_to_give dc_d_ways_to_give pm_d_ways_to_give an_d_ways_to_give cd_d_ways_to_give ct_d_ways_to_give, f_d_written_out, PySem.W.fnOf "written_out" "written_out" (defArgs s_d_written_out) (defBody s_d_written_out) (defScope s_d_written_out) .none kV_d_written_out dc_d_written_out pm_d_written_out an_d_written_out cd_d_written_out ct_d_written_out, f_d_l_cell_at, PySem.W.fnOf "_law_cell_at" "_law_cell_at" (defArgs s_d_l_cell_at) (defBody s_d_l_cell_at) (defScope s_d_l_cell_at) .none kV_d_l_cell_at dc_d_l_cell_at pm_d_l_cell_at an_d_l_cell_at cd_d_l_cell_at ct_d_l_cell_at, f_d_l_mix, PySem.W.fnOf "_law_mix" "_law_mix" (defArgs s_d_l_mix) (defBody s_d_l_mix) (defScope s_d_l_mix) .none kV_d_l_mix dc_d_l_mix pm_d_l_mix an_d_l_mix cd_d_l_mix ct_d_l_mix, f_d_l_words, PySem.W.fnOf "_law_words" "_law_words" (defArgs s_d_l_words) (defBody s_d_l_words) (defScope s_d_l_words) .none kV_d_l_words dc_d_l_words pm_d_l_words an_d_l_words cd_d_l_words ct_d_l_words, f_d_l_statement, PySem.W.fnOf "_law_statement" "_law_statement" (defArgs s_d_l_statement) (defBody s_d_l_statement) (defScope s_d_l_statement) .none kV_d_l_statement dc_d_l_statement pm_d_l_statement an_d_l_statement cd_d_l_statement ct_d_l_statement, f_d_l_text, PySem.W.fnOf "_law_text" "_law_text" (defArgs s_d_l_text) (defBody s_d_l_text) (defScope s_d_l_text) .none kV_d_l_text dc_d_l_text pm_d_l_text an_d_l_text cd_d_l_text ct_d_l_text, f_d_l_order, PySem.W.fnOf "_law_order" "_law_order" (defArgs s_d_l_order) (defBody s_d_l_order) (defScope s_d_l_order) .none kV_d_l_order dc_d_l_order pm_d_l_order an_d_l_order cd_d_l_order ct_d_l_order, f_d_l_made, PySem.W.fnOf "_law_made" "_law_made" (defArgs s_d_l_made) (defBody s_d_l_made) (defScope s_d_l_made) .none kV_d_l_made dc_d_l_made pm_d_l_made an_d_l_made cd_d_l_made ct_d_l_made, f_d_l_specs, PySem.W.fnOf "_law_specs" "_law_specs" (defArgs s_d_l_specs) (defBody s_d_l_specs) (defScope s_d_l_specs) .none kV_d_l_specs dc_d_l_specs pm_d_l_specs an_d_l_specs cd_d_l_specs ct_d_l_specs, f_d_l_due, PySem.W.fnOf "_law_due" "_law_due" (defArgs s_d_l_due) (defBody s_d_l_due) (defScope s_d_l_due) .none kV_d_l_due dc_d_l_due pm_d_l_due an_d_l_due cd_d_l_due ct_d_l_due, f_d_l_good, PySem.W.fnOf "_law_good" "_law_good" (defArgs s_d_l_good) (defBody s_d_l_good) (defScope s_d_l_good) .none kV_d_l_good dc_d_l_good pm_d_l_good an_d_l_good cd_d_l_good ct_d_l_good, f_d_law, PySem.W.fnOf "law" "law" (defArgs s_d_law) (defBody s_d_law) (defScope s_d_law) .none kV_d_law dc_d_law pm_d_law an_d_law cd_d_law ct_d_law, C_MostError, C_NoStatement, C_Rule, C_Fact, C_Sure, C_Most, C_Block⟩, rfl, rfl, ?_⟩
  constructor
  · exact fun_mk (st := s_d_is_made_of) l_d_is_made_of c_d_is_made_of p_d_is_made_of
  · exact (fun_mk (st := s_d_is_made_of) l_d_is_made_of c_d_is_made_of p_d_is_made_of).binds (ps := ["thing", "signs", "most"]) fun _ _ _ _ _ _ us hl => match us, hl with | [_, _, _], _ => rfl
  · exact PySem.W.mg_of X G a_d_is_made_of
  · exact fun_mk (st := s_d_is_name) l_d_is_name c_d_is_name p_d_is_name
  · exact (fun_mk (st := s_d_is_name) l_d_is_name c_d_is_name p_d_is_name).binds (ps := ["thing"]) fun _ _ _ _ _ _ us hl => match us, hl with | [_], _ => rfl
  · exact PySem.W.mg_of X G a_d_is_name
  · exact fun_mk (st := s_d_is_letter) l_d_is_letter c_d_is_letter p_d_is_letter
  · exact (fun_mk (st := s_d_is_letter) l_d_is_letter c_d_is_letter p_d_is_letter).binds (ps := ["thing"]) fun _ _ _ _ _ _ us hl => match us, hl with | [_], _ => rfl
  · exact PySem.W.mg_of X G a_d_is_letter
  · exact fun_mk (st := s_d_places_of) l_d_places_of c_d_places_of p_d_places_of
  · exact (fun_mk (st := s_d_places_of) l_d_places_of c_d_places_of p_d_places_of).binds (ps := ["behind"]) fun _ _ _ _ _ _ us hl => match us, hl with | [_], _ => rfl
  · exact PySem.W.mg_of X G a_d_places_of
  · exact fun_mk (st := s_d_parts_of) l_d_parts_of c_d_parts_of p_d_parts_of
  · exact (fun_mk (st := s_d_parts_of) l_d_parts_of c_d_parts_of p_d_parts_of).binds (ps := ["statement"]) fun _ _ _ _ _ _ us hl => match us, hl with | [_], _ => rfl
  · exact PySem.W.mg_of X G a_d_parts_of
  · exact fun_mk (st := s_d_text_of) l_d_text_of c_d_text_of p_d_text_of
  · exact (fun_mk (st := s_d_text_of) l_d_text_of c_d_text_of p_d_text_of).binds (ps := ["side", "name", "places"]) fun _ _ _ _ _ _ us hl => match us, hl with | [_, _, _], _ => rfl
  · exact PySem.W.mg_of X G a_d_text_of
  · exact fun_mk (st := s_d_letters_of) l_d_letters_of c_d_letters_of p_d_letters_of
  · exact (fun_mk (st := s_d_letters_of) l_d_letters_of c_d_letters_of p_d_letters_of).binds (ps := ["statement"]) fun _ _ _ _ _ _ us hl => match us, hl with | [_], _ => rfl
  · exact PySem.W.mg_of X G a_d_letters_of
  · exact fun_mk (st := s_d_put_for) l_d_put_for c_d_put_for p_d_put_for
  · exact (fun_mk (st := s_d_put_for) l_d_put_for c_d_put_for p_d_put_for).binds (ps := ["place", "given"]) fun _ _ _ _ _ _ us hl => match us, hl with | [_, _], _ => rfl
  · exact PySem.W.mg_of X G a_d_put_for
  · exact fun_mk (st := s_d_filled) l_d_filled c_d_filled p_d_filled
  · exact (fun_mk (st := s_d_filled) l_d_filled c_d_filled p_d_filled).binds (ps := ["statement", "given"]) fun _ _ _ _ _ _ us hl => match us, hl with | [_, _], _ => rfl
  · exact PySem.W.mg_of X G a_d_filled
  · exact fun_mk (st := s_c_Rule_init) l_c_Rule_init c_c_Rule_init p_c_Rule_init
  · exact (fun_mk (st := s_c_Rule_init) l_c_Rule_init c_c_Rule_init p_c_Rule_init).binds (ps := ["self", "label", "head", "body"]) fun _ _ _ _ _ _ us hl => match us, hl with | [_, _, _, _], _ => rfl
  · exact fun_mk (st := s_c_Rule_letters) l_c_Rule_letters c_c_Rule_letters p_c_Rule_letters
  · exact (fun_mk (st := s_c_Rule_letters) l_c_Rule_letters c_c_Rule_letters p_c_Rule_letters).binds (ps := ["self"]) fun _ _ _ _ _ _ us hl => match us, hl with | [_], _ => rfl
  · exact fun_mk (st := s_c_Rule_filled) l_c_Rule_filled c_c_Rule_filled p_c_Rule_filled
  · exact (fun_mk (st := s_c_Rule_filled) l_c_Rule_filled c_c_Rule_filled p_c_Rule_filled).binds (ps := ["self", "given"]) fun _ _ _ _ _ _ us hl => match us, hl with | [_, _], _ => rfl
  · exact fun_mk (st := s_c_Fact_init) l_c_Fact_init c_c_Fact_init p_c_Fact_init
  · exact (fun_mk (st := s_c_Fact_init) l_c_Fact_init c_c_Fact_init p_c_Fact_init).binds (ps := ["self", "head"]) fun _ _ _ _ _ _ us hl => match us, hl with | [_, _], _ => rfl
  · exact fun_mk (st := s_c_Fact_again) l_c_Fact_again c_c_Fact_again p_c_Fact_again
  · exact (fun_mk (st := s_c_Fact_again) l_c_Fact_again c_c_Fact_again p_c_Fact_again).binds (ps := ["self", "head", "body"]) fun _ _ _ _ _ _ us hl => match us, hl with | [_, _, _], _ => rfl
  · exact fun_mk (st := s_c_Sure_again) l_c_Sure_again c_c_Sure_again p_c_Sure_again
  · exact (fun_mk (st := s_c_Sure_again) l_c_Sure_again c_c_Sure_again p_c_Sure_again).binds (ps := ["self", "head", "body"]) fun _ _ _ _ _ _ us hl => match us, hl with | [_, _, _], _ => rfl
  · exact fun_mk (st := s_c_Most_again) l_c_Most_again c_c_Most_again p_c_Most_again
  · exact (fun_mk (st := s_c_Most_again) l_c_Most_again c_c_Most_again p_c_Most_again).binds (ps := ["self", "head", "body"]) fun _ _ _ _ _ _ us hl => match us, hl with | [_, _, _], _ => rfl
  · exact fun_mk (st := s_c_Block_again) l_c_Block_again c_c_Block_again p_c_Block_again
  · exact (fun_mk (st := s_c_Block_again) l_c_Block_again c_c_Block_again p_c_Block_again).binds (ps := ["self", "head", "body"]) fun _ _ _ _ _ _ us hl => match us, hl with | [_, _, _], _ => rfl
  · exact fun_mk (st := s_d_ways_to_give) l_d_ways_to_give c_d_ways_to_give p_d_ways_to_give
  · exact (fun_mk (st := s_d_ways_to_give) l_d_ways_to_give c_d_ways_to_give p_d_ways_to_give).binds (ps := ["letters", "things"]) fun _ _ _ _ _ _ us hl => match us, hl with | [_, _], _ => rfl
  · exact PySem.W.mg_of X G a_d_ways_to_give
  · exact fun_mk (st := s_d_written_out) l_d_written_out c_d_written_out p_d_written_out
  · exact (fun_mk (st := s_d_written_out) l_d_written_out c_d_written_out p_d_written_out).binds (ps := ["rule", "things"]) fun _ _ _ _ _ _ us hl => match us, hl with | [_, _], _ => rfl
  · exact PySem.W.mg_of X G a_d_written_out
  · exact fun_mk (st := s_d_l_cell_at) l_d_l_cell_at c_d_l_cell_at p_d_l_cell_at
  · exact (fun_mk (st := s_d_l_cell_at) l_d_l_cell_at c_d_l_cell_at p_d_l_cell_at).binds (ps := ["_law_script", "_law_k"]) fun _ _ _ _ _ _ us hl => match us, hl with | [_, _], _ => rfl
  · exact PySem.W.mg_of X G a_d_l_cell_at
  · exact fun_mk (st := s_d_l_mix) l_d_l_mix c_d_l_mix p_d_l_mix
  · exact (fun_mk (st := s_d_l_mix) l_d_l_mix c_d_l_mix p_d_l_mix).binds (ps := ["_law_cell", "_law_k"]) fun _ _ _ _ _ _ us hl => match us, hl with | [_, _], _ => rfl
  · exact PySem.W.mg_of X G a_d_l_mix
  · exact fun_mk (st := s_d_l_words) l_d_l_words c_d_l_words p_d_l_words
  · exact (fun_mk (st := s_d_l_words) l_d_l_words c_d_l_words p_d_l_words).binds (ps := ["_law_cell", "_law_many"]) fun _ _ _ _ _ _ us hl => match us, hl with | [_, _], _ => rfl
  · exact PySem.W.mg_of X G a_d_l_words
  · exact fun_mk (st := s_d_l_statement) l_d_l_statement c_d_l_statement p_d_l_statement
  · exact (fun_mk (st := s_d_l_statement) l_d_l_statement c_d_l_statement p_d_l_statement).binds (ps := ["_law_number", "_law_names", "_law_some"]) fun _ _ _ _ _ _ us hl => match us, hl with | [_, _, _], _ => rfl
  · exact PySem.W.mg_of X G a_d_l_statement
  · exact fun_mk (st := s_d_l_text) l_d_l_text c_d_l_text p_d_l_text
  · exact (fun_mk (st := s_d_l_text) l_d_l_text c_d_l_text p_d_l_text).binds (ps := ["_law_spec", "_law_given"]) fun _ _ _ _ _ _ us hl => match us, hl with | [_, _], _ => rfl
  · exact PySem.W.mg_of X G a_d_l_text
  · exact fun_mk (st := s_d_l_order) l_d_l_order c_d_l_order p_d_l_order
  · exact (fun_mk (st := s_d_l_order) l_d_l_order c_d_l_order p_d_l_order).binds (ps := ["_law_specs_here"]) fun _ _ _ _ _ _ us hl => match us, hl with | [_], _ => rfl
  · exact PySem.W.mg_of X G a_d_l_order
  · exact fun_mk (st := s_d_l_made) l_d_l_made c_d_l_made p_d_l_made
  · exact (fun_mk (st := s_d_l_made) l_d_l_made c_d_l_made p_d_l_made).binds (ps := ["_law_kind", "_law_label", "_law_texts"]) fun _ _ _ _ _ _ us hl => match us, hl with | [_, _, _], _ => rfl
  · exact PySem.W.mg_of X G a_d_l_made
  · exact fun_mk (st := s_d_l_specs) l_d_l_specs c_d_l_specs p_d_l_specs
  · exact (fun_mk (st := s_d_l_specs) l_d_l_specs c_d_l_specs p_d_l_specs).binds (ps := ["_law_script", "_law_kind", "_law_things", "_law_names"]) fun _ _ _ _ _ _ us hl => match us, hl with | [_, _, _, _], _ => rfl
  · exact PySem.W.mg_of X G a_d_l_specs
  · exact fun_mk (st := s_d_l_due) l_d_l_due c_d_l_due p_d_l_due
  · exact (fun_mk (st := s_d_l_due) l_d_l_due c_d_l_due p_d_l_due).binds (ps := ["_law_specs_here", "_law_things"]) fun _ _ _ _ _ _ us hl => match us, hl with | [_, _], _ => rfl
  · exact PySem.W.mg_of X G a_d_l_due
  · exact fun_mk (st := s_d_l_good) l_d_l_good c_d_l_good p_d_l_good
  · exact (fun_mk (st := s_d_l_good) l_d_l_good c_d_l_good p_d_l_good).binds (ps := ["_law_found", "_law_kind", "_law_label", "_law_due_here"]) fun _ _ _ _ _ _ us hl => match us, hl with | [_, _, _, _], _ => rfl
  · exact PySem.W.mg_of X G a_d_l_good
  · exact fun_mk (st := s_d_law) l_d_law c_d_law p_d_law
  · exact (fun_mk (st := s_d_law) l_d_law c_d_law p_d_law).binds (ps := ["_law_script"]) fun _ _ _ _ _ _ us hl => match us, hl with | [_], _ => rfl
  · exact PySem.W.mg_of X G a_d_law
  · exact ⟨_, PySem.W.mg_of X G k_SMALL⟩
  · exact ⟨_, PySem.W.mg_of X G k_GREAT⟩
  · exact ⟨_, PySem.W.mg_of X G k_LONGEST⟩
  · exact ⟨_, PySem.W.mg_of X G k_MOST_PLACES⟩
  · exact PySem.W.mg_of X G aa_filled_words
  · exact PySem.W.mg_of X G a_MostError
  · exact PySem.W.mg_of X G a_NoStatement
  · exact PySem.W.mg_of X G a_Rule
  · exact PySem.W.mg_of X G a_Fact
  · exact PySem.W.mg_of X G a_Sure
  · exact PySem.W.mg_of X G a_Most
  · exact PySem.W.mg_of X G a_Block
  · exact PySem.W.mg_none_of X G z_NotImplementedError
  · exact PySem.W.mg_none_of X G z_ValueError
  · exact PySem.W.mg_none_of X G z_all
  · exact PySem.W.mg_none_of X G z_dict
  · exact PySem.W.mg_none_of X G z_isinstance
  · exact PySem.W.mg_none_of X G z_len
  · exact PySem.W.mg_none_of X G z_list
  · exact PySem.W.mg_none_of X G z_range
  · exact PySem.W.mg_none_of X G z_reversed
  · exact PySem.W.mg_none_of X G z_str
  · exact PySem.W.mg_none_of X G z_tuple
  · exact PySem.W.mg_none_of X G z_zip
  · exact ⟨cg_Rule, cr_Rule, ca_Rule, p_c_Rule_init⟩
  · exact ⟨pg_Fact, hd_Fact, po_Fact, sa_Fact⟩
  · exact ⟨th_Fact, tn_Fact, tt_Fact, tm_Fact⟩
  · exact nf_Fact_label
  · exact nf_Fact_head
  · exact nf_Fact_body
  · exact ⟨mm_Fact, mi_Fact, mf_Fact, mq_Fact⟩
  · exact ⟨ma_Fact_letters, mb_Fact_letters, p_c_Rule_letters⟩
  · exact ⟨ma_Fact_again, mb_Fact_again, p_c_Fact_again⟩
  · exact ⟨ma_Fact_filled, mb_Fact_filled, p_c_Rule_filled⟩
  · exact kit_mk kc_Rule kt_Rule ks_Fact_Rule ks_Fact_Fact
  · exact kit_mk kc_Fact kt_Fact ks_Fact_Fact ks_Fact_Fact
  · exact kit_mk kc_Sure kt_Sure ks_Fact_Sure ks_Fact_Fact
  · exact kit_mk kc_Most kt_Most ks_Fact_Most ks_Fact_Fact
  · exact kit_mk kc_Block kt_Block ks_Fact_Block ks_Fact_Fact
  · exact ⟨pg_Sure, hd_Sure, po_Sure, sa_Sure⟩
  · exact ⟨th_Sure, tn_Sure, tt_Sure, tm_Sure⟩
  · exact nf_Sure_label
  · exact nf_Sure_head
  · exact nf_Sure_body
  · exact ⟨mm_Sure, mi_Sure, mf_Sure, mq_Sure⟩
  · exact ⟨ma_Sure_letters, mb_Sure_letters, p_c_Rule_letters⟩
  · exact ⟨ma_Sure_again, mb_Sure_again, p_c_Sure_again⟩
  · exact ⟨ma_Sure_filled, mb_Sure_filled, p_c_Rule_filled⟩
  · exact kit_mk kc_Rule kt_Rule ks_Sure_Rule ks_Sure_Sure
  · exact kit_mk kc_Fact kt_Fact ks_Sure_Fact ks_Sure_Sure
  · exact kit_mk kc_Sure kt_Sure ks_Sure_Sure ks_Sure_Sure
  · exact kit_mk kc_Most kt_Most ks_Sure_Most ks_Sure_Sure
  · exact kit_mk kc_Block kt_Block ks_Sure_Block ks_Sure_Sure
  · exact ⟨pg_Most, hd_Most, po_Most, sa_Most⟩
  · exact ⟨th_Most, tn_Most, tt_Most, tm_Most⟩
  · exact nf_Most_label
  · exact nf_Most_head
  · exact nf_Most_body
  · exact ⟨mm_Most, mi_Most, mf_Most, mq_Most⟩
  · exact ⟨ma_Most_letters, mb_Most_letters, p_c_Rule_letters⟩
  · exact ⟨ma_Most_again, mb_Most_again, p_c_Most_again⟩
  · exact ⟨ma_Most_filled, mb_Most_filled, p_c_Rule_filled⟩
  · exact kit_mk kc_Rule kt_Rule ks_Most_Rule ks_Most_Most
  · exact kit_mk kc_Fact kt_Fact ks_Most_Fact ks_Most_Most
  · exact kit_mk kc_Sure kt_Sure ks_Most_Sure ks_Most_Most
  · exact kit_mk kc_Most kt_Most ks_Most_Most ks_Most_Most
  · exact kit_mk kc_Block kt_Block ks_Most_Block ks_Most_Most
  · exact ⟨pg_Block, hd_Block, po_Block, sa_Block⟩
  · exact ⟨th_Block, tn_Block, tt_Block, tm_Block⟩
  · exact nf_Block_label
  · exact nf_Block_head
  · exact nf_Block_body
  · exact ⟨mm_Block, mi_Block, mf_Block, mq_Block⟩
  · exact ⟨ma_Block_letters, mb_Block_letters, p_c_Rule_letters⟩
  · exact ⟨ma_Block_again, mb_Block_again, p_c_Block_again⟩
  · exact ⟨ma_Block_filled, mb_Block_filled, p_c_Rule_filled⟩
  · exact kit_mk kc_Rule kt_Rule ks_Block_Rule ks_Block_Block
  · exact kit_mk kc_Fact kt_Fact ks_Block_Fact ks_Block_Block
  · exact kit_mk kc_Sure kt_Sure ks_Block_Sure ks_Block_Block
  · exact kit_mk kc_Most kt_Most ks_Block_Most ks_Block_Block
  · exact kit_mk kc_Block kt_Block ks_Block_Block ks_Block_Block

/-! ### words -/
def lows : List Nat := [97, 98, 99, 100, 101, 102, 103, 104, 105, 106, 107, 108, 109, 110, 111, 112, 113, 114, 115, 116, 117, 118, 119, 120, 121, 122]
def caps : List Nat := [65, 66, 67, 68, 69, 70, 71, 72, 73, 74, 75, 76, 77, 78, 79, 80, 81, 82, 83, 84, 85, 86, 87, 88, 89, 90]
theorem low_eq : ("abcdefghijklmnopqrstuvwxyz" : Str) = mk lows := by decide +kernel
theorem cap_eq : ("ABCDEFGHIJKLMNOPQRSTUVWXYZ" : Str) = mk caps := by decide +kernel
/-- a name, a thing -/
def IsW (l : List Nat) : Prop := 1 ≤ l.length ∧ l.length ≤ 8 ∧ ∀ c ∈ l, c ∈ lows
/-- a place -/
def IsP (l : List Nat) : Prop := IsW l ∨ ∃ c, c ∈ caps ∧ l = [c]
def stmtL (sd nm : List Nat) : List (List Nat) → List Nat
  | [] => sd ++ nm
  | [p] => sd ++ nm ++ 40 :: (p ++ [41])
  | p :: q :: _ => sd ++ nm ++ 40 :: (p ++ 44 :: (q ++ [41]))
structure IsS (sd nm : List Nat) (ps : List (List Nat)) : Prop where
  side : sd = [] ∨ sd = [45]
  name : IsW nm
  many : ps.length ≤ 2
  places : ∀ p ∈ ps, IsP p
theorem low_lt {c : Nat} (h : c ∈ lows) : 97 ≤ c ∧ c ≤ 122 := by revert c; decide
theorem cap_lt {c : Nat} (h : c ∈ caps) : 65 ≤ c ∧ c ≤ 90 := by revert c; decide
theorem IsP.len {l : List Nat} (h : IsP l) : 1 ≤ l.length ∧ l.length ≤ 8 := by
  rcases h with h | ⟨c, _, rfl⟩
  · exact ⟨h.1, h.2.1⟩
  · exact ⟨Nat.le_refl _, by simp⟩
theorem IsP.rng {l : List Nat} (h : IsP l) : ∀ c ∈ l, 65 ≤ c ∧ c ≤ 122 := by
  rcases h with h | ⟨d, hd, rfl⟩
  · intro c hc; have := low_lt (h.2.2 c hc); omega
  · intro c hc
    have e : c = d := by simpa using hc
    have := cap_lt hd; omega
theorem IsP.no {l : List Nat} (h : IsP l) {c : Nat} (hc : c < 65) : c ∉ l := fun z => by have := h.rng c z; omega
theorem IsW.no {l : List Nat} (h : IsW l) {c : Nat} (hc : c < 65) : c ∉ l := IsP.no (.inl h) hc
/-! ### the mirror -/
def sgn (z : Str) (i : Nat) : Str := ⟨#[(z.cps[i]?).getD 0]⟩
def allIn (z s : Str) : Bool := (List.range z.cps.size).all fun i => inS (sgn z i) s
def madeOf (z sg : Str) (m : Int) : Bool := (decide (1 ≤ (z.length : Int)) && decide ((z.length : Int) ≤ m)) && allIn z sg
theorem inS_one (c : Nat) (l : List Nat) : inS (mk [c]) (mk l) = decide (c ∈ l) := by
  unfold inS; rw [in_one]
theorem allIn_mk (l s : List Nat) : allIn (mk l) (mk s) = l.all fun c => decide (c ∈ s) := by
  unfold allIn
  rw [Bool.eq_iff_iff, List.all_eq_true, List.all_eq_true]
  constructor
  · intro h c hc
    obtain ⟨i, hi, e⟩ := List.getElem_of_mem hc
    have := h i (List.mem_range.mpr (by simpa using hi))
    have e2 : sgn (mk l) i = mk [c] := by
      unfold sgn; simp [e, hi]
    rw [e2, inS_one] at this
    exact this
  · intro h i hi
    have hi' : i < l.length := by simpa using List.mem_range.mp hi
    have e2 : sgn (mk l) i = mk [l[i]] := by unfold sgn; simp [hi']
    rw [e2, inS_one]
    exact h _ (List.getElem_mem hi')
theorem name_iff (l : List Nat) : madeOf (mk l) "abcdefghijklmnopqrstuvwxyz" 8 = true ↔ IsW l := by
  unfold madeOf IsW
  rw [low_eq, allIn_mk, mk_len, Bool.and_eq_true, Bool.and_eq_true, decide_eq_true_eq, decide_eq_true_eq, List.all_eq_true]
  simp only [decide_eq_true_eq]
  constructor
  · rintro ⟨⟨a, b⟩, c⟩; exact ⟨by omega, by omega, c⟩
  · rintro ⟨a, b, c⟩; exact ⟨⟨by omega, by omega⟩, c⟩
theorem letter_iff (l : List Nat) : madeOf (mk l) "ABCDEFGHIJKLMNOPQRSTUVWXYZ" 1 = true ↔ ∃ c, c ∈ caps ∧ l = [c] := by
  unfold madeOf
  rw [cap_eq, allIn_mk, mk_len, Bool.and_eq_true, Bool.and_eq_true, decide_eq_true_eq, decide_eq_true_eq, List.all_eq_true]
  simp only [decide_eq_true_eq]
  constructor
  · rintro ⟨⟨a, b⟩, c⟩
    match l, a, b, c with
    | [d], _, _, c => exact ⟨d, c d (by simp), rfl⟩
    | d :: e :: r, _, b, _ => simp at b; omega
  · rintro ⟨c, hc, rfl⟩
    exact ⟨⟨by simp, by simp⟩, fun d hd => by have : d = c := by simpa using hd
                                              rw [this]; exact hc⟩
theorem short_le {n : Nat} (h : n ≤ 100000) : n ≤ sizeLine := Nat.le_trans h (by decide)


abbrev sv (l : List Nat) : V := .str (mk l)
abbrev pv' (ps : List (List Nat)) : List V := ps.map fun l => V.str (mk l)
theorem pl_of : ∀ {ys : List V}, (∀ (i : Nat) v, ys[i]? = some v → ∃ l, IsP l ∧ v = .str (mk l)) → ∃ ps : List (List Nat), ys = pv' ps ∧ ∀ p ∈ ps, IsP p
  | [], _ => ⟨[], rfl, by simp⟩
  | y :: ys, h => by
    obtain ⟨l, hl, rfl⟩ := h 0 y rfl
    obtain ⟨ps, rfl, hp⟩ := pl_of (ys := ys) fun i v e => h (i + 1) v (by simpa using e)
    exact ⟨l :: ps, rfl, by
      intro p hp'
      rcases List.mem_cons.mp hp' with e | e
      · rw [e]; exact hl
      · exact hp p e⟩
/-- the three parts stand at p -/
def At3 (H : Hp) (p : Addr) (sd nm : List Nat) (ps : List (List Nat)) : Prop := ∃ t, H p = some (.tup [sv sd, sv nm, .ref t]) ∧ H t = some (.tup (pv' ps))
theorem At3.same {H H' : Hp} {p : Addr} {sd nm : List Nat} {ps : List (List Nat)} (s : Same H H') (h : At3 H p sd nm ps) : At3 H' p sd nm ps := let ⟨t, a, b⟩ := h; ⟨t, s _ _ a, s _ _ b⟩
theorem strOk_mk {l : List Nat} (h : ∀ c ∈ l, c < 1114112) : PyData.strOk (mk l) = true := by
  unfold PyData.strOk; simpa using h
theorem shaped3 {sd nm : List Nat} {ps : List (List Nat)} (h : IsS sd nm ps) : SeqAt.shaped (.tuple [.str (mk sd), .str (mk nm), .tuple (ps.map fun l => PyData.str (mk l))]) = true := by
  have h1 : PyData.strOk (mk sd) = true := by
    rcases h.side with e | e <;> rw [e] <;> exact strOk_mk (by simp)
  have h2 : PyData.strOk (mk nm) = true := strOk_mk fun c hc => by have := low_lt (h.name.2.2 c hc); omega
  have h3 : ∀ qs : List (List Nat), (∀ p ∈ qs, IsP p) → PyData.canLayAll0 (qs.map fun l => PyData.str (mk l)) = true ∧ PyData.depthAll (qs.map fun l => PyData.str (mk l)) = 0 := by
    intro qs
    induction qs with
    | nil => intro _; exact ⟨rfl, rfl⟩
    | cons q qs ih =>
      intro hq
      obtain ⟨a, b⟩ := ih fun p hp => hq p (List.mem_cons_of_mem _ hp)
      have hs : PyData.strOk (mk q) = true := strOk_mk fun c hc => by have := (hq q List.mem_cons_self).rng c hc; omega
      refine ⟨?_, ?_⟩
      · show (PyData.canLay0 (.str (mk q)) && _) = true
        rw [a, Bool.and_true]; exact hs
      · show max (PyData.depth (.str (mk q))) _ = 0
        rw [b]; rfl
  obtain ⟨a, b⟩ := h3 ps h.places
  unfold SeqAt.shaped
  simp only [PyData.canLay0, PyData.canLayAll0, PyData.depth, PyData.depthAll, h1, h2, a, b]
  decide
theorem den3 {K : PySem.W.Frag} {H : Hp} {p : Addr} {sd nm : List Nat} {ps : List (List Nat)} (h : At3 H p sd nm ps) : Den K H (.ref p) (.tuple [.str (mk sd), .str (mk nm), .tuple (ps.map fun l => PyData.str (mk l))]) := by
  obtain ⟨t, a, b⟩ := h
  refine .tup (SqT.of a) (.cons (.str _) (.cons (.str _) (.cons (.tup (SqT.of b) ?_) .nil)))
  have := denStrs (K := K) (H := H) (ps.map mk)
  rw [List.map_map, List.map_map] at this
  exact this
def capB (p : List Nat) : Bool := madeOf (mk p) "ABCDEFGHIJKLMNOPQRSTUVWXYZ" 1
def stepL (acc : List (List Nat)) (p : List Nat) : List (List Nat) := if capB p = true ∧ inV (sv p) (pv' acc) = false then acc ++ [p] else acc
def letL (ps : List (List Nat)) : List (List Nat) := ps.foldl stepL []
theorem capB_w {p : List Nat} (h : IsW p) : capB p = false := by
  rw [← Bool.not_eq_true]
  intro z
  obtain ⟨c, hc, rfl⟩ := (letter_iff p).mp z
  have h1 := low_lt (h.2.2 c (by simp)); have h2 := cap_lt hc; omega
theorem shapedL {qs : List (List Nat)} (h : ∀ p ∈ qs, IsP p) : SeqAt.shaped (.list (qs.map fun l => PyData.str (mk l))) = true := by
  have h3 : ∀ qs : List (List Nat), (∀ p ∈ qs, IsP p) → PyData.canLayAll0 (qs.map fun l => PyData.str (mk l)) = true ∧ PyData.depthAll (qs.map fun l => PyData.str (mk l)) = 0 := by
    intro qs
    induction qs with
    | nil => intro _; exact ⟨rfl, rfl⟩
    | cons q qs ih =>
      intro hq
      obtain ⟨a, b⟩ := ih fun p hp => hq p (List.mem_cons_of_mem _ hp)
      have hs : PyData.strOk (mk q) = true := strOk_mk fun c hc => by have := (hq q List.mem_cons_self).rng c hc; omega
      refine ⟨?_, ?_⟩
      · show (PyData.canLay0 (.str (mk q)) && _) = true
        rw [a, Bool.and_true]; exact hs
      · show max (PyData.depth (.str (mk q))) _ = 0
        rw [b]; rfl
  obtain ⟨a, b⟩ := h3 qs h
  unfold SeqAt.shaped
  simp only [PyData.canLay0, PyData.depth, a, b]
  decide
theorem denL {K : PySem.W.Frag} {H : Hp} {D : Addr} {qs : List (List Nat)} (h : SqL K H D (pv' qs)) : Den K H (.ref D) (.list (qs.map fun l => PyData.str (mk l))) := by
  refine .lst h ?_
  have := denStrs (K := K) (H := H) (qs.map mk)
  rw [List.map_map, List.map_map] at this
  exact this
theorem flat_pv (qs : List (List Nat)) : (pv' qs).all flatV = true := by
  rw [List.all_eq_true]; intro v hv
  obtain ⟨l, _, rfl⟩ := List.mem_map.mp hv; rfl
theorem let_in {ps : List (List Nat)} (h : ∀ p ∈ ps, IsP p) : ∀ p ∈ letL ps, IsP p := by
  have : ∀ (qs acc : List (List Nat)), (∀ p ∈ qs, IsP p) → (∀ p ∈ acc, IsP p) → ∀ p ∈ qs.foldl stepL acc, IsP p := by
    intro qs
    induction qs with
    | nil => intro acc _ ha; exact ha
    | cons q qs ih =>
      intro acc hq ha
      refine ih _ (fun p hp => hq p (List.mem_cons_of_mem _ hp)) ?_
      unfold stepL
      split
      · intro p hp
        rcases List.mem_append.mp hp with z | z
        · exact ha p z
        · have : p = q := by simpa using z
          rw [this]; exact hq q List.mem_cons_self
      · exact ha
  exact this ps [] h (by simp)
theorem let_len (ps : List (List Nat)) : (letL ps).length ≤ ps.length := by
  have : ∀ (qs acc : List (List Nat)), (qs.foldl stepL acc).length ≤ acc.length + qs.length := by
    intro qs
    induction qs with
    | nil => intro acc; simp
    | cons q qs ih =>
      intro acc
      refine Nat.le_trans (ih _) ?_
      unfold stepL
      split <;> simp <;> omega
  have h := this ps []
  rw [List.length_nil, Nat.zero_add] at h
  exact h
/-- the three parts of a law's own: a tuple with a list of places -/
def AtL (H : Hp) (p : Addr) (sd nm : List Nat) (ps : List (List Nat)) : Prop := ∃ D, H p = some (.tup [sv sd, sv nm, .ref D]) ∧ H D = some (.lst (pv' ps))
theorem AtL.same {H H' : Hp} {p : Addr} {sd nm : List Nat} {ps : List (List Nat)} (s : Same H H') (h : AtL H p sd nm ps) : AtL H' p sd nm ps := let ⟨t, a, b⟩ := h; ⟨t, s _ _ a, s _ _ b⟩
def figs : List Nat := lows ++ [48, 49, 50, 51, 52, 53, 54, 55, 56, 57]
theorem fig_eq : ("abcdefghijklmnopqrstuvwxyz0123456789" : Str) = mk figs := by decide +kernel
theorem fig_lt {c : Nat} (h : c ∈ figs) : c ≤ 122 := by revert c; decide
/-- an instance's values -/
def flds (lb hd : V) (t : Addr) : List (Str × V) := putF "body" (.ref t) (putF "head" hd (putF "label" lb []))
theorem flds_label (lb hd : V) (t : Addr) : (flds lb hd t).lookup ("label" : Str) = some lb := by
  unfold flds; rw [lookup_putF, if_neg (by decide +kernel), lookup_putF, if_neg (by decide +kernel), lookup_putF, if_pos rfl]
theorem flds_head (lb hd : V) (t : Addr) : (flds lb hd t).lookup ("head" : Str) = some hd := by
  unfold flds; rw [lookup_putF, if_neg (by decide +kernel), lookup_putF, if_pos rfl]
theorem flds_body (lb hd : V) (t : Addr) : (flds lb hd t).lookup ("body" : Str) = some (.ref t) := by
  unfold flds; rw [lookup_putF, if_pos rfl]
theorem flds_no (lb hd : V) (t : Addr) {m : Str} (h1 : ¬ m = "body") (h2 : ¬ m = "head") (h3 : ¬ m = "label") : (flds lb hd t).lookup m = none := by
  unfold flds; rw [lookup_putF, if_neg h1, lookup_putF, if_neg h2, lookup_putF, if_neg h3]; rfl
/-- a rule of the class at C stands at r -/
def RuleAt (H : Hp) (r C : Addr) (lb hd : V) (bs : List V) : Prop := ∃ dx t, H r = some (.ins C dx (flds lb hd t)) ∧ H t = some (.tup bs)
theorem RuleAt.same {H H' : Hp} {r C : Addr} {lb hd : V} {bs : List V} (s : Same H H') (h : RuleAt H r C lb hd bs) : RuleAt H' r C lb hd bs := let ⟨d, t, a, b⟩ := h; ⟨d, t, s _ _ a, s _ _ b⟩
theorem inV_iff (p : List Nat) (acc : List (List Nat)) : inV (sv p) (pv' acc) = decide (p ∈ acc) := by
  unfold inV
  rw [Bool.eq_iff_iff, List.any_eq_true, decide_eq_true_eq]
  constructor
  · rintro ⟨v, hv, e⟩
    obtain ⟨l, hl, rfl⟩ := List.mem_map.mp hv
    have : mk l = mk p := by
      have e' : (mk l == mk p) = true := e
      exact eq_of_beq e'
    rw [← mk_inj this]; exact hl
  · intro h
    refine ⟨sv p, List.mem_map.mpr ⟨p, h, rfl⟩, ?_⟩
    show (mk p == mk p) = true
    exact beq_self_eq_true _
theorem step_eq (acc : List (List Nat)) (p : List Nat) : stepL acc p = if capB p = true ∧ p ∉ acc then acc ++ [p] else acc := by
  unfold stepL
  simp only [inV_iff, decide_eq_false_iff_not]
/-- a statement by its parts -/
abbrev TP3 := List Nat × List Nat × List (List Nat)
def stat (s : TP3) : List Nat := stmtL s.1 s.2.1 s.2.2
def IsT (s : TP3) : Prop := IsS s.1 s.2.1 s.2.2
abbrev tv (ss : List TP3) : List V := ss.map fun s => sv (stat s)
def allL (ss : List TP3) : List (List Nat) := ss.foldl (fun acc s => s.2.2.foldl stepL acc) []
def moreL (acc : List (List Nat)) (ps : List (List Nat)) : List (List Nat) := acc ++ (letL ps).filter fun l => decide (l ∉ acc)
theorem more_fold (acc : List (List Nat)) : ∀ (n : Nat) (ps : List (List Nat)), ps.length = n → ps.foldl stepL acc = moreL acc ps := by
  intro n
  induction n with
  | zero =>
    intro ps h
    have : ps = [] := List.length_eq_zero_iff.mp h
    subst this
    unfold moreL letL; simp
  | succ n ih =>
    intro ps h
    obtain ⟨qs, p, rfl⟩ : ∃ qs p, ps = qs ++ [p] := ⟨ps.dropLast, ps.getLast (by intro z; rw [z] at h; simp at h), (List.dropLast_concat_getLast _).symm⟩
    have hq : qs.length = n := by simpa using h
    have ih1 := ih qs hq
    have e2 : letL (qs ++ [p]) = stepL (letL qs) p := by unfold letL; rw [List.foldl_append]; rfl
    rw [List.foldl_append, ih1]
    show stepL (moreL acc qs) p = moreL acc (qs ++ [p])
    unfold moreL
    rw [e2, step_eq, step_eq]
    have hm : p ∉ (acc ++ (letL qs).filter fun l => decide (l ∉ acc)) ↔ (p ∉ acc ∧ p ∉ letL qs) := by
      rw [List.mem_append, List.mem_filter, decide_eq_true_eq]
      constructor
      · intro z; exact ⟨fun y => z (.inl y), fun y => z (.inr ⟨y, fun w => z (.inl w)⟩)⟩
      · rintro ⟨a, b⟩ (y | y)
        · exact a y
        · exact b y.1
    simp only [hm]
    by_cases h1 : capB p = true
    · by_cases h2 : p ∈ letL qs
      · rw [if_neg (fun z => z.2.2 h2), if_neg (fun z => z.2 h2)]
      · rw [if_pos (show capB p = true ∧ p ∉ letL qs from ⟨h1, h2⟩), List.filter_append]
        by_cases h3 : p ∈ acc
        · rw [if_neg (fun z => z.2.1 h3), List.filter_cons, if_neg (by simp [h3])]; simp
        · rw [if_pos ⟨h1, h3, h2⟩, List.filter_cons, if_pos (by simp [h3])]; simp
    · rw [if_neg (fun z => h1 z.1), if_neg (fun z => h1 z.1)]
theorem all_snoc (ss : List TP3) (s : TP3) : allL (ss ++ [s]) = moreL (allL ss) s.2.2 := by
  unfold allL
  rw [List.foldl_append]
  exact more_fold _ _ _ rfl
theorem more_len (acc ps : List (List Nat)) : (moreL acc ps).length ≤ acc.length + ps.length := by
  unfold moreL
  rw [List.length_append]
  exact Nat.add_le_add_left (Nat.le_trans (List.length_filter_le _ _) (let_len ps)) _
theorem all_len : ∀ (n : Nat) (ss : List TP3), ss.length = n → (∀ s ∈ ss, IsT s) → (allL ss).length ≤ 2 * n ∧ ∀ p ∈ allL ss, IsP p := by
  intro n
  induction n with
  | zero =>
    intro ss h _
    have : ss = [] := List.length_eq_zero_iff.mp h
    subst this
    exact ⟨Nat.le_refl _, by intro p hp; cases hp⟩
  | succ n ih =>
    intro ss h hs
    obtain ⟨qs, p, rfl⟩ : ∃ qs p, ss = qs ++ [p] := ⟨ss.dropLast, ss.getLast (by intro z; rw [z] at h; simp at h), (List.dropLast_concat_getLast _).symm⟩
    have hq : qs.length = n := by simpa using h
    obtain ⟨a, b⟩ := ih qs hq fun s hs' => hs s (List.mem_append_left _ hs')
    have ht := hs p (by simp)
    rw [all_snoc]
    refine ⟨Nat.le_trans (more_len _ _) (by have := ht.many; omega), fun x hx => ?_⟩
    unfold moreL at hx
    rcases List.mem_append.mp hx with z | z
    · exact b x z
    · exact let_in ht.places x (List.mem_filter.mp z).1
theorem cap_less {p : List Nat} (h : IsP p) : decide ((mk p).cps.toList < (mk [97]).cps.toList) = capB p := by
  show decide (p < [97]) = capB p
  rcases h with h | ⟨c, hc, rfl⟩
  · rw [capB_w h, decide_eq_false_iff_not]
    cases p with
    | nil => exact absurd h.1 (by simp)
    | cons c r =>
      have hc := low_lt (h.2.2 c (by simp))
      intro z
      rcases List.cons_lt_cons_iff.mp z with y | ⟨_, y⟩
      · omega
      · exact absurd y (List.not_lt_nil _)
  · have h2 := cap_lt hc
    rw [show capB [c] = true from (letter_iff [c]).mpr ⟨c, hc, rfl⟩, decide_eq_true_eq]
    exact List.cons_lt_cons_iff.mpr (.inl (by omega))
/-- a list of the law's own parts -/
def AtAll (H : Hp) : List V → List TP3 → Prop
  | [], [] => True
  | v :: vs, s :: ss => (∃ p, v = .ref p ∧ AtL H p s.1 s.2.1 s.2.2) ∧ AtAll H vs ss
  | _, _ => False
theorem AtAll.same {H H' : Hp} (e : Same H H') : ∀ {vs : List V} {ss : List TP3}, AtAll H vs ss → AtAll H' vs ss
  | [], [], _ => trivial
  | _ :: _, _ :: _, ⟨⟨p, e1, e2⟩, h⟩ => ⟨⟨p, e1, e2.same e⟩, AtAll.same e h⟩
theorem AtAll.len {H : Hp} : ∀ {vs : List V} {ss : List TP3}, AtAll H vs ss → vs.length = ss.length
  | [], [], _ => rfl
  | _ :: _, _ :: _, ⟨_, h⟩ => by simp [AtAll.len h]
theorem AtAll.get {H : Hp} {vs : List V} {ss : List TP3} (h : AtAll H vs ss) (i : Nat) (s : TP3) (e : ss[i]? = some s) : ∃ p, vs[i]? = some (.ref p) ∧ AtL H p s.1 s.2.1 s.2.2 := by
  induction vs generalizing ss i with
  | nil =>
    cases ss with
    | nil => simp at e
    | cons _ _ => exact h.elim
  | cons v vs ih =>
    cases ss with
    | nil => exact h.elim
    | cons s' ss =>
      obtain ⟨⟨p, e1, e2⟩, h⟩ := h
      cases i with
      | zero => cases e; exact ⟨p, by rw [e1]; rfl, e2⟩
      | succ i => exact ih h i (by simpa using e)
def joinL : List (List Nat) → List Nat
  | [] => []
  | [p] => p
  | p :: q :: _ => p ++ 44 :: q
def MadeQ (K : PySem.W.Frag) (x : V) (sg : Str) (m : Int) (H : Hp) (Q : VK) : Prop := (∃ z : Str, x = .str z ∧ z.length ≤ 100000 ∧ ∀ H', Same H H' → Q (.bl (madeOf z sg m)) H')
def spMade (K : PySem.W.Frag) : Sp := fun vs H Q _ => ∃ (x : V) (sg : Str) (m : Int), vs = [x, .str sg, .int m] ∧ MadeQ K x sg m H Q
def spIs (K : PySem.W.Frag) (sg : Str) (m : Int) : Sp := fun vs H Q _ => ∃ (z : Str), vs = [.str z] ∧ z.length ≤ 100000 ∧ ∀ H', Same H H' → Q (.bl (madeOf z sg m)) H'
def spPlaces : Sp := fun vs H Q _ => ∃ ps : List (List Nat), vs = [sv (joinL ps ++ [41])] ∧ (1 ≤ ps.length ∧ ps.length ≤ 2 ∧ ∀ p ∈ ps, IsP p) ∧ ∀ t H', Same H H' → H' t = some (.tup (pv' ps)) → Q (.ref t) H'
def spParts : Sp := fun vs H Q _ => ∃ sd nm ps, vs = [sv (stmtL sd nm ps)] ∧ IsS sd nm ps ∧ ∀ p H', Same H H' → At3 H' p sd nm ps → Q (.ref p) H'
def spTextOf : Sp := fun vs H Q _ => ∃ sd nm ps t, vs = [sv sd, sv nm, .ref t] ∧ IsS sd nm ps ∧ H t = some (.tup (pv' ps)) ∧ Q (sv (stmtL sd nm ps)) H
theorem stmt_len {sd nm : List Nat} {ps : List (List Nat)} (h : IsS sd nm ps) : (stmtL sd nm ps).length ≤ 40 := by
  have h1 : sd.length ≤ 1 := by rcases h.side with e | e <;> rw [e] <;> simp
  have h2 := h.name.2.1
  match ps, h.many, h.places with
  | [], _, _ => simp [stmtL]; omega
  | [p], _, hp => have := (hp p (by simp)).len; simp [stmtL]; omega
  | [p, q], _, hp => have := (hp p (by simp)).len; have := (hp q (by simp)).len; simp [stmtL]; omega
theorem stmt_side (sd nm : List Nat) (ps : List (List Nat)) : stmtL sd nm ps = sd ++ stmtL [] nm ps := by
  match ps with
  | [] => simp [stmtL]
  | [p] => simp [stmtL]
  | p :: q :: r => simp [stmtL]
theorem stmt_tail (nm : List Nat) (ps : List (List Nat)) (h : ps.length ≤ 2) : stmtL [] nm ps = nm ++ (if ps = [] then [] else 40 :: (joinL ps ++ [41])) := by
  match ps, h with
  | [], _ => simp [stmtL]
  | [p], _ => simp [stmtL, joinL]
  | [p, q], _ => simp [stmtL, joinL]
theorem stmt_head {nm : List Nat} {ps : List (List Nat)} (h : IsS [] nm ps) : (stmtL [] nm ps)[0]? ≠ some 45 := by
  rw [stmt_tail nm ps h.many, List.getElem?_append_left (by have := h.name.1; omega)]
  intro z
  exact h.name.no (by decide) (List.mem_of_getElem? z)
theorem IsS.bare {sd nm : List Nat} {ps : List (List Nat)} (h : IsS sd nm ps) : IsS [] nm ps := ⟨.inl rfl, h.name, h.many, h.places⟩
theorem stmt_starts {sd nm : List Nat} {ps : List (List Nat)} (h : IsS sd nm ps) : Txt.startswith (mk (stmtL sd nm ps)) "-" = decide (sd = [45]) := by
  rw [show ("-" : Str) = mk [45] by decide +kernel, starts_one, stmt_side]
  rcases h.side with e | e
  · subst e
    rw [List.nil_append, decide_eq_false (stmt_head h), decide_eq_false (by simp)]
  · subst e; rfl
theorem spIs_at {K : PySem.W.Frag} {sg : Str} {m : Int} {z : Str} {H : Hp} {Q : VK} {E : XK} : spIs K sg m [.str z] H Q E ↔ (z.length ≤ 100000 ∧ ∀ H', Same H H' → Q (.bl (madeOf z sg m)) H') := ⟨by rintro ⟨_, e, q⟩; cases e; exact q, fun q => ⟨_, rfl, q⟩⟩
/-- texts joined -/
def joinN (c : List Nat) : List (List Nat) → List Nat
  | [] => []
  | a :: r => a ++ r.flatMap fun b => c ++ b
theorem foldl_glue (c : List Nat) : ∀ (r : List (List Nat)) (a : Array Nat), (r.map mk).foldl (fun acc p => acc ++ (mk c).cps ++ p.cps) a = a ++ (r.flatMap fun b => c ++ b).toArray := by
  intro r
  induction r with
  | nil => intro a; simp
  | cons b r ih =>
    intro a
    rw [List.map_cons, List.foldl_cons, ih]
    show a ++ c.toArray ++ b.toArray ++ _ = _
    simp
theorem join_mk (c : List Nat) (xs : List (List Nat)) : Txt.join (mk c) (xs.map mk) = mk (joinN c xs) := by
  cases xs with
  | nil => rfl
  | cons a r =>
    show (⟨(r.map mk).foldl (fun acc p => acc ++ (mk c).cps ++ p.cps) a.toArray⟩ : Str) = _
    rw [foldl_glue]
    simp [joinN, mk]

def IsCap (l : List Nat) : Prop := ∃ c, c ∈ caps ∧ l = [c]
theorem capB_f {p : List Nat} (h : IsCap p) : capB p = true := (letter_iff p).mpr h
def gm (gs : List (List Nat × List Nat)) : List (Key × V) := gs.map fun kl => (Sum.inr (mk kl.1), sv kl.2)
def Good (gs : List (List Nat × List Nat)) : Prop := ∀ kl ∈ gs, IsCap kl.1 ∧ IsW kl.2
def look (gs : List (List Nat × List Nat)) (p : List Nat) : Option (List Nat) := (gs.find? fun kl => decide (kl.1 = p)).map (·.2)
def fillL (gs : List (List Nat × List Nat)) (p : List Nat) : List Nat := if capB p = true then (look gs p).getD p else p
theorem val_gm : ∀ (gs : List (List Nat × List Nat)) (p : List Nat), valV (gm gs) (Sum.inr (mk p)) = (look gs p).map sv
  | [], _ => rfl
  | (k, l) :: gs, p => by
    have ih := val_gm gs p
    unfold valV gm look at *
    rw [List.map_cons, List.find?_cons, List.find?_cons]
    by_cases e : k = p
    · rw [decide_eq_true (by rw [e]), decide_eq_true (show (k, l).1 = p from e)]; rfl
    · rw [decide_eq_false (fun z => e (mk_inj (Sum.inr.inj z))), decide_eq_false (show ¬ (k, l).1 = p from e)]; exact ih
theorem look_w {gs : List (List Nat × List Nat)} (hg : Good gs) {p q : List Nat} (h : look gs p = some q) : IsW q ∧ IsCap p := by
  unfold look at h
  cases e : gs.find? fun kl => decide (kl.1 = p) with
  | none => rw [e] at h; cases h
  | some kl =>
    rw [e] at h
    have e1 := List.mem_of_find?_eq_some e
    have e2 := List.find?_some e
    have e3 : kl.1 = p := by simpa using e2
    cases h
    exact ⟨(hg kl e1).2, e3 ▸ (hg kl e1).1⟩
theorem fill_p {gs : List (List Nat × List Nat)} (hg : Good gs) {p : List Nat} (h : IsP p) : IsP (fillL gs p) := by
  unfold fillL
  split
  · cases e : look gs p with
    | none => exact h
    | some q => exact .inl (look_w hg e).1
  · exact h
theorem fill_get {gs : List (List Nat × List Nat)} (hg : Good gs) {p : List Nat} : fillL gs p = (look gs p).getD p := by
  unfold fillL
  split
  · rfl
  · rename_i h
    cases e : look gs p with
    | none => rfl
    | some q => exact absurd (capB_f (look_w hg e).2) h
theorem fill_none (p : List Nat) : fillL [] p = p := by unfold fillL; split <;> rfl
theorem IsS.filled {sd nm : List Nat} {ps : List (List Nat)} (h : IsS sd nm ps) {gs : List (List Nat × List Nat)} (hg : Good gs) : IsS sd nm (ps.map (fillL gs)) :=
  ⟨h.side, h.name, by rw [List.length_map]; exact h.many, fun p hp => by obtain ⟨q, hq, rfl⟩ := List.mem_map.mp hp; exact fill_p hg (h.places q hq)⟩
def putG (gs : List (List Nat × List Nat)) (k l : List Nat) : List (List Nat × List Nat) := if (look gs k).isSome then gs.map fun kl => if kl.1 = k then (kl.1, l) else kl else gs ++ [(k, l)]
theorem put_gm (gs : List (List Nat × List Nat)) (k l : List Nat) : putK (gm gs) (Sum.inr (mk k)) (sv l) = gm (putG gs k l) := by
  unfold putK putG
  rw [valV_any, val_gm, Option.isSome_map]
  by_cases h : (look gs k).isSome = true
  · rw [if_pos h, if_pos h]
    unfold gm
    rw [List.map_map, List.map_map]
    refine List.map_congr_left fun kl _ => ?_
    simp only [Function.comp]
    by_cases e : kl.1 = k
    · rw [if_pos (by rw [e]), if_pos e]
    · rw [if_neg (fun z => e (mk_inj (Sum.inr.inj z))), if_neg e]
  · rw [if_neg h, if_neg h]
    unfold gm; rw [List.map_append]; rfl
theorem put_good {gs : List (List Nat × List Nat)} (hg : Good gs) {k l : List Nat} (hk : IsCap k) (hl : IsW l) : Good (putG gs k l) := by
  unfold putG
  split
  · intro kl h
    obtain ⟨x, hx, rfl⟩ := List.mem_map.mp h
    by_cases e : x.1 = k
    · rw [if_pos e]; exact ⟨(hg x hx).1, hl⟩
    · rw [if_neg e]; exact hg x hx
  · intro kl h
    rcases List.mem_append.mp h with z | z
    · exact hg kl z
    · rw [List.mem_singleton.mp z]; exact ⟨hk, hl⟩
theorem put_len (gs : List (List Nat × List Nat)) (k l : List Nat) : (putG gs k l).length ≤ gs.length + 1 := by
  unfold putG
  split <;> simp
def fillT (gs : List (List Nat × List Nat)) (s : TP3) : TP3 := (s.1, s.2.1, s.2.2.map (fillL gs))
theorem fill_t {gs : List (List Nat × List Nat)} (hg : Good gs) {s : TP3} (h : IsT s) : IsT (fillT gs s) := IsS.filled h hg
theorem gm_texts (gs : List (List Nat × List Nat)) : ∀ p ∈ gm gs, ∃ l, p.2 = .str l := fun p hp => by
  obtain ⟨x, _, rfl⟩ := List.mem_map.mp hp
  exact ⟨_, rfl⟩

def spMix : Sp := fun vs H Q _ => ∃ (c k : Int), vs = [.int c, .int k] ∧ ∀ r : Int, 0 ≤ r → Q (.int r) H
def spTxt : Sp := fun vs H Q _ => ∃ (c : Int) (sg : List Nat), vs = [.int c, sv sg, .int 8] ∧ (0 < sg.length ∧ sg.length ≤ 100) ∧ ∀ l : List Nat, (1 ≤ l.length ∧ l.length ≤ 8) → (∀ x ∈ l, x ∈ sg) → Q (sv l) H
def spName : Sp := fun vs H Q _ => ∃ (c : Int), vs = [.int c] ∧ ∀ l, IsW l → Q (sv l) H
def spLabel : Sp := fun vs H Q _ => ∃ (c : Int), vs = [.int c] ∧ ∀ l : List Nat, (1 ≤ l.length ∧ l.length ≤ 8) → (∀ x ∈ l, x ∈ figs) → Q (sv l) H
def spLetter : Sp := fun vs H Q _ => ∃ (b k : Int), vs = [.int b, .int k] ∧ ∀ c, c ∈ caps → Q (sv [c]) H
def spPlace : Sp := fun vs H Q _ => ∃ (c b m : Int), vs = [.int c, .int b, .int m] ∧ ∀ l, IsP l → Q (sv l) H
def spPartsL : Sp := fun vs H Q _ => ∃ (c b m : Int), vs = [.int c, .int b, .int m] ∧ ∀ sd nm ps p L H', IsS sd nm ps → Same H H' → (H p = none ∧ H L = none ∧ p ≠ L) → (H' p = some (.tup [sv sd, sv nm, .ref L]) ∧ H' L = some (.lst (pv' ps))) → Q (.ref p) H'
def spShown : Sp := fun vs H Q _ => ∃ p sd nm ps, vs = [.ref p] ∧ IsS sd nm ps ∧ AtL H p sd nm ps ∧ ∀ H', Same H H' → Q (sv (stmtL sd nm ps)) H'
theorem spMix_at {c k : Int} {H : Hp} {Q : VK} {E : XK} : spMix [.int c, .int k] H Q E ↔ ∀ r : Int, 0 ≤ r → Q (.int r) H := ⟨by rintro ⟨_, _, e, q⟩; cases e; exact q, fun q => ⟨_, _, rfl, q⟩⟩
theorem spName_at {c : Int} {H : Hp} {Q : VK} {E : XK} : spName [.int c] H Q E ↔ ∀ l, IsW l → Q (sv l) H := ⟨by rintro ⟨_, e, q⟩; cases e; exact q, fun q => ⟨_, rfl, q⟩⟩
theorem spLetter_at {c k : Int} {H : Hp} {Q : VK} {E : XK} : spLetter [.int c, .int k] H Q E ↔ ∀ c, c ∈ caps → Q (sv [c]) H := ⟨by rintro ⟨_, _, e, q⟩; cases e; exact q, fun q => ⟨_, _, rfl, q⟩⟩
theorem spPlace_at {c b m : Int} {H : Hp} {Q : VK} {E : XK} : spPlace [.int c, .int b, .int m] H Q E ↔ ∀ l, IsP l → Q (sv l) H := ⟨by rintro ⟨_, _, _, e, q⟩; cases e; exact q, fun q => ⟨_, _, _, rfl, q⟩⟩
/-- a new instance: no values yet -/
def spInit (K : PySem.W.Frag) : Sp := fun vs H Q _ => ∃ x C dx lb hd b bs, vs = [.ref x, lb, hd, .ref b] ∧ H x = some (.ins C dx []) ∧ (Cls K C ∧ NoAttr K C "label" ∧ NoAttr K C "head" ∧ NoAttr K C "body") ∧ (SqL K H b bs ∨ SqT K H b bs ∧ H b = some (.tup bs)) ∧
  ∀ H', (∀ c o, H c = some o → c ≠ x → H' c = some o) → RuleAt H' x C lb hd bs → Q .non H'
def spFactI (K : PySem.W.Frag) (C : Addr) : Sp := fun vs H Q _ => ∃ x dx hd, vs = [.ref x, hd] ∧ H x = some (.ins C dx []) ∧
  ∀ H', (∀ c o, H c = some o → c ≠ x → H' c = some o) → RuleAt H' x C (.str "") hd [] → Q .non H'
/-- the class of a kind -/
def clsOf (t : Adr) : Nat → Addr
  | 0 => t.C_Fact
  | 1 => t.C_Sure
  | 2 => t.C_Most
  | _ => t.C_Block
def spMadeR (K : PySem.W.Frag) (t : Adr) : Sp := fun vs H Q _ => ∃ (kind : Nat) (lb hd : V) (b : Addr) (bs : List V), vs = [.int kind, lb, hd, .ref b] ∧ kind < 4 ∧ (SqL K H b bs ∨ SqT K H b bs ∧ H b = some (.tup bs)) ∧
  ∀ r H', Same H H' → RuleAt H' r (clsOf t kind) (if kind = 0 then .str "" else lb) hd (if kind = 0 then [] else bs) → Q (.ref r) H'
def spWordR (w : Str) : Sp := fun vs H Q _ => ∃ x, vs = [x] ∧ Q (.str w) H
def spBoolR (b : Bool) : Sp := fun vs H Q _ => ∃ x, vs = [x] ∧ Q (.bl b) H
def spTruth : Sp := fun vs H Q _ => ∃ (a b : Bool), vs = [.bl a, .bl b] ∧ Q (.bl (a == b)) H
theorem spTruth_at {a b : Bool} {H : Hp} {Q : VK} {E : XK} : spTruth [.bl a, .bl b] H Q E ↔ Q (.bl (a == b)) H := ⟨by rintro ⟨_, _, e, q⟩; cases e; exact q, fun q => ⟨_, _, rfl, q⟩⟩
theorem spWordR_at {w : Str} {x : V} {H : Hp} {Q : VK} {E : XK} : spWordR w [x] H Q E ↔ Q (.str w) H := ⟨by rintro ⟨_, e, q⟩; cases e; exact q, fun q => ⟨_, rfl, q⟩⟩
theorem spBoolR_at {b : Bool} {x : V} {H : Hp} {Q : VK} {E : XK} : spBoolR b [x] H Q E ↔ Q (.bl b) H := ⟨by rintro ⟨_, e, q⟩; cases e; exact q, fun q => ⟨_, rfl, q⟩⟩
def spLetters : Sp := fun vs H Q _ => ∃ sd nm ps, vs = [sv (stmtL sd nm ps)] ∧ IsS sd nm ps ∧ ∀ D H', Same H H' → H D = none → H' D = some (.lst (pv' (letL ps))) → Q (.ref D) H'
def spRLetters (K : PySem.W.Frag) : Sp := fun vs H Q _ => ∃ (r C : Addr) (lb : V) (s0 : TP3) (ss : List TP3), vs = [.ref r] ∧ RuleAt H r C lb (sv (stat s0)) (tv ss) ∧ (Cls K C ∧ NoAttr K C "head" ∧ NoAttr K C "body") ∧ IsT s0 ∧ (∀ s ∈ ss, IsT s) ∧ ss.length ≤ 100 ∧
  ∀ D H', Same H H' → H D = none → H' D = some (.lst (pv' (allL (s0 :: ss)))) → Q (.ref D) H'
def spLLetters (K : PySem.W.Frag) : Sp := fun vs H Q _ => ∃ (a : Addr) (xs : List V) (ss : List TP3), vs = [.ref a] ∧ H a = some (.lst xs) ∧ AtAll H xs ss ∧ (∀ s ∈ ss, IsT s) ∧ ss.length ≤ 100 ∧
  ∀ D H', Same H H' → H D = none → H' D = some (.lst (pv' (allL ss))) → Q (.ref D) H'
def kindBs (kind : Nat) : List Bool := (List.range 4).map fun (k : Nat) => decide ((kind : Int) = (0 : Int) + (k : Int))
def spClasses (t : Adr) : Sp := fun vs H Q _ => ∃ (r : Addr) (kind : Nat) (lb hd : V) (bs : List V), vs = [.ref r] ∧ kind < 4 ∧ RuleAt H r (clsOf t kind) lb hd bs ∧ ∀ D H', Same H H' → H' D = some (.lst ((kindBs kind).map V.bl)) → Q (.ref D) H'
def wordOf : Nat → Str
  | 0 => "fact"
  | 1 => "sure"
  | 2 => "most"
  | _ => "block"
structure ClsF (K : PySem.W.Frag) (t : Adr) (C : Addr) : Prop where
  cl : Cls K C
  ty : TyI K C
  nl : NoAttr K C "label"
  nh : NoAttr K C "head"
  nb : NoAttr K C "body"
  kr : PySem.W.kitOne K (.ref C) (.ref t.C_Rule) = some true
theorem clsF {K : PySem.W.Frag} {mg : Str → Option Value} {t : Adr} (T : Txt K mg t) {kind : Nat} (h : kind < 4) : ClsF K t (clsOf t kind) := by
  match kind, h with
  | 0, _ => exact ⟨T.cl_Fact, T.ty_Fact, T.nf_Fact_label, T.nf_Fact_head, T.nf_Fact_body, T.ki_Fact_Rule⟩
  | 1, _ => exact ⟨T.cl_Sure, T.ty_Sure, T.nf_Sure_label, T.nf_Sure_head, T.nf_Sure_body, T.ki_Sure_Rule⟩
  | 2, _ => exact ⟨T.cl_Most, T.ty_Most, T.nf_Most_label, T.nf_Most_head, T.nf_Most_body, T.ki_Most_Rule⟩
  | 3, _ => exact ⟨T.cl_Block, T.ty_Block, T.nf_Block_label, T.nf_Block_head, T.nf_Block_body, T.ki_Block_Rule⟩
def pick4 (kind : Nat) (a b c d : Sp) : Sp := match kind with
  | 0 => a
  | 1 => b
  | 2 => c
  | _ => d
theorem pick_word {kind : Nat} (h : kind < 4) : pick4 kind (spWordR "fact") (spWordR "sure") (spWordR "most") (spWordR "block") = spWordR (wordOf kind) := by
  match kind, h with
  | 0, _ => rfl
  | 1, _ => rfl
  | 2, _ => rfl
  | 3, _ => rfl
theorem pick_speaks {kind : Nat} (h : kind < 4) : pick4 kind (spBoolR true) (spBoolR true) (spBoolR true) (spBoolR false) = spBoolR (decide ((kind : Int) < 3)) := by
  match kind, h with
  | 0, _ => rfl
  | 1, _ => rfl
  | 2, _ => rfl
  | 3, _ => rfl
theorem pick_sure {kind : Nat} (h : kind < 4) : pick4 kind (spBoolR true) (spBoolR true) (spBoolR false) (spBoolR false) = spBoolR (decide ((kind : Int) < 2)) := by
  match kind, h with
  | 0, _ => rfl
  | 1, _ => rfl
  | 2, _ => rfl
  | 3, _ => rfl
theorem pick_same {kind : Nat} (h : kind < 4) (s : Sp) : pick4 kind s s s s = s := by
  match kind, h with
  | 0, _ => rfl
  | 1, _ => rfl
  | 2, _ => rfl
  | 3, _ => rfl
theorem at_word {kind : Nat} (h : kind < 4) : atI [V.str "fact", V.str "sure", V.str "most", V.str "block"] (kind : Int) = some (.str (wordOf kind)) := by
  match kind, h with
  | 0, _ => rfl
  | 1, _ => rfl
  | 2, _ => rfl
  | 3, _ => rfl
/-- a method of whichever of the four classes -/
theorem alt4 {t : Adr} {m : Str} {s0 s1 s2 s3 : Sp} {ta : TE} {σ : St} {H : Hp} {Q : VK} {r : Addr} {kind : Nat} {lb hd : V} {bs : List V} (hk : kind < 4) (hta : ∀ R : VK, R (.ref r) H → ta σ H R) (hR : RuleAt H r (clsOf t kind) lb hd bs)
    (hm : ¬ m = "body" ∧ ¬ m = "head" ∧ ¬ m = "label") (q : pick4 kind s0 s1 s2 s3 [.ref r] H Q E0) :
    tAlt (tMeth t.C_Fact m s0 [] E0 ta tNil) (tAlt (tMeth t.C_Sure m s1 [] E0 ta tNil) (tAlt (tMeth t.C_Most m s2 [] E0 ta tNil) (tMeth t.C_Block m s3 [] E0 ta tNil))) σ H Q := by
  obtain ⟨dx, t0, h1, _⟩ := hR
  have hn := flds_no lb hd t0 hm.1 hm.2.1 hm.2.2
  match kind, hk with
  | 0, _ => exact .inl (hta _ ⟨r, dx, _, rfl, h1, hn, q⟩)
  | 1, _ => exact .inr (.inl (hta _ ⟨r, dx, _, rfl, h1, hn, q⟩))
  | 2, _ => exact .inr (.inr (.inl (hta _ ⟨r, dx, _, rfl, h1, hn, q⟩)))
  | 3, _ => exact .inr (.inr (.inr (hta _ ⟨r, dx, _, rfl, h1, hn, q⟩)))
theorem tVar_go {i : Nat} {σ : St} {H : Hp} {v : V} (h : σ[i]? = some (some v)) : ∀ R : VK, R v H → tVar i σ H R := fun R q => ⟨v, h, q⟩
theorem shapedB (bs : List Bool) : SeqAt.shaped (.list (bs.map PyData.bool)) = true := by
  have h3 : PyData.canLayAll0 (bs.map PyData.bool) = true ∧ PyData.depthAll (bs.map PyData.bool) = 0 := by
    induction bs with
    | nil => exact ⟨rfl, rfl⟩
    | cons q qs ih =>
      obtain ⟨a, b⟩ := ih
      refine ⟨?_, ?_⟩
      · show (PyData.canLay0 (.bool q) && _) = true
        rw [a]; rfl
      · show max (PyData.depth (.bool q)) _ = 0
        rw [b]; rfl
  obtain ⟨a, b⟩ := h3
  unfold SeqAt.shaped
  simp only [PyData.canLay0, PyData.depth, a, b]
  decide
def spRight (K : PySem.W.Frag) (t : Adr) : Sp := fun vs H Q _ => ∃ (r : Addr) (kind : Nat) (lb : Str) (a : Addr) (xs : List V) (s0 : TP3) (ss : List TP3), vs = [.ref r, .int kind, .str lb, .ref a] ∧ kind < 4 ∧ RuleAt H r (clsOf t kind) (.str lb) (sv (stat s0)) (tv ss) ∧
  H a = some (.lst xs) ∧ AtAll H xs (s0 :: ss) ∧ (∀ s ∈ s0 :: ss, IsT s) ∧ ss.length ≤ 10 ∧ ∀ H', Same H H' → Q (.bl true) H'
theorem shapedS {ss : List TP3} (h : ∀ s ∈ ss, IsT s) : SeqAt.shaped (.list (ss.map fun s => PyData.str (mk (stat s)))) = true := by
  have hst : ∀ s, IsT s → PyData.strOk (mk (stat s)) = true := fun s hs => strOk_mk fun c hc => by
    have : ∀ (sd nm : List Nat) (ps : List (List Nat)), IsS sd nm ps → ∀ c ∈ stmtL sd nm ps, c ≤ 122 := by
      intro sd nm ps hS c hc
      have h1 : ∀ c ∈ sd, c ≤ 122 := by rcases hS.side with e | e <;> rw [e] <;> simp
      have h2 : ∀ c ∈ nm, c ≤ 122 := fun c hc => (low_lt (hS.name.2.2 c hc)).2
      have h3 : ∀ p ∈ ps, ∀ c ∈ p, c ≤ 122 := fun p hp c hc => ((hS.places p hp).rng c hc).2
      match ps, hS.many, h3 with
      | [], _, _ =>
        simp only [stmtL, List.mem_append] at hc
        rcases hc with z | z
        · exact h1 c z
        · exact h2 c z
      | [p], _, h3 =>
        simp only [stmtL, List.mem_append, List.mem_cons, List.not_mem_nil, or_false] at hc
        rcases hc with (z | z) | z | z | z
        · exact h1 c z
        · exact h2 c z
        · omega
        · exact h3 p (by simp) c z
        · omega
      | [p, q], _, h3 =>
        simp only [stmtL, List.mem_append, List.mem_cons, List.not_mem_nil, or_false] at hc
        rcases hc with (z | z) | z | z | z | z | z
        · exact h1 c z
        · exact h2 c z
        · omega
        · exact h3 p (by simp) c z
        · omega
        · exact h3 q (by simp) c z
        · omega
    have := this _ _ _ hs c hc; omega
  have h3 : ∀ qs : List TP3, (∀ s ∈ qs, IsT s) → PyData.canLayAll0 (qs.map fun s => PyData.str (mk (stat s))) = true ∧ PyData.depthAll (qs.map fun s => PyData.str (mk (stat s))) = 0 := by
    intro qs
    induction qs with
    | nil => intro _; exact ⟨rfl, rfl⟩
    | cons q qs ih =>
      intro hq
      obtain ⟨a, b⟩ := ih fun p hp => hq p (List.mem_cons_of_mem _ hp)
      refine ⟨?_, ?_⟩
      · show (PyData.canLay0 (.str (mk (stat q))) && _) = true
        rw [a, Bool.and_true]; exact hst q (hq q List.mem_cons_self)
      · show max (PyData.depth (.str (mk (stat q)))) _ = 0
        rw [b]; rfl
  obtain ⟨a, b⟩ := h3 ss h
  unfold SeqAt.shaped
  simp only [PyData.canLay0, PyData.depth, a, b]
  decide
theorem denS {K : PySem.W.Frag} {H : Hp} {D : Addr} {ss : List TP3} (h : SqL K H D (tv ss)) : Den K H (.ref D) (.list (ss.map fun s => PyData.str (mk (stat s)))) := by
  refine .lst h ?_
  have := denStrs (K := K) (H := H) (ss.map fun s => mk (stat s))
  rw [List.map_map, List.map_map] at this
  exact this
def RightPre (t : Adr) (H : Hp) (r : Addr) (kind : Nat) (lb : Str) (a : Addr) : Prop := ∃ (xs : List V) (s0 : TP3) (ss : List TP3), kind < 4 ∧ RuleAt H r (clsOf t kind) (.str lb) (sv (stat s0)) (tv ss) ∧
  H a = some (.lst xs) ∧ AtAll H xs (s0 :: ss) ∧ (∀ s ∈ s0 :: ss, IsT s) ∧ ss.length ≤ 10
theorem RightPre.same {t : Adr} {H H' : Hp} {r : Addr} {kind : Nat} {lb : Str} {a : Addr} (s : Same H H') (h : RightPre t H r kind lb a) : RightPre t H' r kind lb a := by
  obtain ⟨xs, s0, ss, a1, a2, a3, a4, a5, a6⟩ := h
  exact ⟨xs, s0, ss, a1, a2.same s, s _ _ a3, a4.same s, a5, a6⟩
theorem RightPre.go {K : PySem.W.Frag} {t : Adr} {H : Hp} {Q : VK} {E : XK} {r : Addr} {kind : Nat} {lb : Str} {a : Addr} (h : RightPre t H r kind lb a) (q : ∀ H', Same H H' → Q (.bl true) H') : spRight K t [.ref r, .int kind, .str lb, .ref a] H Q E := by
  obtain ⟨xs, s0, ss, a1, a2, a3, a4, a5, a6⟩ := h
  exact ⟨r, kind, lb, a, xs, s0, ss, rfl, a1, a2, a3, a4, a5, a6, q⟩
/-- a list whose things are parts, none of them (nor their places) at D -/
def PartD (D : Addr) (v : V) (H : Hp) : Prop := ∃ (p L : Addr) (s : TP3), v = .ref p ∧ p ≠ D ∧ L ≠ D ∧ IsT s ∧ H p = some (.tup [sv s.1, sv s.2.1, .ref L]) ∧ H L = some (.lst (pv' s.2.2))
theorem parts_all {D : Addr} {H : Hp} : ∀ {ys : List V}, (∀ (i : Nat) v, ys[i]? = some v → PartD D v H) → ∃ ss : List TP3, ss.length = ys.length ∧ AtAll H ys ss ∧ ∀ s ∈ ss, IsT s
  | [], _ => ⟨[], rfl, trivial, by intro s h; cases h⟩
  | y :: ys, h => by
    obtain ⟨p, L, s, e, _, _, hT, h1, h2⟩ := h 0 y rfl
    obtain ⟨ss, hl, hA, hs⟩ := parts_all (ys := ys) fun i v e => h (i + 1) v (by simpa using e)
    refine ⟨s :: ss, by simp [hl], ⟨⟨p, e, L, h1, h2⟩, hA⟩, fun x hx => ?_⟩
    rcases List.mem_cons.mp hx with z | z
    · rw [z]; exact hT
    · exact hs x z
def wordN : Nat → List Nat
  | 0 => [102, 97, 99, 116]
  | 1 => [115, 117, 114, 101]
  | 2 => [109, 111, 115, 116]
  | _ => [98, 108, 111, 99, 107]
theorem word_mk {kind : Nat} (h : kind < 4) : wordOf kind = mk (wordN kind) := by
  match kind, h with
  | 0, _ => decide +kernel
  | 1, _ => decide +kernel
  | 2, _ => decide +kernel
  | 3, _ => decide +kernel
theorem word_len (kind : Nat) : (wordN kind).length ≤ 5 := by
  unfold wordN; split <;> decide
/-- the row of a rule -/
def rowL (kind : Nat) (lb h : List Nat) (bs : List (List Nat)) : List Nat :=
  if kind = 0 then [102, 97, 99, 116, 32] ++ h else wordN kind ++ [32] ++ lb ++ [58, 32] ++ (if bs = [] then [] else joinN [44, 32] bs ++ [32]) ++ [45, 62, 32] ++ h
theorem row_none {kind : Nat} (hk : kind ≠ 0) (lb h : List Nat) : joinN [32] [wordN kind, lb ++ [58], [45, 62], h] = rowL kind lb h [] := by
  unfold rowL; rw [if_neg hk]; simp [joinN]
theorem row_some {kind : Nat} (hk : kind ≠ 0) (lb h : List Nat) {bs : List (List Nat)} (hb : bs ≠ []) : joinN [32] [wordN kind, lb ++ [58], joinN [44, 32] bs, [45, 62], h] = rowL kind lb h bs := by
  unfold rowL; rw [if_neg hk, if_neg hb]
  generalize joinN [44, 32] bs = J
  simp [joinN]
theorem stat_len {s : TP3} (h : IsT s) : (stat s).length ≤ 40 := stmt_len h
theorem join_len (c : List Nat) {m : Nat} : ∀ xs : List (List Nat), (∀ x ∈ xs, x.length ≤ m) → (joinN c xs).length ≤ xs.length * (c.length + m) := by
  have h : ∀ xs : List (List Nat), (∀ x ∈ xs, x.length ≤ m) → (xs.flatMap fun b => c ++ b).length ≤ xs.length * (c.length + m) := by
    intro xs
    induction xs with
    | nil => intro _; simp
    | cons x xs ih =>
      intro hx
      have h1 := ih fun y hy => hx y (List.mem_cons_of_mem _ hy)
      have h2 := hx x List.mem_cons_self
      rw [List.flatMap_cons, List.length_append, List.length_append, List.length_cons, Nat.succ_mul]
      omega
  intro xs hx
  cases xs with
  | nil => simp [joinN]
  | cons x xs =>
    have h1 := h xs fun y hy => hx y (List.mem_cons_of_mem _ hy)
    have h2 := hx x List.mem_cons_self
    show (x ++ _).length ≤ _
    rw [List.length_append, List.length_cons, Nat.succ_mul]
    omega
theorem sum_le {m : Nat} : ∀ xs : List Str, (∀ x ∈ xs, x.length ≤ m) → (xs.map (·.length)).sum ≤ xs.length * m
  | [], _ => by simp
  | x :: xs, h => by
    have h1 := sum_le xs fun y hy => h y (List.mem_cons_of_mem _ hy)
    have h2 := h x List.mem_cons_self
    rw [List.map_cons, List.sum_cons, List.length_cons, Nat.succ_mul]
    omega
theorem tv_mk (ss : List TP3) : tv ss = ((ss.map stat).map mk).map V.str := by rw [List.map_map, List.map_map]; rfl
theorem join_ok {ss : List TP3} (h : ∀ s ∈ ss, IsT s) (hl : ss.length ≤ 10) (c : List Nat) (hc : c.length ≤ 2) : ((((ss.map stat).map mk).map (·.length)).sum + ((ss.map stat).map mk).length * (mk c).length ≤ 16777216) ∧ (joinN c (ss.map stat)).length ≤ 420 := by
  have h1 := sum_le (m := 40) ((ss.map stat).map mk) (fun x hx => by
    obtain ⟨y, hy, rfl⟩ := List.mem_map.mp hx
    obtain ⟨s, hs, rfl⟩ := List.mem_map.mp hy
    rw [mk_len]; exact stat_len (h s hs))
  have h2 := join_len c (m := 40) (ss.map stat) (fun x hx => by
    obtain ⟨s, hs, rfl⟩ := List.mem_map.mp hx
    exact stat_len (h s hs))
  simp only [List.length_map, mk_len] at h1 h2 ⊢
  have h3 : ss.length * c.length ≤ 10 * 2 := Nat.mul_le_mul hl hc
  have h4 : ss.length * 40 ≤ 10 * 40 := Nat.mul_le_mul_right _ hl
  have h5 : ss.length * (c.length + 40) ≤ 10 * 42 := Nat.mul_le_mul hl (by omega)
  omega
def spPut : Sp := fun vs H Q _ => ∃ p g gs, vs = [sv p, .ref g] ∧ IsP p ∧ Good gs ∧ H g = some (.dK (gm gs)) ∧ ∀ H', Same H H' → Q (sv (fillL gs p)) H'
def spFilled : Sp := fun vs H Q _ => ∃ (s : TP3) (g : Addr) (gs : List (List Nat × List Nat)), vs = [sv (stat s), .ref g] ∧ IsT s ∧ Good gs ∧ H g = some (.dK (gm gs)) ∧ ∀ H', Same H H' → Q (sv (stat (fillT gs s))) H'
def spAgainF (t : Adr) : Sp := fun vs H Q _ => ∃ (x hd b : V), vs = [x, hd, b] ∧ ∀ r' H', Same H H' → RuleAt H' r' t.C_Fact (.str "") hd [] → Q (.ref r') H'
def spAgainR (K : PySem.W.Frag) (C : Addr) : Sp := fun vs H Q _ => ∃ (r : Addr) (lb h0 : V) (bs0 : List V) (hd : V) (b : Addr) (bs : List V), vs = [.ref r, hd, .ref b] ∧ RuleAt H r C lb h0 bs0 ∧ (SqL K H b bs ∨ SqT K H b bs ∧ H b = some (.tup bs)) ∧
  ∀ r' H', Same H H' → RuleAt H' r' C lb hd bs → Q (.ref r') H'
theorem again_pick {K : PySem.W.Frag} {t : Adr} {kind : Nat} (hk : kind < 4) {H : Hp} {Q : VK} {E : XK} {r : Addr} {lb h0 : V} {bs0 : List V} {hd : V} {b : Addr} {bs : List V} (hR : RuleAt H r (clsOf t kind) lb h0 bs0) (hb : SqL K H b bs ∨ SqT K H b bs ∧ H b = some (.tup bs))
    (q : ∀ r' H', Same H H' → RuleAt H' r' (clsOf t kind) (if kind = 0 then .str "" else lb) hd (if kind = 0 then [] else bs) → Q (.ref r') H') :
    pick4 kind (spAgainF t) (spAgainR K t.C_Sure) (spAgainR K t.C_Most) (spAgainR K t.C_Block) [.ref r, hd, .ref b] H Q E := by
  match kind, hk with
  | 0, _ => exact ⟨_, _, _, rfl, q⟩
  | 1, _ => exact ⟨_, _, _, _, _, _, _, rfl, hR, hb, q⟩
  | 2, _ => exact ⟨_, _, _, _, _, _, _, rfl, hR, hb, q⟩
  | 3, _ => exact ⟨_, _, _, _, _, _, _, rfl, hR, hb, q⟩
def spRFilled (K : PySem.W.Frag) (t : Adr) : Sp := fun vs H Q _ => ∃ (r : Addr) (kind : Nat) (lb : V) (s0 : TP3) (ss : List TP3) (g : Addr) (gs : List (List Nat × List Nat)), vs = [.ref r, .ref g] ∧ kind < 4 ∧ RuleAt H r (clsOf t kind) lb (sv (stat s0)) (tv ss) ∧ (∀ s ∈ s0 :: ss, IsT s) ∧ ss.length ≤ 10 ∧ Good gs ∧ H g = some (.dK (gm gs)) ∧
  ∀ r' H', Same H H' → RuleAt H' r' (clsOf t kind) (if kind = 0 then .str "" else lb) (sv (stat (fillT gs s0))) (if kind = 0 then [] else tv (ss.map (fillT gs))) → Q (.ref r') H'
def spRowF (K : PySem.W.Frag) : Sp := fun vs H Q _ => ∃ (r C : Addr) (lb : V) (h : List Nat) (bs : List V), vs = [.ref r] ∧ RuleAt H r C lb (sv h) bs ∧ (Cls K C ∧ NoAttr K C "head") ∧ h.length ≤ 1000 ∧ Q (sv ([102, 97, 99, 116, 32] ++ h)) H
def spRowR (t : Adr) : Sp := fun vs H Q _ => ∃ (r : Addr) (kind : Nat) (lb : List Nat) (s0 : TP3) (ss : List TP3), vs = [.ref r] ∧ kind < 4 ∧ kind ≠ 0 ∧ RuleAt H r (clsOf t kind) (sv lb) (sv (stat s0)) (tv ss) ∧ lb.length ≤ 8 ∧ (∀ s ∈ s0 :: ss, IsT s) ∧ ss.length ≤ 10 ∧
  ∀ H', Same H H' → Q (sv (rowL kind lb (stat s0) (ss.map stat))) H'
theorem row_pick {K : PySem.W.Frag} {mg : Str → Option Value} {t : Adr} (T : Txt K mg t) {kind : Nat} (hk : kind < 4) {H : Hp} {Q : VK} {E : XK} {r : Addr} {lb : List Nat} {s0 : TP3} {ss : List TP3} (hR : RuleAt H r (clsOf t kind) (sv lb) (sv (stat s0)) (tv ss)) (hl : lb.length ≤ 8) (hT : ∀ s ∈ s0 :: ss, IsT s) (hs : ss.length ≤ 10)
    (q : ∀ H', Same H H' → Q (sv (rowL kind lb (stat s0) (ss.map stat))) H') : pick4 kind (spRowF K) (spRowR t) (spRowR t) (spRowR t) [.ref r] H Q E := by
  have hf := stat_len (hT s0 List.mem_cons_self)
  match kind, hk with
  | 0, _ => exact ⟨r, _, _, _, _, rfl, hR, ⟨T.cl_Fact, T.nf_Fact_head⟩, by omega, q _ (Same.refl _)⟩
  | 1, _ => exact ⟨r, 1, lb, s0, ss, rfl, by decide, by decide, hR, hl, hT, hs, q⟩
  | 2, _ => exact ⟨r, 2, lb, s0, ss, rfl, by decide, by decide, hR, hl, hT, hs, q⟩
  | 3, _ => exact ⟨r, 3, lb, s0, ss, rfl, by decide, by decide, hR, hl, hT, hs, q⟩
theorem alt4a {t : Adr} {m : Str} {s0 s1 s2 s3 : Sp} {ta : TE} {t2 : TA} {σ : St} {H : Hp} {Q : VK} {r : Addr} {kind : Nat} {lb hd : V} {bs : List V} (hk : kind < 4) (hta : ∀ R : VK, R (.ref r) H → ta σ H R) (hR : RuleAt H r (clsOf t kind) lb hd bs)
    (hm : ¬ m = "body" ∧ ¬ m = "head" ∧ ¬ m = "label") (q : t2 σ H fun vs H2 => pick4 kind s0 s1 s2 s3 (.ref r :: (vs ++ [])) H2 Q E0) :
    tAlt (tMeth t.C_Fact m s0 [] E0 ta t2) (tAlt (tMeth t.C_Sure m s1 [] E0 ta t2) (tAlt (tMeth t.C_Most m s2 [] E0 ta t2) (tMeth t.C_Block m s3 [] E0 ta t2))) σ H Q := by
  obtain ⟨dx, t0, h1, _⟩ := hR
  have hn := flds_no lb hd t0 hm.1 hm.2.1 hm.2.2
  match kind, hk with
  | 0, _ => exact .inl (hta _ ⟨r, dx, _, rfl, h1, hn, q⟩)
  | 1, _ => exact .inr (.inl (hta _ ⟨r, dx, _, rfl, h1, hn, q⟩))
  | 2, _ => exact .inr (.inr (.inl (hta _ ⟨r, dx, _, rfl, h1, hn, q⟩)))
  | 3, _ => exact .inr (.inr (.inr (hta _ ⟨r, dx, _, rfl, h1, hn, q⟩)))
def spLRow (K : PySem.W.Frag) : Sp := fun vs H Q _ => ∃ (kind : Nat) (lb : List Nat) (D : Addr) (s0 : TP3) (ss : List TP3), vs = [.int kind, sv lb, .ref D] ∧ kind < 4 ∧ lb.length ≤ 8 ∧ H D = some (.lst (tv (s0 :: ss))) ∧ (∀ s ∈ s0 :: ss, IsT s) ∧ ss.length ≤ 10 ∧ ∀ H', Same H H' → Q (sv (rowL kind lb (stat s0) (ss.map stat))) H'
def spLFilled : Sp := fun vs H Q _ => ∃ (p g : Addr) (s : TP3) (gs : List (List Nat × List Nat)), vs = [.ref p, .ref g] ∧ AtL H p s.1 s.2.1 s.2.2 ∧ IsT s ∧ Good gs ∧ H g = some (.dK (gm gs)) ∧
  ∀ p' H', Same H H' → AtL H' p' (fillT gs s).1 (fillT gs s).2.1 (fillT gs s).2.2 → Q (.ref p') H'
def spGiven : Sp := fun vs H Q _ => ∃ (c b : Int), vs = [.int c, .int b] ∧ ∀ D gs H', Same H H' → H D = none → H' D = some (.dK (gm gs)) → Good gs → Q (.ref D) H'
def spIsR (t : Adr) : Sp := fun vs H Q _ => ∃ (r : Addr) (kind : Nat) (lb : List Nat) (D : Addr) (s0 : TP3) (ss : List TP3), vs = [.ref r, .int kind, sv lb, .ref D] ∧ kind < 4 ∧ lb.length ≤ 8 ∧ RuleAt H r (clsOf t kind) (sv lb) (sv (stat s0)) (tv ss) ∧ H D = some (.lst (tv (s0 :: ss))) ∧ (∀ s ∈ s0 :: ss, IsT s) ∧ ss.length ≤ 10 ∧
  ∀ H', Same H H' → Q (.bl true) H'
def spSome : Sp := fun vs H Q _ => ∃ (c b : Int) (kind : Nat) (n : Int), vs = [.int c, .int b, .int kind, .int n] ∧ (0 ≤ n ∧ n ≤ 4) ∧ ∀ D xs ss H', Same H H' → H D = none → H' D = some (.lst xs) → AtAll H' xs ss → ss.length = n.toNat + 1 → (∀ s ∈ ss, IsT s) → Q (.ref D) H'
theorem AtAll.set {H : Hp} {p : Addr} {s : TP3} (hp : AtL H p s.1 s.2.1 s.2.2) : ∀ {xs : List V} {ss : List TP3} (j : Nat), AtAll H xs ss → AtAll H (xs.set j (.ref p)) (ss.set j s)
  | [], [], _, h => h
  | _ :: _, _ :: _, 0, h => ⟨⟨p, rfl, hp⟩, h.2⟩
  | _ :: _, _ :: _, j + 1, h => ⟨h.1, AtAll.set hp j h.2⟩
  | [], _ :: _, _, h => h.elim
  | _ :: _, [], _, h => h.elim
theorem at_upd {H : Hp} {S : Addr} {o : HO} : ∀ {xs : List V} {ss : List TP3}, AtAll H xs ss → (∀ v ∈ xs, PartD S v H) → AtAll (upd H S o) xs ss
  | [], [], h, _ => h
  | [], _ :: _, h, _ => h.elim
  | _ :: _, [], h, _ => h.elim
  | x :: xs, s :: ss, ⟨⟨p, e, D, h1, h2⟩, hr⟩, hv => by
    refine ⟨⟨p, e, D, ?_, ?_⟩, at_upd hr fun v h => hv v (List.mem_cons_of_mem _ h)⟩
    all_goals
      obtain ⟨p', L, s', e', n1, n2, _, g1, g2⟩ := hv x List.mem_cons_self
      rw [e] at e'; cases e'
      rw [h1] at g1
      have eL : D = L := V.ref.inj (List.cons.inj (List.cons.inj (List.cons.inj (HO.tup.inj (Option.some.inj g1))).2).2).1
    · rw [upd_ne n1]; exact h1
    · rw [upd_ne (by rw [eL]; exact n2)]; exact h2
theorem cls_norm {H : Hp} {r C : Addr} {kind : Nat} {lb : List Nat} {h : V} {ss : List TP3} (hlb : kind = 0 → lb = []) (hss : kind = 0 → ss = []) (hr : RuleAt H r C (if kind = 0 then .str "" else sv lb) h (if kind = 0 then [] else tv ss)) : RuleAt H r C (sv lb) h (tv ss) := by
  by_cases hz : kind = 0
  · rw [if_pos hz, if_pos hz] at hr
    rw [hlb hz, hss hz]; exact hr
  · rw [if_neg hz, if_neg hz] at hr; exact hr
theorem cut_one {s0 : TP3} {ss : List TP3} : cutV (tv (s0 :: ss)) (some 1) none = tv ss := by
  unfold cutV HT.sIx
  simp
  exact List.take_of_length_le (by simp)
theorem shown_all {H : Hp} {xs : List V} {ss : List TP3} (hA : AtAll H xs ss) (hT : ∀ s ∈ ss, IsT s) {i : Nat} (hi : i < xs.length) : ∃ (hi' : i < ss.length) (p : Addr), (xs[i]?).getD .non = .ref p ∧ AtL H p ss[i].1 ss[i].2.1 ss[i].2.2 ∧ IsT ss[i] := by
  have hi' : i < ss.length := by rw [← hA.len]; exact hi
  obtain ⟨p, ep, hp⟩ := hA.get i ss[i] (List.getElem?_eq_getElem hi')
  exact ⟨hi', p, by rw [ep]; rfl, hp, hT _ (List.getElem_mem hi')⟩
theorem tv_of {ys : List V} {ss : List TP3} (hl : ys.length = ss.length) (hv : ∀ i v, ys[i]? = some v → ∃ hi : i < ss.length, v = sv (stat ss[i])) : ys = tv ss := by
  refine List.ext_getElem? fun i => ?_
  rw [List.getElem?_map]
  by_cases hi : i < ys.length
  · obtain ⟨hi', e⟩ := hv i _ (List.getElem?_eq_getElem hi)
    rw [List.getElem?_eq_getElem hi, e, List.getElem?_eq_getElem hi']; rfl
  · rw [List.getElem?_eq_none (by omega), List.getElem?_eq_none (by omega)]; rfl
theorem cls_norm2 {H : Hp} {r C : Addr} {kind : Nat} {lb : List Nat} {h : V} {os od : List TP3} (hlb : kind = 0 → lb = []) (h1 : kind = 0 → od = []) (h2 : ¬ kind = 0 → od = os) (hr : RuleAt H r C (if kind = 0 then .str "" else sv lb) h (if kind = 0 then [] else tv os)) : RuleAt H r C (sv lb) h (tv od) := by
  by_cases hz : kind = 0
  · rw [if_pos hz, if_pos hz] at hr
    rw [hlb hz, h1 hz]; exact hr
  · rw [if_neg hz, if_neg hz] at hr
    rw [h2 hz]; exact hr
theorem at_zero {s0 : TP3} {ss : List TP3} : atI (tv (s0 :: ss)) 0 = some (sv (stat s0)) := by
  unfold atI ixN; rw [if_pos (by decide), if_pos (by simp only [List.length_map, List.length_cons]; omega)]; rfl
theorem isD_of {H : Hp} {S : Addr} {d : List (Key × V)} (h : H S = some (.dK d)) : IsD H S := .inl ⟨_, .inl h⟩

/-! ### the ways to give things to letters -/
def lkf (T : List (List Nat)) : List (List Nat) → Nat → List Nat → Option (List Nat)
  | [], _, _ => none
  | l :: rs, n, p => if p = l then T[n % T.length]? else lkf T rs (n / T.length) p
def fillF (f : List Nat → Option (List Nat)) (p : List Nat) : List Nat := if capB p = true then (f p).getD p else p
def fillTF (f : List Nat → Option (List Nat)) (s : TP3) : TP3 := (s.1, s.2.1, s.2.2.map (fillF f))
theorem fill_look {gs : List (List Nat × List Nat)} {f : List Nat → Option (List Nat)} (h : ∀ p, look gs p = f p) (s : TP3) : fillT gs s = fillTF f s := by
  unfold fillT fillTF
  have : fillL gs = fillF f := by funext p; unfold fillL fillF; rw [h]
  rw [this]
theorem fillTF_none (s : TP3) : fillTF (fun _ => none) s = s := by
  unfold fillTF
  have : s.2.2.map (fillF fun _ => none) = s.2.2 := by
    conv => rhs; rw [← List.map_id s.2.2]
    refine List.map_congr_left fun p _ => ?_
    unfold fillF; split <;> rfl
  rw [this]
theorem look_put (gs : List (List Nat × List Nat)) (l x p : List Nat) : look (putG gs l x) p = if p = l then some x else look gs p := by
  unfold putG
  by_cases h : (look gs l).isSome = true
  · rw [if_pos h]
    unfold look at h ⊢
    induction gs with
    | nil => simp at h
    | cons a gs ih =>
      rw [List.map_cons, List.find?_cons, List.find?_cons]
      by_cases e : a.1 = l
      · rw [if_pos e]
        by_cases z : p = l
        · rw [if_pos z, decide_eq_true (show (a.1, x).1 = p from by rw [z]; exact e)]; rfl
        · rw [if_neg z, decide_eq_false (show ¬ (a.1, x).1 = p from fun w => z (by rw [← w]; exact e))]
          show Option.map _ (List.find? _ _) = Option.map _ (List.find? _ _)
          by_cases h2 : ((gs.find? fun kl => decide (kl.1 = l)).map (·.2)).isSome = true
          · have := ih h2; rw [if_neg z] at this; exact this
          · have h3 : ∀ kl ∈ gs, ¬ kl.1 = l := by
              intro kl hkl w
              have := List.find?_isSome (p := fun kl : List Nat × List Nat => decide (kl.1 = l)) |>.mpr ⟨kl, hkl, by simp [w]⟩
              rw [Option.isSome_map] at h2; exact h2 this
            have : (gs.map fun kl => if kl.1 = l then (kl.1, x) else kl) = gs := by
              conv => rhs; rw [← List.map_id gs]
              exact List.map_congr_left fun kl hkl => by rw [if_neg (h3 kl hkl)]; rfl
            rw [this]
      · rw [if_neg e]
        have h' : ((gs.find? fun kl => decide (kl.1 = l)).map (·.2)).isSome = true := by
          rw [List.find?_cons, decide_eq_false e] at h; exact h
        have := ih h'
        by_cases z : a.1 = p
        · rw [decide_eq_true z, if_neg (fun w => e (by rw [z, w]))]
        · rw [decide_eq_false z]; exact this
  · rw [if_neg h]
    have hn : look gs l = none := by cases e : look gs l with
      | none => rfl
      | some y => rw [e] at h; exact absurd rfl h
    unfold look at hn ⊢
    rw [List.find?_append]
    by_cases z : p = l
    · subst z
      rw [if_pos rfl]
      cases e : gs.find? (fun kl => decide (kl.1 = p)) with
      | none => simp
      | some y => rw [e] at hn; cases hn
    · rw [if_neg z]
      cases e : gs.find? (fun kl => decide (kl.1 = p)) with
      | none => simp [Ne.symm z]
      | some y => simp
def WayAt (T rs : List (List Nat)) (H : Hp) (n : Nat) (v : V) : Prop := ∃ d gs, v = .ref d ∧ H d = some (.dK (gm gs)) ∧ Good gs ∧ gs.length ≤ rs.length ∧ ∀ p, look gs p = lkf T rs n p
def WaysAt (T rs : List (List Nat)) (H : Hp) (ws : List V) : Prop := ∀ (n : Nat) v, ws[n]? = some v → WayAt T rs H n v
theorem WayAt.same {T rs : List (List Nat)} {H H' : Hp} {n : Nat} {v : V} (s : ∀ d kvs, H d = some (.dK kvs) → H' d = some (.dK kvs)) (h : WayAt T rs H n v) : WayAt T rs H' n v := by
  obtain ⟨d, gs, e, h1, h2⟩ := h
  exact ⟨d, gs, e, s _ _ h1, h2⟩
def spWays : Sp := fun vs H Q _ => ∃ (a b : Addr) (ls T : List (List Nat)), vs = [.ref a, .ref b] ∧ H a = some (.lst (pv' ls)) ∧ H b = some (.lst (pv' T)) ∧ (∀ l ∈ ls, IsCap l) ∧ ls.length ≤ 3 ∧ (0 < T.length ∧ T.length ≤ 8) ∧ (∀ w ∈ T, IsW w) ∧
  ∀ D ws H', Same H H' → H D = none → H' D = some (.lst ws) → ws.length = T.length ^ ls.length → WaysAt T ls.reverse H' ws → Q (.ref D) H'
/-- rules filled by each way -/
def RulesF (t : Adr) (T rs : List (List Nat)) (kind : Nat) (lb : List Nat) (s0 : TP3) (ss : List TP3) (H : Hp) (ys : List V) : Prop := ∀ (n : Nat) v, ys[n]? = some v → ∃ r, v = .ref r ∧ RuleAt H r (clsOf t kind) (sv lb) (sv (stat (fillTF (lkf T rs n) s0))) (tv (ss.map (fillTF (lkf T rs n)))) ∧ IsT (fillTF (lkf T rs n) s0) ∧ ∀ s ∈ ss, IsT (fillTF (lkf T rs n) s)
def spWritten (t : Adr) : Sp := fun vs H Q _ => ∃ (r b : Addr) (kind : Nat) (lb : List Nat) (s0 : TP3) (ss T : List TP3) (Th : List (List Nat)), vs = [.ref r, .ref b] ∧ kind < 4 ∧ (kind = 0 → lb = [] ∧ ss = []) ∧ RuleAt H r (clsOf t kind) (sv lb) (sv (stat s0)) (tv ss) ∧ (∀ s ∈ s0 :: ss, IsT s) ∧ ss.length ≤ 4 ∧ (allL (s0 :: ss)).length ≤ 3 ∧
  H b = some (.lst (pv' Th)) ∧ (0 < Th.length ∧ Th.length ≤ 8) ∧ (∀ w ∈ Th, IsW w) ∧
  ∀ D ys H', Same H H' → H D = none → H' D = some (.lst ys) → ys.length = Th.length ^ (allL (s0 :: ss)).length → RulesF t Th (allL (s0 :: ss)).reverse kind lb s0 ss H' ys → Q (.ref D) H'
def spCell (K : PySem.W.Frag) : Sp := fun vs H Q _ => ∃ (a : Addr) (ns : List Int) (k : Int), vs = [.ref a, .int k] ∧ SqL K H a (ns.map V.int) ∧ ns.length ≤ 63 ∧ 0 ≤ k ∧ k ≤ 1000 ∧ ∀ i, Q (.int i) H
def spWords : Sp := fun vs H Q _ => ∃ (c m : Int), vs = [.int c, .int m] ∧ (0 ≤ m ∧ m ≤ 8) ∧ ∀ (D : Addr) (ws : List (List Nat)) (H' : Hp), Same H H' → H D = none → H' D = some (.lst (pv' ws)) → ws.length = m.toNat → (∀ w ∈ ws, IsW w) → Q (.ref D) H'
def spStat : Sp := fun vs H Q _ => ∃ (n : Int) (N S : Addr) (nm sm : List (List Nat)), vs = [.int n, .ref N, .ref S] ∧ H N = some (.lst (pv' nm)) ∧ H S = some (.lst (pv' sm)) ∧ (0 < nm.length ∧ nm.length ≤ 100) ∧ (0 < sm.length ∧ sm.length ≤ 100) ∧ (∀ w ∈ nm, IsW w) ∧ (∀ w ∈ sm, IsP w) ∧
  ∀ (s : TP3) (p L : Addr) (H' : Hp), IsT s → (∀ q ∈ s.2.2, q ∈ sm) → Same H H' → (H p = none ∧ H L = none ∧ p ≠ L) → (H' p = some (.tup [sv s.1, sv s.2.1, .ref L]) ∧ H' L = some (.lst (pv' s.2.2))) → Q (.ref p) H'
def spTextL : Sp := fun vs H Q _ => ∃ (p g : Addr) (s : TP3) (gs : List (List Nat × List Nat)), vs = [.ref p, .ref g] ∧ AtL H p s.1 s.2.1 s.2.2 ∧ IsT s ∧ Good gs ∧ H g = some (.dK (gm gs)) ∧ ∀ H', Same H H' → Q (sv (stat (fillT gs s))) H'
def spMade21 (t : Adr) : Sp := fun vs H Q _ => ∃ (kind : Nat) (lb h : V) (b : Addr) (bs : List V), vs = [.int kind, lb, .ref b] ∧ kind < 4 ∧ H b = some (.lst (h :: bs)) ∧ ∀ r H', Same H H' → RuleAt H' r (clsOf t ((kind + 1) % 4)) (if kind = 3 then .str "" else lb) h (if kind = 3 then [] else bs) → Q (.ref r) H'
def spSpecs (K : PySem.W.Frag) : Sp := fun vs H Q _ => ∃ (a Ta Na : Addr) (ns : List Int) (kind : Nat) (T N : List (List Nat)), vs = [.ref a, .int kind, .ref Ta, .ref Na] ∧ SqL K H a (ns.map V.int) ∧ ns.length ≤ 63 ∧ kind < 4 ∧ H Ta = some (.lst (pv' T)) ∧ H Na = some (.lst (pv' N)) ∧ (0 < T.length ∧ T.length ≤ 8) ∧ (0 < N.length ∧ N.length ≤ 8) ∧ (∀ w ∈ T, IsW w) ∧ (∀ w ∈ N, IsW w) ∧
  ∀ D xs s0 ss H', Same H H' → H D = none → H' D = some (.lst xs) → AtAll H' xs (s0 :: ss) → ss.length ≤ 4 → (∀ s ∈ s0 :: ss, IsT s) → (allL (s0 :: ss)).length ≤ 3 → (kind = 3 → ss = []) → Q (.ref D) H'
/-- what is due: the texts by each way -/
def DueF (T rs : List (List Nat)) (ss : List TP3) (H : Hp) (ys : List V) : Prop := ∀ (n : Nat) v, ys[n]? = some v → ∃ L, v = .ref L ∧ H L = some (.lst (tv (ss.map (fillTF (lkf T rs n)))))
def spDue : Sp := fun vs H Q _ => ∃ (a Ta : Addr) (xs : List V) (ss : List TP3) (T : List (List Nat)), vs = [.ref a, .ref Ta] ∧ H a = some (.lst xs) ∧ AtAll H xs ss ∧ (∀ s ∈ ss, IsT s) ∧ ss.length ≤ 5 ∧ (allL ss).length ≤ 3 ∧ H Ta = some (.lst (pv' T)) ∧ (0 < T.length ∧ T.length ≤ 8) ∧ (∀ w ∈ T, IsW w) ∧
  ∀ D ys H', Same H H' → H D = none → H' D = some (.lst ys) → ys.length = T.length ^ (allL ss).length → DueF T (allL ss).reverse ss H' ys → Q (.ref D) H'
def Pairs (t : Adr) (kind : Nat) (lb : List Nat) (H : Hp) (xs ys : List V) : Prop := xs.length = ys.length ∧ ∀ (n : Nat) x y, xs[n]? = some x → ys[n]? = some y → ∃ (r L : Addr) (s0 : TP3) (ss : List TP3), x = .ref r ∧ y = .ref L ∧ RuleAt H r (clsOf t ((kind + 1) % 4)) (sv lb) (sv (stat s0)) (tv ss) ∧ H L = some (.lst (tv (s0 :: ss))) ∧ (∀ s ∈ s0 :: ss, IsT s) ∧ ss.length ≤ 4
theorem Pairs.same {t : Adr} {kind : Nat} {lb : List Nat} {H H' : Hp} {xs ys : List V} (s : Same H H') (h : Pairs t kind lb H xs ys) : Pairs t kind lb H' xs ys := ⟨h.1, fun n x y e1 e2 => by
  obtain ⟨r, L, s0, ss, a1, a2, a3, a4, a5⟩ := h.2 n x y e1 e2
  exact ⟨r, L, s0, ss, a1, a2, a3.same s, s _ _ a4, a5⟩⟩
def spGood21 (t : Adr) : Sp := fun vs H Q _ => ∃ (F D : Addr) (kind : Nat) (lb : List Nat) (xs ys : List V), vs = [.ref F, .int kind, sv lb, .ref D] ∧ kind < 4 ∧ H F = some (.lst xs) ∧ H D = some (.lst ys) ∧ xs.length ≤ 1000 ∧ Pairs t kind lb H xs ys ∧ ∀ H', Same H H' → Q (.bl true) H'
theorem for_zip {K : PySem.W.Frag} {a b : Addr} {xs ys : List V} {g : TG} {tb : TS} {D : Ends} {σ : St} {H : Hp} (Pv : Nat → St → Hp → Prop) (hlen : xs.length = ys.length) (h0 : Pv 0 σ H) (hl : ∀ i σ H, i ≤ xs.length → Pv i σ H → SqL K H a xs ∧ SqL K H b ys)
    (hs : ∀ i x y σ H p, xs[i]? = some x → ys[i]? = some y → Pv i σ H → H p = none → g (.ref p) σ (upd H p (.tup [x, y])) fun σ2 H2 => tb { D with nx := Pv (i + 1), ct := Pv (i + 1), bk := D.nx } σ2 H2) (hd : ∀ σ H, Pv xs.length σ H → D.nx σ H) : ForW (Itz K a b) g tb D σ H := by
  refine ⟨fun i m σ H => m = xs.length - i ∧ i ≤ xs.length ∧ Pv i σ H, ⟨xs.length, by simp, Nat.zero_le _, h0⟩, ?_⟩
  rintro i m σ H ⟨rfl, hi, p⟩
  obtain ⟨q1, q2⟩ := hl i σ H hi p
  by_cases hlt : i < xs.length
  · have hly : i < ys.length := by rw [← hlen]; exact hlt
    refine .inr ⟨⟨xs, ys, xs[i], ys[i], q1, q2, List.getElem?_eq_getElem hlt, List.getElem?_eq_getElem hly⟩, Pv (i + 1), fun σ' H' h => ⟨xs.length - (i + 1), by omega, rfl, hlt, h⟩, ?_⟩
    rintro x H' ⟨c, v, w, hc, e1, e2, rfl, rfl⟩
    exact hs i v w σ H c (e1 xs q1) (e2 ys q2) p hc
  · have e : i = xs.length := by omega
    subst e
    exact .inl ⟨⟨xs, ys, q1, q2, .inl (Nat.le_refl _)⟩, hd σ H p⟩
theorem for_rev {K : PySem.W.Frag} {a : Addr} {xs : List V} {g : TG} {tb : TS} {D : Ends} {σ : St} {H : Hp} (Pv : Nat → St → Hp → Prop) (h0 : Pv 0 σ H) (hl : ∀ i σ H, i ≤ xs.length → Pv i σ H → SqL K H a xs)
    (hs : ∀ i x σ H, i < xs.length → xs[xs.length - 1 - i]? = some x → Pv i σ H → g x σ H fun σ2 H2 => tb { D with nx := Pv (i + 1), ct := Pv (i + 1), bk := D.nx } σ2 H2) (hd : ∀ σ H, Pv xs.length σ H → D.nx σ H) : ForW (Itb K a xs) g tb D σ H := by
  refine ⟨fun i m σ H => m = xs.length - i ∧ i ≤ xs.length ∧ Pv i σ H, ⟨xs.length, by simp, Nat.zero_le _, h0⟩, ?_⟩
  rintro i m σ H ⟨rfl, hi, p⟩
  have q := hl i σ H hi p
  by_cases hlt : i < xs.length
  · refine .inr ⟨⟨q, hlt⟩, Pv (i + 1), fun σ' H' h => ⟨xs.length - (i + 1), by omega, rfl, hlt, h⟩, ?_⟩
    rintro x H' ⟨rfl, hx⟩
    exact hs i x σ _ hlt hx p
  · have e : i = xs.length := by omega
    subst e
    exact .inl ⟨⟨q, rfl⟩, hd σ H p⟩
theorem sub_len {α : Type} [DecidableEq α] : ∀ {l m : List α}, l.Nodup → (∀ x ∈ l, x ∈ m) → l.length ≤ m.length
  | [], m, _, _ => Nat.zero_le _
  | x :: l, m, h, s => by
    rw [List.nodup_cons] at h
    have h1 := sub_len (l := l) (m := m.erase x) h.2 (fun y hy => (List.mem_erase_of_ne (fun z => h.1 (by rw [← z]; exact hy))).mpr (s y (List.mem_cons_of_mem _ hy)))
    have h2 : x ∈ m := s x List.mem_cons_self
    have h3 := List.length_erase_of_mem h2
    have h4 := List.length_pos_of_mem h2
    simp only [List.length_cons]; omega
theorem all_inv {cs : List (List Nat)} (ss : List TP3) (h : ∀ s ∈ ss, ∀ p ∈ s.2.2, capB p = true → p ∈ cs) : (∀ p ∈ allL ss, capB p = true ∧ p ∈ cs) ∧ (allL ss).Nodup := by
  have step : ∀ (ps acc : List (List Nat)), (∀ p ∈ ps, capB p = true → p ∈ cs) → ((∀ p ∈ acc, capB p = true ∧ p ∈ cs) ∧ acc.Nodup) → (∀ p ∈ ps.foldl stepL acc, capB p = true ∧ p ∈ cs) ∧ (ps.foldl stepL acc).Nodup := by
    intro ps
    induction ps with
    | nil => intro acc _ ha; exact ha
    | cons p ps ih =>
      intro acc hp ha
      refine ih _ (fun q hq => hp q (List.mem_cons_of_mem _ hq)) ?_
      rw [step_eq]
      by_cases c : capB p = true ∧ p ∉ acc
      · rw [if_pos c]
        refine ⟨fun q hq => ?_, List.nodup_append.mpr ⟨ha.2, by simp, fun a ha' b hb e => c.2 (by rw [List.mem_singleton] at hb; rw [← hb, ← e]; exact ha')⟩⟩
        rcases List.mem_append.mp hq with z | z
        · exact ha.1 q z
        · rw [List.mem_singleton.mp z]; exact ⟨c.1, hp p List.mem_cons_self c.1⟩
      · rw [if_neg c]; exact ha
  have : ∀ (ss : List TP3) (acc : List (List Nat)), (∀ s ∈ ss, ∀ p ∈ s.2.2, capB p = true → p ∈ cs) → ((∀ p ∈ acc, capB p = true ∧ p ∈ cs) ∧ acc.Nodup) → (∀ p ∈ ss.foldl (fun acc s => s.2.2.foldl stepL acc) acc, capB p = true ∧ p ∈ cs) ∧ (ss.foldl (fun acc s => s.2.2.foldl stepL acc) acc).Nodup := by
    intro ss
    induction ss with
    | nil => intro acc _ ha; exact ha
    | cons s ss ih => intro acc hs ha; exact ih _ (fun x hx => hs x (List.mem_cons_of_mem _ hx)) (step _ _ (hs s List.mem_cons_self) ha)
  exact this ss [] h ⟨by simp, by simp⟩
theorem all_cap (ss : List TP3) : ∀ p ∈ allL ss, IsCap p := fun p hp => (letter_iff p).mp ((all_inv (cs := (ss.map fun s => s.2.2).flatten) ss fun s hs p hp _ => List.mem_flatten.mpr ⟨s.2.2, List.mem_map.mpr ⟨s, hs, rfl⟩, hp⟩).1 p hp).1
theorem cut_take (xs : List V) {n : Int} (h : 0 ≤ n) : cutV xs none (some n) = xs.take n.toNat := by
  unfold cutV HT.sIx
  simp only [Nat.sub_zero, List.drop_zero]
  rw [if_neg (by omega)]
  by_cases c : n.toNat ≤ xs.length
  · rw [Nat.min_eq_left c]
  · rw [Nat.min_eq_right (by omega), List.take_of_length_le (Nat.le_refl _), List.take_of_length_le (by omega)]
def sgl (cs : List Nat) : List (List Nat) := cs.map fun c => [c]
theorem join_sgl (cs : List Nat) : joinN [] (sgl cs) = cs := by
  have h : ∀ r : List Nat, ((sgl r).flatMap fun b => [] ++ b) = r := by
    intro r
    induction r with
    | nil => rfl
    | cons c r ih =>
      have e : sgl (c :: r) = [c] :: sgl r := rfl
      rw [e, List.flatMap_cons, ih]; rfl
  cases cs with
  | nil => rfl
  | cons c r =>
    show [c] ++ ((sgl r).flatMap fun b => [] ++ b) = _
    rw [h]; rfl
theorem sgl_sum : ∀ cs : List Nat, (((sgl cs).map mk).map (·.length)).sum = cs.length
  | [] => rfl
  | c :: cs => by
    have e : sgl (c :: cs) = [c] :: sgl cs := rfl
    rw [e, List.map_cons, List.map_cons, List.sum_cons, sgl_sum cs, mk_len]
    simp; omega
theorem sgl_len (cs : List Nat) : (sgl cs).length = cs.length := List.length_map _
theorem sgl_of : ∀ {ys : List V}, (∀ (i : Nat) v, ys[i]? = some v → ∃ c, v = sv [c] ∧ c ∈ lows) → ∃ cs : List Nat, ys = pv' (sgl cs) ∧ ∀ c ∈ cs, c ∈ lows
  | [], _ => ⟨[], rfl, by simp⟩
  | y :: ys, h => by
    obtain ⟨cs, rfl, hc⟩ := sgl_of (ys := ys) fun i v e => h (i + 1) v e
    obtain ⟨c, rfl, h0⟩ := h 0 y rfl
    refine ⟨c :: cs, rfl, fun d hd => ?_⟩
    rcases List.mem_cons.mp hd with z | z
    · rw [z]; exact h0
    · exact hc d z
theorem pv_take (ws : List (List Nat)) (n : Nat) : (pv' ws).take n = pv' (ws.take n) := (List.map_take).symm
theorem sgl_take (cs : List Nat) (n : Nat) : (sgl cs).take n = sgl (cs.take n) := (List.map_take).symm
theorem pick_pv {ws : List (List Nat)} (hl : 0 < ws.length) (n : Int) : ∃ w, atI (pv' ws) (n % (ws.length : Int)) = some (sv w) ∧ w ∈ ws := by
  have m1 := mod_lt' (i := n) (j := (ws.length : Int)) (by omega)
  obtain ⟨v, e, hv, _⟩ := atI_in (xs := pv' ws) (i := n % (ws.length : Int)) m1.1 (by simpa using m1.2)
  obtain ⟨w, hw, rfl⟩ := List.mem_map.mp hv
  exact ⟨w, e, hw⟩
theorem cap_rng {p : List Nat} (h : IsP p) : ∃ c r, p = c :: r ∧ ((!decide ([c] < [65])) = true ∧ (!decide ([90] < [c])) = true ↔ capB p = true) := by
  rcases h with h | ⟨c, hc, rfl⟩
  · cases p with
    | nil => exact absurd h.1 (by simp)
    | cons c r =>
      have hc := low_lt (h.2.2 c (by simp))
      refine ⟨c, r, rfl, ?_⟩
      rw [capB_w h]
      refine ⟨fun z => ?_, fun z => by cases z⟩
      have : [90] < [c] := List.cons_lt_cons_iff.mpr (.inl (by omega))
      have z2 := z.2
      rw [decide_eq_true this] at z2; cases z2
  · have h2 := cap_lt hc
    refine ⟨c, [], rfl, ?_⟩
    rw [show capB [c] = true from (letter_iff [c]).mpr ⟨c, hc, rfl⟩]
    refine ⟨fun _ => rfl, fun _ => ⟨?_, ?_⟩⟩
    · rw [decide_eq_false]; rfl
      intro z
      rcases List.cons_lt_cons_iff.mp z with y | ⟨_, y⟩
      · omega
      · exact absurd y (List.not_lt_nil _)
    · rw [decide_eq_false]; rfl
      intro z
      rcases List.cons_lt_cons_iff.mp z with y | ⟨_, y⟩
      · omega
      · exact absurd y (List.not_lt_nil _)
theorem set_sgl (cs : List Nat) (j d : Nat) : (pv' (sgl cs)).set j (sv [d]) = pv' (sgl (cs.set j d)) := by
  unfold sgl
  rw [List.map_set]
  exact (List.map_set (f := fun l => V.str (mk l))).symm
theorem take_w {cs : List Nat} {k : Nat} (hl : cs.length = 8) (hc : ∀ c ∈ cs, c ∈ lows) (h1 : 1 ≤ k) (h8 : k ≤ 8) : IsW (cs.take k) := by
  refine ⟨by rw [List.length_take]; omega, by rw [List.length_take]; omega, fun c h => hc c (List.mem_of_mem_take h)⟩
theorem rLeS_str {i j : Str} {H : Hp} {Q : VK} : rLeS (.str i) (.str j) H Q ↔ Q (.bl (!decide (j.cps.toList < i.cps.toList))) H := ⟨by rintro ⟨_, _, e1, e2, q⟩; cases e1; cases e2; exact q, fun q => ⟨_, _, rfl, rfl, q⟩⟩
theorem rSetL_of {p : Addr} {xs : List V} {k : Int} {v : V} {H : Hp} {Q : Hp → Prop} (h : H p = some (.lst xs)) (h0 : 0 ≤ k) (h1 : k < xs.length) (q : Q (upd H p (.lst (xs.set k.toNat v)))) : rSetL (.ref p) (.int k) v H Q :=
  ⟨p, xs, k, k.toNat, rfl, rfl, h, by unfold ixN; rw [if_pos h0, if_pos h1], q⟩
theorem pv_app (ws : List (List Nat)) (w : List Nat) : pv' ws ++ [sv w] = pv' (ws ++ [w]) := (List.map_append (f := fun l => V.str (mk l)) (l₁ := ws) (l₂ := [w])).symm
theorem at_head {α : Type} (d : α) (r : List α) : atI (d :: r) 0 = some d := by
  unfold atI ixN; rw [if_pos (by decide), if_pos (by simp only [List.length_cons]; omega)]; rfl
theorem pick_0 {ws : List (List Nat)} (hl : 0 < ws.length) : ∃ w, atI (pv' ws) 0 = some (sv w) ∧ w ∈ ws := by
  cases ws with
  | nil => simp at hl
  | cons w ws => exact ⟨w, at_head _ _, List.mem_cons_self⟩
theorem pick_l {ws : List (List Nat)} (hl : 0 < ws.length) : ∃ w, atI (pv' ws) (-1) = some (sv w) ∧ w ∈ ws := by
  have hi : ws.length - 1 < ws.length := by omega
  refine ⟨ws[ws.length - 1], ?_, List.getElem_mem hi⟩
  unfold atI ixN
  rw [if_neg (by decide), if_pos (by rw [List.length_map]; omega)]
  show (pv' ws)[((-1 : Int) + ((pv' ws).length : Int)).toNat]? = _
  rw [List.length_map, show ((-1 : Int) + (ws.length : Int)).toNat = ws.length - 1 by omega, List.getElem?_map, List.getElem?_eq_getElem hi]
  rfl
def PartS (sm : List (List Nat)) (D : Addr) (v : V) (H : Hp) : Prop := ∃ (p L : Addr) (s : TP3), v = .ref p ∧ p ≠ D ∧ L ≠ D ∧ IsT s ∧ (∀ q ∈ s.2.2, q ∈ sm) ∧ H p = some (.tup [sv s.1, sv s.2.1, .ref L]) ∧ H L = some (.lst (pv' s.2.2))
theorem parts_s {sm : List (List Nat)} {D : Addr} {H : Hp} : ∀ {ys : List V}, (∀ (i : Nat) v, ys[i]? = some v → PartS sm D v H) → ∃ ss : List TP3, ss.length = ys.length ∧ AtAll H ys ss ∧ (∀ s ∈ ss, IsT s) ∧ ∀ s ∈ ss, ∀ q ∈ s.2.2, q ∈ sm
  | [], _ => ⟨[], rfl, trivial, by simp, by simp⟩
  | y :: ys, h => by
    obtain ⟨p, L, s, e, _, _, hT, hq, h1, h2⟩ := h 0 y rfl
    obtain ⟨ss, hl, hA, hs, hm⟩ := parts_s (ys := ys) fun i v e => h (i + 1) v (by simpa using e)
    refine ⟨s :: ss, by simp [hl], ⟨⟨p, e, L, h1, h2⟩, hA⟩, fun x hx => ?_, fun x hx => ?_⟩
    · rcases List.mem_cons.mp hx with z | z
      · rw [z]; exact hT
      · exact hs x z
    · rcases List.mem_cons.mp hx with z | z
      · rw [z]; exact hq
      · exact hm x z
theorem caps_of : ∀ {ys : List V}, (∀ (i : Nat) v, ys[i]? = some v → ∃ c, v = sv [c] ∧ c ∈ caps) → ∃ cs : List (List Nat), ys = pv' cs ∧ ∀ c ∈ cs, IsP c
  | [], _ => ⟨[], rfl, by simp⟩
  | y :: ys, h => by
    obtain ⟨cs, rfl, hc⟩ := caps_of (ys := ys) fun i v e => h (i + 1) v e
    obtain ⟨c, rfl, h0⟩ := h 0 y rfl
    refine ⟨[c] :: cs, rfl, fun d hd => ?_⟩
    rcases List.mem_cons.mp hd with z | z
    · rw [z]; exact .inr ⟨c, h0, rfl⟩
    · exact hc d z
def Some4 (sm : List (List Nat)) : Prop := (0 < sm.length ∧ sm.length ≤ 6) ∧ (∀ p ∈ sm, IsP p) ∧ ∃ cs : List (List Nat), cs.length ≤ 3 ∧ ∀ p ∈ sm, capB p = true → p ∈ cs
theorem all_3 {sm : List (List Nat)} (h : Some4 sm) {ss : List TP3} (hm : ∀ s ∈ ss, ∀ q ∈ s.2.2, q ∈ sm) : (allL ss).length ≤ 3 := by
  obtain ⟨_, _, cs, hl, hc⟩ := h
  obtain ⟨h1, h2⟩ := all_inv (cs := cs) ss fun s hs p hp hcap => hc p (hm s hs p hp) hcap
  exact Nat.le_trans (sub_len h2 fun p hp => (h1 p hp).2) hl
theorem lkf_step {T : List (List Nat)} {rs : List (List Nat)} {n left : Nat} {gs : List (List Nat × List Nat)} {j : Nat} (hn : rs.Nodup) (hj : j < rs.length) (hT : 0 < T.length)
    (h1 : ∀ p, lkf T rs n p = if p ∈ rs.take j then look gs p else lkf T (rs.drop j) left p) (h2 : ∀ p, p ∉ rs.take j → look gs p = none) :
    (∀ p, lkf T rs n p = if p ∈ rs.take (j + 1) then look (putG gs rs[j] (T[left % T.length]'(Nat.mod_lt _ hT))) p else lkf T (rs.drop (j + 1)) (left / T.length) p) ∧ ∀ p, p ∉ rs.take (j + 1) → look (putG gs rs[j] (T[left % T.length]'(Nat.mod_lt _ hT))) p = none := by
  have et : rs.take (j + 1) = rs.take j ++ [rs[j]] := List.take_succ_eq_append_getElem hj
  have hnot : rs[j] ∉ rs.take j := fun z => by
    have := hn
    rw [← List.take_append_drop j rs, List.nodup_append] at this
    have hd : rs[j] ∈ rs.drop j := by rw [List.drop_eq_getElem_cons hj]; exact List.mem_cons_self
    exact this.2.2 _ z _ hd rfl
  have hmem : ∀ p, p ∈ rs.take (j + 1) ↔ p ∈ rs.take j ∨ p = rs[j] := fun p => by rw [et, List.mem_append, List.mem_singleton]
  refine ⟨fun p => ?_, fun p hp => ?_⟩
  · rw [h1, look_put]
    by_cases a : p ∈ rs.take j
    · have b : p ≠ rs[j] := fun z => hnot (z ▸ a)
      rw [if_pos a, if_pos ((hmem p).mpr (.inl a)), if_neg b]
    · rw [if_neg a, List.drop_eq_getElem_cons hj]
      by_cases b : p = rs[j]
      · rw [if_pos ((hmem p).mpr (.inr b)), if_pos b]
        show (if p = rs[j] then T[left % T.length]? else _) = _
        rw [if_pos b, List.getElem?_eq_getElem (Nat.mod_lt _ hT)]
      · rw [if_neg (fun z => ((hmem p).mp z).elim a b)]
        show (if p = rs[j] then T[left % T.length]? else lkf T (rs.drop (j + 1)) (left / T.length) p) = _
        rw [if_neg b]
  · have a : p ∉ rs.take j := fun z => hp ((hmem p).mpr (.inl z))
    have b : p ≠ rs[j] := fun z => hp ((hmem p).mpr (.inr z))
    rw [look_put, if_neg b]; exact h2 p a
theorem lkf_end {T rs : List (List Nat)} {n left : Nat} {gs : List (List Nat × List Nat)} (h1 : ∀ p, lkf T rs n p = if p ∈ rs.take rs.length then look gs p else lkf T (rs.drop rs.length) left p) (h2 : ∀ p, p ∉ rs.take rs.length → look gs p = none) : ∀ p, look gs p = lkf T rs n p := fun p => by
  rw [h1]
  by_cases a : p ∈ rs.take rs.length
  · rw [if_pos a]
  · rw [if_neg a, h2 p a, List.drop_length]; rfl

def spLaw (K : PySem.W.Frag) : Sp := fun vs H Q _ => ∃ (a : Addr) (ns : List Int), vs = [.ref a] ∧ SqL K H a (ns.map V.int) ∧ ns.length ≤ 63 ∧ ∀ H', Q (.bl true) H'
theorem spLaw_of {K : PySem.W.Frag} {H : Hp} {a : Addr} {ns : List Int} (hl : ns.length ≤ 63) (_ : Only H) (hS : SqL K H a (ns.map V.int)) : spLaw K [.ref a] H (fun v _ => v = .bl true) fun _ _ _ => False := ⟨a, ns, rfl, hS, hl, fun _ => rfl⟩
end K21
namespace K21
open PySem L2 Tx

section
variable {P : Program} {w : World} {K : PySem.W.Frag} {mg : Str → Option Value} {base : Heap} {t : Adr}
theorem ok_d_l_cell_at (T : Txt K mg t) : FnOk P w K mg base CX0 1 t.f_d_l_cell_at t.fd_d_l_cell_at ["_law_script", "_law_k"] (spCell K) := by
  refine T.F_d_l_cell_at.ok sc_d_l_cell_at (fun vs H Q E h => ?_) (fun cdv A outer s H vs Q E hr h => ?_)
  · obtain ⟨a, ns, k, rfl, hS, hl, k0, k1, q⟩ := h; rfl
  · obtain ⟨a, ns, k, rfl, hS, hl, k0, k1, q⟩ := h
    refine ⟨_, (@pss_cons _ _ _ _ _ (@ps_if _ _ _ _ _ _ _ _ (@pt_cmpR _ _ _ _ _ _ _ _ op_ltA (@pv _ 1 _ _ (by rfl) (by first | exact vis0 rfl | exact vis1 rfl | exact vis2 rfl) (by decide) (by decide)) (@pe_callB _ _ _ _ _ _ _ _ _ call_lenA rfl T.z_len boot_lenT (@pa_cons _ _ _ _ _ (@pv _ 0 _ _ (by rfl) (by first | exact vis0 rfl | exact vis1 rfl | exact vis2 rfl) (by decide) (by decide)) (@pa_nil _) (by rfl)) (by decide) (by decide) (by rfl) (by rfl)) (nomark _)) (@pss_one _ _ _ (@ps_ret _ _ _ _ (@pe_ix _ _ _ _ _ _ _ ix_seq (@pv _ 0 _ _ (by rfl) (by first | exact vis0 rfl | exact vis1 rfl | exact vis2 rfl) (by decide) (by decide)) (@pv _ 1 _ _ (by rfl) (by first | exact vis0 rfl | exact vis1 rfl | exact vis2 rfl) (by decide) (by decide)) (fun _ _ => rfl)))) (@pss_nil _)) (@pss_one _ _ _ (@ps_ret _ _ _ _ (@pe_int _ _ _ _)))), ?_⟩
    rw [show start n_d_l_cell_at [V.ref a, V.int k] = [some (V.ref a), some (V.int k)] from rfl]
    try simp only [tSeq, tIfS, tTest, tOp, tVar, List.getElem?_cons_succ, List.getElem?_cons_zero, tCB, tCons, tNil, tRet, exSlot, tNext, tC]
    refine rLenA_lst hS ?_
    try simp only [rLtA_int, exBl, decide_eq_true_eq]
    refine ite2 (fun c => ?_) (fun c => q 0)
    obtain ⟨v, e, hv, _⟩ := atI_in (xs := ns.map V.int) (i := k) k0 (by simpa using c)
    obtain ⟨i, _, rfl⟩ := List.mem_map.mp hv
    exact rIx_lst hS e (q i)
end
end K21
namespace K21
open PySem L2 Tx

section
variable {P : Program} {w : World} {K : PySem.W.Frag} {mg : Str → Option Value} {base : Heap} {t : Adr}
theorem ok_d_l_order (T : Txt K mg t) : FnOk P w K mg base CX0 1 t.f_d_l_order t.fd_d_l_order ["_law_specs_here"] (spLLetters K) := by
  refine T.F_d_l_order.ok sc_d_l_order (fun vs H Q E h => ?_) (fun cdv A outer s H vs Q E hr h => ?_)
  · obtain ⟨a, xs, ss, rfl, ha, hA, hss, hl, q⟩ := h; rfl
  · obtain ⟨a, xs, ss, rfl, ha, hA, hss, hl, q⟩ := h
    refine ⟨_, (@pss_cons _ _ _ _ _ (@ps_set _ _ (1) _ _ _ _ sc_d_l_order.nd rfl (by first | exact Or.inl rfl | exact Or.inr rfl) (@pe_lst _ _ _ _ (@pa_nil _)) (by rfl) (by first | exact Or.inl rfl | exact Or.inr rfl | assumption)) (@pss_cons _ _ _ _ _ (@ps_for _ _ _ _ _ _ _ _ PassesOwn.never rfl (@pi_list _ _ _ _ (@pv _ 0 _ _ (by rfl) (by first | exact vis0 rfl | exact vis1 rfl | exact vis2 rfl) (by decide) (by decide))) (@pg_tup _ _ _ _ _ _ rfl (@pgs_cons _ _ _ _ _ (@pg_name _ _ (2) _ sc_d_l_order.nd rfl (by first | exact Or.inl rfl | exact Or.inr rfl) (by first | exact Or.inl rfl | exact Or.inr rfl | assumption)) (@pgs_cons _ _ _ _ _ (@pg_name _ _ (3) _ sc_d_l_order.nd rfl (by first | exact Or.inl rfl | exact Or.inr rfl) (by first | exact Or.inl rfl | exact Or.inr rfl | assumption)) (@pgs_cons _ _ _ _ _ (@pg_name _ _ (4) _ sc_d_l_order.nd rfl (by first | exact Or.inl rfl | exact Or.inr rfl) (by first | exact Or.inl rfl | exact Or.inr rfl | assumption)) (@pgs_nil _) (by rfl)) (by rfl)) (by rfl)) (by rfl) (by rfl)) (@pss_one _ _ _ (@ps_for _ _ _ _ _ _ _ _ PassesOwn.never rfl (@pi_list _ _ _ _ (@pv _ 4 _ _ (by rfl) (by first | exact vis0 rfl | exact vis1 rfl | exact vis2 rfl) (by decide) (by decide))) (@pg_name _ _ (5) _ sc_d_l_order.nd rfl (by first | exact Or.inl rfl | exact Or.inr rfl) (by first | exact Or.inl rfl | exact Or.inr rfl | assumption)) (@pss_one _ _ _ (@ps_if _ _ _ _ _ _ _ _ (@PW.pt _ _ _ (@pw_and _ _ _ _ _ _ _ (@pt_chain _ _ _ _ _ _ _ _ _ _ _ _ op_leS op_leS (@pe_str _ _ _ _) (@pe_ix _ _ _ _ _ _ _ ix_seq (@pv _ 5 _ _ (by rfl) (by first | exact vis0 rfl | exact vis1 rfl | exact vis2 rfl) (by decide) (by decide)) (@pe_int _ _ _ _) (fun _ _ => rfl)) (@pe_str _ _ _ _) (by with_unfolding_all rfl)) (@pw_and1 _ _ _ _ (@pt_cmpR _ _ _ _ _ _ _ _ op_notinA (@pv _ 5 _ _ (by rfl) (by first | exact vis0 rfl | exact vis1 rfl | exact vis2 rfl) (by decide) (by decide)) (@pv _ 1 _ _ (by rfl) (by first | exact vis0 rfl | exact vis1 rfl | exact vis2 rfl) (by decide) (by decide)) (by with_unfolding_all rfl))))) (@pss_one _ _ _ (@ps_expr _ _ _ _ (@pe_bm _ _ _ _ _ _ _ _ _ _ _ _ PySem.F.plainAttrs_list PySem.F.slot_list_append PySem.F.type_list_append mt_append (@pv _ 1 _ _ (by rfl) (by first | exact vis0 rfl | exact vis1 rfl | exact vis2 rfl) (by decide) (by decide)) (@pa_cons _ _ _ _ _ (@pv _ 5 _ _ (by rfl) (by first | exact vis0 rfl | exact vis1 rfl | exact vis2 rfl) (by decide) (by decide)) (@pa_nil _) (by rfl)) (by rfl) (by rfl) (by rfl) (by rfl) (by rfl)) (by rfl))) (@pss_nil _))) (by intro _ ; rfl))) (by intro _ ; rfl)) (@pss_one _ _ _ (@ps_ret _ _ _ _ (@pv _ 1 _ _ (by rfl) (by first | exact vis0 rfl | exact vis1 rfl | exact vis2 rfl) (by decide) (by decide)))))), ?_⟩
    rw [show start n_d_l_order [V.ref a] = [some (V.ref a), none, none, none, none, none] from rfl]
    try simp only [tSeq, tAsg, tLst, tNil, gName, List.set_cons_succ, List.set_cons_zero, tFor_eq, iList, tVar, List.getElem?_cons_zero, exSlot, exRef]
    refine ⟨by decide, fun D hD => ?_⟩
    obtain ⟨H1, e1, s1, h1⟩ := newO hD (.lst []); rw [e1]
    refine ⟨⟨_, SqL.of (s1 _ _ ha)⟩, ?_⟩
    have hxl := hA.len
    refine for_list (K := K) (a := a) (xs := xs) (fun i σ H' => ∃ (x2 x3 x4 x5 : Option V), σ = [some (V.ref a), some (V.ref D), x2, x3, x4, x5] ∧ Same H H' ∧ H' D = some (.lst (pv' (allL (ss.take i)))))
      ⟨_, _, _, _, rfl, s1, h1⟩ (fun i σ H' _ ⟨_, _, _, _, _, s, _⟩ => SqL.of (s _ _ ha)) ?_ ?_
    · rintro i v σ H2 hi ⟨x2, x3, x4, x5, rfl, s2, hD2⟩
      have hil : i < ss.length := by rw [← hxl]; exact (List.getElem?_eq_some_iff.mp hi).1
      have hT := hss _ (List.getElem_mem hil)
      obtain ⟨p, ep, hp⟩ := hA.get i ss[i] (List.getElem?_eq_getElem hil)
      rw [hi] at ep
      cases ep
      have etake : allL (ss.take (i + 1)) = ss[i].2.2.foldl stepL (allL (ss.take i)) := by
        rw [List.take_succ_eq_append_getElem hil, all_snoc, more_fold _ _ _ rfl]
      have hal := all_len _ (ss.take i) rfl fun s hs => hss _ (List.mem_of_mem_take hs)
      have hal1 : (allL (ss.take i)).length ≤ 1000 := by
        have : (ss.take i).length ≤ ss.length := List.length_take_le' _ _
        omega
      rw [etake]
      generalize allL (ss.take i) = acc at hD2 hal hal1
      generalize ss[i] = s at hT hp ⊢
      obtain ⟨L, hp0, hL0⟩ := hp
      have hp1 := s2 _ _ hp0
      have hL := s2 _ _ hL0
      try simp only [gTup, gCons, gName, gNil, List.set_cons_succ, List.set_cons_zero, tFor_eq, iList, tVar, List.getElem?_cons_succ, List.getElem?_cons_zero, exSlot]
      refine ⟨p, _, rfl, SqT.of hp1, rfl, _, _, rfl, _, _, rfl, _, _, rfl, rfl, ?_⟩
      try simp only [exRef]
      refine ⟨⟨_, SqL.of hL⟩, ?_⟩
      have hmany := hT.many
      refine for_list (K := K) (a := L) (xs := pv' s.2.2) (fun j σ H' => ∃ (x2 x3 y : Option V), σ = [some (V.ref a), some (V.ref D), x2, x3, some (V.ref L), y] ∧ Same H H' ∧ H' L = some (.lst (pv' s.2.2)) ∧ H' D = some (.lst (pv' ((s.2.2.take j).foldl stepL acc))) ∧ ((s.2.2.take j).foldl stepL acc).length ≤ acc.length + j)
        ⟨_, _, _, rfl, s2, hL, hD2, Nat.le_refl _⟩ (fun j σ H' _ ⟨_, _, _, _, _, h, _⟩ => SqL.of h) ?_ ?_
      · rintro j v σ H3 hj ⟨y2, y3, y, rfl, s3, hL3, hD3, hln⟩
        have hjl : j < s.2.2.length := by simpa using (List.getElem?_eq_some_iff.mp hj).1
        have ev : v = sv s.2.2[j] := by
          rw [List.getElem?_map, List.getElem?_eq_getElem hjl] at hj
          exact (Option.some.inj hj).symm
        subst ev
        have hp := hT.places s.2.2[j] (List.getElem_mem hjl)
        have et : (s.2.2.take (j + 1)).foldl stepL acc = stepL ((s.2.2.take j).foldl stepL acc) s.2.2[j] := by
          rw [List.take_succ_eq_append_getElem hjl, List.foldl_append]; rfl
        rw [et]
        generalize (s.2.2.take j).foldl stepL acc = bcc at hD3 hln
        have hLD : L ≠ D := fun z => ne_of_none hL0 hD z
        rw [step_eq]
        have hpl := hp.len
        obtain ⟨d, r, ed, hcap⟩ := cap_rng hp
        generalize s.2.2[j] = pl at hp ed hcap hpl ⊢
        try simp only [gName, tIfS, tAnd, tTest, tChain, tC, tOp, tVar, List.set_cons_succ, List.set_cons_zero, List.getElem?_cons_succ, List.getElem?_cons_zero, tDrop, tBM, tCons, tNil, exSlot, tNext, ite_ft, exBl, rIx_str, rLeS_str, Bool.not_eq_true', decide_eq_false_iff_not]
        refine ⟨short_le (by rw [mk_len]; omega), d, by rw [ed]; exact at_head d r, ?_⟩
        rw [show ("A" : Str) = mk [65] by decide +kernel, show ("Z" : Str) = mk [90] by decide +kernel]
        have no : ¬ (capB pl = true ∧ pl ∉ bcc) → ∃ (x2 x3 y' : Option V), [some (V.ref a), some (V.ref D), y2, y3, some (V.ref L), some (sv pl)] = [some (V.ref a), some (V.ref D), x2, x3, some (V.ref L), y'] ∧ Same H H3 ∧ H3 L = some (.lst (pv' s.2.2)) ∧ H3 D = some (.lst (pv' (if capB pl = true ∧ pl ∉ bcc then bcc ++ [pl] else bcc))) ∧ (if capB pl = true ∧ pl ∉ bcc then bcc ++ [pl] else bcc).length ≤ acc.length + (j + 1) := fun z => by
          rw [if_neg z]; exact ⟨_, _, _, rfl, s3, hL3, hD3, by omega⟩
        try simp only []
        refine ite2 (fun a1 => ite2 (fun a2 => ?_) (fun a2 => no fun z => a2 (by have := (hcap.mpr z.1).2; simpa using this))) (fun a1 => no fun z => a1 (by have := (hcap.mpr z.1).1; simpa using this))
        have hc1 : capB pl = true := hcap.mp ⟨by rw [decide_eq_false a1]; rfl, by rw [decide_eq_false a2]; rfl⟩
        refine .inr ⟨D, _, rfl, .inl (SqL.of hD3), rfl, flat_pv _, ?_⟩
        rw [if_pos rfl, inV_iff]
        try simp only [exBl, Bool.not_eq_true', decide_eq_false_iff_not]
        refine ite2 (fun c1 => ?_) (fun c1 => no fun z => c1 (by simpa using z.2))
        have c1' : pl ∉ bcc := by simpa using c1
        rw [if_pos ⟨hc1, c1'⟩]
        refine ⟨.inl ⟨rfl, _, SqL.of hD3⟩, D, _, _, rfl, rfl, hD3, Nat.lt_of_le_of_lt (show _ ≤ 1100 by rw [List.length_map]; omega) (by decide), _, _, _, rfl, ?_, ?_, ?_, ?_⟩
        · intro b o e
          rw [upd_ne (ne_of_none e hD)]; exact s3 b o e
        · rw [upd_ne hLD]; exact hL3
        · rw [upd_same, pv_app]
        · rw [List.length_append]; simp; omega
      · rintro σ H3 ⟨y2, y3, y, rfl, s3, hL3, hD3, _⟩
        rw [show (pv' s.2.2).length = s.2.2.length by simp, List.take_length] at hD3
        exact ⟨_, _, _, _, rfl, s3, hD3⟩
    · rintro σ H2 ⟨x2, x3, x4, x5, rfl, s2, hD2⟩
      try simp only [tRet, tVar, List.getElem?_cons_succ, List.getElem?_cons_zero, exSlot]
      rw [show xs.length = ss.length from hxl, List.take_length] at hD2
      exact q D H2 s2 hD hD2
end
end K21
namespace K21
open PySem L2 Tx

section
variable {P : Program} {w : World} {K : PySem.W.Frag} {mg : Str → Option Value} {base : Heap} {t : Adr}
theorem ok_d_l_text (T : Txt K mg t) : FnOk P w K mg base CX0 1 t.f_d_l_text t.fd_d_l_text ["_law_spec", "_law_given"] spTextL := by
  refine T.F_d_l_text.ok sc_d_l_text (fun vs H Q E h => ?_) (fun cdv A outer s H vs Q E hr h => ?_)
  · obtain ⟨p, g, s, gs, rfl, hp, hT, hg, hG, q⟩ := h; rfl
  · obtain ⟨p, g, s, gs, rfl, hp, hT, hg, hG, q⟩ := h
    refine ⟨_, (@pss_cons _ _ _ _ _ (@ps_asg _ _ _ _ _ _ (@pv _ 0 _ _ (by rfl) (by first | exact vis0 rfl | exact vis1 rfl | exact vis2 rfl) (by decide) (by decide)) (@pg_tup _ _ _ _ _ _ rfl (@pgs_cons _ _ _ _ _ (@pg_name _ _ (2) _ sc_d_l_text.nd rfl (by first | exact Or.inl rfl | exact Or.inr rfl) (by first | exact Or.inl rfl | exact Or.inr rfl | assumption)) (@pgs_cons _ _ _ _ _ (@pg_name _ _ (3) _ sc_d_l_text.nd rfl (by first | exact Or.inl rfl | exact Or.inr rfl) (by first | exact Or.inl rfl | exact Or.inr rfl | assumption)) (@pgs_cons _ _ _ _ _ (@pg_name _ _ (4) _ sc_d_l_text.nd rfl (by first | exact Or.inl rfl | exact Or.inr rfl) (by first | exact Or.inl rfl | exact Or.inr rfl | assumption)) (@pgs_nil _) (by rfl)) (by rfl)) (by rfl)) (by rfl) (by rfl)) (by rfl) (by rfl) (by rfl)) (@pss_cons _ _ _ _ _ (@ps_if _ _ _ _ _ _ _ _ (@pt_cmpR _ _ _ _ _ _ _ _ (op_eqH hr.units) (@pv _ 4 _ _ (by rfl) (by first | exact vis0 rfl | exact vis1 rfl | exact vis2 rfl) (by decide) (by decide)) (@pe_lst _ _ _ _ (@pa_nil _)) (nomark _)) (@pss_one _ _ _ (@ps_ret _ _ _ _ (@pe_op _ _ _ _ _ _ _ _ op_addA (@pv _ 2 _ _ (by rfl) (by first | exact vis0 rfl | exact vis1 rfl | exact vis2 rfl) (by decide) (by decide)) (@pv _ 3 _ _ (by rfl) (by first | exact vis0 rfl | exact vis1 rfl | exact vis2 rfl) (by decide) (by decide))))) (@pss_nil _)) (@pss_one _ _ _ (@ps_ret _ _ _ _ (@pe_op _ _ _ _ _ _ _ _ op_addA (@pe_op _ _ _ _ _ _ _ _ op_addA (@pe_op _ _ _ _ _ _ _ _ op_addA (@pe_op _ _ _ _ _ _ _ _ op_addA (@pv _ 2 _ _ (by rfl) (by first | exact vis0 rfl | exact vis1 rfl | exact vis2 rfl) (by decide) (by decide)) (@pv _ 3 _ _ (by rfl) (by first | exact vis0 rfl | exact vis1 rfl | exact vis2 rfl) (by decide) (by decide))) (@pe_str _ _ _ _)) (@pe_bm _ _ _ _ _ _ _ _ _ _ _ _ PySem.F.plainAttrs_str PySem.F.slot_str_join PySem.F.type_str_join mt_join (@pe_str _ _ _ _) (@pa_cons _ _ _ _ _ (@pe_comp _ _ _ _ _ _ _ _ _ _ _ _ _ (@compOk_of _ (defScope s_d_l_text) (n_d_l_text) (["_law_place" , "_law_given"]) ([none , some 1]) _ rfl rfl (by decide +kernel)) rfl (@pi_list _ _ _ _ (@pv _ 4 _ _ (by rfl) (by first | exact vis0 rfl | exact vis1 rfl | exact vis2 rfl) (by decide) (by decide))) (fun _ _ _ _ _ => (@pg_name _ _ (0) _ (show List.Nodup (["_law_place" , "_law_given"] : List Str) by decide +kernel) rfl (by first | exact Or.inl rfl | exact Or.inr rfl) (by first | exact Or.inl rfl | exact Or.inr rfl | assumption))) (fun _ _ _ _ _ => @pts_nil _) (fun _ _ _ _ _ => (@pe_dget2 _ _ _ _ _ _ _ _ _ (hu_of hr) (@pv _ 1 _ _ (by rfl) (by first | exact vis0 rfl | exact vis1 rfl | exact vis2 rfl) (by decide) (by decide)) (@pv _ 0 _ _ (by rfl) (by first | exact vis0 rfl | exact vis1 rfl | exact vis2 rfl) (by decide) (by decide)) (@pv _ 0 _ _ (by rfl) (by first | exact vis0 rfl | exact vis1 rfl | exact vis2 rfl) (by decide) (by decide)) ⟨rfl , rfl , rfl , rfl⟩)) (by intro _ ; rfl)) (@pa_nil _) (by rfl)) (by rfl) (by rfl) (by rfl) (by rfl) (by rfl))) (@pe_str _ _ _ _)))))), ?_⟩
    rw [show start n_d_l_text [V.ref p, V.ref g] = [some (V.ref p), some (V.ref g), none, none, none] from rfl]
    obtain ⟨sd, nm, ps⟩ := s
    have hS : IsS sd nm ps := hT
    obtain ⟨L, h1, h2⟩ := hp
    dsimp only at h1 h2
    have l1 : sd.length ≤ 1 := by rcases hS.side with e | e <;> rw [e] <;> simp
    have l2 := hS.name.2.1
    try simp only [tSeq, tAsg, tVar, List.getElem?_cons_zero, gTup, gCons, gName, gNil, tIfS, tTest, tOp, List.set_cons_succ, List.set_cons_zero, List.getElem?_cons_succ, tLst, tNil, tRet, exSlot, tNext, tC, tBM, tCons, tComp_eq, iList, tyV_str]
    refine ⟨p, _, rfl, SqT.of h1, rfl, _, _, rfl, _, _, rfl, _, _, rfl, rfl, by decide, fun N hN => ?_⟩
    obtain ⟨H1, e1, s1, hN1⟩ := newO hN (.lst []); rw [e1]
    have h2' := s1 _ _ h2
    refine .inr ⟨_, _, denL (SqL.of h2'), denL (qs := []) (SqL.of hN1), shapedL hS.places, shapedL (by simp), ?_⟩
    rw [show ("(" : Str) = mk [40] by decide +kernel, show (")" : Str) = mk [41] by decide +kernel, show ("," : Str) = mk [44] by decide +kernel]
    cases ps with
    | nil =>
      try simp only [rAddA_str, exRef, exBl]
      rw [if_pos (by rfl)]
      try skip
      rw [mk_app]
      exact ⟨by rw [mk_len, mk_len]; exact Nat.le_trans (show _ ≤ 1000 by omega) (by decide), q _ s1⟩
    | cons a qs =>
      try simp only [rAddA_str, exRef, exBl]
      rw [if_neg (by simp [PyData.eqv, PyData.eqvAll])]
      try skip
      have hne : (a :: qs).map (fillL gs) ≠ [] := by simp
      generalize a :: qs = ps at hS h2' q hT hne
      refine ⟨?_, ?_, ?_⟩
      · rw [mk_len, mk_len]; exact Nat.le_trans (show _ ≤ 1000 by omega) (by decide)
      · rw [mk_app, mk_len, mk_len]; exact Nat.le_trans (show _ ≤ 1000 by simp; omega) (by decide)
      refine ⟨⟨_, SqL.of h2'⟩, ?_⟩
      refine comp_1 (src_list (xs := pv' ps)) (Nat.le_trans (show (pv' ps).length ≤ 1000 by simp; have := hS.many; omega) (by decide)) [some (V.ref g)] rfl (fun i v => ∃ hi : i < ps.length, v = sv (fillL gs ps[i])) (fun H' s => SqL.of (s _ _ h2')) (fun i H' R hi s hR => ?_) (fun D H2 ys hDn s2 hD hl hv => ?_)
      · have hi' : i < ps.length := by simpa using hi
        have e2 : ((pv' ps)[i]?).getD .non = sv ps[i] := by rw [List.getElem?_map, List.getElem?_eq_getElem hi']; rfl
        rw [e2]
        have hG' := s _ _ (s1 _ _ hG)
        try simp only [tDGet2, tVar, List.getElem?_cons_succ, List.getElem?_cons_zero, exSlot, exRef]
        refine ⟨isD_of hG', _, DGet.k (k := Sum.inr (mk ps[i])) hG', ?_⟩
        rw [val_gm]
        refine hR _ _ (Same.refl _) ⟨hi', ?_⟩
        rw [fill_get hg]
        cases look gs ps[i] with
        | none => rfl
        | some x => rfl
      have eys : ys = pv' (ps.map (fillL gs)) := by
        refine List.ext_getElem? fun i => ?_
        rw [List.getElem?_map, List.getElem?_map]
        by_cases hi : i < ys.length
        · obtain ⟨hi', e⟩ := hv i _ (List.getElem?_eq_getElem hi)
          rw [List.getElem?_eq_getElem hi, e, List.getElem?_eq_getElem hi']; rfl
        · rw [List.getElem?_eq_none (by omega), List.getElem?_eq_none (by simp at hl; omega)]; rfl
      subst eys
      have hF : IsS sd nm (ps.map (fillL gs)) := hS.filled hg
      have q' : ∀ H', Same H H' → Q (sv (stmtL sd nm (ps.map (fillL gs)))) H' := q
      clear q
      generalize ps.map (fillL gs) = fs at hF hD q' hne
      have hj : Txt.join (mk [44]) (fs.map mk) = mk (joinL fs) := by
        match fs, hF.many with
        | [], _ => rfl
        | [a], _ => rfl
        | [a, b], _ =>
          show Txt.join (mk [44]) [mk a, mk b] = mk (a ++ 44 :: b)
          rw [join_two]; simp
      have hl : (joinL fs).length ≤ 40 ∧ ((fs.map mk).map (·.length)).sum + (fs.map mk).length * (mk [44]).length ≤ 16777216 := by
        match fs, hF.many, hF.places with
        | [], _, _ => exact ⟨by decide, by decide⟩
        | [a], _, hp => have := (hp a (by simp)).len; refine ⟨by simp [joinL]; omega, ?_⟩; simp [mk_len]; omega
        | [a, b], _, hp => have := (hp a (by simp)).len; have := (hp b (by simp)).len; refine ⟨by simp [joinL]; omega, ?_⟩; simp [mk_len]; omega
      refine rJoin_of (ys := fs.map mk) (.inl (by rw [List.map_map]; exact SqL.of hD)) hl.2 ?_
      try simp only [rAddA_str]
      rw [hj, mk_app, mk_app, mk_app, mk_app]
      refine ⟨?_, ?_, ?_⟩
      · rw [mk_len, mk_len]; exact Nat.le_trans (show _ ≤ 1000 by simp; omega) (by decide)
      · rw [mk_len, mk_len]; exact Nat.le_trans (show _ ≤ 1000 by simp; omega) (by decide)
      · have e : sd ++ nm ++ [40] ++ joinL fs ++ [41] = stmtL sd nm fs := by
          match fs, hF.many, hne with
          | [], _, c => exact absurd rfl c
          | [a], _, _ => simp [stmtL, joinL]
          | [a, b], _, _ => simp [stmtL, joinL]
        rw [e]; exact q' _ (s1.trans s2)
end
end K21
namespace K21
open PySem L2 Tx

section
variable {P : Program} {w : World} {K : PySem.W.Frag} {mg : Str → Option Value} {base : Heap} {t : Adr}
theorem ok_d_l_due (T : Txt K mg t) : FnOk P w K mg base CX0 2 t.f_d_l_due t.fd_d_l_due ["_law_specs_here", "_law_things"] spDue := by
  refine T.F_d_l_due.ok sc_d_l_due (fun vs H Q E h => ?_) (fun cdv A outer s H vs Q E hr h => ?_)
  · obtain ⟨a, Ta, xs, ss, Th, rfl, ha, hA, hss, hsl, hal, hTa, hTl, hTw, q⟩ := h; rfl
  · obtain ⟨a, Ta, xs, ss, Th, rfl, ha, hA, hss, hsl, hal, hTa, hTl, hTw, q⟩ := h
    refine ⟨_, (@pss_cons _ _ _ _ _ (@ps_set _ _ (2) _ _ _ _ sc_d_l_due.nd rfl (by first | exact Or.inl rfl | exact Or.inr rfl) (@pe_call _ _ _ _ _ _ _ _ _ _ _ _ _ _ _ _ (ok_d_l_order T) (hr.mono (by decide)) rfl T.g_d_l_order T.F_d_l_order.kp T.b_d_l_order .nil pass0 (@pa_cons _ _ _ _ _ (@pv _ 0 _ _ (by rfl) (by first | exact vis0 rfl | exact vis1 rfl | exact vis2 rfl) (by decide) (by decide)) (@pa_nil _) (by rfl)) (by decide) (by rfl) (by rfl)) (by rfl) (by first | exact Or.inl rfl | exact Or.inr rfl | assumption)) (@pss_cons _ _ _ _ _ (@ps_set _ _ (3) _ _ _ _ sc_d_l_due.nd rfl (by first | exact Or.inl rfl | exact Or.inr rfl) (@pe_int _ _ _ _) (by rfl) (by first | exact Or.inl rfl | exact Or.inr rfl | assumption)) (@pss_cons _ _ _ _ _ (@ps_for _ _ _ _ _ _ _ _ PassesOwn.never rfl (@pi_list _ _ _ _ (@pv _ 2 _ _ (by rfl) (by first | exact vis0 rfl | exact vis1 rfl | exact vis2 rfl) (by decide) (by decide))) (@pg_name _ _ (4) _ sc_d_l_due.nd rfl (by first | exact Or.inl rfl | exact Or.inr rfl) (by first | exact Or.inl rfl | exact Or.inr rfl | assumption)) (@pss_one _ _ _ (@ps_set _ _ (3) _ _ _ _ sc_d_l_due.nd rfl (by first | exact Or.inl rfl | exact Or.inr rfl) (@pe_op _ _ _ _ _ _ _ _ op_mul (@pv _ 3 _ _ (by rfl) (by first | exact vis0 rfl | exact vis1 rfl | exact vis2 rfl) (by decide) (by decide)) (@pe_callB _ _ _ _ _ _ _ _ _ call_lenA rfl T.z_len boot_lenT (@pa_cons _ _ _ _ _ (@pv _ 1 _ _ (by rfl) (by first | exact vis0 rfl | exact vis1 rfl | exact vis2 rfl) (by decide) (by decide)) (@pa_nil _) (by rfl)) (by decide) (by decide) (by rfl) (by rfl))) (by rfl) (by first | exact Or.inl rfl | exact Or.inr rfl | assumption))) (by intro _ ; rfl)) (@pss_cons _ _ _ _ _ (@ps_set _ _ (5) _ _ _ _ sc_d_l_due.nd rfl (by first | exact Or.inl rfl | exact Or.inr rfl) (@pe_lst _ _ _ _ (@pa_nil _)) (by rfl) (by first | exact Or.inl rfl | exact Or.inr rfl | assumption)) (@pss_cons _ _ _ _ _ (@ps_for _ _ _ _ _ _ _ _ PassesOwn.never rfl (@pi_range1 _ _ _ _ _ _ rfl T.z_range (@pa_cons _ _ _ _ _ (@pv _ 3 _ _ (by rfl) (by first | exact vis0 rfl | exact vis1 rfl | exact vis2 rfl) (by decide) (by decide)) (@pa_nil _) (by rfl)) (by rfl)) (@pg_name _ _ (6) _ sc_d_l_due.nd rfl (by first | exact Or.inl rfl | exact Or.inr rfl) (by first | exact Or.inl rfl | exact Or.inr rfl | assumption)) (@pss_cons _ _ _ _ _ (@ps_set _ _ (7) _ _ _ _ sc_d_l_due.nd rfl (by first | exact Or.inl rfl | exact Or.inr rfl) (@pe_dnewK _ _) (by rfl) (by first | exact Or.inl rfl | exact Or.inr rfl | assumption)) (@pss_cons _ _ _ _ _ (@ps_set _ _ (8) _ _ _ _ sc_d_l_due.nd rfl (by first | exact Or.inl rfl | exact Or.inr rfl) (@pv _ 6 _ _ (by rfl) (by first | exact vis0 rfl | exact vis1 rfl | exact vis2 rfl) (by decide) (by decide)) (by rfl) (by first | exact Or.inl rfl | exact Or.inr rfl | assumption)) (@pss_cons _ _ _ _ _ (@ps_for _ _ _ _ _ _ _ _ PassesOwn.never rfl (@pi_rev _ _ _ _ _ _ rfl T.z_reversed (@pa_cons _ _ _ _ _ (@pv _ 2 _ _ (by rfl) (by first | exact vis0 rfl | exact vis1 rfl | exact vis2 rfl) (by decide) (by decide)) (@pa_nil _) (by rfl)) (by rfl)) (@pg_name _ _ (4) _ sc_d_l_due.nd rfl (by first | exact Or.inl rfl | exact Or.inr rfl) (by first | exact Or.inl rfl | exact Or.inr rfl | assumption)) (@pss_cons _ _ _ _ _ (@ps_dput _ _ _ _ _ _ _ _ _ (hu_of hr) (@pv _ 7 _ _ (by rfl) (by first | exact vis0 rfl | exact vis1 rfl | exact vis2 rfl) (by decide) (by decide)) (@pv _ 4 _ _ (by rfl) (by first | exact vis0 rfl | exact vis1 rfl | exact vis2 rfl) (by decide) (by decide)) (@pe_ix _ _ _ _ _ _ _ ix_seq (@pv _ 1 _ _ (by rfl) (by first | exact vis0 rfl | exact vis1 rfl | exact vis2 rfl) (by decide) (by decide)) (@pe_op _ _ _ _ _ _ _ _ op_mod (@pv _ 8 _ _ (by rfl) (by first | exact vis0 rfl | exact vis1 rfl | exact vis2 rfl) (by decide) (by decide)) (@pe_callB _ _ _ _ _ _ _ _ _ call_lenA rfl T.z_len boot_lenT (@pa_cons _ _ _ _ _ (@pv _ 1 _ _ (by rfl) (by first | exact vis0 rfl | exact vis1 rfl | exact vis2 rfl) (by decide) (by decide)) (@pa_nil _) (by rfl)) (by decide) (by decide) (by rfl) (by rfl))) (fun _ _ => rfl)) rfl) (@pss_one _ _ _ (@ps_set _ _ (8) _ _ _ _ sc_d_l_due.nd rfl (by first | exact Or.inl rfl | exact Or.inr rfl) (@pe_op _ _ _ _ _ _ _ _ op_fdiv (@pv _ 8 _ _ (by rfl) (by first | exact vis0 rfl | exact vis1 rfl | exact vis2 rfl) (by decide) (by decide)) (@pe_callB _ _ _ _ _ _ _ _ _ call_lenA rfl T.z_len boot_lenT (@pa_cons _ _ _ _ _ (@pv _ 1 _ _ (by rfl) (by first | exact vis0 rfl | exact vis1 rfl | exact vis2 rfl) (by decide) (by decide)) (@pa_nil _) (by rfl)) (by decide) (by decide) (by rfl) (by rfl))) (by rfl) (by first | exact Or.inl rfl | exact Or.inr rfl | assumption)))) (by intro _ ; rfl)) (@pss_one _ _ _ (@ps_expr _ _ _ _ (@pe_bm _ _ _ _ _ _ _ _ _ _ _ _ PySem.F.plainAttrs_list PySem.F.slot_list_append PySem.F.type_list_append mt_append (@pv _ 5 _ _ (by rfl) (by first | exact vis0 rfl | exact vis1 rfl | exact vis2 rfl) (by decide) (by decide)) (@pa_cons _ _ _ _ _ (@pe_comp _ _ _ _ _ _ _ _ _ _ _ _ _ (@compOk_of _ (defScope s_d_l_due) (n_d_l_due) (["_law_spec" , "_law_given"]) ([none , some 7]) _ rfl rfl (by decide +kernel)) rfl (@pi_list _ _ _ _ (@pv _ 0 _ _ (by rfl) (by first | exact vis0 rfl | exact vis1 rfl | exact vis2 rfl) (by decide) (by decide))) (fun _ _ _ _ _ => (@pg_name _ _ (0) _ (show List.Nodup (["_law_spec" , "_law_given"] : List Str) by decide +kernel) rfl (by first | exact Or.inl rfl | exact Or.inr rfl) (by first | exact Or.inl rfl | exact Or.inr rfl | assumption))) (fun _ _ _ _ _ => @pts_nil _) (fun _ _ _ _ _ => (@pe_call _ _ _ _ _ _ _ _ _ _ _ _ _ _ _ _ (ok_d_l_text T) (hr.mono (by decide)) rfl T.g_d_l_text T.F_d_l_text.kp T.b_d_l_text .nil pass0 (@pa_cons _ _ _ _ _ (@pv _ 0 _ _ (by rfl) (by first | exact vis0 rfl | exact vis1 rfl | exact vis2 rfl) (by decide) (by decide)) (@pa_cons _ _ _ _ _ (@pv _ 1 _ _ (by rfl) (by first | exact vis0 rfl | exact vis1 rfl | exact vis2 rfl) (by decide) (by decide)) (@pa_nil _) (by rfl)) (by rfl)) (by decide) (by rfl) (by rfl))) (by intro _ ; rfl)) (@pa_nil _) (by rfl)) (by rfl) (by rfl) (by rfl) (by rfl) (by rfl)) (by rfl)))))) (by intro _ ; rfl)) (@pss_one _ _ _ (@ps_ret _ _ _ _ (@pv _ 5 _ _ (by rfl) (by first | exact vis0 rfl | exact vis1 rfl | exact vis2 rfl) (by decide) (by decide))))))))), ?_⟩
    rw [show start n_d_l_due [V.ref a, V.ref Ta] = [some (V.ref a), some (V.ref Ta), none, none, none, none, none, none, none] from rfl]
    have hxl := hA.len
    have hcap := all_cap ss
    have hnd : (allL ss).Nodup := (all_inv (cs := (ss.map fun s => s.2.2).flatten) ss fun s hs p hp _ => List.mem_flatten.mpr ⟨s.2.2, List.mem_map.mpr ⟨s, hs, rfl⟩, hp⟩).2
    try simp only [tSeq, tAsg, tCall, tCons, tVar, List.getElem?_cons_zero, tNil, List.append_nil, gName, tC, List.set_cons_succ, List.set_cons_zero, tFor_eq, iList, List.getElem?_cons_succ, exSlot]
    refine ⟨a, xs, ss, rfl, ha, hA, hss, by omega, fun O H1 s1 hOn hO1 => ?_⟩
    generalize allL ss = ls at hal hcap hnd hO1 q
    try simp only [exRef]
    refine ⟨⟨_, SqL.of hO1⟩, ?_⟩
    have pw : ∀ i, i ≤ 3 → Th.length ^ i ≤ 512 := fun i hi => Nat.le_trans (Nat.pow_le_pow_left hTl.2 i) (Nat.le_trans (Nat.pow_le_pow_right (by decide) hi) (by decide))
    refine for_list (K := K) (a := O) (xs := pv' ls) (fun i σ H' => H1 = H' ∧ ∃ (x4 : Option V), σ = [some (V.ref a), some (V.ref Ta), some (V.ref O), some (V.int ((Th.length ^ i : Nat) : Int)), x4, none, none, none, none])
      ⟨rfl, _, rfl⟩ (fun i σ H' _ h => by obtain ⟨rfl, _⟩ := h; exact SqL.of hO1) ?_ ?_
    · rintro i v σ H' hi ⟨rfl, x4, rfl⟩
      have hil : i < ls.length := by simpa using (List.getElem?_eq_some_iff.mp hi).1
      try simp only [gName, tAsg, tOp, tVar, List.set_cons_succ, List.set_cons_zero, List.getElem?_cons_succ, List.getElem?_cons_zero, tCB, tCons, tNil, exSlot]
      refine rLenA_lst (SqL.of (s1 _ _ hTa)) ?_
      rw [List.length_map]
      try simp only [rI_int, CMul]
      exact ⟨.inr (by omega), (by trivial), some v, by rw [Nat.pow_succ, Int.natCast_mul]⟩
    rintro σ H' ⟨rfl, x4, rfl⟩
    rw [List.length_map]
    have hN := pw ls.length hal
    try simp only [tSeq, tAsg, tLst, tNil, gName, List.set_cons_succ, List.set_cons_zero, tFor_eq, iRng1, tCons, tVar, List.getElem?_cons_succ, List.getElem?_cons_zero, exSlot]
    refine ⟨by decide, fun Dd hDd => ⟨_, rfl, by omega, by omega, ?_⟩⟩
    rw [Int.toNat_natCast]
    obtain ⟨H2, e2, s2, h2⟩ := newO hDd (.lst []); rw [e2]
    have hDn : H Dd = none := none_of s1 hDd
    have hrl : ls.reverse.length = ls.length := List.length_reverse
    refine for_range (n := Th.length ^ ls.length) (lo := 0) (fun i σ H' => ∃ (ys : List V) (x4 x6 x7 x8 : Option V), σ = [some (V.ref a), some (V.ref Ta), some (V.ref O), some (V.int ((Th.length ^ ls.length : Nat) : Int)), x4, some (V.ref Dd), x6, x7, x8] ∧ Same H H' ∧ H' O = some (.lst (pv' ls)) ∧ H' Dd = some (.lst ys) ∧ ys.length = i ∧ ∀ (n : Nat) v, ys[n]? = some v → ∃ L, v = .ref L ∧ L ≠ Dd ∧ H' L = some (.lst (tv (ss.map (fillTF (lkf Th ls.reverse n))))))
      ⟨[], _, _, _, _, rfl, s1.trans s2, s2 _ _ hO1, h2, rfl, fun n v e => by simp at e⟩ ?_ ?_
    · rintro i σ H3 hi ⟨ys, x4, x6, x7, x8, rfl, s3, hO3, hD3, hyl, hys⟩
      have hOD : O ≠ Dd := ne_of_none hO1 hDd
      try simp only [gName, tSeq, tAsg, tDNewK, tVar, List.set_cons_succ, List.set_cons_zero, List.getElem?_cons_succ, List.getElem?_cons_zero, tFor_eq, iRev, tCons, tNil, exSlot]
      intro G hG
      obtain ⟨H4, e4, s4, h4⟩ := newO hG (.dK []); rw [e4]
      have hO4 := s4 _ _ hO3
      refine ⟨O, _, rfl, SqL.of hO4, ?_⟩
      have hGn : H G = none := none_of s3 hG
      refine for_rev (K := K) (a := O) (xs := pv' ls) (fun j σ H' => ∃ (gs : List (List Nat × List Nat)) (left : Nat) (x4 : Option V), σ = [some (V.ref a), some (V.ref Ta), some (V.ref O), some (V.int ((Th.length ^ ls.length : Nat) : Int)), x4, some (V.ref Dd), some (V.int (0 + (i : Int))), some (V.ref G), some (V.int (left : Int))] ∧ Same H3 H' ∧ H' G = some (.dK (gm gs)) ∧ Good gs ∧ gs.length ≤ j ∧ (∀ p, lkf Th ls.reverse i p = if p ∈ ls.reverse.take j then look gs p else lkf Th (ls.reverse.drop j) left p) ∧ ∀ p, p ∉ ls.reverse.take j → look gs p = none)
        ⟨[], i, _, by rw [Int.zero_add], s4, h4, (fun _ h => by cases h), Nat.le_refl _, fun p => by rw [if_neg (by simp)]; rfl, fun _ _ => rfl⟩ (fun j σ H' _ h => by obtain ⟨_, _, _, _, s, _⟩ := h; exact SqL.of (s _ _ hO3)) ?_ ?_
      · rintro j v σ H5 hj hv ⟨gs, left, y4, rfl, s5, hG5, hg, hgl, hk1, hk2⟩
        have hjl : j < ls.length := by simpa using hj
        have hjr : j < ls.reverse.length := by rw [hrl]; exact hjl
        have ev : v = sv ls.reverse[j] := by
          rw [List.length_map, List.getElem?_map, List.getElem?_eq_getElem (by omega)] at hv
          rw [List.getElem_reverse]
          exact (Option.some.inj hv).symm
        subst ev
        have hcj : IsCap ls.reverse[j] := hcap _ (List.mem_reverse.mp (List.getElem_mem hjr))
        have hT5 := s5 _ _ (s3 _ _ hTa)
        have hlt : left % Th.length < Th.length := Nat.mod_lt _ hTl.1
        have eat : atI (pv' Th) ((left : Int) % (Th.length : Int)) = some (sv Th[left % Th.length]) := by
          rw [← Int.natCast_emod]
          unfold atI ixN
          rw [if_pos (by omega), if_pos (by rw [List.length_map]; omega)]
          show (pv' Th)[((left % Th.length : Nat) : Int).toNat]? = _
          rw [Int.toNat_natCast, List.getElem?_map, List.getElem?_eq_getElem hlt]; rfl
        obtain ⟨st1, st2⟩ := lkf_step (show ls.reverse.Nodup from by unfold List.Nodup; rw [List.pairwise_reverse]; exact hnd.imp fun h => h.symm) hjr hTl.1 hk1 hk2
        try simp only [gName, tSeq, sDPut, tOp, tVar, List.set_cons_succ, List.set_cons_zero, List.getElem?_cons_succ, List.getElem?_cons_zero, tCB, tCons, tNil, tAsg, exSlot]
        refine rLenA_lst (SqL.of hT5) ?_
        rw [List.length_map]
        try simp only [rI_int]
        refine ⟨by omega, rIx_lst (SqL.of hT5) eat ?_⟩
        have hput := DPut.k (k := (Sum.inr (mk ls.reverse[j]) : Key)) (v := sv Th[left % Th.length]) hG5 (Nat.lt_of_le_of_lt (show (gm gs).length ≤ 1000 by unfold gm; rw [List.length_map]; omega) (by decide))
        rw [put_gm] at hput
        refine ⟨G, _, rfl, hput, ?_⟩
        obtain ⟨H6, e6, s6, h6⟩ : ∃ H6, upd H5 G (.dK (gm (putG gs ls.reverse[j] Th[left % Th.length]))) = H6 ∧ Same H3 H6 ∧ H6 G = some (.dK (gm (putG gs ls.reverse[j] Th[left % Th.length]))) := ⟨_, rfl, fun c o e => by rw [upd_ne (ne_of_none e hG)]; exact s5 _ _ e, upd_same⟩
        rw [e6]
        refine rLenA_lst (SqL.of (s6 _ _ (s3 _ _ hTa))) ?_
        rw [List.length_map]
        try simp only [rI_int, CDiv]
        refine ⟨⟨by omega, by omega⟩, _, left / Th.length, _, by rw [Int.natCast_ediv], s6, h6, put_good hg hcj (hTw _ (List.getElem_mem hlt)), by have := put_len gs ls.reverse[j] Th[left % Th.length]; omega, st1, st2⟩
      · rintro σ H5 ⟨gs, left, y4, rfl, s5, hG5, hg, hgl, hk1, hk2⟩
        rw [show (pv' ls).length = ls.reverse.length by rw [List.length_map, hrl]] at hk1 hk2
        have hlk := lkf_end hk1 hk2
        have ef : fillT gs = fillTF (lkf Th ls.reverse i) := by funext s; exact fill_look hlk s
        have hD5 := s5 _ _ hD3
        have ha5 := s5 _ _ (s3 _ _ ha)
        have hA5 := hA.same (s3.trans s5)
        try simp only [tDrop, tBM, tVar, List.getElem?_cons_succ, List.getElem?_cons_zero, tCons, tNil, tComp_eq, iList, exSlot, exRef]
        refine ⟨.inl ⟨rfl, _, SqL.of hD5⟩, ⟨_, SqL.of ha5⟩, ?_⟩
        refine comp_1 (src_list (xs := xs)) (Nat.le_trans (show xs.length ≤ 1000 by omega) (by decide)) [some (V.ref G)] rfl (fun k v => ∃ hk : k < (ss.map (fillTF (lkf Th ls.reverse i))).length, v = sv (stat (ss.map (fillTF (lkf Th ls.reverse i)))[k])) (fun H' s => SqL.of (s _ _ ha5)) (fun k H' R hk s hR => ?_) (fun L H6 us hLn s6 hL6 hul huv => ?_)
        · obtain ⟨hk', p, e, hp, hT⟩ := shown_all hA5 hss hk
          rw [e]
          try simp only [tCall, tCons, tVar, List.getElem?_cons_zero, List.getElem?_cons_succ, tNil, List.append_nil, exSlot]
          refine ⟨p, G, ss[k], gs, rfl, hp.same s, hT, hg, s _ _ hG5, fun H7 s7 => ?_⟩
          refine hR _ _ s7 ⟨by rw [List.length_map]; exact hk', ?_⟩
          rw [List.getElem_map, ef]
        have eu := tv_of (by rw [hul, List.length_map]; exact hxl) huv
        subst eu
        have hD6 := s6 _ _ hD5
        have hLD : L ≠ Dd := fun z => by rw [z, hD5] at hLn; cases hLn
        refine ⟨Dd, _, _, rfl, rfl, hD6, Nat.lt_of_le_of_lt (show ys.length ≤ 1000 by omega) (by decide), ?_⟩
        have up : ∀ c o, c ≠ Dd → H6 c = some o → upd H6 Dd (.lst (ys ++ [V.ref L])) c = some o := fun c o hc e => by rw [upd_ne hc]; exact e
        have s36 := s5.trans s6
        refine ⟨ys ++ [V.ref L], _, _, _, _, rfl, fun c o e => up _ _ (ne_of_none e hDn) (s36 _ _ (s3 _ _ e)), up _ _ hOD (s36 _ _ hO3), upd_same, by simp [hyl], fun n v e => ?_⟩
        by_cases hn : n < ys.length
        · rw [List.getElem?_append_left hn] at e
          obtain ⟨L', ev, n1, g1⟩ := hys n v e
          exact ⟨L', ev, n1, up _ _ n1 (s36 _ _ g1)⟩
        · have hn2 := (List.getElem?_eq_some_iff.mp e).1
          have en : n = ys.length := by simp at hn2; omega
          subst en
          rw [List.getElem?_append_right (Nat.le_refl _), Nat.sub_self] at e
          cases e
          exact ⟨L, rfl, hLD, up _ _ hLD (by rw [hyl]; exact hL6)⟩
    · rintro σ H3 ⟨ys, x4, x6, x7, x8, rfl, s3, hO3, hD3, hyl, hys⟩
      try simp only [tRet, tVar, List.getElem?_cons_succ, List.getElem?_cons_zero, exSlot]
      refine q Dd ys H3 s3 hDn hD3 hyl fun n v e => ?_
      obtain ⟨L, ev, _, g⟩ := hys n v e
      exact ⟨L, ev, g⟩
end
end K21
namespace K21
open PySem L2 Tx

section
variable {P : Program} {w : World} {K : PySem.W.Frag} {mg : Str → Option Value} {base : Heap} {t : Adr}
theorem ok_d_l_good (T : Txt K mg t) : FnOk P w K mg base CX0 1 t.f_d_l_good t.fd_d_l_good ["_law_found", "_law_kind", "_law_label", "_law_due_here"] (spGood21 t) := by
  refine T.F_d_l_good.ok sc_d_l_good (fun vs H Q E h => ?_) (fun cdv A outer s H vs Q E hr h => ?_)
  · obtain ⟨F, D, kind, lb, xs, ys, rfl, hk, hF, hD, hxl, hP, q⟩ := h; rfl
  · obtain ⟨F, D, kind, lb, xs, ys, rfl, hk, hF, hD, hxl, hP, q⟩ := h
    refine ⟨_, (@pss_mid _ _ _ _ _ (@ps_if _ _ _ _ _ _ _ _ (@PW.pt _ _ _ (@pw_or _ _ _ _ _ _ _ (@pt_not _ _ _ _ (@pt_val _ _ _ (@pe_callB _ _ _ _ _ _ _ _ _ call_isinst rfl T.z_isinstance boot_isinstanceT (@pa_cons _ _ _ _ _ (@pv _ 0 _ _ (by rfl) (by first | exact vis0 rfl | exact vis1 rfl | exact vis2 rfl) (by decide) (by decide)) (@pa_cons _ _ _ _ _ (@pe_bltn _ _ (.ty "list") _ _ rfl T.z_list boot_listT rfl (by decide) (by decide)) (@pa_nil _) (by rfl)) (by rfl)) (by decide) (by decide) (by rfl) (by rfl)) (by intro _ ; rfl))) (@pw_or1 _ _ _ _ (@pt_cmpR _ _ _ _ _ _ _ _ (op_neH hr.units) (@pe_callB _ _ _ _ _ _ _ _ _ call_lenA rfl T.z_len boot_lenT (@pa_cons _ _ _ _ _ (@pv _ 0 _ _ (by rfl) (by first | exact vis0 rfl | exact vis1 rfl | exact vis2 rfl) (by decide) (by decide)) (@pa_nil _) (by rfl)) (by decide) (by decide) (by rfl) (by rfl)) (@pe_callB _ _ _ _ _ _ _ _ _ call_lenA rfl T.z_len boot_lenT (@pa_cons _ _ _ _ _ (@pv _ 3 _ _ (by rfl) (by first | exact vis0 rfl | exact vis1 rfl | exact vis2 rfl) (by decide) (by decide)) (@pa_nil _) (by rfl)) (by decide) (by decide) (by rfl) (by rfl)) (nomark _))))) (@pss_one _ _ _ (@ps_ret _ _ _ _ (@pe_bl _ _ _ _))) (@pss_nil _)) (@pss_cons _ _ _ _ _ (@ps_for _ _ _ _ _ _ _ _ PassesOwn.never rfl (@pi_zip _ _ _ _ _ _ _ _ _ rfl T.z_zip (@pa_cons _ _ _ _ _ (@pv _ 0 _ _ (by rfl) (by first | exact vis0 rfl | exact vis1 rfl | exact vis2 rfl) (by decide) (by decide)) (@pa_cons _ _ _ _ _ (@pv _ 3 _ _ (by rfl) (by first | exact vis0 rfl | exact vis1 rfl | exact vis2 rfl) (by decide) (by decide)) (@pa_nil _) (by rfl)) (by rfl)) (by rfl) (by rfl)) (@pg_tup _ _ _ _ _ _ rfl (@pgs_cons _ _ _ _ _ (@pg_name _ _ (4) _ sc_d_l_good.nd rfl (by first | exact Or.inl rfl | exact Or.inr rfl) (by first | exact Or.inl rfl | exact Or.inr rfl | assumption)) (@pgs_cons _ _ _ _ _ (@pg_name _ _ (5) _ sc_d_l_good.nd rfl (by first | exact Or.inl rfl | exact Or.inr rfl) (by first | exact Or.inl rfl | exact Or.inr rfl | assumption)) (@pgs_nil _) (by rfl)) (by rfl)) (by rfl) (by rfl)) (@pss_cons _ _ _ _ _ (@ps_set _ _ (6) _ _ _ _ sc_d_l_good.nd rfl (by first | exact Or.inl rfl | exact Or.inr rfl) (@pe_lst _ _ _ _ (@pa_cons _ _ _ _ _ (@pe_callB _ _ _ _ _ _ _ _ _ call_isinst rfl T.z_isinstance boot_isinstanceT (@pa_cons _ _ _ _ _ (@pv _ 4 _ _ (by rfl) (by first | exact vis0 rfl | exact vis1 rfl | exact vis2 rfl) (by decide) (by decide)) (@pa_cons _ _ _ _ _ (@pe_glob _ _ (.ref t.C_Sure) _ _ rfl T.g_Sure rfl (by decide)) (@pa_nil _) (by rfl)) (by rfl)) (by decide) (by decide) (by rfl) (by rfl)) (@pa_cons _ _ _ _ _ (@pe_callB _ _ _ _ _ _ _ _ _ call_isinst rfl T.z_isinstance boot_isinstanceT (@pa_cons _ _ _ _ _ (@pv _ 4 _ _ (by rfl) (by first | exact vis0 rfl | exact vis1 rfl | exact vis2 rfl) (by decide) (by decide)) (@pa_cons _ _ _ _ _ (@pe_glob _ _ (.ref t.C_Most) _ _ rfl T.g_Most rfl (by decide)) (@pa_nil _) (by rfl)) (by rfl)) (by decide) (by decide) (by rfl) (by rfl)) (@pa_cons _ _ _ _ _ (@pe_callB _ _ _ _ _ _ _ _ _ call_isinst rfl T.z_isinstance boot_isinstanceT (@pa_cons _ _ _ _ _ (@pv _ 4 _ _ (by rfl) (by first | exact vis0 rfl | exact vis1 rfl | exact vis2 rfl) (by decide) (by decide)) (@pa_cons _ _ _ _ _ (@pe_glob _ _ (.ref t.C_Block) _ _ rfl T.g_Block rfl (by decide)) (@pa_nil _) (by rfl)) (by rfl)) (by decide) (by decide) (by rfl) (by rfl)) (@pa_cons _ _ _ _ _ (@pe_callB _ _ _ _ _ _ _ _ _ call_isinst rfl T.z_isinstance boot_isinstanceT (@pa_cons _ _ _ _ _ (@pv _ 4 _ _ (by rfl) (by first | exact vis0 rfl | exact vis1 rfl | exact vis2 rfl) (by decide) (by decide)) (@pa_cons _ _ _ _ _ (@pe_glob _ _ (.ref t.C_Fact) _ _ rfl T.g_Fact rfl (by decide)) (@pa_nil _) (by rfl)) (by rfl)) (by decide) (by decide) (by rfl) (by rfl)) (@pa_nil _) (by rfl)) (by rfl)) (by rfl)) (by rfl))) (by rfl) (by first | exact Or.inl rfl | exact Or.inr rfl | assumption)) (@pss_mid _ _ _ _ _ (@ps_if _ _ _ _ _ _ _ _ (@PW.pt _ _ _ (@pw_or _ _ _ _ _ _ _ (@pt_cmpR _ _ _ _ _ _ _ _ (op_neH hr.units) (@pv _ 6 _ _ (by rfl) (by first | exact vis0 rfl | exact vis1 rfl | exact vis2 rfl) (by decide) (by decide)) (@pe_comp _ _ _ _ _ _ _ _ _ _ _ _ _ (@compOk_of _ (defScope s_d_l_good) (n_d_l_good) (["_law_k" , "_law_kind"]) ([none , some 1]) _ rfl rfl (by decide +kernel)) rfl (@pi_range1 _ _ _ _ _ _ rfl T.z_range (@pa_cons _ _ _ _ _ (@pe_int _ _ _ _) (@pa_nil _) (by rfl)) (by rfl)) (fun _ _ _ _ _ => (@pg_name _ _ (0) _ (show List.Nodup (["_law_k" , "_law_kind"] : List Str) by decide +kernel) rfl (by first | exact Or.inl rfl | exact Or.inr rfl) (by first | exact Or.inl rfl | exact Or.inr rfl | assumption))) (fun _ _ _ _ _ => @pts_nil _) (fun _ _ _ _ _ => (@pe_cmpR _ _ _ _ _ _ _ _ (op_eqK hr.units (K := K) rfl) (@pv _ 0 _ _ (by rfl) (by first | exact vis0 rfl | exact vis1 rfl | exact vis2 rfl) (by decide) (by decide)) (@pv _ 1 _ _ (by rfl) (by first | exact vis0 rfl | exact vis1 rfl | exact vis2 rfl) (by decide) (by decide)) (nomark _))) (by intro _ ; rfl)) (nomark _)) (@pw_or1 _ _ _ _ (@pt_cmpR _ _ _ _ _ _ _ _ (op_neH hr.units) (@pe_fld _ _ _ _ _ (@pv _ 4 _ _ (by rfl) (by first | exact vis0 rfl | exact vis1 rfl | exact vis2 rfl) (by decide) (by decide)) rfl) (@pv _ 2 _ _ (by rfl) (by first | exact vis0 rfl | exact vis1 rfl | exact vis2 rfl) (by decide) (by decide)) (nomark _))))) (@pss_one _ _ _ (@ps_ret _ _ _ _ (@pe_bl _ _ _ _))) (@pss_nil _)) (@pss_one _ _ _ (@ps_if _ _ _ _ _ _ _ _ (@PW.pt _ _ _ (@pw_or _ _ _ _ _ _ _ (@pt_cmpR _ _ _ _ _ _ _ _ (op_neH hr.units) (@pe_fld _ _ _ _ _ (@pv _ 4 _ _ (by rfl) (by first | exact vis0 rfl | exact vis1 rfl | exact vis2 rfl) (by decide) (by decide)) rfl) (@pe_ix _ _ _ _ _ _ _ ix_seq (@pv _ 5 _ _ (by rfl) (by first | exact vis0 rfl | exact vis1 rfl | exact vis2 rfl) (by decide) (by decide)) (@pe_int _ _ _ _) (fun _ _ => rfl)) (nomark _)) (@pw_or _ _ _ _ _ _ _ (@pt_not _ _ _ _ (@pt_val _ _ _ (@pe_callB _ _ _ _ _ _ _ _ _ call_isinst rfl T.z_isinstance boot_isinstanceT (@pa_cons _ _ _ _ _ (@pe_fld _ _ _ _ _ (@pv _ 4 _ _ (by rfl) (by first | exact vis0 rfl | exact vis1 rfl | exact vis2 rfl) (by decide) (by decide)) rfl) (@pa_cons _ _ _ _ _ (@pe_bltn _ _ (.ty "tuple") _ _ rfl T.z_tuple boot_tupleT rfl (by decide) (by decide)) (@pa_nil _) (by rfl)) (by rfl)) (by decide) (by decide) (by rfl) (by rfl)) (by intro _ ; rfl))) (@pw_or1 _ _ _ _ (@pt_cmpR _ _ _ _ _ _ _ _ (op_neH hr.units) (@pe_callTy _ _ _ _ _ _ _ _ _ call_listOf rfl T.z_list boot_listT (@pa_cons _ _ _ _ _ (@pe_fld _ _ _ _ _ (@pv _ 4 _ _ (by rfl) (by first | exact vis0 rfl | exact vis1 rfl | exact vis2 rfl) (by decide) (by decide)) rfl) (@pa_nil _) (by rfl)) (by decide) (by decide) (by rfl) (by rfl)) (@pe_slice _ _ _ _ _ _ _ _ _ _ sl_any (@pv _ 5 _ _ (by rfl) (by first | exact vis0 rfl | exact vis1 rfl | exact vis2 rfl) (by decide) (by decide)) (@po_some _ _ _ (@pe_int _ _ _ _)) (@po_none _)) (nomark _)))))) (@pss_one _ _ _ (@ps_ret _ _ _ _ (@pe_bl _ _ _ _))) (@pss_nil _))))) (by intro _ ; rfl)) (@pss_one _ _ _ (@ps_ret _ _ _ _ (@pe_bl _ _ _ _))))), ?_⟩
    rw [show start n_d_l_good [V.ref F, V.int kind, sv lb, V.ref D] = [some (V.ref F), some (V.int kind), some (sv lb), some (V.ref D), none, none, none] from rfl]
    have hck : (kind + 1) % 4 < 4 := Nat.mod_lt _ (by decide)
    have CF := clsF T hck
    try simp only []
    refine ⟨fun σ' H' => σ' = [some (V.ref F), some (V.int kind), some (sv lb), some (V.ref D), none, none, none] ∧ H' = H, ?_, ?_⟩
    · try simp only [tIfS, tOr, tNot, tB, tCB, tCons, tVar, List.getElem?_cons_zero, tC, tNil, Bool.not_eq_true', tRet, tNext, tTest, tOp, List.getElem?_cons_succ, exSlot]
      refine rIsi_lst hF ?_
      try simp only [exBl, ite_tf]
      refine rLenA_lst (SqL.of hF) (rLenA_lst (SqL.of hD) ?_)
      try simp only [rNeH_int, exBl, Bool.not_eq_true', decide_eq_false_iff_not]
      refine ite2 (fun c => absurd (by rw [hP.1]) c) (fun _ => ⟨(by trivial), (by trivial)⟩)
    rintro σ' H' ⟨rfl, rfl⟩
    try simp only [tSeq, tFor_eq, iZip, tCons, tVar, List.getElem?_cons_zero, List.getElem?_cons_succ, tNil, exSlot]
    refine ⟨F, D, rfl, ⟨_, SqL.of hF⟩, ⟨_, SqL.of hD⟩, ?_⟩
    have k0 : PySem.W.kitOne K (.ref (clsOf t ((kind + 1) % 4))) (.ref t.C_Sure) = some (decide (kind = 0)) := by
      match kind, hk with
      | 0, _ => exact T.ki_Sure_Sure
      | 1, _ => exact T.ki_Most_Sure
      | 2, _ => exact T.ki_Block_Sure
      | 3, _ => exact T.ki_Fact_Sure
    have k1 : PySem.W.kitOne K (.ref (clsOf t ((kind + 1) % 4))) (.ref t.C_Most) = some (decide (kind = 1)) := by
      match kind, hk with
      | 0, _ => exact T.ki_Sure_Most
      | 1, _ => exact T.ki_Most_Most
      | 2, _ => exact T.ki_Block_Most
      | 3, _ => exact T.ki_Fact_Most
    have k2 : PySem.W.kitOne K (.ref (clsOf t ((kind + 1) % 4))) (.ref t.C_Block) = some (decide (kind = 2)) := by
      match kind, hk with
      | 0, _ => exact T.ki_Sure_Block
      | 1, _ => exact T.ki_Most_Block
      | 2, _ => exact T.ki_Block_Block
      | 3, _ => exact T.ki_Fact_Block
    have k3 : PySem.W.kitOne K (.ref (clsOf t ((kind + 1) % 4))) (.ref t.C_Fact) = some (decide (kind = 3)) := by
      match kind, hk with
      | 0, _ => exact T.ki_Sure_Fact
      | 1, _ => exact T.ki_Most_Fact
      | 2, _ => exact T.ki_Block_Fact
      | 3, _ => exact T.ki_Fact_Fact
    have ekb : [V.bl (decide (kind = 0)), V.bl (decide (kind = 1)), V.bl (decide (kind = 2)), V.bl (decide (kind = 3))] = ((List.range 4).map fun (k : Nat) => decide ((0 : Int) + (k : Int) = (kind : Int))).map V.bl := by
      match kind, hk with
      | 0, _ => rfl
      | 1, _ => rfl
      | 2, _ => rfl
      | 3, _ => rfl
    refine for_zip (K := K) (a := F) (b := D) (xs := xs) (ys := ys) (fun i σ H2 => ∃ (x4 x5 x6 : Option V), σ = [some (V.ref F), some (V.int kind), some (sv lb), some (V.ref D), x4, x5, x6] ∧ Same H' H2) hP.1 ⟨_, _, _, rfl, Same.refl _⟩ (fun i σ H2 _ h => by obtain ⟨_, _, _, _, s⟩ := h; exact ⟨SqL.of (s _ _ hF), SqL.of (s _ _ hD)⟩) ?_ ?_
    · rintro i x y σ H2 p hx hy ⟨x4, x5, x6, rfl, s2⟩ hp
      obtain ⟨r, L, s0, ss, rfl, rfl, hR, hL, hT, hsl⟩ := (hP.same s2).2 i x y hx hy
      obtain ⟨H3, e3, s3, h3⟩ := newO hp (.tup [V.ref r, V.ref L]); rw [e3]
      obtain ⟨dx, t0, hr3, ht3⟩ := hR.same s3
      have hL3 := s3 _ _ hL
      try simp only [gTup, gCons, gName, gNil, tSeq, tAsg, tLst, tCons, tCB, tVar, List.set_cons_succ, List.set_cons_zero, List.getElem?_cons_succ, List.getElem?_cons_zero, tC, tNil, exSlot]
      refine ⟨p, _, rfl, SqT.of h3, rfl, _, _, rfl, _, _, rfl, rfl, ?_⟩
      try skip
      refine rIsi_ins hr3 CF.cl CF.ty k0 (rIsi_ins hr3 CF.cl CF.ty k1 (rIsi_ins hr3 CF.cl CF.ty k2 (rIsi_ins hr3 CF.cl CF.ty k3 ⟨by simp only [List.length_cons, List.length_nil]; decide, fun p4 hp4 => ?_⟩)))
      rw [ekb]
      obtain ⟨H4, e4, s4, h4⟩ := newO hp4 (.lst (((List.range 4).map fun (k : Nat) => decide ((0 : Int) + (k : Int) = (kind : Int))).map V.bl)); rw [e4]
      refine ⟨fun σ' H5 => σ' = [some (V.ref F), some (V.int kind), some (sv lb), some (V.ref D), some (V.ref r), some (V.ref L), some (V.ref p4)] ∧ Same H4 H5, ?_, ?_⟩
      · try simp only [tIfS, tOr, tTest, tOp, tVar, List.getElem?_cons_succ, List.getElem?_cons_zero, tRet, tC, tNext, tFld, exSlot, tComp_eq, iRng1, tCons, tNil]
        refine ⟨4, rfl, by decide, by decide, ?_⟩
        refine comp_1 src_range (Nat.le_trans (show (4 : Int).toNat ≤ 1000 by decide) (by decide)) [some (V.int kind)] rfl (fun i v => v = .bl (decide ((0 : Int) + (i : Int) = (kind : Int)))) (fun _ _ => trivial) (fun i H' R hi s hR' => ?_) (fun G H5 zs hGn s5 hG hl5 hv5 => ?_)
        · try simp only [tOp, tVar, List.getElem?_cons_zero, List.getElem?_cons_succ, exSlot, rEqH_int]
          exact hR' _ _ (Same.refl _) rfl
        have ezs : zs = ((List.range 4).map fun (k : Nat) => decide ((0 : Int) + (k : Int) = (kind : Int))).map V.bl := by
          refine List.ext_getElem? fun i => ?_
          rw [List.getElem?_map, List.getElem?_map]
          by_cases hi : i < zs.length
          · have hi4 : i < 4 := by rw [hl5] at hi; exact hi
            rw [List.getElem?_eq_getElem hi, hv5 i _ (List.getElem?_eq_getElem hi), List.getElem?_range hi4]; rfl
          · have hi4 : ¬ i < 4 := by rw [hl5] at hi; exact hi
            rw [List.getElem?_eq_none (by omega), List.getElem?_eq_none (by simp; omega)]; rfl
        subst ezs
        refine rNeD_same (d := .list (((List.range 4).map fun (k : Nat) => decide ((0 : Int) + (k : Int) = (kind : Int))).map PyData.bool)) (.lst (SqL.of (s5 _ _ h4)) (denBls _)) (.lst (SqL.of hG) (denBls _)) (shapedB _) ?_
        try simp only [exBl, ite_ft]
        refine ⟨r, _, dx, _, _, rfl, s5 _ _ (s4 _ _ hr3), CF.cl, CF.nl, flds_label _ _ _, ?_⟩
        try simp only [rNeH_str, decide_true, exBl, Bool.not_eq_true', ite_tf]
        try rw [if_neg (by simp)]
        exact ⟨(by trivial), s5⟩
      rintro σ' H5 ⟨rfl, s5⟩
      have hr5 := s5 _ _ (s4 _ _ hr3)
      have ht5 := s5 _ _ (s4 _ _ ht3)
      have hL5 := s5 _ _ (s4 _ _ hL3)
      try simp only [tIfS, tOr, tTest, tOp, tFld, tVar, List.getElem?_cons_succ, List.getElem?_cons_zero, tC, tRet, tNext, tNot, tB, tCB, tCons, tNil, Bool.not_eq_true', tSl, tPart, tNoPart, exInt, exSlot]
      refine ⟨r, _, dx, _, _, rfl, hr5, CF.cl, CF.nh, flds_head _ _ _, ?_⟩
      refine rIx_lst (SqL.of hL5) at_zero ?_
      try simp only [rNeH_str, decide_true, exBl, Bool.not_eq_true', ite_tf]
      try rw [if_neg (by simp)]
      refine ⟨r, _, dx, _, _, rfl, hr5, CF.cl, CF.nb, flds_body _ _ _, ?_⟩
      refine rIsi_tup ht5 ?_
      try simp only [exBl, ite_tf]
      refine ⟨r, _, dx, _, _, rfl, hr5, CF.cl, CF.nb, flds_body _ _ _, ?_⟩
      try skip
      refine ⟨t0, _, rfl, .inr (SqT.of ht5), fun l1 hl1 => ?_⟩
      obtain ⟨H6, e6, s6, h6⟩ := newO hl1 (.lst (tv ss)); rw [e6]
      try skip
      refine .inr (.inl ⟨L, _, rfl, SqL.of (s6 _ _ hL5), fun l2 hl2 => ?_⟩)
      rw [cut_one]
      obtain ⟨H7, e7, s7, h7⟩ := newO hl2 (.lst (tv ss)); rw [e7]
      refine rNeD_same (denS (SqL.of (s7 _ _ h6))) (denS (SqL.of h7)) (shapedS fun s hs => hT s (List.mem_cons_of_mem _ hs)) ?_
      try simp only [exBl, ite_ft]
      exact ⟨_, _, _, rfl, ((((s2.trans s3).trans s4).trans s5).trans s6).trans s7⟩
    · rintro σ H2 ⟨x4, x5, x6, rfl, s2⟩
      try simp only [tRet, tC]
      exact q _ s2
end
end K21
namespace K21
open PySem L2 Tx

section
variable {P : Program} {w : World} {K : PySem.W.Frag} {mg : Str → Option Value} {base : Heap} {t : Adr}
theorem ok_c_Rule_init (T : Txt K mg t) : FnOk P w K mg base CX0 1 t.f_c_Rule_init t.fd_c_Rule_init ["self", "label", "head", "body"] (spInit K) := by
  refine T.F_c_Rule_init.ok sc_c_Rule_init (fun vs H Q E h => ?_) (fun cdv A outer s H vs Q E hr h => ?_)
  · obtain ⟨x, C, dx, lb, hd, b, bs, rfl, hx, hC, hb, q⟩ := h; rfl
  · obtain ⟨x, C, dx, lb, hd, b, bs, rfl, hx, hC, hb, q⟩ := h
    refine ⟨_, (@pss_cons _ _ _ _ _ (@ps_fld _ _ _ _ _ _ _ _ (@pv _ 0 _ _ (by rfl) (by first | exact vis0 rfl | exact vis1 rfl | exact vis2 rfl) (by decide) (by decide)) (@pv _ 1 _ _ (by rfl) (by first | exact vis0 rfl | exact vis1 rfl | exact vis2 rfl) (by decide) (by decide)) rfl) (@pss_cons _ _ _ _ _ (@ps_fld _ _ _ _ _ _ _ _ (@pv _ 0 _ _ (by rfl) (by first | exact vis0 rfl | exact vis1 rfl | exact vis2 rfl) (by decide) (by decide)) (@pv _ 2 _ _ (by rfl) (by first | exact vis0 rfl | exact vis1 rfl | exact vis2 rfl) (by decide) (by decide)) rfl) (@pss_one _ _ _ (@ps_fld _ _ _ _ _ _ _ _ (@pv _ 0 _ _ (by rfl) (by first | exact vis0 rfl | exact vis1 rfl | exact vis2 rfl) (by decide) (by decide)) (@pe_callTy _ _ _ _ _ _ _ _ _ call_tupOf rfl T.z_tuple boot_tupleT (@pa_cons _ _ _ _ _ (@pv _ 3 _ _ (by rfl) (by first | exact vis0 rfl | exact vis1 rfl | exact vis2 rfl) (by decide) (by decide)) (@pa_nil _) (by rfl)) (by decide) (by decide) (by rfl) (by rfl)) rfl)))), ?_⟩
    rw [show start n_c_Rule_init [V.ref x, lb, hd, V.ref b] = [some (V.ref x), some (lb), some (hd), some (V.ref b)] from rfl]
    obtain ⟨cl, n1, n2, n3⟩ := hC
    try simp only [tSeq, sFld, tVar, List.getElem?_cons_succ, List.getElem?_cons_zero, tCB, tCons, tNil, exSlot]
    have cut : ∀ (H0 : Hp), (∀ c o, H c = some o → c ≠ x → H0 c = some o) → H0 x = some (.ins C dx (putF "head" hd (putF "label" lb []))) → ∀ t, H0 t = some (.tup bs) → t ≠ x → (∀ c o, H c = some o → c ≠ x → upd H0 x (.ins C dx (flds lb hd t)) c = some o) ∧ RuleAt (upd H0 x (.ins C dx (flds lb hd t))) x C lb hd bs := fun H0 k0 h0 t ht htx =>
      ⟨fun c o e hc => by rw [upd_ne hc]; exact k0 c o e hc, dx, t, upd_same, by rw [upd_ne htx]; exact ht⟩
    refine ⟨x, C, dx, _, rfl, hx, cl, n1, by show 0 < 1000; decide, x, C, dx, _, rfl, upd_same, cl, n2, by show 1 < 1000; decide, ?_⟩
    rw [upd_upd]
    obtain ⟨H1, e1, k1, h1⟩ : ∃ H', upd H x (.ins C dx (putF "head" hd (putF "label" lb []))) = H' ∧ (∀ c o, H c = some o → c ≠ x → H' c = some o) ∧ H' x = some (.ins C dx (putF "head" hd (putF "label" lb []))) := ⟨_, rfl, fun c o e hc => by rw [upd_ne hc]; exact e, upd_same⟩
    rw [e1]
    have hlen : (putF "head" hd (putF "label" lb [])).length < 1000 := by
      rw [show putF "head" hd (putF "label" lb []) = ([("label", lb), ("head", hd)] : List (Str × V)) from by
        show (if ("label" : Str) = "head" then _ else _) = _
        rw [if_neg (by decide +kernel)]; rfl]
      show 2 < 1000; decide
    rcases hb with hb | ⟨hb, hb'⟩
    · have hb1 : SqL K H1 b bs := by
        rcases hb with (hb | ⟨o, hb⟩) | hb
        · exact .inl (.inl (k1 _ _ hb (ne_of hb hx (by intro z; cases z))))
        · exact .inl (.inr ⟨o, k1 _ _ hb (ne_of hb hx (by intro z; cases z))⟩)
        · exact .inr hb
      refine ⟨b, bs, rfl, .inl ⟨hb1, fun t ht => ?_⟩⟩
      have htx : t ≠ x := fun z => by rw [z, h1] at ht; cases ht
      obtain ⟨H2, e2, s2, h2⟩ := newO ht (.tup bs); rw [e2]
      obtain ⟨a1, a2⟩ := cut H2 (fun c o e hc => s2 _ _ (k1 c o e hc)) (s2 _ _ h1) t h2 htx
      exact ⟨x, C, dx, _, rfl, s2 _ _ h1, cl, n3, hlen, q _ a1 a2⟩
    · have hbx : b ≠ x := ne_of hb' hx (by intro z; cases z)
      have hb1 := k1 _ _ hb' hbx
      refine ⟨b, bs, rfl, .inr ⟨SqT.of hb1, ?_⟩⟩
      obtain ⟨a1, a2⟩ := cut H1 k1 h1 b hb1 hbx
      exact ⟨x, C, dx, _, rfl, h1, cl, n3, hlen, q _ a1 a2⟩
end
end K21
namespace K21
open PySem L2 Tx

section
variable {P : Program} {w : World} {K : PySem.W.Frag} {mg : Str → Option Value} {base : Heap} {t : Adr}
theorem ok_c_Fact_init (T : Txt K mg t) : FnOk P w K mg base CX0 2 t.f_c_Fact_init t.fd_c_Fact_init ["self", "head"] (spFactI K t.C_Fact) := by
  refine T.F_c_Fact_init.ok sc_c_Fact_init (fun vs H Q E h => ?_) (fun cdv A outer s H vs Q E hr h => ?_)
  · obtain ⟨x, dx, hd, rfl, hx, q⟩ := h; rfl
  · obtain ⟨x, dx, hd, rfl, hx, q⟩ := h
    refine ⟨_, (@pss_one _ _ _ (@ps_expr _ _ _ _ (@pe_cmeth _ _ _ _ _ _ _ _ _ _ _ _ _ _ _ _ _ _ _ _ (@pe_glob _ _ (.ref t.C_Rule) _ _ rfl T.g_Rule rfl (by decide)) T.cm_Rule (ok_c_Rule_init T) (hr.mono (by decide)) T.b_c_Rule_init .nil pass0 (@pa_cons _ _ _ _ _ (@pv _ 0 _ _ (by rfl) (by first | exact vis0 rfl | exact vis1 rfl | exact vis2 rfl) (by decide) (by decide)) (@pa_cons _ _ _ _ _ (@pe_str _ _ _ _) (@pa_cons _ _ _ _ _ (@pv _ 1 _ _ (by rfl) (by first | exact vis0 rfl | exact vis1 rfl | exact vis2 rfl) (by decide) (by decide)) (@pa_cons _ _ _ _ _ (@pe_tup _ _ _ _ _ (@pa_nil _)) (@pa_nil _) (by rfl)) (by rfl)) (by rfl)) (by rfl)) (by rfl) (by rfl) (by rfl)) (by rfl))), ?_⟩
    rw [show start n_c_Fact_init [V.ref x, hd] = [some (V.ref x), some (hd)] from rfl]
    try simp only [tDrop, tCMeth, tC, tCons, tVar, List.getElem?_cons_zero, List.getElem?_cons_succ, tTup, tNil, List.append_nil, exSlot]
    refine ⟨(by trivial), by decide, fun b hb => ?_⟩
    obtain ⟨H1, e1, s1, h1⟩ := newO hb (.tup []); rw [e1]
    refine ⟨x, t.C_Fact, dx, _, hd, b, [], rfl, s1 _ _ hx, ⟨T.cl_Fact, T.nf_Fact_label, T.nf_Fact_head, T.nf_Fact_body⟩, .inr ⟨SqT.of h1, h1⟩, fun H' k r => ?_⟩
    exact q _ (fun c o e hc => k c o (s1 _ _ e) hc) r
end
end K21
namespace K21
open PySem L2 Tx

section
variable {P : Program} {w : World} {K : PySem.W.Frag} {mg : Str → Option Value} {base : Heap} {t : Adr}
theorem ok_d_l_made (T : Txt K mg t) : FnOk P w K mg base CX0 4 t.f_d_l_made t.fd_d_l_made ["_law_kind", "_law_label", "_law_texts"] (spMade21 t) := by
  refine T.F_d_l_made.ok sc_d_l_made (fun vs H Q E h => ?_) (fun cdv A outer s H vs Q E hr h => ?_)
  · obtain ⟨kind, lb, h, b, bs, rfl, hk, hb, q⟩ := h; rfl
  · obtain ⟨kind, lb, h, b, bs, rfl, hk, hb, q⟩ := h
    refine ⟨_, (@pss_cons _ _ _ _ _ (@ps_if _ _ _ _ _ _ _ _ (@pt_cmpR _ _ _ _ _ _ _ _ (op_eqH hr.units) (@pv _ 0 _ _ (by rfl) (by first | exact vis0 rfl | exact vis1 rfl | exact vis2 rfl) (by decide) (by decide)) (@pe_int _ _ _ _) (nomark _)) (@pss_one _ _ _ (@ps_ret _ _ _ _ (@pe_make _ _ _ _ _ _ _ _ _ _ _ _ _ _ _ _ _ T.mk_Sure (ok_c_Rule_init T) (hr.mono (by decide)) rfl T.g_Sure T.b_c_Rule_init .nil pass0 (@pa_cons _ _ _ _ _ (@pv _ 1 _ _ (by rfl) (by first | exact vis0 rfl | exact vis1 rfl | exact vis2 rfl) (by decide) (by decide)) (@pa_cons _ _ _ _ _ (@pe_ix _ _ _ _ _ _ _ ix_seq (@pv _ 2 _ _ (by rfl) (by first | exact vis0 rfl | exact vis1 rfl | exact vis2 rfl) (by decide) (by decide)) (@pe_int _ _ _ _) (fun _ _ => rfl)) (@pa_cons _ _ _ _ _ (@pe_slice _ _ _ _ _ _ _ _ _ _ sl_any (@pv _ 2 _ _ (by rfl) (by first | exact vis0 rfl | exact vis1 rfl | exact vis2 rfl) (by decide) (by decide)) (@po_some _ _ _ (@pe_int _ _ _ _)) (@po_none _)) (@pa_nil _) (by rfl)) (by rfl)) (by rfl)) (by decide) (by rfl) (by rfl)))) (@pss_nil _)) (@pss_cons _ _ _ _ _ (@ps_if _ _ _ _ _ _ _ _ (@pt_cmpR _ _ _ _ _ _ _ _ (op_eqH hr.units) (@pv _ 0 _ _ (by rfl) (by first | exact vis0 rfl | exact vis1 rfl | exact vis2 rfl) (by decide) (by decide)) (@pe_int _ _ _ _) (nomark _)) (@pss_one _ _ _ (@ps_ret _ _ _ _ (@pe_make _ _ _ _ _ _ _ _ _ _ _ _ _ _ _ _ _ T.mk_Most (ok_c_Rule_init T) (hr.mono (by decide)) rfl T.g_Most T.b_c_Rule_init .nil pass0 (@pa_cons _ _ _ _ _ (@pv _ 1 _ _ (by rfl) (by first | exact vis0 rfl | exact vis1 rfl | exact vis2 rfl) (by decide) (by decide)) (@pa_cons _ _ _ _ _ (@pe_ix _ _ _ _ _ _ _ ix_seq (@pv _ 2 _ _ (by rfl) (by first | exact vis0 rfl | exact vis1 rfl | exact vis2 rfl) (by decide) (by decide)) (@pe_int _ _ _ _) (fun _ _ => rfl)) (@pa_cons _ _ _ _ _ (@pe_slice _ _ _ _ _ _ _ _ _ _ sl_any (@pv _ 2 _ _ (by rfl) (by first | exact vis0 rfl | exact vis1 rfl | exact vis2 rfl) (by decide) (by decide)) (@po_some _ _ _ (@pe_int _ _ _ _)) (@po_none _)) (@pa_nil _) (by rfl)) (by rfl)) (by rfl)) (by decide) (by rfl) (by rfl)))) (@pss_nil _)) (@pss_cons _ _ _ _ _ (@ps_if _ _ _ _ _ _ _ _ (@pt_cmpR _ _ _ _ _ _ _ _ (op_eqH hr.units) (@pv _ 0 _ _ (by rfl) (by first | exact vis0 rfl | exact vis1 rfl | exact vis2 rfl) (by decide) (by decide)) (@pe_int _ _ _ _) (nomark _)) (@pss_one _ _ _ (@ps_ret _ _ _ _ (@pe_make _ _ _ _ _ _ _ _ _ _ _ _ _ _ _ _ _ T.mk_Block (ok_c_Rule_init T) (hr.mono (by decide)) rfl T.g_Block T.b_c_Rule_init .nil pass0 (@pa_cons _ _ _ _ _ (@pv _ 1 _ _ (by rfl) (by first | exact vis0 rfl | exact vis1 rfl | exact vis2 rfl) (by decide) (by decide)) (@pa_cons _ _ _ _ _ (@pe_ix _ _ _ _ _ _ _ ix_seq (@pv _ 2 _ _ (by rfl) (by first | exact vis0 rfl | exact vis1 rfl | exact vis2 rfl) (by decide) (by decide)) (@pe_int _ _ _ _) (fun _ _ => rfl)) (@pa_cons _ _ _ _ _ (@pe_slice _ _ _ _ _ _ _ _ _ _ sl_any (@pv _ 2 _ _ (by rfl) (by first | exact vis0 rfl | exact vis1 rfl | exact vis2 rfl) (by decide) (by decide)) (@po_some _ _ _ (@pe_int _ _ _ _)) (@po_none _)) (@pa_nil _) (by rfl)) (by rfl)) (by rfl)) (by decide) (by rfl) (by rfl)))) (@pss_nil _)) (@pss_one _ _ _ (@ps_ret _ _ _ _ (@pe_make _ _ _ _ _ _ _ _ _ _ _ _ _ _ _ _ _ T.mk_Fact (ok_c_Fact_init T) (hr.mono (by decide)) rfl T.g_Fact T.b_c_Fact_init .nil pass0 (@pa_cons _ _ _ _ _ (@pe_ix _ _ _ _ _ _ _ ix_seq (@pv _ 2 _ _ (by rfl) (by first | exact vis0 rfl | exact vis1 rfl | exact vis2 rfl) (by decide) (by decide)) (@pe_int _ _ _ _) (fun _ _ => rfl)) (@pa_nil _) (by rfl)) (by decide) (by rfl) (by rfl))))))), ?_⟩
    rw [show start n_d_l_made [V.int kind, lb, V.ref b] = [some (V.int kind), some (lb), some (V.ref b)] from rfl]
    have hh : ∀ {H0 : Hp} {x dx : Addr} {C : Addr}, H0 x = none → H0 dx = none → dx ≠ x → (Same H0 (upd (upd H0 dx (.own x)) x (.ins C dx []))) ∧ (upd (upd H0 dx (.own x)) x (.ins C dx [])) x = some (.ins C dx []) := fun {H0 x dx C} h1 h2 h3 =>
      ⟨fun c o e => by rw [upd_ne (ne_of_none e h1), upd_ne (ne_of_none e h2)]; exact e, upd_same⟩
    have hat : atI (h :: bs) 0 = some h := by unfold atI ixN; rw [if_pos (by decide), if_pos (by simp only [List.length_cons]; omega)]; rfl
    have hcut : cutV (h :: bs) (some 1) none = bs := by
      unfold cutV HT.sIx
      simp
    try simp only [tSeq, tIfS, tTest, tOp, tVar, List.getElem?_cons_zero, tC, tRet, tMake, tCons, List.getElem?_cons_succ, tSl, tPart, tNoPart, tNil, List.append_nil, exInt, exSlot, tNext, rEqH_int, exBl, decide_eq_true_eq]
    match kind, hk with
    | 0, _ =>
      refine ite2 (fun _ => ?_) (fun c => absurd rfl c)
      refine rIx_lst (SqL.of hb) hat (.inr (.inl ⟨b, _, rfl, SqL.of hb, fun l hl => ?_⟩))
      rw [hcut]
      obtain ⟨H1, e1, s1, h1⟩ := newO hl (.lst bs); rw [e1]
      intro x dx nx ndx ne
      obtain ⟨s, hx⟩ := hh (C := t.C_Sure) nx ndx ne
      exact ⟨x, t.C_Sure, dx, lb, h, l, bs, rfl, hx, ⟨T.cl_Sure, T.nf_Sure_label, T.nf_Sure_head, T.nf_Sure_body⟩, .inl (SqL.of (s _ _ h1)), fun H' k r => ⟨rfl, q x H' (fun c o e => k c o (s _ _ (s1 _ _ e)) (ne_of_none (s1 _ _ e) nx)) r⟩⟩
    | 1, _ =>
      refine ite2 (fun c => absurd c (by decide)) (fun _ => ite2 (fun _ => ?_) (fun c => absurd rfl c))
      refine rIx_lst (SqL.of hb) hat (.inr (.inl ⟨b, _, rfl, SqL.of hb, fun l hl => ?_⟩))
      rw [hcut]
      obtain ⟨H1, e1, s1, h1⟩ := newO hl (.lst bs); rw [e1]
      intro x dx nx ndx ne
      obtain ⟨s, hx⟩ := hh (C := t.C_Most) nx ndx ne
      exact ⟨x, t.C_Most, dx, lb, h, l, bs, rfl, hx, ⟨T.cl_Most, T.nf_Most_label, T.nf_Most_head, T.nf_Most_body⟩, .inl (SqL.of (s _ _ h1)), fun H' k r => ⟨rfl, q x H' (fun c o e => k c o (s _ _ (s1 _ _ e)) (ne_of_none (s1 _ _ e) nx)) r⟩⟩
    | 2, _ =>
      refine ite2 (fun c => absurd c (by decide)) (fun _ => ite2 (fun c => absurd c (by decide)) (fun _ => ite2 (fun _ => ?_) (fun c => absurd rfl c)))
      refine rIx_lst (SqL.of hb) hat (.inr (.inl ⟨b, _, rfl, SqL.of hb, fun l hl => ?_⟩))
      rw [hcut]
      obtain ⟨H1, e1, s1, h1⟩ := newO hl (.lst bs); rw [e1]
      intro x dx nx ndx ne
      obtain ⟨s, hx⟩ := hh (C := t.C_Block) nx ndx ne
      exact ⟨x, t.C_Block, dx, lb, h, l, bs, rfl, hx, ⟨T.cl_Block, T.nf_Block_label, T.nf_Block_head, T.nf_Block_body⟩, .inl (SqL.of (s _ _ h1)), fun H' k r => ⟨rfl, q x H' (fun c o e => k c o (s _ _ (s1 _ _ e)) (ne_of_none (s1 _ _ e) nx)) r⟩⟩
    | 3, _ =>
      refine ite2 (fun c => absurd c (by decide)) (fun _ => ite2 (fun c => absurd c (by decide)) (fun _ => ite2 (fun c => absurd c (by decide)) (fun _ => ?_)))
      refine rIx_lst (SqL.of hb) hat ?_
      intro x dx nx ndx ne
      obtain ⟨s, hx⟩ := hh (C := t.C_Fact) nx ndx ne
      exact ⟨x, dx, h, rfl, hx, fun H' k r => ⟨rfl, q x H' (fun c o e => k c o (s _ _ e) (ne_of_none e nx)) r⟩⟩
end
end K21
namespace K21
open PySem L2 Tx

section
variable {P : Program} {w : World} {K : PySem.W.Frag} {mg : Str → Option Value} {base : Heap} {t : Adr}
theorem ok_d_l_mix (T : Txt K mg t) : FnOk P w K mg base CX0 1 t.f_d_l_mix t.fd_d_l_mix ["_law_cell", "_law_k"] spMix := by
  refine T.F_d_l_mix.ok sc_d_l_mix (fun vs H Q E h => ?_) (fun cdv A outer s H vs Q E hr h => ?_)
  · obtain ⟨c, k, rfl, q⟩ := h; rfl
  · obtain ⟨c, k, rfl, q⟩ := h
    refine ⟨_, (@pss_cons _ _ _ _ _ (@ps_set _ _ (2) _ _ _ _ sc_d_l_mix.nd rfl (by first | exact Or.inl rfl | exact Or.inr rfl) (@pe_op _ _ _ _ _ _ _ _ op_mod (@pe_op _ _ _ _ _ _ _ _ op_addA (@pe_op _ _ _ _ _ _ _ _ op_addA (@pe_op _ _ _ _ _ _ _ _ op_mod (@pv _ 0 _ _ (by rfl) (by first | exact vis0 rfl | exact vis1 rfl | exact vis2 rfl) (by decide) (by decide)) (@pe_int _ _ _ _)) (@pe_op _ _ _ _ _ _ _ _ op_mul (@pe_int _ _ _ _) (@pv _ 1 _ _ (by rfl) (by first | exact vis0 rfl | exact vis1 rfl | exact vis2 rfl) (by decide) (by decide)))) (@pe_int _ _ _ _)) (@pe_int _ _ _ _)) (by rfl) (by first | exact Or.inl rfl | exact Or.inr rfl | assumption)) (@pss_cons _ _ _ _ _ (@ps_set _ _ (2) _ _ _ _ sc_d_l_mix.nd rfl (by first | exact Or.inl rfl | exact Or.inr rfl) (@pe_op _ _ _ _ _ _ _ _ op_mod (@pe_op _ _ _ _ _ _ _ _ op_mul (@pv _ 2 _ _ (by rfl) (by first | exact vis0 rfl | exact vis1 rfl | exact vis2 rfl) (by decide) (by decide)) (@pv _ 2 _ _ (by rfl) (by first | exact vis0 rfl | exact vis1 rfl | exact vis2 rfl) (by decide) (by decide))) (@pe_int _ _ _ _)) (by rfl) (by first | exact Or.inl rfl | exact Or.inr rfl | assumption)) (@pss_cons _ _ _ _ _ (@ps_set _ _ (2) _ _ _ _ sc_d_l_mix.nd rfl (by first | exact Or.inl rfl | exact Or.inr rfl) (@pe_op _ _ _ _ _ _ _ _ op_mod (@pe_op _ _ _ _ _ _ _ _ op_addA (@pe_op _ _ _ _ _ _ _ _ op_mul (@pv _ 2 _ _ (by rfl) (by first | exact vis0 rfl | exact vis1 rfl | exact vis2 rfl) (by decide) (by decide)) (@pe_int _ _ _ _)) (@pv _ 1 _ _ (by rfl) (by first | exact vis0 rfl | exact vis1 rfl | exact vis2 rfl) (by decide) (by decide))) (@pe_int _ _ _ _)) (by rfl) (by first | exact Or.inl rfl | exact Or.inr rfl | assumption)) (@pss_one _ _ _ (@ps_ret _ _ _ _ (@pe_op _ _ _ _ _ _ _ _ op_mod (@pe_op _ _ _ _ _ _ _ _ op_mul (@pv _ 2 _ _ (by rfl) (by first | exact vis0 rfl | exact vis1 rfl | exact vis2 rfl) (by decide) (by decide)) (@pv _ 2 _ _ (by rfl) (by first | exact vis0 rfl | exact vis1 rfl | exact vis2 rfl) (by decide) (by decide))) (@pe_int _ _ _ _))))))), ?_⟩
    rw [show start n_d_l_mix [V.int c, V.int k] = [some (V.int c), some (V.int k), none] from rfl]
    try simp only [tSeq, tAsg, tOp, tVar, List.getElem?_cons_zero, tC, List.getElem?_cons_succ, gName, List.set_cons_succ, List.set_cons_zero, tRet, exSlot, rI_int, CMul, rAddA_int]
    have h1 := mod_lt' (i := c % 2147483647 + 7919 * k + 12345) (j := 2147483647) (by decide)
    generalize (c % 2147483647 + 7919 * k + 12345) % 2147483647 = n at h1 ⊢
    have h2 := mod_lt' (i := n * n) (j := 2147483629) (by decide)
    generalize n * n % 2147483629 = m at h2 ⊢
    have h3 := mod_lt' (i := m * 48271 + k) (j := 2147483647) (by decide)
    generalize (m * 48271 + k) % 2147483647 = l at h3 ⊢
    exact ⟨by decide, .inl (by decide), by decide, .inl (by omega), by decide, .inl (by omega), by decide, .inl (by omega), by decide, q _ (Int.emod_nonneg _ (by decide))⟩
end
end K21
namespace K21
open PySem L2 Tx

section
variable {P : Program} {w : World} {K : PySem.W.Frag} {mg : Str → Option Value} {base : Heap} {t : Adr}
theorem ok_d_l_statement (T : Txt K mg t) : FnOk P w K mg base CX0 1 t.f_d_l_statement t.fd_d_l_statement ["_law_number", "_law_names", "_law_some"] spStat := by
  refine T.F_d_l_statement.ok sc_d_l_statement (fun vs H Q E h => ?_) (fun cdv A outer s H vs Q E hr h => ?_)
  · obtain ⟨n, N, S, nm, sm, rfl, hN, hS, hnl, hsl, hnw, hsp, q⟩ := h; rfl
  · obtain ⟨n, N, S, nm, sm, rfl, hN, hS, hnl, hsl, hnw, hsp, q⟩ := h
    refine ⟨_, (@pss_cons _ _ _ _ _ (@ps_set _ _ (3) _ _ _ _ sc_d_l_statement.nd rfl (by first | exact Or.inl rfl | exact Or.inr rfl) (@pe_lst _ _ _ _ (@pa_nil _)) (by rfl) (by first | exact Or.inl rfl | exact Or.inr rfl | assumption)) (@pss_cons _ _ _ _ _ (@ps_set _ _ (4) _ _ _ _ sc_d_l_statement.nd rfl (by first | exact Or.inl rfl | exact Or.inr rfl) (@pe_op _ _ _ _ _ _ _ _ op_fdiv (@pv _ 0 _ _ (by rfl) (by first | exact vis0 rfl | exact vis1 rfl | exact vis2 rfl) (by decide) (by decide)) (@pe_int _ _ _ _)) (by rfl) (by first | exact Or.inl rfl | exact Or.inr rfl | assumption)) (@pss_cons _ _ _ _ _ (@ps_for _ _ _ _ _ _ _ _ PassesOwn.never rfl (@pi_range1 _ _ _ _ _ _ rfl T.z_range (@pa_cons _ _ _ _ _ (@pe_op _ _ _ _ _ _ _ _ op_mod (@pe_op _ _ _ _ _ _ _ _ op_fdiv (@pv _ 0 _ _ (by rfl) (by first | exact vis0 rfl | exact vis1 rfl | exact vis2 rfl) (by decide) (by decide)) (@pe_int _ _ _ _)) (@pe_int _ _ _ _)) (@pa_nil _) (by rfl)) (by rfl)) (@pg_name _ _ (5) _ sc_d_l_statement.nd rfl (by first | exact Or.inl rfl | exact Or.inr rfl) (by first | exact Or.inl rfl | exact Or.inr rfl | assumption)) (@pss_cons _ _ _ _ _ (@ps_expr _ _ _ _ (@pe_bm _ _ _ _ _ _ _ _ _ _ _ _ PySem.F.plainAttrs_list PySem.F.slot_list_append PySem.F.type_list_append mt_append (@pv _ 3 _ _ (by rfl) (by first | exact vis0 rfl | exact vis1 rfl | exact vis2 rfl) (by decide) (by decide)) (@pa_cons _ _ _ _ _ (@pe_ix _ _ _ _ _ _ _ ix_seq (@pv _ 2 _ _ (by rfl) (by first | exact vis0 rfl | exact vis1 rfl | exact vis2 rfl) (by decide) (by decide)) (@pe_op _ _ _ _ _ _ _ _ op_mod (@pv _ 4 _ _ (by rfl) (by first | exact vis0 rfl | exact vis1 rfl | exact vis2 rfl) (by decide) (by decide)) (@pe_callB _ _ _ _ _ _ _ _ _ call_lenA rfl T.z_len boot_lenT (@pa_cons _ _ _ _ _ (@pv _ 2 _ _ (by rfl) (by first | exact vis0 rfl | exact vis1 rfl | exact vis2 rfl) (by decide) (by decide)) (@pa_nil _) (by rfl)) (by decide) (by decide) (by rfl) (by rfl))) (fun _ _ => rfl)) (@pa_nil _) (by rfl)) (by rfl) (by rfl) (by rfl) (by rfl) (by rfl)) (by rfl)) (@pss_one _ _ _ (@ps_set _ _ (4) _ _ _ _ sc_d_l_statement.nd rfl (by first | exact Or.inl rfl | exact Or.inr rfl) (@pe_op _ _ _ _ _ _ _ _ op_fdiv (@pv _ 4 _ _ (by rfl) (by first | exact vis0 rfl | exact vis1 rfl | exact vis2 rfl) (by decide) (by decide)) (@pe_callB _ _ _ _ _ _ _ _ _ call_lenA rfl T.z_len boot_lenT (@pa_cons _ _ _ _ _ (@pv _ 2 _ _ (by rfl) (by first | exact vis0 rfl | exact vis1 rfl | exact vis2 rfl) (by decide) (by decide)) (@pa_nil _) (by rfl)) (by decide) (by decide) (by rfl) (by rfl))) (by rfl) (by first | exact Or.inl rfl | exact Or.inr rfl | assumption)))) (by intro _ ; rfl)) (@pss_one _ _ _ (@ps_ret _ _ _ _ (@pe_tup _ _ _ _ _ (@pa_cons _ _ _ _ _ (@pe_ix _ _ _ _ _ _ _ ix_seq (@pe_lst _ _ _ _ (@pa_cons _ _ _ _ _ (@pe_str _ _ _ _) (@pa_cons _ _ _ _ _ (@pe_str _ _ _ _) (@pa_nil _) (by rfl)) (by rfl))) (@pe_op _ _ _ _ _ _ _ _ op_mod (@pv _ 0 _ _ (by rfl) (by first | exact vis0 rfl | exact vis1 rfl | exact vis2 rfl) (by decide) (by decide)) (@pe_int _ _ _ _)) (fun _ _ => rfl)) (@pa_cons _ _ _ _ _ (@pe_ix _ _ _ _ _ _ _ ix_seq (@pv _ 1 _ _ (by rfl) (by first | exact vis0 rfl | exact vis1 rfl | exact vis2 rfl) (by decide) (by decide)) (@pe_op _ _ _ _ _ _ _ _ op_mod (@pv _ 4 _ _ (by rfl) (by first | exact vis0 rfl | exact vis1 rfl | exact vis2 rfl) (by decide) (by decide)) (@pe_callB _ _ _ _ _ _ _ _ _ call_lenA rfl T.z_len boot_lenT (@pa_cons _ _ _ _ _ (@pv _ 1 _ _ (by rfl) (by first | exact vis0 rfl | exact vis1 rfl | exact vis2 rfl) (by decide) (by decide)) (@pa_nil _) (by rfl)) (by decide) (by decide) (by rfl) (by rfl))) (fun _ _ => rfl)) (@pa_cons _ _ _ _ _ (@pv _ 3 _ _ (by rfl) (by first | exact vis0 rfl | exact vis1 rfl | exact vis2 rfl) (by decide) (by decide)) (@pa_nil _) (by rfl)) (by rfl)) (by rfl)))))))), ?_⟩
    rw [show start n_d_l_statement [V.int n, V.ref N, V.ref S] = [some (V.int n), some (V.ref N), some (V.ref S), none, none, none] from rfl]
    have m3 := mod_lt' (i := n / 2) (j := 3) (by decide)
    try simp only [tSeq, tAsg, tLst, tNil, gName, tOp, tVar, List.set_cons_succ, List.set_cons_zero, List.getElem?_cons_zero, tC, tFor_eq, iRng1, tCons, exSlot, rI_int, CDiv]
    refine ⟨by decide, fun P0 hP => ⟨⟨by decide, by decide⟩, ⟨by decide, by decide⟩, by decide, _, rfl, by omega, by omega, ?_⟩⟩
    have hNP : N ≠ P0 := ne_of_none hN hP
    have hSP : S ≠ P0 := ne_of_none hS hP
    refine for_range (n := (n / 2 % 3).toNat) (lo := 0) (fun i σ H' => ∃ (ps : List (List Nat)) (rest : Int) (x5 : Option V), σ = [some (V.int n), some (V.ref N), some (V.ref S), some (V.ref P0), some (V.int rest), x5] ∧ Same H H' ∧ H' P0 = some (.lst (pv' ps)) ∧ ps.length = i ∧ ∀ p ∈ ps, p ∈ sm)
      ⟨[], _, _, rfl, Same.upd hP, upd_same, rfl, by simp⟩ ?_ ?_
    · rintro i σ H1 hi ⟨ps, rest, x5, rfl, s1, hP1, hpl, hps⟩
      try simp only [gName, tSeq, tDrop, tBM, tVar, List.set_cons_succ, List.set_cons_zero, List.getElem?_cons_succ, List.getElem?_cons_zero, tCons, tOp, tCB, tNil, tAsg, exSlot]
      refine ⟨.inl ⟨rfl, _, SqL.of hP1⟩, rLenA_lst (SqL.of (s1 _ _ hS)) ?_⟩
      rw [List.length_map]
      try simp only [rI_int]
      obtain ⟨w, e, hw⟩ := pick_pv hsl.1 rest
      refine ⟨by omega, rIx_lst (SqL.of (s1 _ _ hS)) e ?_⟩
      refine ⟨P0, _, _, rfl, rfl, hP1, Nat.lt_of_le_of_lt (show _ ≤ 1000 by rw [List.length_map]; omega) (by decide), ?_⟩
      obtain ⟨H2, e2, s2, h2⟩ : ∃ H2, upd H1 P0 (.lst (pv' ps ++ [sv w])) = H2 ∧ Same H H2 ∧ H2 P0 = some (.lst (pv' (ps ++ [w]))) := ⟨_, rfl, fun b o e => by rw [upd_ne (ne_of_none e hP)]; exact s1 _ _ e, by rw [upd_same, pv_app]⟩
      rw [e2]
      refine rLenA_lst (SqL.of (s2 _ _ hS)) ?_
      rw [List.length_map]
      try simp only [rI_int, CDiv]
      refine ⟨⟨by omega, by omega⟩, ps ++ [w], _, _, rfl, s2, h2, by simp [hpl], fun p hp => ?_⟩
      rcases List.mem_append.mp hp with z | z
      · exact hps p z
      · rw [List.mem_singleton.mp z]; exact hw
    · rintro σ H1 ⟨ps, rest, x5, rfl, s1, hP1, hpl, hps⟩
      try simp only [tRet, tTup, tCons, tOp, tLst, tC, tNil, tVar, List.getElem?_cons_zero, List.getElem?_cons_succ, tCB, exSlot, rI_int]
      refine ⟨by decide, fun p3 hp3 => ?_⟩
      obtain ⟨H3, e3, s3, h3⟩ := newO hp3 (.lst [V.str "", V.str "-"]); rw [e3]
      have m1 := mod_lt' (i := n) (j := 2) (by decide)
      obtain ⟨v, e2, hv2, _⟩ := atI_in (xs := [V.str "", V.str "-"]) m1.1 m1.2
      refine ⟨by decide, rIx_lst (SqL.of h3) e2 ?_⟩
      obtain ⟨sd, rfl, hsd⟩ : ∃ sd : List Nat, v = sv sd ∧ (sd = [] ∨ sd = [45]) := by
        simp only [List.mem_cons, List.not_mem_nil, or_false] at hv2
        rcases hv2 with rfl | rfl
        · exact ⟨[], rfl, .inl rfl⟩
        · exact ⟨[45], by show V.str _ = V.str _; rw [show ("-" : Str) = mk [45] by decide +kernel], .inr rfl⟩
      have hN3 := s3 _ _ (s1 _ _ hN)
      refine rLenA_lst (SqL.of hN3) ?_
      rw [List.length_map]
      try simp only [rI_int]
      obtain ⟨w, e, hw⟩ := pick_pv hnl.1 rest
      refine ⟨by omega, rIx_lst (SqL.of hN3) e ?_⟩
      refine ⟨by simp only [List.length_cons, List.length_nil]; decide, fun p5 hp5 => ?_⟩
      obtain ⟨H5, e5, s5, h5⟩ := newO hp5 (.tup [sv sd, sv w, V.ref P0]); rw [e5]
      have hP3 := s3 _ _ hP1
      exact q (sd, w, ps) p5 P0 H5 ⟨hsd, hnw w hw, by show ps.length ≤ 2; omega, fun p hp => hsp p (hps p hp)⟩ hps ((s1.trans s3).trans s5) ⟨none_of (s1.trans s3) hp5, hP, fun z => ne_of_none hP3 hp5 z.symm⟩ ⟨h5, s5 _ _ hP3⟩
end
end K21
namespace K21
open PySem L2 Tx

section
variable {P : Program} {w : World} {K : PySem.W.Frag} {mg : Str → Option Value} {base : Heap} {t : Adr}
theorem ok_d_l_specs (T : Txt K mg t) : FnOk P w K mg base CX0 2 t.f_d_l_specs t.fd_d_l_specs ["_law_script", "_law_kind", "_law_things", "_law_names"] (spSpecs K) := by
  refine T.F_d_l_specs.ok sc_d_l_specs (fun vs H Q E h => ?_) (fun cdv A outer s H vs Q E hr h => ?_)
  · obtain ⟨a, Ta, Na, ns, kind, Th, N, rfl, hS, hl, hk, hTa, hNa, hTl, hNl, hTw, hNw, q⟩ := h; rfl
  · obtain ⟨a, Ta, Na, ns, kind, Th, N, rfl, hS, hl, hk, hTa, hNa, hTl, hNl, hTw, hNw, q⟩ := h
    refine ⟨_, (@pss_cons _ _ _ _ _ (@ps_set _ _ (4) _ _ _ _ sc_d_l_specs.nd rfl (by first | exact Or.inl rfl | exact Or.inr rfl) (@pe_str _ _ _ _) (by rfl) (by first | exact Or.inl rfl | exact Or.inr rfl | assumption)) (@pss_cons _ _ _ _ _ (@ps_set _ _ (5) _ _ _ _ sc_d_l_specs.nd rfl (by first | exact Or.inl rfl | exact Or.inr rfl) (@pe_call _ _ _ _ _ _ _ _ _ _ _ _ _ _ _ _ (ok_d_l_mix T) (hr.mono (by decide)) rfl T.g_d_l_mix T.F_d_l_mix.kp T.b_d_l_mix .nil pass0 (@pa_cons _ _ _ _ _ (@pe_call _ _ _ _ _ _ _ _ _ _ _ _ _ _ _ _ (ok_d_l_cell_at T) (hr.mono (by decide)) rfl T.g_d_l_cell_at T.F_d_l_cell_at.kp T.b_d_l_cell_at .nil pass0 (@pa_cons _ _ _ _ _ (@pv _ 0 _ _ (by rfl) (by first | exact vis0 rfl | exact vis1 rfl | exact vis2 rfl) (by decide) (by decide)) (@pa_cons _ _ _ _ _ (@pe_int _ _ _ _) (@pa_nil _) (by rfl)) (by rfl)) (by decide) (by rfl) (by rfl)) (@pa_cons _ _ _ _ _ (@pe_int _ _ _ _) (@pa_nil _) (by rfl)) (by rfl)) (by decide) (by rfl) (by rfl)) (by rfl) (by first | exact Or.inl rfl | exact Or.inr rfl | assumption)) (@pss_cons _ _ _ _ _ (@ps_set _ _ (6) _ _ _ _ sc_d_l_specs.nd rfl (by first | exact Or.inl rfl | exact Or.inr rfl) (@pe_comp _ _ _ _ _ _ _ _ _ _ _ _ _ (@compOk_of _ (defScope s_d_l_specs) (n_d_l_specs) (["_law_k" , "_law_signs" , "_law_first"]) ([none , some 4 , some 5]) _ rfl rfl (by decide +kernel)) rfl (@pi_range1 _ _ _ _ _ _ rfl T.z_range (@pa_cons _ _ _ _ _ (@pe_op _ _ _ _ _ _ _ _ op_addA (@pe_int _ _ _ _) (@pe_op _ _ _ _ _ _ _ _ op_mod (@pe_call _ _ _ _ _ _ _ _ _ _ _ _ _ _ _ _ (ok_d_l_mix T) (hr.mono (by decide)) rfl T.g_d_l_mix T.F_d_l_mix.kp T.b_d_l_mix .nil pass0 (@pa_cons _ _ _ _ _ (@pe_call _ _ _ _ _ _ _ _ _ _ _ _ _ _ _ _ (ok_d_l_cell_at T) (hr.mono (by decide)) rfl T.g_d_l_cell_at T.F_d_l_cell_at.kp T.b_d_l_cell_at .nil pass0 (@pa_cons _ _ _ _ _ (@pv _ 0 _ _ (by rfl) (by first | exact vis0 rfl | exact vis1 rfl | exact vis2 rfl) (by decide) (by decide)) (@pa_cons _ _ _ _ _ (@pe_int _ _ _ _) (@pa_nil _) (by rfl)) (by rfl)) (by decide) (by rfl) (by rfl)) (@pa_cons _ _ _ _ _ (@pe_int _ _ _ _) (@pa_nil _) (by rfl)) (by rfl)) (by decide) (by rfl) (by rfl)) (@pe_int _ _ _ _))) (@pa_nil _) (by rfl)) (by rfl)) (fun _ _ _ _ _ => (@pg_name _ _ (0) _ (show List.Nodup (["_law_k" , "_law_signs" , "_law_first"] : List Str) by decide +kernel) rfl (by first | exact Or.inl rfl | exact Or.inr rfl) (by first | exact Or.inl rfl | exact Or.inr rfl | assumption))) (fun _ _ _ _ _ => @pts_nil _) (fun _ _ _ _ _ => (@pe_ix _ _ _ _ _ _ _ (ix_seqK (K := K) rfl) (@pv _ 1 _ _ (by rfl) (by first | exact vis0 rfl | exact vis1 rfl | exact vis2 rfl) (by decide) (by decide)) (@pe_op _ _ _ _ _ _ _ _ op_mod (@pe_op _ _ _ _ _ _ _ _ (op_addK (K := K) rfl) (@pv _ 2 _ _ (by rfl) (by first | exact vis0 rfl | exact vis1 rfl | exact vis2 rfl) (by decide) (by decide)) (@pe_op _ _ _ _ _ _ _ _ op_mul (@pe_int _ _ _ _) (@pv _ 0 _ _ (by rfl) (by first | exact vis0 rfl | exact vis1 rfl | exact vis2 rfl) (by decide) (by decide)))) (@pe_int _ _ _ _)) (fun _ _ => rfl))) (by intro _ ; rfl)) (by rfl) (by first | exact Or.inl rfl | exact Or.inr rfl | assumption)) (@pss_cons _ _ _ _ _ (@ps_set _ _ (6) _ _ _ _ sc_d_l_specs.nd rfl (by first | exact Or.inl rfl | exact Or.inr rfl) (@pe_op _ _ _ _ _ _ _ _ op_addA (@pv _ 6 _ _ (by rfl) (by first | exact vis0 rfl | exact vis1 rfl | exact vis2 rfl) (by decide) (by decide)) (@pe_lst _ _ _ _ (@pa_cons _ _ _ _ _ (@pe_ix _ _ _ _ _ _ _ ix_seq (@pv _ 2 _ _ (by rfl) (by first | exact vis0 rfl | exact vis1 rfl | exact vis2 rfl) (by decide) (by decide)) (@pe_int _ _ _ _) (fun _ _ => rfl)) (@pa_cons _ _ _ _ _ (@pe_ix _ _ _ _ _ _ _ ix_seq (@pv _ 2 _ _ (by rfl) (by first | exact vis0 rfl | exact vis1 rfl | exact vis2 rfl) (by decide) (by decide)) (@pe_un _ _ _ _ _ _ un_neg (@pe_int _ _ _ _)) (fun _ _ => rfl)) (@pa_cons _ _ _ _ _ (@pe_ix _ _ _ _ _ _ _ ix_seq (@pv _ 3 _ _ (by rfl) (by first | exact vis0 rfl | exact vis1 rfl | exact vis2 rfl) (by decide) (by decide)) (@pe_int _ _ _ _) (fun _ _ => rfl)) (@pa_nil _) (by rfl)) (by rfl)) (by rfl)))) (by rfl) (by first | exact Or.inl rfl | exact Or.inr rfl | assumption)) (@pss_cons _ _ _ _ _ (@ps_set _ _ (7) _ _ _ _ sc_d_l_specs.nd rfl (by first | exact Or.inl rfl | exact Or.inr rfl) (@pe_op _ _ _ _ _ _ _ _ op_addA (@pe_int _ _ _ _) (@pe_op _ _ _ _ _ _ _ _ op_mod (@pe_op _ _ _ _ _ _ _ _ op_fdiv (@pe_call _ _ _ _ _ _ _ _ _ _ _ _ _ _ _ _ (ok_d_l_cell_at T) (hr.mono (by decide)) rfl T.g_d_l_cell_at T.F_d_l_cell_at.kp T.b_d_l_cell_at .nil pass0 (@pa_cons _ _ _ _ _ (@pv _ 0 _ _ (by rfl) (by first | exact vis0 rfl | exact vis1 rfl | exact vis2 rfl) (by decide) (by decide)) (@pa_cons _ _ _ _ _ (@pe_int _ _ _ _) (@pa_nil _) (by rfl)) (by rfl)) (by decide) (by rfl) (by rfl)) (@pe_int _ _ _ _)) (@pe_int _ _ _ _))) (by rfl) (by first | exact Or.inl rfl | exact Or.inr rfl | assumption)) (@pss_mid _ _ _ _ _ (@ps_if _ _ _ _ _ _ _ _ (@pt_cmpR _ _ _ _ _ _ _ _ (op_eqH hr.units) (@pv _ 1 _ _ (by rfl) (by first | exact vis0 rfl | exact vis1 rfl | exact vis2 rfl) (by decide) (by decide)) (@pe_int _ _ _ _) (nomark _)) (@pss_cons _ _ _ _ _ (@ps_set _ _ (6) _ _ _ _ sc_d_l_specs.nd rfl (by first | exact Or.inl rfl | exact Or.inr rfl) (@pe_lst _ _ _ _ (@pa_cons _ _ _ _ _ (@pe_ix _ _ _ _ _ _ _ ix_seq (@pv _ 2 _ _ (by rfl) (by first | exact vis0 rfl | exact vis1 rfl | exact vis2 rfl) (by decide) (by decide)) (@pe_int _ _ _ _) (fun _ _ => rfl)) (@pa_cons _ _ _ _ _ (@pe_ix _ _ _ _ _ _ _ ix_seq (@pv _ 2 _ _ (by rfl) (by first | exact vis0 rfl | exact vis1 rfl | exact vis2 rfl) (by decide) (by decide)) (@pe_un _ _ _ _ _ _ un_neg (@pe_int _ _ _ _)) (fun _ _ => rfl)) (@pa_cons _ _ _ _ _ (@pe_ix _ _ _ _ _ _ _ ix_seq (@pv _ 3 _ _ (by rfl) (by first | exact vis0 rfl | exact vis1 rfl | exact vis2 rfl) (by decide) (by decide)) (@pe_int _ _ _ _) (fun _ _ => rfl)) (@pa_nil _) (by rfl)) (by rfl)) (by rfl))) (by rfl) (by first | exact Or.inl rfl | exact Or.inr rfl | assumption)) (@pss_one _ _ _ (@ps_set _ _ (7) _ _ _ _ sc_d_l_specs.nd rfl (by first | exact Or.inl rfl | exact Or.inr rfl) (@pe_int _ _ _ _) (by rfl) (by first | exact Or.inl rfl | exact Or.inr rfl | assumption)))) (@pss_nil _)) (@pss_cons _ _ _ _ _ (@ps_setComp _ _ _ _ _ _ _ _ _ _ _ _ _ (8) _ _ _ (@compOk_of _ (defScope s_d_l_specs) (n_d_l_specs) (["_law_k" , "_law_script"]) ([none , some 0]) _ rfl rfl (by decide +kernel)) rfl (@pi_range1 _ _ _ _ _ _ rfl T.z_range (@pa_cons _ _ _ _ _ (@pv _ 7 _ _ (by rfl) (by first | exact vis0 rfl | exact vis1 rfl | exact vis2 rfl) (by decide) (by decide)) (@pa_nil _) (by rfl)) (by rfl)) (fun _ _ _ _ _ => (@pg_name _ _ (0) _ (show List.Nodup (["_law_k" , "_law_script"] : List Str) by decide +kernel) rfl (by first | exact Or.inl rfl | exact Or.inr rfl) (by first | exact Or.inl rfl | exact Or.inr rfl | assumption))) (fun _ _ _ _ _ => @pts_nil _) (fun _ _ _ _ _ => (@pe_call _ _ _ _ _ _ _ _ _ _ _ _ _ _ _ _ (ok_d_l_cell_at T) (hr.mono (by decide)) rfl T.g_d_l_cell_at T.F_d_l_cell_at.kp T.b_d_l_cell_at .nil pass0 (@pa_cons _ _ _ _ _ (@pv _ 1 _ _ (by rfl) (by first | exact vis0 rfl | exact vis1 rfl | exact vis2 rfl) (by decide) (by decide)) (@pa_cons _ _ _ _ _ (@pe_op _ _ _ _ _ _ _ _ (op_addK (K := K) rfl) (@pe_int _ _ _ _) (@pv _ 0 _ _ (by rfl) (by first | exact vis0 rfl | exact vis1 rfl | exact vis2 rfl) (by decide) (by decide))) (@pa_nil _) (by rfl)) (by rfl)) (by decide) (by rfl) (by rfl))) sc_d_l_specs.nd rfl (by first | exact Or.inl rfl | exact Or.inr rfl) rfl (by intro _ ; rfl) (by first | exact Or.inl rfl | exact Or.inr rfl | assumption)) (@pss_mid _ _ _ _ _ (@ps_if _ _ _ _ _ _ _ _ (@pt_cmpR _ _ _ _ _ _ _ _ (op_eqH hr.units) (@pe_op _ _ _ _ _ _ _ _ op_mod (@pe_op _ _ _ _ _ _ _ _ op_fdiv (@pe_call _ _ _ _ _ _ _ _ _ _ _ _ _ _ _ _ (ok_d_l_cell_at T) (hr.mono (by decide)) rfl T.g_d_l_cell_at T.F_d_l_cell_at.kp T.b_d_l_cell_at .nil pass0 (@pa_cons _ _ _ _ _ (@pv _ 0 _ _ (by rfl) (by first | exact vis0 rfl | exact vis1 rfl | exact vis2 rfl) (by decide) (by decide)) (@pa_cons _ _ _ _ _ (@pe_int _ _ _ _) (@pa_nil _) (by rfl)) (by rfl)) (by decide) (by rfl) (by rfl)) (@pe_int _ _ _ _)) (@pe_int _ _ _ _)) (@pe_int _ _ _ _) (nomark _)) (@pss_one _ _ _ (@ps_setComp _ _ _ _ _ _ _ _ _ _ _ _ _ (8) _ _ _ (@compOk_of _ (defScope s_d_l_specs) (n_d_l_specs) (["_law_cell"]) ([none]) _ rfl rfl (by decide +kernel)) rfl (@pi_list _ _ _ _ (@pv _ 8 _ _ (by rfl) (by first | exact vis0 rfl | exact vis1 rfl | exact vis2 rfl) (by decide) (by decide))) (fun _ _ _ _ _ => (@pg_name _ _ (0) _ (show List.Nodup (["_law_cell"] : List Str) by decide +kernel) rfl (by first | exact Or.inl rfl | exact Or.inr rfl) (by first | exact Or.inl rfl | exact Or.inr rfl | assumption))) (fun _ _ _ _ _ => @pts_nil _) (fun _ _ _ _ _ => (@pe_call _ _ _ _ _ _ _ _ _ _ _ _ _ _ _ _ (ok_d_l_mix T) (hr.mono (by decide)) rfl T.g_d_l_mix T.F_d_l_mix.kp T.b_d_l_mix .nil pass0 (@pa_cons _ _ _ _ _ (@pv _ 0 _ _ (by rfl) (by first | exact vis0 rfl | exact vis1 rfl | exact vis2 rfl) (by decide) (by decide)) (@pa_cons _ _ _ _ _ (@pe_int _ _ _ _) (@pa_nil _) (by rfl)) (by rfl)) (by decide) (by rfl) (by rfl))) sc_d_l_specs.nd rfl (by first | exact Or.inl rfl | exact Or.inr rfl) rfl (by intro _ ; rfl) (by first | exact Or.inl rfl | exact Or.inr rfl | assumption))) (@pss_nil _)) (@pss_one _ _ _ (@ps_ret _ _ _ _ (@pe_comp _ _ _ _ _ _ _ _ _ _ _ _ _ (@compOk_of _ (defScope s_d_l_specs) (n_d_l_specs) (["_law_number" , "_law_names" , "_law_some"]) ([none , some 3 , some 6]) _ rfl rfl (by decide +kernel)) rfl (@pi_list _ _ _ _ (@pv _ 8 _ _ (by rfl) (by first | exact vis0 rfl | exact vis1 rfl | exact vis2 rfl) (by decide) (by decide))) (fun _ _ _ _ _ => (@pg_name _ _ (0) _ (show List.Nodup (["_law_number" , "_law_names" , "_law_some"] : List Str) by decide +kernel) rfl (by first | exact Or.inl rfl | exact Or.inr rfl) (by first | exact Or.inl rfl | exact Or.inr rfl | assumption))) (fun _ _ _ _ _ => @pts_nil _) (fun _ _ _ _ _ => (@pe_call _ _ _ _ _ _ _ _ _ _ _ _ _ _ _ _ (ok_d_l_statement T) (hr.mono (by decide)) rfl T.g_d_l_statement T.F_d_l_statement.kp T.b_d_l_statement .nil pass0 (@pa_cons _ _ _ _ _ (@pv _ 0 _ _ (by rfl) (by first | exact vis0 rfl | exact vis1 rfl | exact vis2 rfl) (by decide) (by decide)) (@pa_cons _ _ _ _ _ (@pv _ 1 _ _ (by rfl) (by first | exact vis0 rfl | exact vis1 rfl | exact vis2 rfl) (by decide) (by decide)) (@pa_cons _ _ _ _ _ (@pv _ 2 _ _ (by rfl) (by first | exact vis0 rfl | exact vis1 rfl | exact vis2 rfl) (by decide) (by decide)) (@pa_nil _) (by rfl)) (by rfl)) (by rfl)) (by decide) (by rfl) (by rfl))) (by intro _ ; rfl)))))))))))), ?_⟩
    rw [show start n_d_l_specs [V.ref a, V.int kind, V.ref Ta, V.ref Na] = [some (V.ref a), some (V.int kind), some (V.ref Ta), some (V.ref Na), none, none, none, none, none] from rfl]
    try simp only [tSeq, tAsg, tC, gName, tCall, tCons, tVar, List.set_cons_succ, List.set_cons_zero, List.getElem?_cons_zero, tNil, List.append_nil, tOp, List.getElem?_cons_succ, tLst, tUn, tComp_eq, iRng1, iList, exSlot, rU_int]
    refine ⟨a, ns, 2, rfl, hS, hl, by decide, by decide, fun c0 => ?_⟩
    try simp only [spMix_at]
    intro fi hfi
    refine ⟨a, ns, 2, rfl, hS, hl, by decide, by decide, fun c1 => ?_⟩
    try simp only [spMix_at, rI_int, rAddA_int]
    intro r2 hr2
    have m3 := mod_lt' (i := r2) (j := 3) (by decide)
    refine ⟨by decide, _, rfl, by omega, by omega, ?_⟩
    rw [cap_eq]
    refine comp_1 src_range (Nat.le_trans (show (1 + r2 % 3).toNat ≤ 1000 by omega) (by decide)) [some (V.str (mk caps)), some (V.int fi)] rfl (fun i v => ∃ d, v = sv [d] ∧ d ∈ caps) (fun _ _ => trivial) (fun i H' R hi s hR => ?_) (fun B H1 ys hBn s1 hB hyl hv => ?_)
    · try simp only [tOp, tVar, List.getElem?_cons_succ, List.getElem?_cons_zero, tC, exSlot, rI_int, CMul, rAddA_int, rIx_str]
      have m26 := mod_lt' (i := fi + 9 * (0 + (i : Int))) (j := 26) (by decide)
      obtain ⟨d, e, hd, _⟩ := atI_in (xs := caps) m26.1 m26.2
      exact ⟨.inl (by decide), by decide, short_le (by rw [mk_len]; decide), d, e, hR _ _ (Same.refl _) ⟨d, rfl, hd⟩⟩
    obtain ⟨cs, rfl, hcs⟩ := caps_of hv
    have hcl : cs.length ≤ 3 := by rw [List.length_map] at hyl; omega
    obtain ⟨w0, ew0, hw0⟩ := pick_0 hTl.1
    obtain ⟨w1, ew1, hw1⟩ := pick_l hTl.1
    obtain ⟨w2, ew2, hw2⟩ := pick_0 hNl.1
    have hT1 := s1 _ _ hTa
    have hN1 := s1 _ _ hNa
    refine rIx_lst (SqL.of hT1) ew0 (rIx_lst (SqL.of hT1) ew1 (rIx_lst (SqL.of hN1) ew2 ⟨by simp only [List.length_cons, List.length_nil]; decide, fun p2 hp2 => ?_⟩))
    obtain ⟨H2, e2, s2, h2⟩ := newO hp2 (.lst [sv w0, sv w1, sv w2]); rw [e2]
    refine .inr (.inr (.inl ⟨B, p2, _, _, rfl, rfl, s2 _ _ hB, h2, ?_, fun S0 hS0 => ?_⟩))
    · exact Nat.le_trans (show _ ≤ 1000 by simp only [List.length_map, List.length_cons, List.length_nil]; omega) (by decide)
    obtain ⟨H3, e3, s3, h3⟩ := newO hS0 (.lst (pv' cs ++ [sv w0, sv w1, sv w2])); rw [e3]
    have h3' : H3 S0 = some (.lst (pv' (cs ++ [w0, w1, w2]))) := by
      rw [h3]; exact congrArg (fun l => some (HO.lst l)) (List.map_append (f := fun l => V.str (mk l)) (l₁ := cs) (l₂ := [w0, w1, w2])).symm
    have hW3 : ∀ p ∈ [w0, w1, w2], IsW p := fun p hp => by
      simp only [List.mem_cons, List.not_mem_nil, or_false] at hp
      rcases hp with rfl | rfl | rfl
      · exact hTw _ hw0
      · exact hTw _ hw1
      · exact hNw _ hw2
    have ho3 : Some4 (cs ++ [w0, w1, w2]) := by
      refine ⟨by simp only [List.length_append, List.length_cons, List.length_nil]; omega, fun p hp => ?_, cs, hcl, fun p hp hc => ?_⟩
      · rcases List.mem_append.mp hp with z | z
        · exact hcs p z
        · exact .inl (hW3 p z)
      · rcases List.mem_append.mp hp with z | z
        · exact z
        · rw [capB_w (hW3 p z)] at hc; cases hc
    have ho4 : Some4 [w0, w1, w2] := ⟨⟨by simp, by simp⟩, fun p hp => .inl (hW3 p hp), [], by decide, fun p hp hc => by rw [capB_w (hW3 p hp)] at hc; cases hc⟩
    have s03 := (s1.trans s2).trans s3
    refine ⟨a, ns, 2, rfl, s03.seq hS, hl, by decide, by decide, fun c2 => ?_⟩
    have m5 := mod_lt' (i := c2 / 4) (j := 5) (by decide)
    try simp only [rI_int, CDiv, rAddA_int]
    refine ⟨⟨by decide, by decide⟩, by decide, ?_⟩
    refine ⟨fun σ' H' => ∃ (Sx : Addr) (sm : List (List Nat)) (mn : Int), σ' = [some (V.ref a), some (V.int kind), some (V.ref Ta), some (V.ref Na), some (V.str (mk caps)), some (V.int fi), some (V.ref Sx), some (V.int mn), none] ∧ Same H H' ∧ H' Sx = some (.lst (pv' sm)) ∧ Some4 sm ∧ (1 ≤ mn ∧ mn ≤ 5) ∧ (kind = 3 → mn = 1), ?_, ?_⟩
    · try simp only [tIfS, tTest, tOp, tVar, List.getElem?_cons_succ, List.getElem?_cons_zero, tC, tSeq, tAsg, tLst, tCons, tUn, tNil, gName, List.set_cons_succ, List.set_cons_zero, exSlot, rU_int, tNext, rEqH_int, exBl, decide_eq_true_eq]
      refine ite2 (fun c => ?_) (fun c => ⟨S0, _, _, rfl, s03, h3', ho3, by omega, fun z => absurd (by rw [z]; rfl) c⟩)
      have hT3 := s03 _ _ hTa
      have hN3 := s03 _ _ hNa
      refine rIx_lst (SqL.of hT3) ew0 (rIx_lst (SqL.of hT3) ew1 (rIx_lst (SqL.of hN3) ew2 ⟨by simp only [List.length_cons, List.length_nil]; decide, fun p4 hp4 => ?_⟩))
      obtain ⟨H4, e4, s4, h4⟩ := newO hp4 (.lst [sv w0, sv w1, sv w2]); rw [e4]
      exact ⟨p4, [w0, w1, w2], _, rfl, s03.trans s4, h4, ho4, ⟨by decide, by decide⟩, fun _ => rfl⟩
    clear ho3 ho4 h3' h3 e3
    rintro σ' H4 ⟨Sx, sm, mn, rfl, s4, hS4, ho, hmn, hk3⟩
    try simp only [tSeq, List.getElem?_cons_succ, List.getElem?_cons_zero, List.set_cons_succ, List.set_cons_zero, exSlot]
    refine ⟨_, rfl, by omega, by omega, ?_⟩
    refine comp_1 src_range (Nat.le_trans (show mn.toNat ≤ 1000 by omega) (by decide)) [some (V.ref a)] rfl (fun i v => ∃ n : Int, v = .int n) (fun _ _ => trivial) (fun i H' R hi s hR => ?_) (fun Nb H5 zs hNbn s5 hNb hzl hzv => ?_)
    · try simp only [tCall, tCons, tVar, List.getElem?_cons_succ, List.getElem?_cons_zero, tOp, tC, tNil, List.append_nil, exSlot, rAddA_int]
      exact ⟨a, ns, _, rfl, (s4.trans s).seq hS, hl, by omega, by omega, fun n => hR _ _ (Same.refl _) ⟨n, rfl⟩⟩
    try skip
    refine ⟨fun σ' H' => ∃ (Nb : Addr) (zs : List V), σ' = [some (V.ref a), some (V.int kind), some (V.ref Ta), some (V.ref Na), some (V.str (mk caps)), some (V.int fi), some (V.ref Sx), some (V.int mn), some (V.ref Nb)] ∧ Same H4 H' ∧ H' Nb = some (.lst zs) ∧ zs.length = mn.toNat ∧ ∀ (i : Nat) v, zs[i]? = some v → ∃ n : Int, v = .int n, ?_, ?_⟩
    · try simp only [tIfS, tTest, tOp, tCall, tCons, tVar, List.getElem?_cons_zero, tC, tNil, List.append_nil, List.getElem?_cons_succ, List.set_cons_succ, List.set_cons_zero, exSlot, exRef, tNext]
      refine ⟨a, ns, 2, rfl, (s4.trans s5).seq hS, hl, by decide, by decide, fun c3 => ?_⟩
      try simp only [rI_int, CDiv, rEqH_int, exBl, decide_eq_true_eq]
      refine ⟨⟨by decide, by decide⟩, by decide, ite2 (fun c => ?_) (fun c => ⟨Nb, zs, rfl, s5, hNb, hzl, hzv⟩)⟩
      refine ⟨⟨_, SqL.of hNb⟩, ?_⟩
      refine comp_1 (src_list (xs := zs)) (Nat.le_trans (show zs.length ≤ 1000 by omega) (by decide)) [] rfl (fun i v => ∃ n : Int, v = .int n) (fun H' s => SqL.of (s _ _ hNb)) (fun i H' R hi s hR => ?_) (fun Nc H6 us hNcn s6 hNc hul huv => ?_)
      · obtain ⟨n, en⟩ := hzv i zs[i] (List.getElem?_eq_getElem hi)
        rw [List.getElem?_eq_getElem hi, Option.getD_some, en]
        try simp only [tCall, tCons, tVar, List.getElem?_cons_zero, tC, tNil, List.append_nil, exSlot, spMix_at]
        intro r _
        exact hR _ _ (Same.refl _) ⟨r, rfl⟩
      exact ⟨Nc, us, rfl, s5.trans s6, hNc, by rw [hul, hzl], huv⟩
    clear hNb hzl hzv hNbn s5
    rintro σ' H5 ⟨Nb, zs, rfl, s5, hNb, hzl, hzv⟩
    try simp only [tRet, tComp_eq, iList, tVar, List.getElem?_cons_succ, List.getElem?_cons_zero, exSlot, exRef]
    refine ⟨⟨_, SqL.of hNb⟩, ?_⟩
    have hN5 := s5 _ _ (s4 _ _ hNa)
    have hS5 := s5 _ _ hS4
    refine comp_1d (src_list (xs := zs)) (Nat.le_trans (show zs.length ≤ 1000 by omega) (by decide)) [some (V.ref Na), some (V.ref Sx)] rfl (fun D i v H' => PartS sm D v H') ?_ (fun H' s => SqL.of (s _ _ hNb)) (fun D i H' R hi hDn s hD hR => ?_) (fun D H6 us hDn s6 hD hul huv => ?_)
    · rintro D i v Ha Hb up ⟨p, L, s, e, n1, n2, hT, hq, g1, g2⟩
      exact ⟨p, L, s, e, n1, n2, hT, hq, up _ _ n1 g1, up _ _ n2 g2⟩
    · obtain ⟨n, en⟩ := hzv i zs[i] (List.getElem?_eq_getElem hi)
      rw [List.getElem?_eq_getElem hi, Option.getD_some, en]
      obtain ⟨vs, hD⟩ := hD
      try simp only [tCall, tCons, tVar, List.getElem?_cons_zero, List.getElem?_cons_succ, tNil, List.append_nil, exSlot]
      refine ⟨n, Na, Sx, N, sm, rfl, s _ _ hN5, s _ _ hS5, ⟨hNl.1, by omega⟩, ⟨ho.1.1, by have := ho.1.2; omega⟩, hNw, ho.2.1, fun s0 p L H7 hT hq s7 hn hat => ?_⟩
      exact hR _ _ s7 ⟨p, L, s0, rfl, fun z => ne_of_none hD hn.1 z.symm, fun z => ne_of_none hD hn.2.1 z.symm, hT, hq, hat.1, hat.2⟩
    obtain ⟨ss, hsl, hA, hT, hq⟩ := parts_s huv
    obtain ⟨s0, ss', rfl⟩ : ∃ s0 ss', ss = s0 :: ss' := by
      cases ss with
      | nil => rw [List.length_nil] at hsl; omega
      | cons s0 ss' => exact ⟨s0, ss', rfl⟩
    have hsl' : ss'.length + 1 = mn.toNat := by rw [← hzl, ← hul, ← hsl]; rfl
    exact q D us s0 ss' H6 ((s4.trans s5).trans s6) (none_of (s4.trans s5) hDn) hD hA (by omega) hT (all_3 ho hq) fun z => by
      have := hk3 z
      exact List.length_eq_zero_iff.mp (by omega)
end
end K21
namespace K21
open PySem L2 Tx

section
variable {P : Program} {w : World} {K : PySem.W.Frag} {mg : Str → Option Value} {base : Heap} {t : Adr}
theorem ok_d_l_words (T : Txt K mg t) : FnOk P w K mg base CX0 2 t.f_d_l_words t.fd_d_l_words ["_law_cell", "_law_many"] spWords := by
  refine T.F_d_l_words.ok sc_d_l_words (fun vs H Q E h => ?_) (fun cdv A outer s H vs Q E hr h => ?_)
  · obtain ⟨c, m, rfl, hm, q⟩ := h; rfl
  · obtain ⟨c, m, rfl, hm, q⟩ := h
    refine ⟨_, (@pss_cons _ _ _ _ _ (@ps_set _ _ (2) _ _ _ _ sc_d_l_words.nd rfl (by first | exact Or.inl rfl | exact Or.inr rfl) (@pe_str _ _ _ _) (by rfl) (by first | exact Or.inl rfl | exact Or.inr rfl | assumption)) (@pss_cons _ _ _ _ _ (@ps_setComp _ _ _ _ _ _ _ _ _ _ _ _ _ (3) _ _ _ (@compOk_of _ (defScope s_d_l_words) (n_d_l_words) (["_law_k" , "_law_signs" , "_law_cell"]) ([none , some 2 , some 0]) _ rfl rfl (by decide +kernel)) rfl (@pi_range1 _ _ _ _ _ _ rfl T.z_range (@pa_cons _ _ _ _ _ (@pe_int _ _ _ _) (@pa_nil _) (by rfl)) (by rfl)) (fun _ _ _ _ _ => (@pg_name _ _ (0) _ (show List.Nodup (["_law_k" , "_law_signs" , "_law_cell"] : List Str) by decide +kernel) rfl (by first | exact Or.inl rfl | exact Or.inr rfl) (by first | exact Or.inl rfl | exact Or.inr rfl | assumption))) (fun _ _ _ _ _ => @pts_nil _) (fun _ _ _ _ _ => (@pe_ix _ _ _ _ _ _ _ (ix_seqK (K := K) rfl) (@pv _ 1 _ _ (by rfl) (by first | exact vis0 rfl | exact vis1 rfl | exact vis2 rfl) (by decide) (by decide)) (@pe_op _ _ _ _ _ _ _ _ op_mod (@pe_call _ _ _ _ _ _ _ _ _ _ _ _ _ _ _ _ (ok_d_l_mix T) (hr.mono (by decide)) rfl T.g_d_l_mix T.F_d_l_mix.kp T.b_d_l_mix .nil pass0 (@pa_cons _ _ _ _ _ (@pv _ 2 _ _ (by rfl) (by first | exact vis0 rfl | exact vis1 rfl | exact vis2 rfl) (by decide) (by decide)) (@pa_cons _ _ _ _ _ (@pe_op _ _ _ _ _ _ _ _ (op_addK (K := K) rfl) (@pe_int _ _ _ _) (@pv _ 0 _ _ (by rfl) (by first | exact vis0 rfl | exact vis1 rfl | exact vis2 rfl) (by decide) (by decide))) (@pa_nil _) (by rfl)) (by rfl)) (by decide) (by rfl) (by rfl)) (@pe_int _ _ _ _)) (fun _ _ => rfl))) sc_d_l_words.nd rfl (by first | exact Or.inl rfl | exact Or.inr rfl) rfl (by intro _ ; rfl) (by first | exact Or.inl rfl | exact Or.inr rfl | assumption)) (@pss_cons _ _ _ _ _ (@ps_set _ _ (4) _ _ _ _ sc_d_l_words.nd rfl (by first | exact Or.inl rfl | exact Or.inr rfl) (@pe_op _ _ _ _ _ _ _ _ op_addA (@pe_int _ _ _ _) (@pe_op _ _ _ _ _ _ _ _ op_mod (@pe_call _ _ _ _ _ _ _ _ _ _ _ _ _ _ _ _ (ok_d_l_mix T) (hr.mono (by decide)) rfl T.g_d_l_mix T.F_d_l_mix.kp T.b_d_l_mix .nil pass0 (@pa_cons _ _ _ _ _ (@pv _ 0 _ _ (by rfl) (by first | exact vis0 rfl | exact vis1 rfl | exact vis2 rfl) (by decide) (by decide)) (@pa_cons _ _ _ _ _ (@pe_int _ _ _ _) (@pa_nil _) (by rfl)) (by rfl)) (by decide) (by rfl) (by rfl)) (@pe_int _ _ _ _))) (by rfl) (by first | exact Or.inl rfl | exact Or.inr rfl | assumption)) (@pss_cons _ _ _ _ _ (@ps_set _ _ (5) _ _ _ _ sc_d_l_words.nd rfl (by first | exact Or.inl rfl | exact Or.inr rfl) (@pe_op _ _ _ _ _ _ _ _ op_mod (@pe_call _ _ _ _ _ _ _ _ _ _ _ _ _ _ _ _ (ok_d_l_mix T) (hr.mono (by decide)) rfl T.g_d_l_mix T.F_d_l_mix.kp T.b_d_l_mix .nil pass0 (@pa_cons _ _ _ _ _ (@pv _ 0 _ _ (by rfl) (by first | exact vis0 rfl | exact vis1 rfl | exact vis2 rfl) (by decide) (by decide)) (@pa_cons _ _ _ _ _ (@pe_int _ _ _ _) (@pa_nil _) (by rfl)) (by rfl)) (by decide) (by rfl) (by rfl)) (@pv _ 4 _ _ (by rfl) (by first | exact vis0 rfl | exact vis1 rfl | exact vis2 rfl) (by decide) (by decide))) (by rfl) (by first | exact Or.inl rfl | exact Or.inr rfl | assumption)) (@pss_cons _ _ _ _ _ (@ps_set _ _ (6) _ _ _ _ sc_d_l_words.nd rfl (by first | exact Or.inl rfl | exact Or.inr rfl) (@pe_lst _ _ _ _ (@pa_nil _)) (by rfl) (by first | exact Or.inl rfl | exact Or.inr rfl | assumption)) (@pss_cons _ _ _ _ _ (@ps_for _ _ _ _ _ _ _ _ PassesOwn.never rfl (@pi_range1 _ _ _ _ _ _ rfl T.z_range (@pa_cons _ _ _ _ _ (@pv _ 1 _ _ (by rfl) (by first | exact vis0 rfl | exact vis1 rfl | exact vis2 rfl) (by decide) (by decide)) (@pa_nil _) (by rfl)) (by rfl)) (@pg_name _ _ (7) _ sc_d_l_words.nd rfl (by first | exact Or.inl rfl | exact Or.inr rfl) (by first | exact Or.inl rfl | exact Or.inr rfl | assumption)) (@pss_cons _ _ _ _ _ (@ps_set _ _ (8) _ _ _ _ sc_d_l_words.nd rfl (by first | exact Or.inl rfl | exact Or.inr rfl) (@pe_callTy _ _ _ _ _ _ _ _ _ call_listOf rfl T.z_list boot_listT (@pa_cons _ _ _ _ _ (@pv _ 3 _ _ (by rfl) (by first | exact vis0 rfl | exact vis1 rfl | exact vis2 rfl) (by decide) (by decide)) (@pa_nil _) (by rfl)) (by decide) (by decide) (by rfl) (by rfl)) (by rfl) (by first | exact Or.inl rfl | exact Or.inr rfl | assumption)) (@pss_cons _ _ _ _ _ (@ps_asg _ _ _ _ _ _ (@pe_ix _ _ _ _ _ _ _ ix_seq (@pv _ 2 _ _ (by rfl) (by first | exact vis0 rfl | exact vis1 rfl | exact vis2 rfl) (by decide) (by decide)) (@pe_op _ _ _ _ _ _ _ _ op_mod (@pe_op _ _ _ _ _ _ _ _ op_addA (@pe_call _ _ _ _ _ _ _ _ _ _ _ _ _ _ _ _ (ok_d_l_mix T) (hr.mono (by decide)) rfl T.g_d_l_mix T.F_d_l_mix.kp T.b_d_l_mix .nil pass0 (@pa_cons _ _ _ _ _ (@pv _ 0 _ _ (by rfl) (by first | exact vis0 rfl | exact vis1 rfl | exact vis2 rfl) (by decide) (by decide)) (@pa_cons _ _ _ _ _ (@pe_int _ _ _ _) (@pa_nil _) (by rfl)) (by rfl)) (by decide) (by rfl) (by rfl)) (@pv _ 7 _ _ (by rfl) (by first | exact vis0 rfl | exact vis1 rfl | exact vis2 rfl) (by decide) (by decide))) (@pe_int _ _ _ _)) (fun _ _ => rfl)) (@pg_sub _ _ _ _ _ _ _ (@pv _ 8 _ _ (by rfl) (by first | exact vis0 rfl | exact vis1 rfl | exact vis2 rfl) (by decide) (by decide)) (@pv _ 5 _ _ (by rfl) (by first | exact vis0 rfl | exact vis1 rfl | exact vis2 rfl) (by decide) (by decide)) set_list (by intro _ ; rfl)) (by rfl) (by rfl) (by rfl)) (@pss_one _ _ _ (@ps_if _ _ _ _ _ _ _ _ (@pt_cmpR _ _ _ _ _ _ _ _ (op_eqH hr.units) (@pe_op _ _ _ _ _ _ _ _ op_mod (@pv _ 0 _ _ (by rfl) (by first | exact vis0 rfl | exact vis1 rfl | exact vis2 rfl) (by decide) (by decide)) (@pe_int _ _ _ _)) (@pe_int _ _ _ _) (nomark _)) (@pss_one _ _ _ (@ps_expr _ _ _ _ (@pe_bm _ _ _ _ _ _ _ _ _ _ _ _ PySem.F.plainAttrs_list PySem.F.slot_list_append PySem.F.type_list_append mt_append (@pv _ 6 _ _ (by rfl) (by first | exact vis0 rfl | exact vis1 rfl | exact vis2 rfl) (by decide) (by decide)) (@pa_cons _ _ _ _ _ (@pe_bm _ _ _ _ _ _ _ _ _ _ _ _ PySem.F.plainAttrs_str PySem.F.slot_str_join PySem.F.type_str_join mt_join (@pe_str _ _ _ _) (@pa_cons _ _ _ _ _ (@pe_slice _ _ _ _ _ _ _ _ _ _ sl_any (@pv _ 3 _ _ (by rfl) (by first | exact vis0 rfl | exact vis1 rfl | exact vis2 rfl) (by decide) (by decide)) (@po_none _) (@po_some _ _ _ (@pe_op _ _ _ _ _ _ _ _ op_addA (@pe_int _ _ _ _) (@pv _ 7 _ _ (by rfl) (by first | exact vis0 rfl | exact vis1 rfl | exact vis2 rfl) (by decide) (by decide))))) (@pa_nil _) (by rfl)) (by rfl) (by rfl) (by rfl) (by rfl) (by rfl)) (@pa_nil _) (by rfl)) (by rfl) (by rfl) (by rfl) (by rfl) (by rfl)) (by rfl))) (@pss_one _ _ _ (@ps_expr _ _ _ _ (@pe_bm _ _ _ _ _ _ _ _ _ _ _ _ PySem.F.plainAttrs_list PySem.F.slot_list_append PySem.F.type_list_append mt_append (@pv _ 6 _ _ (by rfl) (by first | exact vis0 rfl | exact vis1 rfl | exact vis2 rfl) (by decide) (by decide)) (@pa_cons _ _ _ _ _ (@pe_bm _ _ _ _ _ _ _ _ _ _ _ _ PySem.F.plainAttrs_str PySem.F.slot_str_join PySem.F.type_str_join mt_join (@pe_str _ _ _ _) (@pa_cons _ _ _ _ _ (@pe_slice _ _ _ _ _ _ _ _ _ _ sl_any (@pv _ 8 _ _ (by rfl) (by first | exact vis0 rfl | exact vis1 rfl | exact vis2 rfl) (by decide) (by decide)) (@po_none _) (@po_some _ _ _ (@pv _ 4 _ _ (by rfl) (by first | exact vis0 rfl | exact vis1 rfl | exact vis2 rfl) (by decide) (by decide)))) (@pa_nil _) (by rfl)) (by rfl) (by rfl) (by rfl) (by rfl) (by rfl)) (@pa_nil _) (by rfl)) (by rfl) (by rfl) (by rfl) (by rfl) (by rfl)) (by rfl))))))) (by intro _ ; rfl)) (@pss_one _ _ _ (@ps_ret _ _ _ _ (@pv _ 6 _ _ (by rfl) (by first | exact vis0 rfl | exact vis1 rfl | exact vis2 rfl) (by decide) (by decide)))))))))), ?_⟩
    rw [show start n_d_l_words [V.int c, V.int m] = [some (V.int c), some (V.int m), none, none, none, none, none, none, none] from rfl]
    try simp only [tSeq, tAsg, tC, gName, List.set_cons_succ, List.set_cons_zero, tOp, tCall, tCons, tVar, List.getElem?_cons_zero, tNil, List.append_nil, List.getElem?_cons_succ, tLst, tFor_eq, iRng1, exSlot, spMix_at, rI_int, rAddA_int, tComp_eq]
    rw [low_eq]
    refine ⟨8, rfl, by decide, by decide, ?_⟩
    refine comp_1 src_range (Nat.le_trans (show (8 : Int).toNat ≤ 1000 by decide) (by decide)) [some (V.str (mk lows)), some (V.int c)] rfl (fun i v => ∃ d, v = sv [d] ∧ d ∈ lows) (fun _ _ => trivial) (fun i H' R hi s hR => ?_) (fun B H1 ys hBn s1 hB hl hv => ?_)
    · try simp only [tOp, tVar, List.getElem?_cons_succ, List.getElem?_cons_zero, tCall, tCons, tC, tNil, List.append_nil, exSlot, rAddA_int, spMix_at, rI_int, rIx_str]
      intro r hr
      have m26 := mod_lt' (i := r) (j := 26) (by decide)
      obtain ⟨d, e, hd, _⟩ := atI_in (xs := lows) m26.1 m26.2
      exact ⟨by decide, short_le (by rw [mk_len]; decide), d, e, hR _ _ (Same.refl _) ⟨d, rfl, hd⟩⟩
    obtain ⟨cs, rfl, hcs⟩ := sgl_of hv
    have hcl : cs.length = 8 := by rw [List.length_map, sgl_len] at hl; exact hl
    intro r hr
    have m8 := mod_lt' (i := r) (j := 8) (by decide)
    refine ⟨by decide, fun r1 hr1 => ?_⟩
    have mz := mod_lt' (i := r1) (j := 1 + r % 8) (by omega)
    refine ⟨by omega, by decide, fun F hF => ⟨_, rfl, by omega, by omega, ?_⟩⟩
    have hsz : 1 ≤ 1 + r % 8 ∧ 1 + r % 8 ≤ 8 := by omega
    generalize 1 + r % 8 = sz at mz hsz ⊢
    generalize r1 % sz = at0 at mz ⊢
    obtain ⟨H2, e2, s2, h2⟩ := newO hF (.lst []); rw [e2]
    have hFn : H F = none := none_of s1 hF
    refine for_range (n := m.toNat) (lo := 0) (fun i σ H' => ∃ (ws : List (List Nat)) (x7 x8 : Option V), σ = [some (V.int c), some (V.int m), some (V.str (mk lows)), some (V.ref B), some (V.int sz), some (V.int at0), some (V.ref F), x7, x8] ∧ Same H H' ∧ H' B = some (.lst (pv' (sgl cs))) ∧ H' F = some (.lst (pv' ws)) ∧ ws.length = i ∧ ∀ w ∈ ws, IsW w)
      ⟨[], _, _, rfl, s1.trans s2, s2 _ _ hB, h2, rfl, by simp⟩ ?_ ?_
    · rintro i σ H3 hi ⟨ws, x7, x8, rfl, s3, hB3, hF3, hwl, hww⟩
      have hBF : B ≠ F := ne_of_none hB hF
      try simp only [gName, tSeq, tAsg, tCB, tCons, tVar, List.set_cons_succ, List.set_cons_zero, List.getElem?_cons_succ, List.getElem?_cons_zero, tNil, tOp, tCall, tC, List.append_nil, gSub, tIfS, tTest, tDrop, tBM, tSl, tNoPart, tPart, exSlot, rAddA_int, exInt, tyV_str, rI_int, rEqH_int, exBl, decide_eq_true_eq, spMix_at, rIx_str]
      refine ⟨B, _, rfl, .inl (SqL.of hB3), fun O hO => ?_⟩
      obtain ⟨H4, e4, s4, h4⟩ := newO hO (.lst (pv' (sgl cs))); rw [e4]
      intro r2 hr2
      have m26 := mod_lt' (i := r2 + (0 + (i : Int))) (j := 26) (by decide)
      obtain ⟨d, e, hd, _⟩ := atI_in (xs := lows) m26.1 m26.2
      refine ⟨by decide, short_le (by rw [mk_len]; decide), d, e, ?_⟩
      refine rSetL_of h4 mz.1 (by rw [List.length_map, sgl_len, hcl]; omega) ?_
      rw [show (V.str (⟨#[d]⟩ : Str)) = sv [d] from rfl, set_sgl]
      obtain ⟨H5, e5, s5, h5⟩ : ∃ H5, upd H4 O (.lst (pv' (sgl (cs.set at0.toNat d)))) = H5 ∧ Same H3 H5 ∧ H5 O = some (.lst (pv' (sgl (cs.set at0.toNat d)))) := ⟨_, rfl, fun b o e => by rw [upd_ne (ne_of_none e hO)]; exact s4 _ _ e, upd_same⟩
      rw [e5]
      have hF5 := s5 _ _ hF3
      have hB5 := s5 _ _ hB3
      have fin : ∀ (H6 : Hp) (w : List Nat), Same H5 H6 → IsW w → ∃ (ws' : List (List Nat)) (x7' x8' : Option V), [some (V.int c), some (V.int m), some (V.str (mk lows)), some (V.ref B), some (V.int sz), some (V.int at0), some (V.ref F), some (V.int (0 + (i : Int))), some (V.ref O)] = [some (V.int c), some (V.int m), some (V.str (mk lows)), some (V.ref B), some (V.int sz), some (V.int at0), some (V.ref F), x7', x8'] ∧ Same H (upd H6 F (.lst (pv' ws ++ [sv w]))) ∧ upd H6 F (.lst (pv' ws ++ [sv w])) B = some (.lst (pv' (sgl cs))) ∧ upd H6 F (.lst (pv' ws ++ [sv w])) F = some (.lst (pv' ws')) ∧ ws'.length = i + 1 ∧ ∀ w ∈ ws', IsW w := fun H6 w s6 hw => by
        refine ⟨ws ++ [w], _, _, rfl, fun b o e => by rw [upd_ne (ne_of_none e hFn)]; exact s6 _ _ (s5 _ _ (s3 _ _ e)), by rw [upd_ne hBF]; exact s6 _ _ hB5, by rw [upd_same, pv_app], by simp [hwl], fun x hx => ?_⟩
        rcases List.mem_append.mp hx with z | z
        · exact hww x z
        · rw [List.mem_singleton.mp z]; exact hw
      have hj : ∀ (ds : List Nat), ds.length ≤ 8 → (((sgl ds).map mk).map (·.length)).sum + ((sgl ds).map mk).length * ("" : Str).length ≤ 16777216 := fun ds hd => by
        rw [sgl_sum, show ("" : Str).length = 0 from rfl]; omega
      have hwb : (pv' ws).length < sizeLine := Nat.lt_of_le_of_lt (show _ ≤ 1000 by rw [List.length_map]; omega) (by decide)
      try skip
      refine ⟨by decide, ite2 (fun c1 => ?_) (fun c1 => ?_)⟩
      · refine ⟨.inl ⟨rfl, _, SqL.of hF5⟩, .inr (.inl ⟨B, _, rfl, SqL.of hB5, fun Z hZ => ?_⟩)⟩
        rw [cut_take _ (by omega), pv_take, sgl_take]
        obtain ⟨H6, e6, s6, h6⟩ := newO hZ (.lst (pv' (sgl (cs.take (1 + (0 + (i : Int))).toNat)))); rw [e6]
        have hw := take_w hcl hcs (k := (1 + (0 + (i : Int))).toNat) (by omega) (by omega)
        refine rJoin_of (ys := (sgl (cs.take (1 + (0 + (i : Int))).toNat)).map mk) (.inl (by rw [List.map_map]; exact SqL.of h6)) (hj _ hw.2.1) ?_
        rw [show ("" : Str) = mk [] from rfl, join_mk, join_sgl]
        exact ⟨F, _, _, rfl, rfl, s6 _ _ hF5, hwb, fin H6 _ s6 hw⟩
      · refine ⟨.inl ⟨rfl, _, SqL.of hF5⟩, .inr (.inl ⟨O, _, rfl, SqL.of h5, fun Z hZ => ?_⟩)⟩
        rw [cut_take _ (by omega), pv_take, sgl_take]
        obtain ⟨H6, e6, s6, h6⟩ := newO hZ (.lst (pv' (sgl ((cs.set at0.toNat d).take sz.toNat)))); rw [e6]
        have hw := take_w (cs := cs.set at0.toNat d) (by rw [List.length_set]; exact hcl) (fun x hx => by
          rcases List.mem_or_eq_of_mem_set hx with z | z
          · exact hcs x z
          · rw [z]; exact hd) (k := sz.toNat) (by omega) (by omega)
        refine rJoin_of (ys := (sgl ((cs.set at0.toNat d).take sz.toNat)).map mk) (.inl (by rw [List.map_map]; exact SqL.of h6)) (hj _ hw.2.1) ?_
        rw [show ("" : Str) = mk [] from rfl, join_mk, join_sgl]
        exact ⟨F, _, _, rfl, rfl, s6 _ _ hF5, hwb, fin H6 _ s6 hw⟩
    · rintro σ H3 ⟨ws, x7, x8, rfl, s3, hB3, hF3, hwl, hww⟩
      try simp only [tRet, tVar, List.getElem?_cons_succ, List.getElem?_cons_zero, exSlot]
      exact q F ws H3 s3 hFn hF3 hwl hww
end
end K21
namespace K21
open PySem L2 Tx

section
variable {P : Program} {w : World} {K : PySem.W.Frag} {mg : Str → Option Value} {base : Heap} {t : Adr}
theorem ok_c_Block_again (T : Txt K mg t) : FnOk P w K mg base CX0 3 t.f_c_Block_again t.fd_c_Block_again ["self", "head", "body"] (spAgainR K t.C_Block) := by
  refine T.F_c_Block_again.ok sc_c_Block_again (fun vs H Q E h => ?_) (fun cdv A outer s H vs Q E hr h => ?_)
  · obtain ⟨r, lb, h0, bs0, hd, b, bs, rfl, hR, hb, q⟩ := h; rfl
  · obtain ⟨r, lb, h0, bs0, hd, b, bs, rfl, hR, hb, q⟩ := h
    refine ⟨_, (@pss_one _ _ _ (@ps_ret _ _ _ _ (@pe_make _ _ _ _ _ _ _ _ _ _ _ _ _ _ _ _ _ T.mk_Block (ok_c_Rule_init T) (hr.mono (by decide)) rfl T.g_Block T.b_c_Rule_init .nil pass0 (@pa_cons _ _ _ _ _ (@pe_fld _ _ _ _ _ (@pv _ 0 _ _ (by rfl) (by first | exact vis0 rfl | exact vis1 rfl | exact vis2 rfl) (by decide) (by decide)) rfl) (@pa_cons _ _ _ _ _ (@pv _ 1 _ _ (by rfl) (by first | exact vis0 rfl | exact vis1 rfl | exact vis2 rfl) (by decide) (by decide)) (@pa_cons _ _ _ _ _ (@pv _ 2 _ _ (by rfl) (by first | exact vis0 rfl | exact vis1 rfl | exact vis2 rfl) (by decide) (by decide)) (@pa_nil _) (by rfl)) (by rfl)) (by rfl)) (by decide) (by rfl) (by rfl)))), ?_⟩
    rw [show start n_c_Block_again [V.ref r, hd, V.ref b] = [some (V.ref r), some (hd), some (V.ref b)] from rfl]
    obtain ⟨dr, t0, hr1, hr2⟩ := hR
    try simp only [tRet, tMake, tCons, tFld, tVar, List.getElem?_cons_zero, List.getElem?_cons_succ, tNil, List.append_nil, exSlot]
    refine ⟨r, _, dr, _, _, rfl, hr1, T.cl_Block, T.nf_Block_label, flds_label _ _ _, ?_⟩
    intro x dx nx ndx ne
    have s : Same H (upd (upd H dx (.own x)) x (.ins t.C_Block dx [])) := fun c o e => by rw [upd_ne (ne_of_none e nx), upd_ne (ne_of_none e ndx)]; exact e
    exact ⟨x, t.C_Block, dx, lb, hd, b, bs, rfl, upd_same, ⟨T.cl_Block, T.nf_Block_label, T.nf_Block_head, T.nf_Block_body⟩, hb.elim (fun h => .inl (s.seq h)) (fun h => .inr ⟨s.tup h.1, s _ _ h.2⟩), fun H' k r => ⟨rfl, q x H' (fun c o e => k c o (s _ _ e) (ne_of_none e nx)) r⟩⟩
end
end K21
namespace K21
open PySem L2 Tx

section
variable {P : Program} {w : World} {K : PySem.W.Frag} {mg : Str → Option Value} {base : Heap} {t : Adr}
theorem ok_c_Fact_again (T : Txt K mg t) : FnOk P w K mg base CX0 4 t.f_c_Fact_again t.fd_c_Fact_again ["self", "head", "body"] (spAgainF t) := by
  refine T.F_c_Fact_again.ok sc_c_Fact_again (fun vs H Q E h => ?_) (fun cdv A outer s H vs Q E hr h => ?_)
  · obtain ⟨x0, hd, b, rfl, q⟩ := h; rfl
  · obtain ⟨x0, hd, b, rfl, q⟩ := h
    refine ⟨_, (@pss_one _ _ _ (@ps_ret _ _ _ _ (@pe_make _ _ _ _ _ _ _ _ _ _ _ _ _ _ _ _ _ T.mk_Fact (ok_c_Fact_init T) (hr.mono (by decide)) rfl T.g_Fact T.b_c_Fact_init .nil pass0 (@pa_cons _ _ _ _ _ (@pv _ 1 _ _ (by rfl) (by first | exact vis0 rfl | exact vis1 rfl | exact vis2 rfl) (by decide) (by decide)) (@pa_nil _) (by rfl)) (by decide) (by rfl) (by rfl)))), ?_⟩
    rw [show start n_c_Fact_again [x0, hd, b] = [some (x0), some (hd), some (b)] from rfl]
    try simp only [tRet, tMake, tCons, tVar, List.getElem?_cons_succ, List.getElem?_cons_zero, tNil, List.append_nil, exSlot]
    intro x dx nx ndx ne
    exact ⟨x, dx, hd, rfl, upd_same, fun H' k r => ⟨rfl, q x H' (fun c o e => k c o (by rw [upd_ne (ne_of_none e nx), upd_ne (ne_of_none e ndx)]; exact e) (ne_of_none e nx)) r⟩⟩
end
end K21
namespace K21
open PySem L2 Tx

section
variable {P : Program} {w : World} {K : PySem.W.Frag} {mg : Str → Option Value} {base : Heap} {t : Adr}
theorem ok_c_Most_again (T : Txt K mg t) : FnOk P w K mg base CX0 3 t.f_c_Most_again t.fd_c_Most_again ["self", "head", "body"] (spAgainR K t.C_Most) := by
  refine T.F_c_Most_again.ok sc_c_Most_again (fun vs H Q E h => ?_) (fun cdv A outer s H vs Q E hr h => ?_)
  · obtain ⟨r, lb, h0, bs0, hd, b, bs, rfl, hR, hb, q⟩ := h; rfl
  · obtain ⟨r, lb, h0, bs0, hd, b, bs, rfl, hR, hb, q⟩ := h
    refine ⟨_, (@pss_one _ _ _ (@ps_ret _ _ _ _ (@pe_make _ _ _ _ _ _ _ _ _ _ _ _ _ _ _ _ _ T.mk_Most (ok_c_Rule_init T) (hr.mono (by decide)) rfl T.g_Most T.b_c_Rule_init .nil pass0 (@pa_cons _ _ _ _ _ (@pe_fld _ _ _ _ _ (@pv _ 0 _ _ (by rfl) (by first | exact vis0 rfl | exact vis1 rfl | exact vis2 rfl) (by decide) (by decide)) rfl) (@pa_cons _ _ _ _ _ (@pv _ 1 _ _ (by rfl) (by first | exact vis0 rfl | exact vis1 rfl | exact vis2 rfl) (by decide) (by decide)) (@pa_cons _ _ _ _ _ (@pv _ 2 _ _ (by rfl) (by first | exact vis0 rfl | exact vis1 rfl | exact vis2 rfl) (by decide) (by decide)) (@pa_nil _) (by rfl)) (by rfl)) (by rfl)) (by decide) (by rfl) (by rfl)))), ?_⟩
    rw [show start n_c_Most_again [V.ref r, hd, V.ref b] = [some (V.ref r), some (hd), some (V.ref b)] from rfl]
    obtain ⟨dr, t0, hr1, hr2⟩ := hR
    try simp only [tRet, tMake, tCons, tFld, tVar, List.getElem?_cons_zero, List.getElem?_cons_succ, tNil, List.append_nil, exSlot]
    refine ⟨r, _, dr, _, _, rfl, hr1, T.cl_Most, T.nf_Most_label, flds_label _ _ _, ?_⟩
    intro x dx nx ndx ne
    have s : Same H (upd (upd H dx (.own x)) x (.ins t.C_Most dx [])) := fun c o e => by rw [upd_ne (ne_of_none e nx), upd_ne (ne_of_none e ndx)]; exact e
    exact ⟨x, t.C_Most, dx, lb, hd, b, bs, rfl, upd_same, ⟨T.cl_Most, T.nf_Most_label, T.nf_Most_head, T.nf_Most_body⟩, hb.elim (fun h => .inl (s.seq h)) (fun h => .inr ⟨s.tup h.1, s _ _ h.2⟩), fun H' k r => ⟨rfl, q x H' (fun c o e => k c o (s _ _ e) (ne_of_none e nx)) r⟩⟩
end
end K21
namespace K21
open PySem L2 Tx

section
variable {P : Program} {w : World} {K : PySem.W.Frag} {mg : Str → Option Value} {base : Heap} {t : Adr}
theorem ok_c_Sure_again (T : Txt K mg t) : FnOk P w K mg base CX0 3 t.f_c_Sure_again t.fd_c_Sure_again ["self", "head", "body"] (spAgainR K t.C_Sure) := by
  refine T.F_c_Sure_again.ok sc_c_Sure_again (fun vs H Q E h => ?_) (fun cdv A outer s H vs Q E hr h => ?_)
  · obtain ⟨r, lb, h0, bs0, hd, b, bs, rfl, hR, hb, q⟩ := h; rfl
  · obtain ⟨r, lb, h0, bs0, hd, b, bs, rfl, hR, hb, q⟩ := h
    refine ⟨_, (@pss_one _ _ _ (@ps_ret _ _ _ _ (@pe_make _ _ _ _ _ _ _ _ _ _ _ _ _ _ _ _ _ T.mk_Sure (ok_c_Rule_init T) (hr.mono (by decide)) rfl T.g_Sure T.b_c_Rule_init .nil pass0 (@pa_cons _ _ _ _ _ (@pe_fld _ _ _ _ _ (@pv _ 0 _ _ (by rfl) (by first | exact vis0 rfl | exact vis1 rfl | exact vis2 rfl) (by decide) (by decide)) rfl) (@pa_cons _ _ _ _ _ (@pv _ 1 _ _ (by rfl) (by first | exact vis0 rfl | exact vis1 rfl | exact vis2 rfl) (by decide) (by decide)) (@pa_cons _ _ _ _ _ (@pv _ 2 _ _ (by rfl) (by first | exact vis0 rfl | exact vis1 rfl | exact vis2 rfl) (by decide) (by decide)) (@pa_nil _) (by rfl)) (by rfl)) (by rfl)) (by decide) (by rfl) (by rfl)))), ?_⟩
    rw [show start n_c_Sure_again [V.ref r, hd, V.ref b] = [some (V.ref r), some (hd), some (V.ref b)] from rfl]
    obtain ⟨dr, t0, hr1, hr2⟩ := hR
    try simp only [tRet, tMake, tCons, tFld, tVar, List.getElem?_cons_zero, List.getElem?_cons_succ, tNil, List.append_nil, exSlot]
    refine ⟨r, _, dr, _, _, rfl, hr1, T.cl_Sure, T.nf_Sure_label, flds_label _ _ _, ?_⟩
    intro x dx nx ndx ne
    have s : Same H (upd (upd H dx (.own x)) x (.ins t.C_Sure dx [])) := fun c o e => by rw [upd_ne (ne_of_none e nx), upd_ne (ne_of_none e ndx)]; exact e
    exact ⟨x, t.C_Sure, dx, lb, hd, b, bs, rfl, upd_same, ⟨T.cl_Sure, T.nf_Sure_label, T.nf_Sure_head, T.nf_Sure_body⟩, hb.elim (fun h => .inl (s.seq h)) (fun h => .inr ⟨s.tup h.1, s _ _ h.2⟩), fun H' k r => ⟨rfl, q x H' (fun c o e => k c o (s _ _ e) (ne_of_none e nx)) r⟩⟩
end
end K21
namespace K21
open PySem L2 Tx

section
variable {P : Program} {w : World} {K : PySem.W.Frag} {mg : Str → Option Value} {base : Heap} {t : Adr}
theorem ok_d_is_made_of (T : Txt K mg t) : FnOk P w K mg base CX0 1 t.f_d_is_made_of t.fd_d_is_made_of ["thing", "signs", "most"] (spMade K) := by
  refine T.F_d_is_made_of.ok sc_d_is_made_of (fun vs H Q E h => ?_) (fun cdv A outer s H vs Q E hr h => ?_)
  · obtain ⟨x, sg, m, rfl, z, rfl, hz, q⟩ := h; rfl
  · obtain ⟨x, sg, m, rfl, z, rfl, hz, q⟩ := h
    refine ⟨_, (@pss_one _ _ _ (@ps_ret _ _ _ _ (@pe_and _ _ _ _ _ _ _ (@pe_callB _ _ _ _ _ _ _ _ _ call_isinst rfl T.z_isinstance boot_isinstanceT (@pa_cons _ _ _ _ _ (@pv _ 0 _ _ (by rfl) (by first | exact vis0 rfl | exact vis1 rfl | exact vis2 rfl) (by decide) (by decide)) (@pa_cons _ _ _ _ _ (@pe_bltn _ _ (.ty "str") _ _ rfl T.z_str boot_strT rfl (by decide) (by decide)) (@pa_nil _) (by rfl)) (by rfl)) (by decide) (by decide) (by rfl) (by rfl)) (@pe_and _ _ _ _ _ _ _ (@pe_chain _ _ _ _ _ _ _ _ _ _ _ _ op_le op_le (@pe_int _ _ _ _) (@pe_callB _ _ _ _ _ _ _ _ _ call_lenA rfl T.z_len boot_lenT (@pa_cons _ _ _ _ _ (@pv _ 0 _ _ (by rfl) (by first | exact vis0 rfl | exact vis1 rfl | exact vis2 rfl) (by decide) (by decide)) (@pa_nil _) (by rfl)) (by decide) (by decide) (by rfl) (by rfl)) (@pv _ 2 _ _ (by rfl) (by first | exact vis0 rfl | exact vis1 rfl | exact vis2 rfl) (by decide) (by decide)) (by with_unfolding_all rfl)) (@pe_one _ _ _ _ _ (@pe_callB _ _ _ _ _ _ _ _ _ (call_all_bools rfl) rfl T.z_all boot_allT (@pa_cons _ _ _ _ _ (@pe_comp _ _ _ _ _ _ _ _ _ _ _ _ _ (@compOk_of _ (defScope s_d_is_made_of) (n_d_is_made_of) (["sign" , "signs"]) ([none , some 1]) _ rfl rfl (by decide +kernel)) rfl (@pi_str _ _ _ _ (@pv _ 0 _ _ (by rfl) (by first | exact vis0 rfl | exact vis1 rfl | exact vis2 rfl) (by decide) (by decide))) (fun _ _ _ _ _ => (@pg_name _ _ (0) _ (show List.Nodup (["sign" , "signs"] : List Str) by decide +kernel) rfl (by first | exact Or.inl rfl | exact Or.inr rfl) (by first | exact Or.inl rfl | exact Or.inr rfl | assumption))) (fun _ _ _ _ _ => @pts_nil _) (fun _ _ _ _ _ => (@pe_cmpR _ _ _ _ _ _ _ _ (op_inK (K := K) rfl) (@pv _ 0 _ _ (by rfl) (by first | exact vis0 rfl | exact vis1 rfl | exact vis2 rfl) (by decide) (by decide)) (@pv _ 1 _ _ (by rfl) (by first | exact vis0 rfl | exact vis1 rfl | exact vis2 rfl) (by decide) (by decide)) (by with_unfolding_all rfl))) (by intro _ ; rfl)) (@pa_nil _) (by rfl)) (by decide) (by decide) (by rfl) (by rfl))))))), ?_⟩
    rw [show start n_d_is_made_of [V.str z, V.str sg, V.int m] = [some (V.str z), some (V.str sg), some (V.int m)] from rfl]
    try simp only [tRet, tAndV, tCB, tCons, tVar, List.getElem?_cons_zero, tC, tNil, tChain, List.getElem?_cons_succ, tComp_eq, iStr, exSlot, exStr, exBl, ite_ft, rLenA_str, rI0_int, decide_eq_true_eq, rIsi_str_str]
    refine ⟨short_le hz, ite2 (fun c1 => ite2 (fun c2 => ?_) (fun c2 => ?_)) (fun c1 => ?_)⟩
    · refine comp_1 src_f (short_le hz) [some (V.str sg)] rfl (fun i v => v = .bl (inS (sgn z i) sg)) (fun _ _ => trivial) (fun i H' R hi s hR => ?_) (fun D H' ys _ s hD hl hv => ?_)
      · rw [show signV z i = V.str (sgn z i) from rfl]
        try simp only [tOp, tVar, List.getElem?_cons_zero, List.getElem?_cons_succ, exSlot, rInA_str]
        exact hR _ _ (Same.refl _) rfl
      · have e : ys = ((List.range z.cps.size).map fun i => inS (sgn z i) sg).map V.bl := by
          refine List.ext_getElem? fun i => ?_
          rw [List.getElem?_map, List.getElem?_map]
          by_cases hi : i < z.cps.size
          · rw [List.getElem?_range hi, List.getElem?_eq_getElem (by omega)]
            exact congrArg some (hv i _ (List.getElem?_eq_getElem (by omega)))
          · rw [List.getElem?_eq_none (by omega), List.getElem?_eq_none (by simp; omega)]; rfl
        refine ⟨D, _, rfl, by rw [← e]; exact SqL.of hD, ?_⟩
        have e2 : madeOf z sg m = ((List.range z.cps.size).map fun i => inS (sgn z i) sg).all id := by
          unfold madeOf allIn
          rw [decide_eq_true c1, decide_eq_true c2, List.all_map]; rfl
        rw [← e2]
        exact q _ s
    · have e2 : madeOf z sg m = false := by unfold madeOf; rw [decide_eq_false c2, Bool.and_false, Bool.false_and]
      rw [← e2]; exact q _ (Same.refl _)
    · have e2 : madeOf z sg m = false := by unfold madeOf; rw [decide_eq_false c1, Bool.false_and, Bool.false_and]
      rw [← e2]; exact q _ (Same.refl _)
end
end K21
namespace K21
open PySem L2 Tx

section
variable {P : Program} {w : World} {K : PySem.W.Frag} {mg : Str → Option Value} {base : Heap} {t : Adr}
theorem ok_d_is_name (T : Txt K mg t) : FnOk P w K mg base CX0 2 t.f_d_is_name t.fd_d_is_name ["thing"] (spIs K "abcdefghijklmnopqrstuvwxyz" 8) := by
  refine T.F_d_is_name.ok sc_d_is_name (fun vs H Q E h => ?_) (fun cdv A outer s H vs Q E hr h => ?_)
  · obtain ⟨z, rfl, hz, q⟩ := h; rfl
  · obtain ⟨z, rfl, hz, q⟩ := h
    obtain ⟨_, k_SMALL⟩ := T.k_SMALL
    obtain ⟨_, k_LONGEST⟩ := T.k_LONGEST
    refine ⟨_, (@pss_one _ _ _ (@ps_ret _ _ _ _ (@pe_call _ _ _ _ _ _ _ _ _ _ _ _ _ _ _ _ (ok_d_is_made_of T) (hr.mono (by decide)) rfl T.g_d_is_made_of T.F_d_is_made_of.kp T.b_d_is_made_of .nil pass0 (@pa_cons _ _ _ _ _ (@pv _ 0 _ _ (by rfl) (by first | exact vis0 rfl | exact vis1 rfl | exact vis2 rfl) (by decide) (by decide)) (@pa_cons _ _ _ _ _ (@pe_glob _ _ (.str "abcdefghijklmnopqrstuvwxyz") _ _ rfl k_SMALL ⟨_ , rfl⟩ (by decide)) (@pa_cons _ _ _ _ _ (@pe_glob _ _ (.int 8) _ _ rfl k_LONGEST ⟨_ , rfl⟩ (by decide)) (@pa_nil _) (by rfl)) (by rfl)) (by rfl)) (by decide) (by rfl) (by rfl)))), ?_⟩
    rw [show start n_d_is_name [V.str z] = [some (V.str z)] from rfl]
    try simp only [tRet, tCall, tCons, tVar, List.getElem?_cons_zero, tC, tNil, List.append_nil, exSlot]
    exact ⟨_, _, _, rfl, z, rfl, hz, q⟩
end
end K21
namespace K21
open PySem L2 Tx

section
variable {P : Program} {w : World} {K : PySem.W.Frag} {mg : Str → Option Value} {base : Heap} {t : Adr}
theorem ok_d_is_letter (T : Txt K mg t) : FnOk P w K mg base CX0 2 t.f_d_is_letter t.fd_d_is_letter ["thing"] (spIs K "ABCDEFGHIJKLMNOPQRSTUVWXYZ" 1) := by
  refine T.F_d_is_letter.ok sc_d_is_letter (fun vs H Q E h => ?_) (fun cdv A outer s H vs Q E hr h => ?_)
  · obtain ⟨z, rfl, hz, q⟩ := h; rfl
  · obtain ⟨z, rfl, hz, q⟩ := h
    obtain ⟨_, k_GREAT⟩ := T.k_GREAT
    refine ⟨_, (@pss_one _ _ _ (@ps_ret _ _ _ _ (@pe_call _ _ _ _ _ _ _ _ _ _ _ _ _ _ _ _ (ok_d_is_made_of T) (hr.mono (by decide)) rfl T.g_d_is_made_of T.F_d_is_made_of.kp T.b_d_is_made_of .nil pass0 (@pa_cons _ _ _ _ _ (@pv _ 0 _ _ (by rfl) (by first | exact vis0 rfl | exact vis1 rfl | exact vis2 rfl) (by decide) (by decide)) (@pa_cons _ _ _ _ _ (@pe_glob _ _ (.str "ABCDEFGHIJKLMNOPQRSTUVWXYZ") _ _ rfl k_GREAT ⟨_ , rfl⟩ (by decide)) (@pa_cons _ _ _ _ _ (@pe_int _ _ _ _) (@pa_nil _) (by rfl)) (by rfl)) (by rfl)) (by decide) (by rfl) (by rfl)))), ?_⟩
    rw [show start n_d_is_letter [V.str z] = [some (V.str z)] from rfl]
    try simp only [tRet, tCall, tCons, tVar, List.getElem?_cons_zero, tC, tNil, List.append_nil, exSlot]
    exact ⟨_, _, _, rfl, z, rfl, hz, q⟩
end
end K21
namespace K21
open PySem L2 Tx

section
variable {P : Program} {w : World} {K : PySem.W.Frag} {mg : Str → Option Value} {base : Heap} {t : Adr}
theorem ok_d_places_of (T : Txt K mg t) : FnOk P w K mg base CX0 3 t.f_d_places_of t.fd_d_places_of ["behind"] spPlaces := by
  refine T.F_d_places_of.ok sc_d_places_of (fun vs H Q E h => ?_) (fun cdv A outer s H vs Q E hr h => ?_)
  · obtain ⟨ps, rfl, hps, q⟩ := h; rfl
  · obtain ⟨ps, rfl, hps, q⟩ := h
    obtain ⟨_, k_MOST_PLACES⟩ := T.k_MOST_PLACES
    refine ⟨_, (@pss_cons _ _ _ _ _ (@ps_if _ _ _ _ _ _ _ _ (@pt_not _ _ _ _ (@pt_val _ _ _ (@pe_bm _ _ _ _ _ _ _ _ _ _ _ _ PySem.F.plainAttrs_str PySem.F.slot_str_endswith PySem.F.type_str_endswith mt_ends (@pv _ 0 _ _ (by rfl) (by first | exact vis0 rfl | exact vis1 rfl | exact vis2 rfl) (by decide) (by decide)) (@pa_cons _ _ _ _ _ (@pe_str _ _ _ _) (@pa_nil _) (by rfl)) (by rfl) (by rfl) (by rfl) (by rfl) (by rfl)) (by intro _ ; rfl))) (@pss_one _ _ _ (@ps_ret _ _ _ _ (@pe_non _ _ _))) (@pss_nil _)) (@pss_cons _ _ _ _ _ (@ps_set _ _ (1) _ _ _ _ sc_d_places_of.nd rfl (by first | exact Or.inl rfl | exact Or.inr rfl) (@pe_bm _ _ _ _ _ _ _ _ _ _ _ _ PySem.F.plainAttrs_str PySem.F.slot_str_split PySem.F.type_str_split mt_split (@pe_slice _ _ _ _ _ _ _ _ _ _ sl_any (@pv _ 0 _ _ (by rfl) (by first | exact vis0 rfl | exact vis1 rfl | exact vis2 rfl) (by decide) (by decide)) (@po_none _) (@po_some _ _ _ (@pe_un _ _ _ _ _ _ un_neg (@pe_int _ _ _ _)))) (@pa_cons _ _ _ _ _ (@pe_str _ _ _ _) (@pa_nil _) (by rfl)) (by rfl) (by rfl) (by rfl) (by rfl) (by rfl)) (by rfl) (by first | exact Or.inl rfl | exact Or.inr rfl | assumption)) (@pss_cons _ _ _ _ _ (@ps_if _ _ _ _ _ _ _ _ (@pt_cmpR _ _ _ _ _ _ _ _ op_gt (@pe_callB _ _ _ _ _ _ _ _ _ call_lenA rfl T.z_len boot_lenT (@pa_cons _ _ _ _ _ (@pv _ 1 _ _ (by rfl) (by first | exact vis0 rfl | exact vis1 rfl | exact vis2 rfl) (by decide) (by decide)) (@pa_nil _) (by rfl)) (by decide) (by decide) (by rfl) (by rfl)) (@pe_glob _ _ (.int 2) _ _ rfl k_MOST_PLACES ⟨_ , rfl⟩ (by decide)) (nomark _)) (@pss_one _ _ _ (@ps_ret _ _ _ _ (@pe_non _ _ _))) (@pss_nil _)) (@pss_cons _ _ _ _ _ (@ps_if _ _ _ _ _ _ _ _ (@pt_not _ _ _ _ (@pt_val _ _ _ (@pe_callB _ _ _ _ _ _ _ _ _ (call_all_bools rfl) rfl T.z_all boot_allT (@pa_cons _ _ _ _ _ (@pe_comp _ _ _ _ _ _ _ _ _ _ _ _ _ (@compOk_of _ (defScope s_d_places_of) (n_d_places_of) (["place"]) ([none]) _ rfl rfl (by decide +kernel)) rfl (@pi_list _ _ _ _ (@pv _ 1 _ _ (by rfl) (by first | exact vis0 rfl | exact vis1 rfl | exact vis2 rfl) (by decide) (by decide))) (fun _ _ _ _ _ => (@pg_name _ _ (0) _ (show List.Nodup (["place"] : List Str) by decide +kernel) rfl (by first | exact Or.inl rfl | exact Or.inr rfl) (by first | exact Or.inl rfl | exact Or.inr rfl | assumption))) (fun _ _ _ _ _ => @pts_nil _) (fun _ _ _ _ _ => (@pe_or _ _ _ _ _ _ _ (@pe_call _ _ _ _ _ _ _ _ _ _ _ _ _ _ _ _ (ok_d_is_name T) (hr.mono (by decide)) rfl T.g_d_is_name T.F_d_is_name.kp T.b_d_is_name .nil pass0 (@pa_cons _ _ _ _ _ (@pv _ 0 _ _ (by rfl) (by first | exact vis0 rfl | exact vis1 rfl | exact vis2 rfl) (by decide) (by decide)) (@pa_nil _) (by rfl)) (by decide) (by rfl) (by rfl)) (@pe_one _ _ _ _ _ (@pe_call _ _ _ _ _ _ _ _ _ _ _ _ _ _ _ _ (ok_d_is_letter T) (hr.mono (by decide)) rfl T.g_d_is_letter T.F_d_is_letter.kp T.b_d_is_letter .nil pass0 (@pa_cons _ _ _ _ _ (@pv _ 0 _ _ (by rfl) (by first | exact vis0 rfl | exact vis1 rfl | exact vis2 rfl) (by decide) (by decide)) (@pa_nil _) (by rfl)) (by decide) (by rfl) (by rfl))))) (by intro _ ; rfl)) (@pa_nil _) (by rfl)) (by decide) (by decide) (by rfl) (by rfl)) (by intro _ ; rfl))) (@pss_one _ _ _ (@ps_ret _ _ _ _ (@pe_non _ _ _))) (@pss_nil _)) (@pss_one _ _ _ (@ps_ret _ _ _ _ (@pe_callTy _ _ _ _ _ _ _ _ _ call_tupOf rfl T.z_tuple boot_tupleT (@pa_cons _ _ _ _ _ (@pv _ 1 _ _ (by rfl) (by first | exact vis0 rfl | exact vis1 rfl | exact vis2 rfl) (by decide) (by decide)) (@pa_nil _) (by rfl)) (by decide) (by decide) (by rfl) (by rfl)))))))), ?_⟩
    rw [show start n_d_places_of [sv (joinL ps ++ [41])] = [some (sv (joinL ps ++ [41])), none] from rfl]
    have hl : (joinL ps).length ≤ 40 := by
      match ps, hps with
      | [a], ⟨_, _, hp⟩ => have := (hp a (by simp)).len; simp [joinL]; omega
      | [a, b], ⟨_, _, hp⟩ => have := (hp a (by simp)).len; have := (hp b (by simp)).len; simp [joinL]; omega
    have hsp : splitL 44 (joinL ps) = ps := by
      match ps, hps with
      | [a], ⟨_, _, hp⟩ => exact splitL_no ((hp a (by simp)).no (by decide))
      | [a, b], ⟨_, _, hp⟩ =>
        show splitL 44 (a ++ 44 :: b) = _
        rw [splitL_at ((hp a (by simp)).no (by decide)), splitL_no ((hp b (by simp)).no (by decide))]
    try simp only [tSeq, tIfS, tNot, tB, tBM, tVar, List.getElem?_cons_zero, tCons, tC, tNil, Bool.not_eq_true', tRet, tNext, tAsg, tSl, tNoPart, tPart, tUn, gName, tTest, tOp, tCB, List.set_cons_succ, List.set_cons_zero, List.getElem?_cons_succ, exSlot, exBl, tComp_eq, iList, rU_int, exInt, rSlA_str, rSplit_at, exRef, tyV_str, rEnds_at]
    rw [show (")" : Str) = mk [41] by decide +kernel, ends_one, slice_last _ (by simp), show ("," : Str) = mk [44] by decide +kernel, split_sign (by decide)]
    rw [List.getLast?_concat, List.dropLast_concat, hsp]
    rw [if_neg (by simp)]
    refine ⟨short_le (by rw [mk_len]; simp; omega), rfl, ?_, fun D hD => ?_⟩
    · rw [mk_len]; exact Nat.le_trans (show _ ≤ 1000 by omega) (by decide)
    rw [List.map_map]
    obtain ⟨H1, e1, s1, h1⟩ := newO hD (.lst (pv' ps))
    rw [show (List.map (V.str ∘ mk) ps) = pv' ps from rfl, e1]
    refine rLenA_lst (SqL.of h1) ?_
    try simp only [rI0_int, exBl, decide_eq_true_eq]
    refine ite2 (fun c => absurd c (by simp; omega)) (fun _ => ?_)
    refine ⟨⟨_, SqL.of h1⟩, ?_⟩
    refine comp_1 (src_list (xs := pv' ps)) (Nat.le_trans (show (pv' ps).length ≤ 1000 by simp; omega) (by decide)) [] rfl (fun i v => v = .bl true) (fun H' s => s.seq (SqL.of h1)) (fun i H' R hi s hR => ?_) (fun D2 H2 ys _ s2 hD2 hl2 hv2 => ?_)
    · have hi' : i < ps.length := by simpa using hi
      have e2 : ((pv' ps)[i]?).getD .non = sv ps[i] := by rw [List.getElem?_map, List.getElem?_eq_getElem hi']; rfl
      have hp := hps.2.2 ps[i] (List.getElem_mem hi')
      rw [e2]
      try simp only [tOrV, tCall, tCons, tVar, List.getElem?_cons_zero, tNil, List.append_nil, exSlot, exBl]
      have hlen := hp.len
      first | refine ⟨mk ps[i], rfl, by rw [mk_len]; omega, fun H3 s3 => ?_⟩ | refine ⟨by rw [mk_len]; omega, fun H3 s3 => ?_⟩
      try skip
      refine ite2 (fun _ => hR _ _ s3 rfl) (fun c => ?_)
      first | refine ⟨mk ps[i], rfl, by rw [mk_len]; omega, fun H4 s4 => ?_⟩ | refine ⟨by rw [mk_len]; omega, fun H4 s4 => ?_⟩
      have e3 : madeOf (mk ps[i]) "ABCDEFGHIJKLMNOPQRSTUVWXYZ" 1 = true := by
        rcases hp with h | h
        · exact absurd ((name_iff _).mpr h) c
        · exact (letter_iff _).mpr h
      rw [e3]
      exact hR _ _ (s3.trans s4) rfl
    have e4 : ys = (List.replicate ps.length true).map V.bl := by
      refine List.ext_getElem? fun i => ?_
      rw [List.getElem?_map]
      by_cases hi : i < ys.length
      · rw [List.getElem?_eq_getElem hi, hv2 i _ (List.getElem?_eq_getElem hi), List.getElem?_replicate, if_pos (by simp at hl2; omega)]; rfl
      · rw [List.getElem?_eq_none (by omega), List.getElem?_eq_none (by simp at hl2 ⊢; omega)]; rfl
    refine ⟨D2, _, rfl, by rw [← e4]; exact SqL.of hD2, ?_⟩
    rw [show (List.replicate ps.length true).all id = true by simp]
    try simp only [ite_tf]
    refine ⟨D, _, rfl, .inl ⟨SqL.of (s2 _ _ h1), fun t ht => ?_⟩⟩
    exact q t _ ((s1.trans s2).up ht) upd_same
end
end K21
namespace K21
open PySem L2 Tx

section
variable {P : Program} {w : World} {K : PySem.W.Frag} {mg : Str → Option Value} {base : Heap} {t : Adr}
theorem ok_d_parts_of (T : Txt K mg t) : FnOk P w K mg base CX0 4 t.f_d_parts_of t.fd_d_parts_of ["statement"] spParts := by
  refine T.F_d_parts_of.ok sc_d_parts_of (fun vs H Q E h => ?_) (fun cdv A outer s H vs Q E hr h => ?_)
  · obtain ⟨sd, nm, ps, rfl, hS, q⟩ := h; rfl
  · obtain ⟨sd, nm, ps, rfl, hS, q⟩ := h
    refine ⟨_, (@pss_cons _ _ _ _ _ (@ps_if _ _ _ _ _ _ _ _ (@pt_not _ _ _ _ (@pt_val _ _ _ (@pe_callB _ _ _ _ _ _ _ _ _ call_isinst rfl T.z_isinstance boot_isinstanceT (@pa_cons _ _ _ _ _ (@pv _ 0 _ _ (by rfl) (by first | exact vis0 rfl | exact vis1 rfl | exact vis2 rfl) (by decide) (by decide)) (@pa_cons _ _ _ _ _ (@pe_bltn _ _ (.ty "str") _ _ rfl T.z_str boot_strT rfl (by decide) (by decide)) (@pa_nil _) (by rfl)) (by rfl)) (by decide) (by decide) (by rfl) (by rfl)) (by intro _ ; rfl))) (@pss_one _ _ _ (@ps_never _ _)) (@pss_nil _)) (@pss_mid _ _ _ _ _ (@ps_set _ _ (1) _ _ _ _ sc_d_parts_of.nd rfl (by first | exact Or.inl rfl | exact Or.inr rfl) (@pe_ifExp _ _ _ _ _ _ _ _ (@pt_val _ _ _ (@pe_bm _ _ _ _ _ _ _ _ _ _ _ _ PySem.F.plainAttrs_str PySem.F.slot_str_startswith PySem.F.type_str_startswith mt_starts (@pv _ 0 _ _ (by rfl) (by first | exact vis0 rfl | exact vis1 rfl | exact vis2 rfl) (by decide) (by decide)) (@pa_cons _ _ _ _ _ (@pe_str _ _ _ _) (@pa_nil _) (by rfl)) (by rfl) (by rfl) (by rfl) (by rfl) (by rfl)) (by intro _ ; rfl)) (@pe_str _ _ _ _) (@pe_str _ _ _ _)) (by rfl) (by first | exact Or.inl rfl | exact Or.inr rfl | assumption)) (@pss_cons _ _ _ _ _ (@ps_set _ _ (2) _ _ _ _ sc_d_parts_of.nd rfl (by first | exact Or.inl rfl | exact Or.inr rfl) (@pe_bm _ _ _ _ _ _ _ _ _ _ _ _ PySem.F.plainAttrs_str PySem.F.slot_str_partition PySem.F.type_str_partition mt_partition (@pe_slice _ _ _ _ _ _ _ _ _ _ sl_any (@pv _ 0 _ _ (by rfl) (by first | exact vis0 rfl | exact vis1 rfl | exact vis2 rfl) (by decide) (by decide)) (@po_some _ _ _ (@pe_callB _ _ _ _ _ _ _ _ _ call_lenA rfl T.z_len boot_lenT (@pa_cons _ _ _ _ _ (@pv _ 1 _ _ (by rfl) (by first | exact vis0 rfl | exact vis1 rfl | exact vis2 rfl) (by decide) (by decide)) (@pa_nil _) (by rfl)) (by decide) (by decide) (by rfl) (by rfl))) (@po_none _)) (@pa_cons _ _ _ _ _ (@pe_str _ _ _ _) (@pa_nil _) (by rfl)) (by rfl) (by rfl) (by rfl) (by rfl) (by rfl)) (by rfl) (by first | exact Or.inl rfl | exact Or.inr rfl | assumption)) (@pss_mid _ _ _ _ _ (@ps_set _ _ (3) _ _ _ _ sc_d_parts_of.nd rfl (by first | exact Or.inl rfl | exact Or.inr rfl) (@pe_ifExp _ _ _ _ _ _ _ _ (@pt_cmpR _ _ _ _ _ _ _ _ (op_eqH hr.units) (@pe_ix _ _ _ _ _ _ _ ix_seq (@pv _ 2 _ _ (by rfl) (by first | exact vis0 rfl | exact vis1 rfl | exact vis2 rfl) (by decide) (by decide)) (@pe_int _ _ _ _) (fun _ _ => rfl)) (@pe_str _ _ _ _) (nomark _)) (@pe_call _ _ _ _ _ _ _ _ _ _ _ _ _ _ _ _ (ok_d_places_of T) (hr.mono (by decide)) rfl T.g_d_places_of T.F_d_places_of.kp T.b_d_places_of .nil pass0 (@pa_cons _ _ _ _ _ (@pe_ix _ _ _ _ _ _ _ ix_seq (@pv _ 2 _ _ (by rfl) (by first | exact vis0 rfl | exact vis1 rfl | exact vis2 rfl) (by decide) (by decide)) (@pe_int _ _ _ _) (fun _ _ => rfl)) (@pa_nil _) (by rfl)) (by decide) (by rfl) (by rfl)) (@pe_tup _ _ _ _ _ (@pa_nil _))) (by rfl) (by first | exact Or.inl rfl | exact Or.inr rfl | assumption)) (@pss_mid _ _ _ _ _ (@ps_if _ _ _ _ _ _ _ _ (@PW.pt _ _ _ (@pw_or _ _ _ _ _ _ _ (@pt_cmpR _ _ _ _ _ _ _ _ op_isX (@pv _ 3 _ _ (by rfl) (by first | exact vis0 rfl | exact vis1 rfl | exact vis2 rfl) (by decide) (by decide)) (@pe_non _ _ _) (nomark _)) (@pw_or1 _ _ _ _ (@pt_not _ _ _ _ (@pt_val _ _ _ (@pe_call _ _ _ _ _ _ _ _ _ _ _ _ _ _ _ _ (ok_d_is_name T) (hr.mono (by decide)) rfl T.g_d_is_name T.F_d_is_name.kp T.b_d_is_name .nil pass0 (@pa_cons _ _ _ _ _ (@pe_ix _ _ _ _ _ _ _ ix_seq (@pv _ 2 _ _ (by rfl) (by first | exact vis0 rfl | exact vis1 rfl | exact vis2 rfl) (by decide) (by decide)) (@pe_int _ _ _ _) (fun _ _ => rfl)) (@pa_nil _) (by rfl)) (by decide) (by rfl) (by rfl)) (by intro _ ; rfl)))))) (@pss_one _ _ _ (@ps_never _ _)) (@pss_nil _)) (@pss_one _ _ _ (@ps_ret _ _ _ _ (@pe_tup _ _ _ _ _ (@pa_cons _ _ _ _ _ (@pv _ 1 _ _ (by rfl) (by first | exact vis0 rfl | exact vis1 rfl | exact vis2 rfl) (by decide) (by decide)) (@pa_cons _ _ _ _ _ (@pe_ix _ _ _ _ _ _ _ ix_seq (@pv _ 2 _ _ (by rfl) (by first | exact vis0 rfl | exact vis1 rfl | exact vis2 rfl) (by decide) (by decide)) (@pe_int _ _ _ _) (fun _ _ => rfl)) (@pa_cons _ _ _ _ _ (@pv _ 3 _ _ (by rfl) (by first | exact vis0 rfl | exact vis1 rfl | exact vis2 rfl) (by decide) (by decide)) (@pa_nil _) (by rfl)) (by rfl)) (by rfl)))))))))), ?_⟩
    rw [show start n_d_parts_of [sv (stmtL sd nm ps)] = [some (sv (stmtL sd nm ps)), none, none, none] from rfl]
    have hl := stmt_len hS
    try simp only [tSeq, tIfS, tNot, tB, tCB, tCons, tVar, List.getElem?_cons_zero, tC, tNil, Bool.not_eq_true', tNever, tNext, exSlot, rIsi_str_str, exBl, ite_tf]
    refine ⟨fun σ' H' => σ' = [some (sv (stmtL sd nm ps)), some (sv sd), none, none] ∧ H = H', ?_, ?_⟩
    · try simp only [tAsg, tIf, tB, tBM, tVar, List.getElem?_cons_zero, tCons, tC, tNil, gName, List.set_cons_succ, List.set_cons_zero, exSlot, rStarts_at, exBl, tyV_str]
      rw [stmt_starts hS]
      refine ite2 (fun c => ?_) (fun c => ?_)
      · have e : sd = [45] := by simpa using c
        subst e
        exact ⟨by rw [show ("-" : Str) = mk [45] by decide +kernel], (by trivial)⟩
      · have e : sd = [] := by
          rcases hS.side with e | e
          · exact e
          · exact absurd (by rw [e]; rfl) c
        subst e
        exact ⟨rfl, (by trivial)⟩
    rintro σ' H' ⟨rfl, rfl⟩
    try simp only [tSeq, tAsg, tBM, tSl, tVar, List.getElem?_cons_zero, tPart, tCB, tCons, List.getElem?_cons_succ, tNil, tNoPart, tC, gName, List.set_cons_succ, List.set_cons_zero, exSlot, rLenA_str, exInt, rSlA_str, rPart_at, tyV_str]
    have h1 : sd.length ≤ 1 := by rcases hS.side with e | e <;> rw [e] <;> simp
    have hB := stmt_side sd nm ps
    have hBl : (stmtL [] nm ps).length ≤ 40 := by rw [hB] at hl; simp at hl; omega
    rw [show ("(" : Str) = mk [40] by decide +kernel, slice_from _ (by omega) (by rw [mk_len, hB]; simp; omega)]
    rw [show List.drop (Int.toNat ((mk sd).length : Int)) (stmtL sd nm ps) = stmtL [] nm ps by rw [mk_len, hB]; simp]
    refine ⟨short_le (by rw [mk_len]; omega), short_le (by rw [mk_len]; omega), rfl, short_le (by rw [mk_len]; omega), fun p hp => ?_⟩
    have hpart : Txt.partition (mk (stmtL [] nm ps)) (mk [40]) = (mk nm, (if ps = [] then mk [] else mk [40]), (if ps = [] then mk [] else mk (joinL ps ++ [41]))) := by
      rw [stmt_tail nm ps hS.many]
      by_cases e : ps = []
      · rw [if_pos e, if_pos e, if_pos e, List.append_nil, part_no (hS.name.no (by decide))]; rfl
      · rw [if_neg e, if_neg e, if_neg e, part_at (hS.name.no (by decide))]
    rw [hpart]
    obtain ⟨H1, e1, s1, hc1⟩ := newO hp (.tup [.str (mk nm), .str (if ps = [] then mk [] else mk [40]), .str (if ps = [] then mk [] else mk (joinL ps ++ [41]))]); rw [e1]
    refine ⟨fun σ' H' => ∃ t, σ' = [some (sv (stmtL sd nm ps)), some (sv sd), some (.ref p), some (.ref t)] ∧ Same H1 H' ∧ H' t = some (.tup (pv' ps)), ?_, ?_⟩
    · try simp only [tAsg, tIf, tTest, tOp, tVar, List.getElem?_cons_succ, List.getElem?_cons_zero, tC, tCall, tCons, tNil, List.append_nil, gName, List.set_cons_succ, List.set_cons_zero, exSlot, tTup]
      refine rIx_tup (SqT.of hc1) (v := .str (if ps = [] then mk [] else mk [40])) rfl ?_
      try simp only [rEqH_str, exBl, decide_eq_true_eq]
      by_cases e : ps = []
      · subst e
        rw [if_pos rfl, if_neg (by decide)]
        refine ⟨by decide, fun t ht => ⟨t, (by trivial), Same.upd ht, upd_same⟩⟩
      · rw [if_neg e, if_pos (by decide +kernel)]
        refine rIx_tup (SqT.of hc1) (v := .str (mk (joinL ps ++ [41]))) (by show some (V.str (if ps = [] then mk [] else mk (joinL ps ++ [41]))) = _; rw [if_neg e]) ?_
        refine ⟨ps, rfl, ⟨by cases ps with | nil => exact absurd rfl e | cons a b => simp, hS.many, hS.places⟩, fun t H' s ht => ⟨t, (by trivial), s, ht⟩⟩
    rintro σ' H2 ⟨t, rfl, s2, ht⟩
    refine ⟨fun σ' H' => σ' = [some (sv (stmtL sd nm ps)), some (sv sd), some (.ref p), some (.ref t)] ∧ Same H2 H', ?_, ?_⟩
    · try simp only [tIfS, tOr, tTest, tOp, tVar, List.getElem?_cons_succ, List.getElem?_cons_zero, tC, tNever, tNext, tNot, tB, tCall, tCons, tNil, List.append_nil, Bool.not_eq_true', exSlot, rIsN_ref, exBl, ite_ft]
      refine rIx_tup (SqT.of (s2 _ _ hc1)) (v := sv nm) rfl ?_
      try simp only [spIs_at, exBl]
      refine ⟨by rw [mk_len]; have := hS.name.2.1; omega, fun H3 s3 => ?_⟩
      rw [(name_iff nm).mpr hS.name]
      try simp only [ite_tf]
      exact ⟨(by trivial), s3⟩
    rintro σ' H3 ⟨rfl, s3⟩
    try simp only [tRet, tTup, tCons, tVar, List.getElem?_cons_succ, List.getElem?_cons_zero, tOp, tC, tNil, exSlot]
    refine rIx_tup (SqT.of (s3 _ _ (s2 _ _ hc1))) (v := sv nm) rfl ?_
    try skip
    refine ⟨by simp only [List.length_cons, List.length_nil]; decide, fun p5 hp5 => ?_⟩
    obtain ⟨H5, e5, s5, h5⟩ := newO hp5 (.tup [sv sd, sv nm, V.ref t]); rw [e5]
    exact q p5 H5 (((s1.trans s2).trans s3).trans s5) ⟨t, h5, s5 _ _ (s3 _ _ ht)⟩
end
end K21
namespace K21
open PySem L2 Tx

section
variable {P : Program} {w : World} {K : PySem.W.Frag} {mg : Str → Option Value} {base : Heap} {t : Adr}
theorem ok_d_put_for (T : Txt K mg t) : FnOk P w K mg base CX0 3 t.f_d_put_for t.fd_d_put_for ["place", "given"] spPut := by
  refine T.F_d_put_for.ok sc_d_put_for (fun vs H Q E h => ?_) (fun cdv A outer s H vs Q E hr h => ?_)
  · obtain ⟨p, g, gs, rfl, hp, hg, hG, q⟩ := h; rfl
  · obtain ⟨p, g, gs, rfl, hp, hg, hG, q⟩ := h
    refine ⟨_, (@pss_one _ _ _ (@ps_ret _ _ _ _ (@pe_ifExp _ _ _ _ _ _ _ _ (@PW.pt _ _ _ (@pw_and _ _ _ _ _ _ _ (@pt_val _ _ _ (@pe_call _ _ _ _ _ _ _ _ _ _ _ _ _ _ _ _ (ok_d_is_letter T) (hr.mono (by decide)) rfl T.g_d_is_letter T.F_d_is_letter.kp T.b_d_is_letter .nil pass0 (@pa_cons _ _ _ _ _ (@pv _ 0 _ _ (by rfl) (by first | exact vis0 rfl | exact vis1 rfl | exact vis2 rfl) (by decide) (by decide)) (@pa_nil _) (by rfl)) (by decide) (by rfl) (by rfl)) (by intro _ ; rfl)) (@pw_and1 _ _ _ _ (@pt_cmp _ _ _ _ _ _ (pc_din (hu_of hr) (@pv _ 0 _ _ (by rfl) (by first | exact vis0 rfl | exact vis1 rfl | exact vis2 rfl) (by decide) (by decide)) (@pv _ 1 _ _ (by rfl) (by first | exact vis0 rfl | exact vis1 rfl | exact vis2 rfl) (by decide) (by decide))) (by with_unfolding_all rfl))))) (@pe_dget _ _ _ _ _ _ (hu_of hr) (@pv _ 1 _ _ (by rfl) (by first | exact vis0 rfl | exact vis1 rfl | exact vis2 rfl) (by decide) (by decide)) (@pv _ 0 _ _ (by rfl) (by first | exact vis0 rfl | exact vis1 rfl | exact vis2 rfl) (by decide) (by decide)) (fun _ _ => rfl)) (@pv _ 0 _ _ (by rfl) (by first | exact vis0 rfl | exact vis1 rfl | exact vis2 rfl) (by decide) (by decide))))), ?_⟩
    rw [show start n_d_put_for [sv p, V.ref g] = [some (sv p), some (V.ref g)] from rfl]
    have hl := hp.len
    try simp only [tRet, tIf, tAnd, tB, tCall, tCons, tVar, List.getElem?_cons_zero, tNil, List.append_nil, tDIn, List.getElem?_cons_succ, tDGet, exSlot, exBl, ite_ft, spIs_at]
    refine ⟨by rw [mk_len]; omega, fun H1 s1 => ?_⟩
    try skip
    refine ite2 (fun c => ?_) (fun c => ?_)
    · refine ⟨g, _, rfl, DGet.k (k := Sum.inr (mk p)) (s1 _ _ hG), ?_⟩
      try skip
      rw [val_gm]
      cases e : look gs p with
      | none =>
        rw [if_neg (by simp)]
        have e2 : fillL gs p = p := by unfold fillL; rw [e]; split <;> rfl
        rw [← e2]; exact q _ s1
      | some r =>
        rw [if_pos (by simp)]
        refine ⟨g, sv r, rfl, ?_, ?_⟩
        · have := DGet.k (k := Sum.inr (mk p)) (s1 _ _ hG)
          rw [val_gm, e] at this; exact this
        · have e2 : fillL gs p = r := by unfold fillL; rw [if_pos (show capB p = true from c), e]; rfl
          rw [← e2]; exact q _ s1
    · have e2 : fillL gs p = p := by unfold fillL; rw [if_neg (show ¬ capB p = true from c)]
      rw [← e2]; exact q _ s1
end
end K21
namespace K21
open PySem L2 Tx

section
variable {P : Program} {w : World} {K : PySem.W.Frag} {mg : Str → Option Value} {base : Heap} {t : Adr}
theorem ok_d_text_of (T : Txt K mg t) : FnOk P w K mg base CX0 1 t.f_d_text_of t.fd_d_text_of ["side", "name", "places"] spTextOf := by
  refine T.F_d_text_of.ok sc_d_text_of (fun vs H Q E h => ?_) (fun cdv A outer s H vs Q E hr h => ?_)
  · obtain ⟨sd, nm, ps, t, rfl, hS, ht, q⟩ := h; rfl
  · obtain ⟨sd, nm, ps, t, rfl, hS, ht, q⟩ := h
    refine ⟨_, (@pss_cons _ _ _ _ _ (@ps_if _ _ _ _ _ _ _ _ (@pt_cmpR _ _ _ _ _ _ _ _ (op_eqH hr.units) (@pe_callB _ _ _ _ _ _ _ _ _ call_lenA rfl T.z_len boot_lenT (@pa_cons _ _ _ _ _ (@pv _ 2 _ _ (by rfl) (by first | exact vis0 rfl | exact vis1 rfl | exact vis2 rfl) (by decide) (by decide)) (@pa_nil _) (by rfl)) (by decide) (by decide) (by rfl) (by rfl)) (@pe_int _ _ _ _) (nomark _)) (@pss_one _ _ _ (@ps_ret _ _ _ _ (@pe_op _ _ _ _ _ _ _ _ op_addA (@pv _ 0 _ _ (by rfl) (by first | exact vis0 rfl | exact vis1 rfl | exact vis2 rfl) (by decide) (by decide)) (@pv _ 1 _ _ (by rfl) (by first | exact vis0 rfl | exact vis1 rfl | exact vis2 rfl) (by decide) (by decide))))) (@pss_nil _)) (@pss_one _ _ _ (@ps_ret _ _ _ _ (@pe_op _ _ _ _ _ _ _ _ op_addA (@pe_op _ _ _ _ _ _ _ _ op_addA (@pe_op _ _ _ _ _ _ _ _ op_addA (@pe_op _ _ _ _ _ _ _ _ op_addA (@pv _ 0 _ _ (by rfl) (by first | exact vis0 rfl | exact vis1 rfl | exact vis2 rfl) (by decide) (by decide)) (@pv _ 1 _ _ (by rfl) (by first | exact vis0 rfl | exact vis1 rfl | exact vis2 rfl) (by decide) (by decide))) (@pe_str _ _ _ _)) (@pe_bm _ _ _ _ _ _ _ _ _ _ _ _ PySem.F.plainAttrs_str PySem.F.slot_str_join PySem.F.type_str_join mt_join (@pe_str _ _ _ _) (@pa_cons _ _ _ _ _ (@pv _ 2 _ _ (by rfl) (by first | exact vis0 rfl | exact vis1 rfl | exact vis2 rfl) (by decide) (by decide)) (@pa_nil _) (by rfl)) (by rfl) (by rfl) (by rfl) (by rfl) (by rfl))) (@pe_str _ _ _ _))))), ?_⟩
    rw [show start n_d_text_of [sv sd, sv nm, V.ref t] = [some (sv sd), some (sv nm), some (V.ref t)] from rfl]
    try simp only [tSeq, tIfS, tTest, tOp, tCB, tCons, tVar, List.getElem?_cons_succ, List.getElem?_cons_zero, tNil, tC, tRet, exSlot, rAddA_str, tNext, tBM, tyV_str]
    refine rLenA_tup (SqT.of ht) ?_
    try simp only [rEqH_int, exBl, decide_eq_true_eq]
    have h1 : sd.length ≤ 1 := by rcases hS.side with e | e <;> rw [e] <;> simp
    have h2 := hS.name.2.1
    rw [show ("(" : Str) = mk [40] by decide +kernel, show (")" : Str) = mk [41] by decide +kernel, show ("," : Str) = mk [44] by decide +kernel]
    refine ite2 (fun c => ?_) (fun c => ?_)
    · have e : ps = [] := by
        cases ps with
        | nil => rfl
        | cons a b => simp at c; omega
      subst e
      rw [mk_app]
      exact ⟨by rw [mk_len, mk_len]; exact Nat.le_trans (show _ ≤ 1000 by omega) (by decide), q⟩
    refine ⟨?_, ?_, ?_⟩
    · rw [mk_len, mk_len]; exact Nat.le_trans (show _ ≤ 1000 by omega) (by decide)
    · rw [mk_app, mk_len, mk_len]; exact Nat.le_trans (show _ ≤ 1000 by simp; omega) (by decide)
    have hj : Txt.join (mk [44]) (ps.map mk) = mk (joinL ps) := by
      match ps, hS.many with
      | [], _ => rfl
      | [a], _ => rfl
      | [a, b], _ =>
        show Txt.join (mk [44]) [mk a, mk b] = mk (a ++ 44 :: b)
        rw [join_two]; simp
    have hl : (joinL ps).length ≤ 40 ∧ ((ps.map mk).map (·.length)).sum + (ps.map mk).length * (mk [44]).length ≤ 16777216 := by
      match ps, hS.many, hS.places with
      | [], _, _ => exact ⟨by decide, by decide⟩
      | [a], _, hp => have := (hp a (by simp)).len; refine ⟨by simp [joinL]; omega, ?_⟩; simp [mk_len]; omega
      | [a, b], _, hp => have := (hp a (by simp)).len; have := (hp b (by simp)).len; refine ⟨by simp [joinL]; omega, ?_⟩; simp [mk_len]; omega
    refine rJoin_of (ys := ps.map mk) (.inr (by rw [List.map_map]; exact SqT.of ht)) hl.2 ?_
    try simp only [rAddA_str]
    rw [hj, mk_app, mk_app, mk_app, mk_app]
    refine ⟨?_, ?_, ?_⟩
    · rw [mk_len, mk_len]; exact Nat.le_trans (show _ ≤ 1000 by simp; omega) (by decide)
    · rw [mk_len, mk_len]; exact Nat.le_trans (show _ ≤ 1000 by simp; omega) (by decide)
    · have e : sd ++ nm ++ [40] ++ joinL ps ++ [41] = stmtL sd nm ps := by
        match ps, hS.many, c with
        | [], _, c => simp at c
        | [a], _, _ => simp [stmtL, joinL]
        | [a, b], _, _ => simp [stmtL, joinL]
      rw [e]; exact q
end
end K21
namespace K21
open PySem L2 Tx

section
variable {P : Program} {w : World} {K : PySem.W.Frag} {mg : Str → Option Value} {base : Heap} {t : Adr}
theorem ok_d_filled (T : Txt K mg t) : FnOk P w K mg base CX0 5 t.f_d_filled t.fd_d_filled ["statement", "given"] spFilled := by
  refine T.F_d_filled.ok sc_d_filled (fun vs H Q E h => ?_) (fun cdv A outer s H vs Q E hr h => ?_)
  · obtain ⟨s, g, gs, rfl, hT, hg, hG, q⟩ := h; rfl
  · obtain ⟨s, g, gs, rfl, hT, hg, hG, q⟩ := h
    refine ⟨_, (@pss_cons _ _ _ _ _ (@ps_set _ _ (2) _ _ _ _ sc_d_filled.nd rfl (by first | exact Or.inl rfl | exact Or.inr rfl) (@pe_call _ _ _ _ _ _ _ _ _ _ _ _ _ _ _ _ (ok_d_parts_of T) (hr.mono (by decide)) rfl T.g_d_parts_of T.F_d_parts_of.kp T.b_d_parts_of .nil pass0 (@pa_cons _ _ _ _ _ (@pv _ 0 _ _ (by rfl) (by first | exact vis0 rfl | exact vis1 rfl | exact vis2 rfl) (by decide) (by decide)) (@pa_nil _) (by rfl)) (by decide) (by rfl) (by rfl)) (by rfl) (by first | exact Or.inl rfl | exact Or.inr rfl | assumption)) (@pss_one _ _ _ (@ps_ret _ _ _ _ (@pe_call _ _ _ _ _ _ _ _ _ _ _ _ _ _ _ _ (ok_d_text_of T) (hr.mono (by decide)) rfl T.g_d_text_of T.F_d_text_of.kp T.b_d_text_of .nil pass0 (@pa_cons _ _ _ _ _ (@pe_ix _ _ _ _ _ _ _ ix_seq (@pv _ 2 _ _ (by rfl) (by first | exact vis0 rfl | exact vis1 rfl | exact vis2 rfl) (by decide) (by decide)) (@pe_int _ _ _ _) (fun _ _ => rfl)) (@pa_cons _ _ _ _ _ (@pe_ix _ _ _ _ _ _ _ ix_seq (@pv _ 2 _ _ (by rfl) (by first | exact vis0 rfl | exact vis1 rfl | exact vis2 rfl) (by decide) (by decide)) (@pe_int _ _ _ _) (fun _ _ => rfl)) (@pa_cons _ _ _ _ _ (@pe_callTy _ _ _ _ _ _ _ _ _ call_tupOf rfl T.z_tuple boot_tupleT (@pa_cons _ _ _ _ _ (@pe_comp _ _ _ _ _ _ _ _ _ _ _ _ _ (@compOk_of _ (defScope s_d_filled) (n_d_filled) (["place" , "given"]) ([none , some 1]) _ rfl rfl (by decide +kernel)) rfl (@pi_tup _ _ _ _ (@pe_ix _ _ _ _ _ _ _ ix_seq (@pv _ 2 _ _ (by rfl) (by first | exact vis0 rfl | exact vis1 rfl | exact vis2 rfl) (by decide) (by decide)) (@pe_int _ _ _ _) (fun _ _ => rfl))) (fun _ _ _ _ _ => (@pg_name _ _ (0) _ (show List.Nodup (["place" , "given"] : List Str) by decide +kernel) rfl (by first | exact Or.inl rfl | exact Or.inr rfl) (by first | exact Or.inl rfl | exact Or.inr rfl | assumption))) (fun _ _ _ _ _ => @pts_nil _) (fun _ _ _ _ _ => (@pe_call _ _ _ _ _ _ _ _ _ _ _ _ _ _ _ _ (ok_d_put_for T) (hr.mono (by decide)) rfl T.g_d_put_for T.F_d_put_for.kp T.b_d_put_for .nil pass0 (@pa_cons _ _ _ _ _ (@pv _ 0 _ _ (by rfl) (by first | exact vis0 rfl | exact vis1 rfl | exact vis2 rfl) (by decide) (by decide)) (@pa_cons _ _ _ _ _ (@pv _ 1 _ _ (by rfl) (by first | exact vis0 rfl | exact vis1 rfl | exact vis2 rfl) (by decide) (by decide)) (@pa_nil _) (by rfl)) (by rfl)) (by decide) (by rfl) (by rfl))) (by intro _ ; rfl)) (@pa_nil _) (by rfl)) (by decide) (by decide) (by rfl) (by rfl)) (@pa_nil _) (by rfl)) (by rfl)) (by rfl)) (by decide) (by rfl) (by rfl))))), ?_⟩
    rw [show start n_d_filled [sv (stat s), V.ref g] = [some (sv (stat s)), some (V.ref g), none] from rfl]
    obtain ⟨sd, nm, ps⟩ := s
    have hS : IsS sd nm ps := hT
    try simp only [tSeq, tAsg, tCall, tCons, tVar, List.getElem?_cons_zero, tNil, List.append_nil, gName, tRet, tOp, List.set_cons_succ, List.set_cons_zero, List.getElem?_cons_succ, tC, tCB, tComp_eq, iTup, exSlot]
    refine ⟨sd, nm, ps, rfl, hS, fun p H1 s1 h1 => ?_⟩
    obtain ⟨t, ht1, ht2⟩ := h1
    try skip
    refine rIx_tup (SqT.of ht1) (v := sv sd) rfl (rIx_tup (SqT.of ht1) (v := sv nm) rfl (rIx_tup (SqT.of ht1) (v := .ref t) rfl ?_))
    try simp only [exRef]
    refine ⟨⟨_, SqT.of ht2⟩, ?_⟩
    refine comp_1 (src_tup (xs := pv' ps)) (Nat.le_trans (show (pv' ps).length ≤ 1000 by simp; have := hS.many; omega) (by decide)) [some (V.ref g)] rfl (fun i v => ∃ hi : i < ps.length, v = sv (fillL gs ps[i])) (fun H' s => SqT.of (s _ _ ht2)) (fun i H' R hi s hR => ?_) (fun D H2 ys _ s2 hD hl hv => ?_)
    · have hi' : i < ps.length := by simpa using hi
      have e2 : ((pv' ps)[i]?).getD .non = sv ps[i] := by rw [List.getElem?_map, List.getElem?_eq_getElem hi']; rfl
      rw [e2]
      try simp only [tCall, tCons, tVar, List.getElem?_cons_zero, List.getElem?_cons_succ, tNil, List.append_nil, exSlot]
      exact ⟨ps[i], g, gs, rfl, hS.places _ (List.getElem_mem hi'), hg, s _ _ (s1 _ _ hG), fun H3 s3 => hR _ _ s3 ⟨hi', rfl⟩⟩
    have eys : ys = pv' (ps.map (fillL gs)) := by
      refine List.ext_getElem? fun i => ?_
      rw [List.getElem?_map, List.getElem?_map]
      by_cases hi : i < ys.length
      · obtain ⟨hi', e⟩ := hv i _ (List.getElem?_eq_getElem hi)
        rw [List.getElem?_eq_getElem hi, e, List.getElem?_eq_getElem hi']; rfl
      · rw [List.getElem?_eq_none (by omega), List.getElem?_eq_none (by simp at hl; omega)]; rfl
    subst eys
    refine ⟨D, _, rfl, .inl ⟨SqL.of hD, fun u hu => ?_⟩⟩
    obtain ⟨H3, e3, s3, h3⟩ := newO hu (.tup (pv' (ps.map (fillL gs)))); rw [e3]
    exact ⟨sd, nm, ps.map (fillL gs), u, rfl, hS.filled hg, h3, q _ ((s1.trans s2).trans s3)⟩
end
end K21
namespace K21
open PySem L2 Tx

section
variable {P : Program} {w : World} {K : PySem.W.Frag} {mg : Str → Option Value} {base : Heap} {t : Adr}
theorem ok_c_Rule_filled (T : Txt K mg t) : FnOk P w K mg base CX0 6 t.f_c_Rule_filled t.fd_c_Rule_filled ["self", "given"] (spRFilled K t) := by
  refine T.F_c_Rule_filled.ok sc_c_Rule_filled (fun vs H Q E h => ?_) (fun cdv A outer s H vs Q E hr h => ?_)
  · obtain ⟨r, kind, lb, s0, ss, g, gs, rfl, hk, hR, hT, hl, hg, hG, q⟩ := h; rfl
  · obtain ⟨r, kind, lb, s0, ss, g, gs, rfl, hk, hR, hT, hl, hg, hG, q⟩ := h
    refine ⟨_, (@pss_one _ _ _ (@ps_ret _ _ _ _ (@pe_alt _ _ _ _ (@pe_meth _ _ _ _ _ _ _ _ _ _ _ _ _ _ _ _ _ _ _ _ (@pv _ 0 _ _ (by rfl) (by first | exact vis0 rfl | exact vis1 rfl | exact vis2 rfl) (by decide) (by decide)) T.cl_Fact T.me_Fact_again (ok_c_Fact_again T) (hr.mono (by decide)) T.b_c_Fact_again .nil pass0 (@pa_cons _ _ _ _ _ (@pe_call _ _ _ _ _ _ _ _ _ _ _ _ _ _ _ _ (ok_d_filled T) (hr.mono (by decide)) rfl T.ga_filled_words T.F_d_filled.kp T.b_d_filled .nil pass0 (@pa_cons _ _ _ _ _ (@pe_fld _ _ _ _ _ (@pv _ 0 _ _ (by rfl) (by first | exact vis0 rfl | exact vis1 rfl | exact vis2 rfl) (by decide) (by decide)) rfl) (@pa_cons _ _ _ _ _ (@pv _ 1 _ _ (by rfl) (by first | exact vis0 rfl | exact vis1 rfl | exact vis2 rfl) (by decide) (by decide)) (@pa_nil _) (by rfl)) (by rfl)) (by decide) (by rfl) (by rfl)) (@pa_cons _ _ _ _ _ (@pe_comp _ _ _ _ _ _ _ _ _ _ _ _ _ (@compOk_of _ (defScope s_c_Rule_filled) (n_c_Rule_filled) (["premise" , "given"]) ([none , some 1]) _ rfl rfl (by decide +kernel)) rfl (@pi_tup _ _ _ _ (@pe_fld _ _ _ _ _ (@pv _ 0 _ _ (by rfl) (by first | exact vis0 rfl | exact vis1 rfl | exact vis2 rfl) (by decide) (by decide)) rfl)) (fun _ _ _ _ _ => (@pg_name _ _ (0) _ (show List.Nodup (["premise" , "given"] : List Str) by decide +kernel) rfl (by first | exact Or.inl rfl | exact Or.inr rfl) (by first | exact Or.inl rfl | exact Or.inr rfl | assumption))) (fun _ _ _ _ _ => @pts_nil _) (fun _ _ _ _ _ => (@pe_call _ _ _ _ _ _ _ _ _ _ _ _ _ _ _ _ (ok_d_filled T) (hr.mono (by decide)) rfl T.ga_filled_words T.F_d_filled.kp T.b_d_filled .nil pass0 (@pa_cons _ _ _ _ _ (@pv _ 0 _ _ (by rfl) (by first | exact vis0 rfl | exact vis1 rfl | exact vis2 rfl) (by decide) (by decide)) (@pa_cons _ _ _ _ _ (@pv _ 1 _ _ (by rfl) (by first | exact vis0 rfl | exact vis1 rfl | exact vis2 rfl) (by decide) (by decide)) (@pa_nil _) (by rfl)) (by rfl)) (by decide) (by rfl) (by rfl))) (by intro _ ; rfl)) (@pa_nil _) (by rfl)) (by rfl)) (by rfl) (by rfl) (by rfl)) (@pe_alt _ _ _ _ (@pe_meth _ _ _ _ _ _ _ _ _ _ _ _ _ _ _ _ _ _ _ _ (@pv _ 0 _ _ (by rfl) (by first | exact vis0 rfl | exact vis1 rfl | exact vis2 rfl) (by decide) (by decide)) T.cl_Sure T.me_Sure_again (ok_c_Sure_again T) (hr.mono (by decide)) T.b_c_Sure_again .nil pass0 (@pa_cons _ _ _ _ _ (@pe_call _ _ _ _ _ _ _ _ _ _ _ _ _ _ _ _ (ok_d_filled T) (hr.mono (by decide)) rfl T.ga_filled_words T.F_d_filled.kp T.b_d_filled .nil pass0 (@pa_cons _ _ _ _ _ (@pe_fld _ _ _ _ _ (@pv _ 0 _ _ (by rfl) (by first | exact vis0 rfl | exact vis1 rfl | exact vis2 rfl) (by decide) (by decide)) rfl) (@pa_cons _ _ _ _ _ (@pv _ 1 _ _ (by rfl) (by first | exact vis0 rfl | exact vis1 rfl | exact vis2 rfl) (by decide) (by decide)) (@pa_nil _) (by rfl)) (by rfl)) (by decide) (by rfl) (by rfl)) (@pa_cons _ _ _ _ _ (@pe_comp _ _ _ _ _ _ _ _ _ _ _ _ _ (@compOk_of _ (defScope s_c_Rule_filled) (n_c_Rule_filled) (["premise" , "given"]) ([none , some 1]) _ rfl rfl (by decide +kernel)) rfl (@pi_tup _ _ _ _ (@pe_fld _ _ _ _ _ (@pv _ 0 _ _ (by rfl) (by first | exact vis0 rfl | exact vis1 rfl | exact vis2 rfl) (by decide) (by decide)) rfl)) (fun _ _ _ _ _ => (@pg_name _ _ (0) _ (show List.Nodup (["premise" , "given"] : List Str) by decide +kernel) rfl (by first | exact Or.inl rfl | exact Or.inr rfl) (by first | exact Or.inl rfl | exact Or.inr rfl | assumption))) (fun _ _ _ _ _ => @pts_nil _) (fun _ _ _ _ _ => (@pe_call _ _ _ _ _ _ _ _ _ _ _ _ _ _ _ _ (ok_d_filled T) (hr.mono (by decide)) rfl T.ga_filled_words T.F_d_filled.kp T.b_d_filled .nil pass0 (@pa_cons _ _ _ _ _ (@pv _ 0 _ _ (by rfl) (by first | exact vis0 rfl | exact vis1 rfl | exact vis2 rfl) (by decide) (by decide)) (@pa_cons _ _ _ _ _ (@pv _ 1 _ _ (by rfl) (by first | exact vis0 rfl | exact vis1 rfl | exact vis2 rfl) (by decide) (by decide)) (@pa_nil _) (by rfl)) (by rfl)) (by decide) (by rfl) (by rfl))) (by intro _ ; rfl)) (@pa_nil _) (by rfl)) (by rfl)) (by rfl) (by rfl) (by rfl)) (@pe_alt _ _ _ _ (@pe_meth _ _ _ _ _ _ _ _ _ _ _ _ _ _ _ _ _ _ _ _ (@pv _ 0 _ _ (by rfl) (by first | exact vis0 rfl | exact vis1 rfl | exact vis2 rfl) (by decide) (by decide)) T.cl_Most T.me_Most_again (ok_c_Most_again T) (hr.mono (by decide)) T.b_c_Most_again .nil pass0 (@pa_cons _ _ _ _ _ (@pe_call _ _ _ _ _ _ _ _ _ _ _ _ _ _ _ _ (ok_d_filled T) (hr.mono (by decide)) rfl T.ga_filled_words T.F_d_filled.kp T.b_d_filled .nil pass0 (@pa_cons _ _ _ _ _ (@pe_fld _ _ _ _ _ (@pv _ 0 _ _ (by rfl) (by first | exact vis0 rfl | exact vis1 rfl | exact vis2 rfl) (by decide) (by decide)) rfl) (@pa_cons _ _ _ _ _ (@pv _ 1 _ _ (by rfl) (by first | exact vis0 rfl | exact vis1 rfl | exact vis2 rfl) (by decide) (by decide)) (@pa_nil _) (by rfl)) (by rfl)) (by decide) (by rfl) (by rfl)) (@pa_cons _ _ _ _ _ (@pe_comp _ _ _ _ _ _ _ _ _ _ _ _ _ (@compOk_of _ (defScope s_c_Rule_filled) (n_c_Rule_filled) (["premise" , "given"]) ([none , some 1]) _ rfl rfl (by decide +kernel)) rfl (@pi_tup _ _ _ _ (@pe_fld _ _ _ _ _ (@pv _ 0 _ _ (by rfl) (by first | exact vis0 rfl | exact vis1 rfl | exact vis2 rfl) (by decide) (by decide)) rfl)) (fun _ _ _ _ _ => (@pg_name _ _ (0) _ (show List.Nodup (["premise" , "given"] : List Str) by decide +kernel) rfl (by first | exact Or.inl rfl | exact Or.inr rfl) (by first | exact Or.inl rfl | exact Or.inr rfl | assumption))) (fun _ _ _ _ _ => @pts_nil _) (fun _ _ _ _ _ => (@pe_call _ _ _ _ _ _ _ _ _ _ _ _ _ _ _ _ (ok_d_filled T) (hr.mono (by decide)) rfl T.ga_filled_words T.F_d_filled.kp T.b_d_filled .nil pass0 (@pa_cons _ _ _ _ _ (@pv _ 0 _ _ (by rfl) (by first | exact vis0 rfl | exact vis1 rfl | exact vis2 rfl) (by decide) (by decide)) (@pa_cons _ _ _ _ _ (@pv _ 1 _ _ (by rfl) (by first | exact vis0 rfl | exact vis1 rfl | exact vis2 rfl) (by decide) (by decide)) (@pa_nil _) (by rfl)) (by rfl)) (by decide) (by rfl) (by rfl))) (by intro _ ; rfl)) (@pa_nil _) (by rfl)) (by rfl)) (by rfl) (by rfl) (by rfl)) (@pe_meth _ _ _ _ _ _ _ _ _ _ _ _ _ _ _ _ _ _ _ _ (@pv _ 0 _ _ (by rfl) (by first | exact vis0 rfl | exact vis1 rfl | exact vis2 rfl) (by decide) (by decide)) T.cl_Block T.me_Block_again (ok_c_Block_again T) (hr.mono (by decide)) T.b_c_Block_again .nil pass0 (@pa_cons _ _ _ _ _ (@pe_call _ _ _ _ _ _ _ _ _ _ _ _ _ _ _ _ (ok_d_filled T) (hr.mono (by decide)) rfl T.ga_filled_words T.F_d_filled.kp T.b_d_filled .nil pass0 (@pa_cons _ _ _ _ _ (@pe_fld _ _ _ _ _ (@pv _ 0 _ _ (by rfl) (by first | exact vis0 rfl | exact vis1 rfl | exact vis2 rfl) (by decide) (by decide)) rfl) (@pa_cons _ _ _ _ _ (@pv _ 1 _ _ (by rfl) (by first | exact vis0 rfl | exact vis1 rfl | exact vis2 rfl) (by decide) (by decide)) (@pa_nil _) (by rfl)) (by rfl)) (by decide) (by rfl) (by rfl)) (@pa_cons _ _ _ _ _ (@pe_comp _ _ _ _ _ _ _ _ _ _ _ _ _ (@compOk_of _ (defScope s_c_Rule_filled) (n_c_Rule_filled) (["premise" , "given"]) ([none , some 1]) _ rfl rfl (by decide +kernel)) rfl (@pi_tup _ _ _ _ (@pe_fld _ _ _ _ _ (@pv _ 0 _ _ (by rfl) (by first | exact vis0 rfl | exact vis1 rfl | exact vis2 rfl) (by decide) (by decide)) rfl)) (fun _ _ _ _ _ => (@pg_name _ _ (0) _ (show List.Nodup (["premise" , "given"] : List Str) by decide +kernel) rfl (by first | exact Or.inl rfl | exact Or.inr rfl) (by first | exact Or.inl rfl | exact Or.inr rfl | assumption))) (fun _ _ _ _ _ => @pts_nil _) (fun _ _ _ _ _ => (@pe_call _ _ _ _ _ _ _ _ _ _ _ _ _ _ _ _ (ok_d_filled T) (hr.mono (by decide)) rfl T.ga_filled_words T.F_d_filled.kp T.b_d_filled .nil pass0 (@pa_cons _ _ _ _ _ (@pv _ 0 _ _ (by rfl) (by first | exact vis0 rfl | exact vis1 rfl | exact vis2 rfl) (by decide) (by decide)) (@pa_cons _ _ _ _ _ (@pv _ 1 _ _ (by rfl) (by first | exact vis0 rfl | exact vis1 rfl | exact vis2 rfl) (by decide) (by decide)) (@pa_nil _) (by rfl)) (by rfl)) (by decide) (by rfl) (by rfl))) (by intro _ ; rfl)) (@pa_nil _) (by rfl)) (by rfl)) (by rfl) (by rfl) (by rfl))))))), ?_⟩
    rw [show start n_c_Rule_filled [V.ref r, V.ref g] = [some (V.ref r), some (V.ref g)] from rfl]
    have CF := clsF T hk
    try simp only [tRet]
    refine alt4a hk (tVar_go rfl) hR ⟨by decide +kernel, by decide +kernel, by decide +kernel⟩ ?_
    obtain ⟨dr, t0, hr1, hr2⟩ := id hR
    try simp only [tCons, tCall, tFld, tVar, List.getElem?_cons_zero, List.getElem?_cons_succ, tNil, List.append_nil, tComp_eq, iTup, exSlot]
    refine ⟨r, _, dr, _, _, rfl, hr1, CF.cl, CF.nh, flds_head _ _ _, ?_⟩
    refine ⟨s0, g, gs, rfl, hT _ List.mem_cons_self, hg, hG, fun H1 s1 => ?_⟩
    refine ⟨r, _, dr, _, _, rfl, s1 _ _ hr1, CF.cl, CF.nb, flds_body _ _ _, ?_⟩
    try simp only [exRef]
    refine ⟨⟨_, SqT.of (s1 _ _ hr2)⟩, ?_⟩
    refine comp_1 (src_tup (xs := tv ss)) (Nat.le_trans (show (tv ss).length ≤ 1000 by rw [List.length_map]; omega) (by decide)) [some (V.ref g)] rfl (fun i v => ∃ hi : i < ss.length, v = sv (stat (fillT gs ss[i]))) (fun H' s => SqT.of (s _ _ (s1 _ _ hr2))) (fun i H' R hi s hR' => ?_) (fun D H2 ys hDn s2 hD hl2 hv => ?_)
    · have hi' : i < ss.length := by simpa using hi
      have e2 : ((tv ss)[i]?).getD .non = sv (stat ss[i]) := by rw [List.getElem?_map, List.getElem?_eq_getElem hi']; rfl
      rw [e2]
      try simp only [tCall, tCons, tVar, List.getElem?_cons_zero, List.getElem?_cons_succ, tNil, List.append_nil, exSlot]
      exact ⟨ss[i], g, gs, rfl, hT _ (List.mem_cons_of_mem _ (List.getElem_mem hi')), hg, s _ _ (s1 _ _ hG), fun H3 s3 => hR' _ _ s3 ⟨hi', rfl⟩⟩
    have eys : ys = tv (ss.map (fillT gs)) := by
      refine List.ext_getElem? fun i => ?_
      rw [List.getElem?_map, List.getElem?_map]
      by_cases hi : i < ys.length
      · obtain ⟨hi', e⟩ := hv i _ (List.getElem?_eq_getElem hi)
        rw [List.getElem?_eq_getElem hi, e, List.getElem?_eq_getElem hi']; rfl
      · rw [List.getElem?_eq_none (by omega), List.getElem?_eq_none (by rw [List.length_map] at hl2; omega)]; rfl
    subst eys
    exact again_pick hk (hR.same (s1.trans s2)) (.inl (SqL.of hD)) fun r' H' s' h' => q r' H' ((s1.trans s2).trans s') h'
end
end K21
namespace K21
open PySem L2 Tx

section
variable {P : Program} {w : World} {K : PySem.W.Frag} {mg : Str → Option Value} {base : Heap} {t : Adr}
theorem ok_d_letters_of (T : Txt K mg t) : FnOk P w K mg base CX0 5 t.f_d_letters_of t.fd_d_letters_of ["statement"] spLetters := by
  refine T.F_d_letters_of.ok sc_d_letters_of (fun vs H Q E h => ?_) (fun cdv A outer s H vs Q E hr h => ?_)
  · obtain ⟨sd, nm, ps, rfl, hS, q⟩ := h; rfl
  · obtain ⟨sd, nm, ps, rfl, hS, q⟩ := h
    refine ⟨_, (@pss_cons _ _ _ _ _ (@ps_set _ _ (1) _ _ _ _ sc_d_letters_of.nd rfl (by first | exact Or.inl rfl | exact Or.inr rfl) (@pe_lst _ _ _ _ (@pa_nil _)) (by rfl) (by first | exact Or.inl rfl | exact Or.inr rfl | assumption)) (@pss_cons _ _ _ _ _ (@ps_for _ _ _ _ _ _ _ _ PassesOwn.never rfl (@pi_tup _ _ _ _ (@pe_ix _ _ _ _ _ _ _ ix_seq (@pe_call _ _ _ _ _ _ _ _ _ _ _ _ _ _ _ _ (ok_d_parts_of T) (hr.mono (by decide)) rfl T.g_d_parts_of T.F_d_parts_of.kp T.b_d_parts_of .nil pass0 (@pa_cons _ _ _ _ _ (@pv _ 0 _ _ (by rfl) (by first | exact vis0 rfl | exact vis1 rfl | exact vis2 rfl) (by decide) (by decide)) (@pa_nil _) (by rfl)) (by decide) (by rfl) (by rfl)) (@pe_int _ _ _ _) (fun _ _ => rfl))) (@pg_name _ _ (2) _ sc_d_letters_of.nd rfl (by first | exact Or.inl rfl | exact Or.inr rfl) (by first | exact Or.inl rfl | exact Or.inr rfl | assumption)) (@pss_one _ _ _ (@ps_if _ _ _ _ _ _ _ _ (@PW.pt _ _ _ (@pw_and _ _ _ _ _ _ _ (@pt_val _ _ _ (@pe_call _ _ _ _ _ _ _ _ _ _ _ _ _ _ _ _ (ok_d_is_letter T) (hr.mono (by decide)) rfl T.g_d_is_letter T.F_d_is_letter.kp T.b_d_is_letter .nil pass0 (@pa_cons _ _ _ _ _ (@pv _ 2 _ _ (by rfl) (by first | exact vis0 rfl | exact vis1 rfl | exact vis2 rfl) (by decide) (by decide)) (@pa_nil _) (by rfl)) (by decide) (by rfl) (by rfl)) (by intro _ ; rfl)) (@pw_and1 _ _ _ _ (@pt_cmpR _ _ _ _ _ _ _ _ op_notinA (@pv _ 2 _ _ (by rfl) (by first | exact vis0 rfl | exact vis1 rfl | exact vis2 rfl) (by decide) (by decide)) (@pv _ 1 _ _ (by rfl) (by first | exact vis0 rfl | exact vis1 rfl | exact vis2 rfl) (by decide) (by decide)) (by with_unfolding_all rfl))))) (@pss_one _ _ _ (@ps_expr _ _ _ _ (@pe_bm _ _ _ _ _ _ _ _ _ _ _ _ PySem.F.plainAttrs_list PySem.F.slot_list_append PySem.F.type_list_append mt_append (@pv _ 1 _ _ (by rfl) (by first | exact vis0 rfl | exact vis1 rfl | exact vis2 rfl) (by decide) (by decide)) (@pa_cons _ _ _ _ _ (@pv _ 2 _ _ (by rfl) (by first | exact vis0 rfl | exact vis1 rfl | exact vis2 rfl) (by decide) (by decide)) (@pa_nil _) (by rfl)) (by rfl) (by rfl) (by rfl) (by rfl) (by rfl)) (by rfl))) (@pss_nil _))) (by intro _ ; rfl)) (@pss_one _ _ _ (@ps_ret _ _ _ _ (@pv _ 1 _ _ (by rfl) (by first | exact vis0 rfl | exact vis1 rfl | exact vis2 rfl) (by decide) (by decide)))))), ?_⟩
    rw [show start n_d_letters_of [sv (stmtL sd nm ps)] = [some (sv (stmtL sd nm ps)), none, none] from rfl]
    try simp only [tSeq, tAsg, tLst, tNil, gName, List.set_cons_succ, List.set_cons_zero, tFor_eq, iTup, tOp, tCall, tCons, tVar, List.getElem?_cons_zero, List.append_nil, tC, exSlot]
    refine ⟨by decide, fun D hD => ?_⟩
    obtain ⟨H1, e1, s1, h1⟩ := newO hD (.lst []); rw [e1]
    refine ⟨sd, nm, ps, rfl, hS, fun p H2 s2 h2 => ?_⟩
    obtain ⟨t, ht1, ht2⟩ := h2
    refine rIx_tup (SqT.of ht1) (v := .ref t) rfl ?_
    try simp only [exRef]
    refine ⟨⟨_, SqT.of ht2⟩, ?_⟩
    refine for_tup (K := K) (a := t) (xs := pv' ps) (fun i σ H' => ∃ (x : Option V), σ = [some (sv (stmtL sd nm ps)), some (V.ref D), x] ∧ Same H H' ∧ H' t = some (.tup (pv' ps)) ∧ H' D = some (.lst (pv' ((ps.take i).foldl stepL []))))
      ⟨_, rfl, s1.trans s2, ht2, s2 _ _ h1⟩ (fun i σ H' _ ⟨_, _, _, h, _⟩ => SqT.of h) ?_ ?_
    · rintro i v σ H3 hi ⟨x, rfl, s3, ht3, hD3⟩
      have hil : i < ps.length := by simpa using (List.getElem?_eq_some_iff.mp hi).1
      have ev : v = sv ps[i] := by
        rw [List.getElem?_map, List.getElem?_eq_getElem hil] at hi
        exact (Option.some.inj hi).symm
      subst ev
      have hp := hS.places ps[i] (List.getElem_mem hil)
      have hpl := hp.len
      have etake : (ps.take (i + 1)).foldl stepL [] = stepL ((ps.take i).foldl stepL []) ps[i] := by
        rw [List.take_succ_eq_append_getElem hil, List.foldl_append]; rfl
      generalize hacc : (ps.take i).foldl stepL [] = acc at hD3 etake
      have hal : acc.length ≤ 2 := by
        rw [← hacc]
        have h0 := let_len (ps.take i)
        have h1 : (ps.take i).length ≤ ps.length := List.length_take_le' _ _
        have h2 := hS.many
        exact Nat.le_trans h0 (by omega)
      rw [etake]
      try simp only [gName, tIfS, tAnd, tB, tCall, tCons, tVar, List.set_cons_succ, List.set_cons_zero, List.getElem?_cons_succ, List.getElem?_cons_zero, tNil, List.append_nil, tTest, tOp, tDrop, tBM, exSlot, tNext, ite_ft, spIs_at, exBl]
      refine ⟨by rw [mk_len]; omega, fun H4 s4 => ?_⟩
      try skip
      refine ite2 (fun c => ?_) (fun c => ?_)
      · refine .inr ⟨D, _, rfl, .inl (SqL.of (s4 _ _ hD3)), rfl, flat_pv _, ?_⟩
        try simp only [exBl]
        refine ite2 (fun c2 => ?_) (fun c2 => ?_)
        · refine ⟨.inl ⟨rfl, _, SqL.of (s4 _ _ hD3)⟩, D, _, _, rfl, rfl, s4 _ _ hD3, Nat.lt_of_le_of_lt (show _ ≤ 1000 by simp; omega) (by decide), _, rfl, ?_, ?_, ?_⟩
          · intro b o e
            have hb : b ≠ D := ne_of_none e hD
            rw [upd_ne hb]; exact s4 _ _ (s3 b o e)
          · have hb : t ≠ D := ne_of ht3 hD3 (by intro z; cases z)
            rw [upd_ne hb]; exact s4 _ _ ht3
          · rw [upd_same]
            have c2' : inV (sv ps[i]) (pv' acc) = false := by simpa using c2
            have e : stepL acc ps[i] = acc ++ [ps[i]] := if_pos ⟨c, c2'⟩
            rw [e]; simp
        · have c2' : ¬ inV (sv ps[i]) (pv' acc) = false := by simpa using c2
          have e : stepL acc ps[i] = acc := if_neg fun z => c2' z.2
          rw [e]
          exact ⟨_, rfl, s3.trans s4, s4 _ _ ht3, s4 _ _ hD3⟩
      · have e : stepL acc ps[i] = acc := if_neg fun z => c z.1
        rw [e]
        exact ⟨_, rfl, s3.trans s4, s4 _ _ ht3, s4 _ _ hD3⟩
    · rintro σ H3 ⟨x, rfl, s3, ht3, hD3⟩
      try simp only [tRet, tVar, List.getElem?_cons_succ, List.getElem?_cons_zero, exSlot]
      refine q D H3 s3 hD ?_
      rw [show (pv' ps).length = ps.length by simp, List.take_length] at hD3
      exact hD3
end
end K21
namespace K21
open PySem L2 Tx

section
variable {P : Program} {w : World} {K : PySem.W.Frag} {mg : Str → Option Value} {base : Heap} {t : Adr}
theorem ok_c_Rule_letters (T : Txt K mg t) : FnOk P w K mg base CX0 6 t.f_c_Rule_letters t.fd_c_Rule_letters ["self"] (spRLetters K) := by
  refine T.F_c_Rule_letters.ok sc_c_Rule_letters (fun vs H Q E h => ?_) (fun cdv A outer s H vs Q E hr h => ?_)
  · obtain ⟨r, C, lb, s0, ss, rfl, hR, hC, hs0, hss, hl, q⟩ := h; rfl
  · obtain ⟨r, C, lb, s0, ss, rfl, hR, hC, hs0, hss, hl, q⟩ := h
    refine ⟨_, (@pss_cons _ _ _ _ _ (@ps_set _ _ (1) _ _ _ _ sc_c_Rule_letters.nd rfl (by first | exact Or.inl rfl | exact Or.inr rfl) (@pe_lst _ _ _ _ (@pa_nil _)) (by rfl) (by first | exact Or.inl rfl | exact Or.inr rfl | assumption)) (@pss_cons _ _ _ _ _ (@ps_for _ _ _ _ _ _ _ _ PassesOwn.never rfl (@pi_tup _ _ _ _ (@pe_op _ _ _ _ _ _ _ _ op_addA (@pe_tup _ _ _ _ _ (@pa_cons _ _ _ _ _ (@pe_fld _ _ _ _ _ (@pv _ 0 _ _ (by rfl) (by first | exact vis0 rfl | exact vis1 rfl | exact vis2 rfl) (by decide) (by decide)) rfl) (@pa_nil _) (by rfl))) (@pe_fld _ _ _ _ _ (@pv _ 0 _ _ (by rfl) (by first | exact vis0 rfl | exact vis1 rfl | exact vis2 rfl) (by decide) (by decide)) rfl))) (@pg_name _ _ (2) _ sc_c_Rule_letters.nd rfl (by first | exact Or.inl rfl | exact Or.inr rfl) (by first | exact Or.inl rfl | exact Or.inr rfl | assumption)) (@pss_one _ _ _ (@ps_expr _ _ _ _ (@pe_bm _ _ _ _ _ _ _ _ _ _ _ _ PySem.F.plainAttrs_list PySem.F.slot_list_extend PySem.F.type_list_extend mt_extend (@pv _ 1 _ _ (by rfl) (by first | exact vis0 rfl | exact vis1 rfl | exact vis2 rfl) (by decide) (by decide)) (@pa_cons _ _ _ _ _ (@pe_comp _ _ _ _ _ _ _ _ _ _ _ _ _ (@compOk_of _ (defScope s_c_Rule_letters) (n_c_Rule_letters) (["letter" , "told"]) ([none , some 1]) _ rfl rfl (by decide +kernel)) rfl (@pi_list _ _ _ _ (@pe_call _ _ _ _ _ _ _ _ _ _ _ _ _ _ _ _ (ok_d_letters_of T) (hr.mono (by decide)) rfl T.g_d_letters_of T.F_d_letters_of.kp T.b_d_letters_of .nil pass0 (@pa_cons _ _ _ _ _ (@pv _ 2 _ _ (by rfl) (by first | exact vis0 rfl | exact vis1 rfl | exact vis2 rfl) (by decide) (by decide)) (@pa_nil _) (by rfl)) (by decide) (by rfl) (by rfl))) (fun _ _ _ _ _ => (@pg_name _ _ (0) _ (show List.Nodup (["letter" , "told"] : List Str) by decide +kernel) rfl (by first | exact Or.inl rfl | exact Or.inr rfl) (by first | exact Or.inl rfl | exact Or.inr rfl | assumption))) (fun _ _ _ _ _ => @pts_one _ _ _ (@pt_cmpR _ _ _ _ _ _ _ _ (op_notinK (K := K) rfl) (@pv _ 0 _ _ (by rfl) (by first | exact vis0 rfl | exact vis1 rfl | exact vis2 rfl) (by decide) (by decide)) (@pv _ 1 _ _ (by rfl) (by first | exact vis0 rfl | exact vis1 rfl | exact vis2 rfl) (by decide) (by decide)) (by with_unfolding_all rfl))) (fun _ _ _ _ _ => (@pv _ 0 _ _ (by rfl) (by first | exact vis0 rfl | exact vis1 rfl | exact vis2 rfl) (by decide) (by decide))) (by intro _ ; rfl)) (@pa_nil _) (by rfl)) (by rfl) (by rfl) (by rfl) (by rfl) (by rfl)) (by rfl))) (by intro _ ; rfl)) (@pss_one _ _ _ (@ps_ret _ _ _ _ (@pv _ 1 _ _ (by rfl) (by first | exact vis0 rfl | exact vis1 rfl | exact vis2 rfl) (by decide) (by decide)))))), ?_⟩
    rw [show start n_c_Rule_letters [V.ref r] = [some (V.ref r), none, none] from rfl]
    obtain ⟨cl, n2, n3⟩ := hC
    obtain ⟨dx, t0, hr1, ht0⟩ := hR
    try simp only [tSeq, tAsg, tLst, tNil, gName, List.set_cons_succ, List.set_cons_zero, tFor_eq, iTup, tOp, tTup, tCons, tFld, tVar, List.getElem?_cons_zero, exSlot]
    refine ⟨by decide, fun D hD => ?_⟩
    obtain ⟨H1, e1, s1, h1⟩ := newO hD (.lst []); rw [e1]
    refine ⟨r, C, dx, _, _, rfl, s1 _ _ hr1, cl, n2, flds_head _ _ _, ?_⟩
    refine ⟨by simp only [List.length_cons, List.length_nil]; decide, fun p2 hp2 => ?_⟩
    obtain ⟨H2, e2, s2, h2⟩ := newO hp2 (.tup [sv (stat s0)]); rw [e2]
    refine ⟨r, C, dx, _, _, rfl, s2 _ _ (s1 _ _ hr1), cl, n3, flds_body _ _ _, ?_⟩
    have ht2 := s2 _ _ (s1 _ _ ht0)
    have s12 := s1.trans s2
    have hD2 := s2 _ _ h1
    -- the walk, whichever tuple it is over
    have go : ∀ (a : Addr) (H3 : Hp), Same H H3 → H3 D = some (.lst []) → H3 a = some (.tup (tv (s0 :: ss))) → ForW (Itt K a) (gName 2) (tDrop (tBM K "list" rExtend (tVar 1) (tCons (tComp [none, some 1] (iList K (tCall spLetters [] E0 (tCons (tVar 2) tNil))) (gName 0) (tTest (tOp (rNotInA K) (tVar 0) (tVar 1))) (tVar 0)) tNil)))
        { nx := tRet (tVar 1) { nx := fun _ H' => Q .non H', rt := Q }, rt := Q } [some (V.ref r), some (V.ref D), none] H3 := by
      intro a H3 s3 hD3 ha3
      refine for_tup (K := K) (a := a) (xs := tv (s0 :: ss)) (fun i σ H' => ∃ (x : Option V), σ = [some (V.ref r), some (V.ref D), x] ∧ Same H H' ∧ H' a = some (.tup (tv (s0 :: ss))) ∧ H' D = some (.lst (pv' (allL ((s0 :: ss).take i)))))
        ⟨_, rfl, s3, ha3, hD3⟩ (fun i σ H' _ ⟨_, _, _, h, _⟩ => SqT.of h) ?_ ?_
      · rintro i v σ H4 hi ⟨x, rfl, s4, ha4, hD4⟩
        have hil : i < (s0 :: ss).length := by
          have := (List.getElem?_eq_some_iff.mp hi).1
          rw [List.length_map] at this; exact this
        have hT : IsT (s0 :: ss)[i] := by
          rcases List.mem_cons.mp (List.getElem_mem hil) with z | z
          · rw [z]; exact hs0
          · exact hss _ z
        have ev : v = sv (stat (s0 :: ss)[i]) := by
          rw [List.getElem?_map, List.getElem?_eq_getElem hil] at hi
          exact (Option.some.inj hi).symm
        subst ev
        have etake : allL ((s0 :: ss).take (i + 1)) = moreL (allL ((s0 :: ss).take i)) (s0 :: ss)[i].2.2 := by
          rw [List.take_succ_eq_append_getElem hil, all_snoc]
        have hal := all_len _ ((s0 :: ss).take i) rfl fun s hs => by
          rcases List.mem_cons.mp (List.mem_of_mem_take hs) with z | z
          · rw [z]; exact hs0
          · exact hss _ z
        have hal1 : (allL ((s0 :: ss).take i)).length ≤ 1000 := by
          have : ((s0 :: ss).take i).length ≤ (s0 :: ss).length := List.length_take_le' _ _
          simp only [List.length_cons] at this
          omega
        rw [etake]
        generalize allL ((s0 :: ss).take i) = acc at hD4 hal hal1
        generalize (s0 :: ss)[i] = s at hT ⊢
        try simp only [gName, tDrop, tBM, tVar, List.set_cons_succ, List.set_cons_zero, List.getElem?_cons_succ, List.getElem?_cons_zero, tCons, tNil, tComp_eq, iList, tCall, List.append_nil, exSlot]
        refine ⟨.inl ⟨rfl, _, SqL.of hD4⟩, s.1, s.2.1, s.2.2, rfl, hT, fun F H5 s5 hFn hF5 => ?_⟩
        try simp only [exRef]
        refine ⟨⟨_, SqL.of hF5⟩, ?_⟩
        have hD5 := s5 _ _ hD4
        have hll := let_len s.2.2
        have hmany := hT.many
        refine comp_f (src_list (xs := pv' (letL s.2.2))) (Nat.le_trans (show (pv' (letL s.2.2)).length ≤ 1000 by rw [List.length_map]; omega) (by decide)) [some (V.ref D)] rfl
          (fun i => decide ((letL s.2.2).getD i [] ∉ acc)) (fun i => sv ((letL s.2.2).getD i [])) (fun H' s' => SqL.of (s' _ _ hF5)) (fun i H' R hi s' hR => ?_) (fun i H' R hi s' hR => ?_) (fun G H6 hGn s6 hG6 => ?_)
        · have hi' : i < (letL s.2.2).length := by simpa using hi
          have e2 : ((pv' (letL s.2.2))[i]?).getD .non = sv ((letL s.2.2).getD i []) := by
            rw [List.getElem?_map, List.getElem?_eq_getElem hi', List.getD_eq_getElem?_getD, List.getElem?_eq_getElem hi']; rfl
          rw [e2]
          try simp only [tTest, tOp, tVar, List.getElem?_cons_zero, List.getElem?_cons_succ, exSlot]
          refine .inr ⟨D, _, rfl, .inl (SqL.of (s' _ _ hD5)), rfl, flat_pv _, ?_⟩
          try simp only [exBl]
          have e3 : (!inV (sv ((letL s.2.2).getD i [])) (pv' acc)) = decide ((letL s.2.2).getD i [] ∉ acc) := by
            rw [inV_iff]; by_cases z : (letL s.2.2).getD i [] ∈ acc <;> simp [z]
          rw [if_true, e3]
          exact hR _ (Same.refl _)
        · have hi' : i < (letL s.2.2).length := by simpa using hi
          have e2 : ((pv' (letL s.2.2))[i]?).getD .non = sv ((letL s.2.2).getD i []) := by
            rw [List.getElem?_map, List.getElem?_eq_getElem hi', List.getD_eq_getElem?_getD, List.getElem?_eq_getElem hi']; rfl
          rw [e2]
          try simp only [tVar, List.getElem?_cons_zero, exSlot]
          exact hR _ (Same.refl _)
        have eG : ((List.range (pv' (letL s.2.2)).length).filter fun i => decide ((letL s.2.2).getD i [] ∉ acc)).map (fun i => sv ((letL s.2.2).getD i [])) = pv' ((letL s.2.2).filter fun l => decide (l ∉ acc)) := by
          have key : ∀ (ls : List (List Nat)), ((List.range ls.length).filter fun i => decide (ls.getD i [] ∉ acc)).map (fun i => sv (ls.getD i [])) = pv' (ls.filter fun l => decide (l ∉ acc)) := by
            intro ls
            have e1 : (List.range ls.length).map (fun i => ls.getD i []) = ls := by
              refine List.ext_getElem (by simp) fun i h1 h2 => ?_
              rw [List.getElem_map, List.getElem_range, List.getD_eq_getElem?_getD, List.getElem?_eq_getElem h2]; rfl
            conv => rhs; rw [← e1, List.filter_map]
            show _ = List.map (fun l => V.str (mk l)) (List.map _ _)
            rw [List.map_map]
            rfl
          rw [List.length_map]; exact key _
        rw [eG] at hG6
        refine ⟨D, G, _, _, rfl, rfl, s6 _ _ hD5, hG6, ?_, _, rfl, ?_, ?_, ?_⟩
        · refine Nat.le_trans (show _ ≤ 1100 from ?_) (by decide)
          rw [List.length_map, List.length_map]
          have := List.length_filter_le (fun l => decide (l ∉ acc)) (letL s.2.2)
          omega
        · intro b o e
          rw [upd_ne (ne_of_none e hD)]; exact s6 _ _ (s5 _ _ (s4 b o e))
        · rw [upd_ne (ne_of ha4 hD4 (by intro z; cases z))]; exact s6 _ _ (s5 _ _ ha4)
        · rw [upd_same]; unfold moreL; exact congrArg (fun l => some (HO.lst l)) List.map_append.symm
      · rintro σ H4 ⟨x, rfl, s4, ha4, hD4⟩
        try simp only [tRet, tVar, List.getElem?_cons_succ, List.getElem?_cons_zero, exSlot]
        rw [show (tv (s0 :: ss)).length = (s0 :: ss).length by rw [List.length_map], List.take_length] at hD4
        exact q D H4 s4 hD hD4
    refine .inr (.inr (.inr ⟨p2, t0, _, _, rfl, rfl, SqT.of h2, SqT.of ht2, by simp, ?_, fun e => ?_, fun e p3 hp3 => ?_⟩))
    · rw [List.length_map]; exact Nat.le_trans (show _ ≤ 1000 by simp; omega) (by decide)
    · have e' : ss = [] := List.map_eq_nil_iff.mp e
      subst e'
      try simp only [exRef]
      exact ⟨⟨_, SqT.of h2⟩, go p2 H2 s12 hD2 h2⟩
    · try simp only [List.cons_append, List.nil_append, exRef]
      refine ⟨⟨_, SqT.of upd_same⟩, go p3 _ (s12.up hp3) ?_ upd_same⟩
      rw [upd_ne (ne_of_none hD2 hp3)]; exact hD2
end
end K21
namespace K21
open PySem L2 Tx

section
variable {P : Program} {w : World} {K : PySem.W.Frag} {mg : Str → Option Value} {base : Heap} {t : Adr}
theorem ok_d_ways_to_give (T : Txt K mg t) : FnOk P w K mg base CX0 1 t.f_d_ways_to_give t.fd_d_ways_to_give ["letters", "things"] spWays := by
  refine T.F_d_ways_to_give.ok sc_d_ways_to_give (fun vs H Q E h => ?_) (fun cdv A outer s H vs Q E hr h => ?_)
  · obtain ⟨a, b, ls, Th, rfl, ha, hb, hls, hl3, hTl, hTw, q⟩ := h; rfl
  · obtain ⟨a, b, ls, Th, rfl, ha, hb, hls, hl3, hTl, hTw, q⟩ := h
    refine ⟨_, (@pss_cons _ _ _ _ _ (@ps_set _ _ (2) _ _ _ _ sc_d_ways_to_give.nd rfl (by first | exact Or.inl rfl | exact Or.inr rfl) (@pe_lst _ _ _ _ (@pa_cons _ _ _ _ _ (@pe_dnewK _ _) (@pa_nil _) (by rfl))) (by rfl) (by first | exact Or.inl rfl | exact Or.inr rfl | assumption)) (@pss_cons _ _ _ _ _ (@ps_for _ _ _ _ _ _ _ _ PassesOwn.never rfl (@pi_list _ _ _ _ (@pv _ 0 _ _ (by rfl) (by first | exact vis0 rfl | exact vis1 rfl | exact vis2 rfl) (by decide) (by decide))) (@pg_name _ _ (3) _ sc_d_ways_to_give.nd rfl (by first | exact Or.inl rfl | exact Or.inr rfl) (by first | exact Or.inl rfl | exact Or.inr rfl | assumption)) (@pss_cons _ _ _ _ _ (@ps_set _ _ (4) _ _ _ _ sc_d_ways_to_give.nd rfl (by first | exact Or.inl rfl | exact Or.inr rfl) (@pe_lst _ _ _ _ (@pa_nil _)) (by rfl) (by first | exact Or.inl rfl | exact Or.inr rfl | assumption)) (@pss_cons _ _ _ _ _ (@ps_for _ _ _ _ _ _ _ _ PassesOwn.never rfl (@pi_list _ _ _ _ (@pv _ 2 _ _ (by rfl) (by first | exact vis0 rfl | exact vis1 rfl | exact vis2 rfl) (by decide) (by decide))) (@pg_name _ _ (5) _ sc_d_ways_to_give.nd rfl (by first | exact Or.inl rfl | exact Or.inr rfl) (by first | exact Or.inl rfl | exact Or.inr rfl | assumption)) (@pss_one _ _ _ (@ps_for _ _ _ _ _ _ _ _ PassesOwn.never rfl (@pi_list _ _ _ _ (@pv _ 1 _ _ (by rfl) (by first | exact vis0 rfl | exact vis1 rfl | exact vis2 rfl) (by decide) (by decide))) (@pg_name _ _ (6) _ sc_d_ways_to_give.nd rfl (by first | exact Or.inl rfl | exact Or.inr rfl) (by first | exact Or.inl rfl | exact Or.inr rfl | assumption)) (@pss_cons _ _ _ _ _ (@ps_set _ _ (7) _ _ _ _ sc_d_ways_to_give.nd rfl (by first | exact Or.inl rfl | exact Or.inr rfl) (@pe_callTy _ _ _ _ _ _ _ _ _ call_dictOf rfl T.z_dict boot_dictT (@pa_cons _ _ _ _ _ (@pv _ 5 _ _ (by rfl) (by first | exact vis0 rfl | exact vis1 rfl | exact vis2 rfl) (by decide) (by decide)) (@pa_nil _) (by rfl)) (by decide) (by decide) (by rfl) (by rfl)) (by rfl) (by first | exact Or.inl rfl | exact Or.inr rfl | assumption)) (@pss_cons _ _ _ _ _ (@ps_dput _ _ _ _ _ _ _ _ _ (hu_of hr) (@pv _ 7 _ _ (by rfl) (by first | exact vis0 rfl | exact vis1 rfl | exact vis2 rfl) (by decide) (by decide)) (@pv _ 3 _ _ (by rfl) (by first | exact vis0 rfl | exact vis1 rfl | exact vis2 rfl) (by decide) (by decide)) (@pv _ 6 _ _ (by rfl) (by first | exact vis0 rfl | exact vis1 rfl | exact vis2 rfl) (by decide) (by decide)) rfl) (@pss_one _ _ _ (@ps_expr _ _ _ _ (@pe_bm _ _ _ _ _ _ _ _ _ _ _ _ PySem.F.plainAttrs_list PySem.F.slot_list_append PySem.F.type_list_append mt_append (@pv _ 4 _ _ (by rfl) (by first | exact vis0 rfl | exact vis1 rfl | exact vis2 rfl) (by decide) (by decide)) (@pa_cons _ _ _ _ _ (@pv _ 7 _ _ (by rfl) (by first | exact vis0 rfl | exact vis1 rfl | exact vis2 rfl) (by decide) (by decide)) (@pa_nil _) (by rfl)) (by rfl) (by rfl) (by rfl) (by rfl) (by rfl)) (by rfl))))) (by intro _ ; rfl))) (by intro _ ; rfl)) (@pss_one _ _ _ (@ps_set _ _ (2) _ _ _ _ sc_d_ways_to_give.nd rfl (by first | exact Or.inl rfl | exact Or.inr rfl) (@pv _ 4 _ _ (by rfl) (by first | exact vis0 rfl | exact vis1 rfl | exact vis2 rfl) (by decide) (by decide)) (by rfl) (by first | exact Or.inl rfl | exact Or.inr rfl | assumption))))) (by intro _ ; rfl)) (@pss_one _ _ _ (@ps_ret _ _ _ _ (@pv _ 2 _ _ (by rfl) (by first | exact vis0 rfl | exact vis1 rfl | exact vis2 rfl) (by decide) (by decide)))))), ?_⟩
    rw [show start n_d_ways_to_give [V.ref a, V.ref b] = [some (V.ref a), some (V.ref b), none, none, none, none, none, none] from rfl]
    try simp only [tSeq, tAsg, tLst, tCons, tDNewK, tNil, gName, List.set_cons_succ, List.set_cons_zero, tFor_eq, iList, tVar, List.getElem?_cons_zero, exSlot, exRef]
    intro p0 hp0
    obtain ⟨H1, e1, s1, h1⟩ := newO hp0 (.dK []); rw [e1]
    refine ⟨by simp only [List.length_cons, List.length_nil]; decide, fun W0 hW0 => ?_⟩
    obtain ⟨H2, e2, s2, h2⟩ := newO hW0 (.lst [V.ref p0]); rw [e2]
    have s02 := s1.trans s2
    refine ⟨⟨_, SqL.of (s02 _ _ ha)⟩, ?_⟩
    refine for_list (K := K) (a := a) (xs := pv' ls) (fun i σ H' => ∃ (W : Addr) (ws : List V) (x3 x4 x5 x6 x7 : Option V), σ = [some (V.ref a), some (V.ref b), some (V.ref W), x3, x4, x5, x6, x7] ∧ Same H H' ∧ H W = none ∧ H' W = some (.lst ws) ∧ ws.length = Th.length ^ i ∧ WaysAt Th (ls.take i).reverse H' ws)
      ⟨W0, [V.ref p0], _, _, _, _, _, rfl, s02, none_of s1 hW0, h2, rfl, fun n v e => ?_⟩ (fun i σ H' _ h => by obtain ⟨_, _, _, _, _, _, _, _, s, _⟩ := h; exact SqL.of (s _ _ ha)) ?_ ?_
    · cases n with
      | zero => cases e; exact ⟨p0, [], rfl, s2 _ _ h1, (fun _ h => by cases h), Nat.le_refl _, fun _ => rfl⟩
      | succ n => simp at e
    · rintro i v σ H3 hi ⟨W, ws, x3, x4, x5, x6, x7, rfl, s3, hWn, hW3, hwl, hws⟩
      have hil : i < ls.length := by simpa using (List.getElem?_eq_some_iff.mp hi).1
      have ev : v = sv ls[i] := by
        rw [List.getElem?_map, List.getElem?_eq_getElem hil] at hi
        exact (Option.some.inj hi).symm
      subst ev
      have hcap := hls _ (List.getElem_mem hil)
      have etake : (ls.take (i + 1)).reverse = ls[i] :: (ls.take i).reverse := by rw [List.take_succ_eq_append_getElem hil, List.reverse_append]; rfl
      rw [etake]
      have hrl : (ls.take i).reverse.length ≤ 3 := by rw [List.length_reverse, List.length_take]; omega
      have hw64 : ws.length ≤ 64 := by
        rw [hwl]
        exact Nat.le_trans (Nat.pow_le_pow_left hTl.2 i) (Nat.le_trans (Nat.pow_le_pow_right (by decide) (show i ≤ 2 by omega)) (by decide))
      generalize (ls.take i).reverse = rs at hws hrl
      generalize ls[i] = l at hcap
      try simp only [gName, tSeq, tAsg, tLst, tNil, List.set_cons_succ, List.set_cons_zero, tFor_eq, iList, tVar, List.getElem?_cons_succ, List.getElem?_cons_zero, exSlot, exRef]
      refine ⟨by decide, fun L hL => ?_⟩
      obtain ⟨H4, e4, s4, h4⟩ := newO hL (.lst []); rw [e4]
      have hLn : H L = none := none_of s3 hL
      have hLW : L ≠ W := fun z => by rw [z, hW3] at hL; cases hL
      have hW4 := s4 _ _ hW3
      refine ⟨⟨_, SqL.of hW4⟩, ?_⟩
      refine for_list (K := K) (a := W) (xs := ws) (fun j σ H' => ∃ (zs : List V) (x5 x6 x7 : Option V), σ = [some (V.ref a), some (V.ref b), some (V.ref W), some (sv l), some (V.ref L), x5, x6, x7] ∧ Same H H' ∧ H' W = some (.lst ws) ∧ WaysAt Th rs H' ws ∧ H' L = some (.lst zs) ∧ zs.length = j * Th.length ∧ WaysAt Th (l :: rs) H' zs)
        ⟨[], _, _, _, rfl, s3.trans s4, hW4, fun n v e => (hws n v e).same fun d kvs z => s4 _ _ z, h4, by simp, fun n v e => by simp at e⟩ (fun j σ H' _ h => by obtain ⟨_, _, _, _, _, _, h, _⟩ := h; exact SqL.of h) ?_ ?_
      · rintro j v σ H5 hj ⟨zs, x5, x6, x7, rfl, s5, hW5, hws5, hL5, hzl, hzs⟩
        have hjl : j < ws.length := (List.getElem?_eq_some_iff.mp hj).1
        have hway := hws5 j v hj
        try simp only [gName, List.set_cons_succ, List.set_cons_zero, tFor_eq, iList, tVar, List.getElem?_cons_succ, List.getElem?_cons_zero, exSlot, exRef]
        have hb5 := s5 _ _ hb
        refine ⟨⟨_, SqL.of hb5⟩, ?_⟩
        refine for_list (K := K) (a := b) (xs := pv' Th) (fun k σ H' => ∃ (zs : List V) (x6 x7 : Option V), σ = [some (V.ref a), some (V.ref b), some (V.ref W), some (sv l), some (V.ref L), some v, x6, x7] ∧ Same H H' ∧ H' W = some (.lst ws) ∧ WaysAt Th rs H' ws ∧ H' L = some (.lst zs) ∧ zs.length = j * Th.length + k ∧ WaysAt Th (l :: rs) H' zs)
          ⟨zs, _, _, rfl, s5, hW5, hws5, hL5, by omega, hzs⟩ (fun k σ H' _ h => by obtain ⟨_, _, _, _, s, _⟩ := h; exact SqL.of (s _ _ hb)) ?_ ?_
        · clear hway hws5 hzs hzl hL5 hW5
          rintro k u σ H6 hk ⟨zs, x6, x7, rfl, s6, hW6, hws6, hL6, hzl, hzs⟩
          have hkl : k < Th.length := by simpa using (List.getElem?_eq_some_iff.mp hk).1
          have eu : u = sv Th[k] := by
            rw [List.getElem?_map, List.getElem?_eq_getElem hkl] at hk
            exact (Option.some.inj hk).symm
          subst eu
          obtain ⟨d, gs, rfl, hd, hg, hgl, hlk⟩ := hws6 j v hj
          try simp only [gName, tSeq, tAsg, tCB, tCons, tVar, List.set_cons_succ, List.set_cons_zero, List.getElem?_cons_succ, List.getElem?_cons_zero, tNil, sDPut, tDrop, tBM, exSlot]
          refine ⟨d, _, rfl, hd, fun G hG => ?_⟩
          obtain ⟨H7, e7, s7, h7⟩ := newO hG (.dK (gm gs)); rw [e7]
          have hput := DPut.k (k := (Sum.inr (mk l) : Key)) (v := sv Th[k]) h7 (Nat.lt_of_le_of_lt (show (gm gs).length ≤ 1000 by unfold gm; rw [List.length_map]; omega) (by decide))
          rw [put_gm] at hput
          refine ⟨G, _, rfl, hput, ?_⟩
          obtain ⟨H8, e8, s8, h8⟩ : ∃ H8, upd H7 G (.dK (gm (putG gs l Th[k]))) = H8 ∧ Same H6 H8 ∧ H8 G = some (.dK (gm (putG gs l Th[k]))) := ⟨_, rfl, fun c o e => by rw [upd_ne (ne_of_none e hG)]; exact s7 _ _ e, upd_same⟩
          rw [e8]
          have hL8 := s8 _ _ hL6
          have hz512 : zs.length ≤ 600 := by
            have := Nat.mul_le_mul (show j ≤ 64 by omega) hTl.2
            omega
          refine ⟨.inl ⟨rfl, _, SqL.of hL8⟩, L, _, _, rfl, rfl, hL8, Nat.lt_of_le_of_lt (show zs.length ≤ 1000 by omega) (by decide), ?_⟩
          have up : ∀ c o, c ≠ L → H8 c = some o → upd H8 L (.lst (zs ++ [V.ref G])) c = some o := fun c o hc e => by rw [upd_ne hc]; exact e
          have upd' : ∀ d kvs, H8 d = some (.dK kvs) → upd H8 L (.lst (zs ++ [V.ref G])) d = some (.dK kvs) := fun d kvs e => up _ _ (ne_of e hL8 (by intro z; cases z)) e
          refine ⟨zs ++ [V.ref G], _, _, rfl, fun c o e => up _ _ (ne_of_none e hLn) (s8 _ _ (s6 _ _ e)), up _ _ hLW.symm (s8 _ _ hW6), fun n x e => (hws6 n x e).same fun d kvs z => upd' _ _ (s8 _ _ z), upd_same, by simp; omega, fun n x e => ?_⟩
          by_cases hn : n < zs.length
          · rw [List.getElem?_append_left hn] at e
            exact (hzs n x e).same fun d kvs z => upd' _ _ (s8 _ _ z)
          · have hn2 := (List.getElem?_eq_some_iff.mp e).1
            have en : n = zs.length := by simp at hn2; omega
            subst en
            rw [List.getElem?_append_right (Nat.le_refl _), Nat.sub_self] at e
            cases e
            refine ⟨G, putG gs l Th[k], rfl, upd' _ _ h8, put_good hg hcap (hTw _ (List.getElem_mem hkl)), by have := put_len gs l Th[k]; simp only [List.length_cons]; omega, fun p => ?_⟩
            rw [look_put, hzl]
            show _ = if p = l then Th[(j * Th.length + k) % Th.length]? else lkf Th rs ((j * Th.length + k) / Th.length) p
            rw [Nat.mul_comm j, Nat.mul_add_mod, Nat.mod_eq_of_lt hkl, Nat.mul_add_div hTl.1, Nat.div_eq_of_lt hkl, Nat.add_zero, List.getElem?_eq_getElem hkl, hlk]
        · rintro σ H6 ⟨zs, x6, x7, rfl, s6, hW6, hws6, hL6, hzl, hzs⟩
          exact ⟨zs, _, _, _, rfl, s6, hW6, hws6, hL6, by rw [hzl, List.length_map, Nat.succ_mul], hzs⟩
      · rintro σ H5 ⟨zs, x5, x6, x7, rfl, s5, hW5, hws5, hL5, hzl, hzs⟩
        try simp only [tAsg, tVar, List.getElem?_cons_succ, List.getElem?_cons_zero, gName, List.set_cons_succ, List.set_cons_zero, exSlot]
        exact ⟨L, zs, _, _, _, _, _, rfl, s5, hLn, hL5, by rw [hzl, hwl, Nat.pow_succ], hzs⟩
    · rintro σ H3 ⟨W, ws, x3, x4, x5, x6, x7, rfl, s3, hWn, hW3, hwl, hws⟩
      try simp only [tRet, tVar, List.getElem?_cons_succ, List.getElem?_cons_zero, exSlot]
      rw [show (pv' ls).length = ls.length by simp] at hwl hws
      rw [List.take_length] at hws
      exact q W ws H3 s3 hWn hW3 hwl hws
end
end K21
namespace K21
open PySem L2 Tx

section
variable {P : Program} {w : World} {K : PySem.W.Frag} {mg : Str → Option Value} {base : Heap} {t : Adr}
theorem ok_d_written_out (T : Txt K mg t) : FnOk P w K mg base CX0 7 t.f_d_written_out t.fd_d_written_out ["rule", "things"] (spWritten t) := by
  refine T.F_d_written_out.ok sc_d_written_out (fun vs H Q E h => ?_) (fun cdv A outer s H vs Q E hr h => ?_)
  · obtain ⟨r, b, kind, lb, s0, ss, T0, Th, rfl, hk, hz, hR, hT, hsl, hal, hb, hTl, hTw, q⟩ := h; rfl
  · obtain ⟨r, b, kind, lb, s0, ss, T0, Th, rfl, hk, hz, hR, hT, hsl, hal, hb, hTl, hTw, q⟩ := h
    refine ⟨_, (@pss_cons _ _ _ _ _ (@ps_set _ _ (2) _ _ _ _ sc_d_written_out.nd rfl (by first | exact Or.inl rfl | exact Or.inr rfl) (@pe_alt _ _ _ _ (@pe_meth0 _ _ _ _ _ _ _ _ _ _ _ _ _ _ _ _ _ (@pv _ 0 _ _ (by rfl) (by first | exact vis0 rfl | exact vis1 rfl | exact vis2 rfl) (by decide) (by decide)) T.cl_Fact T.me_Fact_letters (ok_c_Rule_letters T) (hr.mono (by decide)) T.b_c_Rule_letters .nil pass0 (by rfl)) (@pe_alt _ _ _ _ (@pe_meth0 _ _ _ _ _ _ _ _ _ _ _ _ _ _ _ _ _ (@pv _ 0 _ _ (by rfl) (by first | exact vis0 rfl | exact vis1 rfl | exact vis2 rfl) (by decide) (by decide)) T.cl_Sure T.me_Sure_letters (ok_c_Rule_letters T) (hr.mono (by decide)) T.b_c_Rule_letters .nil pass0 (by rfl)) (@pe_alt _ _ _ _ (@pe_meth0 _ _ _ _ _ _ _ _ _ _ _ _ _ _ _ _ _ (@pv _ 0 _ _ (by rfl) (by first | exact vis0 rfl | exact vis1 rfl | exact vis2 rfl) (by decide) (by decide)) T.cl_Most T.me_Most_letters (ok_c_Rule_letters T) (hr.mono (by decide)) T.b_c_Rule_letters .nil pass0 (by rfl)) (@pe_meth0 _ _ _ _ _ _ _ _ _ _ _ _ _ _ _ _ _ (@pv _ 0 _ _ (by rfl) (by first | exact vis0 rfl | exact vis1 rfl | exact vis2 rfl) (by decide) (by decide)) T.cl_Block T.me_Block_letters (ok_c_Rule_letters T) (hr.mono (by decide)) T.b_c_Rule_letters .nil pass0 (by rfl))))) (by rfl) (by first | exact Or.inl rfl | exact Or.inr rfl | assumption)) (@pss_cons _ _ _ _ _ (@ps_if _ _ _ _ _ _ _ _ (@pt_cmpR _ _ _ _ _ _ _ _ (op_eqH hr.units) (@pe_callB _ _ _ _ _ _ _ _ _ call_lenA rfl T.z_len boot_lenT (@pa_cons _ _ _ _ _ (@pv _ 2 _ _ (by rfl) (by first | exact vis0 rfl | exact vis1 rfl | exact vis2 rfl) (by decide) (by decide)) (@pa_nil _) (by rfl)) (by decide) (by decide) (by rfl) (by rfl)) (@pe_int _ _ _ _) (nomark _)) (@pss_one _ _ _ (@ps_ret _ _ _ _ (@pe_lst _ _ _ _ (@pa_cons _ _ _ _ _ (@pv _ 0 _ _ (by rfl) (by first | exact vis0 rfl | exact vis1 rfl | exact vis2 rfl) (by decide) (by decide)) (@pa_nil _) (by rfl))))) (@pss_nil _)) (@pss_one _ _ _ (@ps_ret _ _ _ _ (@pe_comp _ _ _ _ _ _ _ _ _ _ _ _ _ (@compOk_of _ (defScope s_d_written_out) (n_d_written_out) (["given" , "rule"]) ([none , some 0]) _ rfl rfl (by decide +kernel)) rfl (@pi_list _ _ _ _ (@pe_call _ _ _ _ _ _ _ _ _ _ _ _ _ _ _ _ (ok_d_ways_to_give T) (hr.mono (by decide)) rfl T.g_d_ways_to_give T.F_d_ways_to_give.kp T.b_d_ways_to_give .nil pass0 (@pa_cons _ _ _ _ _ (@pv _ 2 _ _ (by rfl) (by first | exact vis0 rfl | exact vis1 rfl | exact vis2 rfl) (by decide) (by decide)) (@pa_cons _ _ _ _ _ (@pv _ 1 _ _ (by rfl) (by first | exact vis0 rfl | exact vis1 rfl | exact vis2 rfl) (by decide) (by decide)) (@pa_nil _) (by rfl)) (by rfl)) (by decide) (by rfl) (by rfl))) (fun _ _ _ _ _ => (@pg_name _ _ (0) _ (show List.Nodup (["given" , "rule"] : List Str) by decide +kernel) rfl (by first | exact Or.inl rfl | exact Or.inr rfl) (by first | exact Or.inl rfl | exact Or.inr rfl | assumption))) (fun _ _ _ _ _ => @pts_nil _) (fun _ _ _ _ _ => (@pe_alt _ _ _ _ (@pe_meth _ _ _ _ _ _ _ _ _ _ _ _ _ _ _ _ _ _ _ _ (@pv _ 1 _ _ (by rfl) (by first | exact vis0 rfl | exact vis1 rfl | exact vis2 rfl) (by decide) (by decide)) T.cl_Fact T.me_Fact_filled (ok_c_Rule_filled T) (hr.mono (by decide)) T.b_c_Rule_filled .nil pass0 (@pa_cons _ _ _ _ _ (@pv _ 0 _ _ (by rfl) (by first | exact vis0 rfl | exact vis1 rfl | exact vis2 rfl) (by decide) (by decide)) (@pa_nil _) (by rfl)) (by rfl) (by rfl) (by rfl)) (@pe_alt _ _ _ _ (@pe_meth _ _ _ _ _ _ _ _ _ _ _ _ _ _ _ _ _ _ _ _ (@pv _ 1 _ _ (by rfl) (by first | exact vis0 rfl | exact vis1 rfl | exact vis2 rfl) (by decide) (by decide)) T.cl_Sure T.me_Sure_filled (ok_c_Rule_filled T) (hr.mono (by decide)) T.b_c_Rule_filled .nil pass0 (@pa_cons _ _ _ _ _ (@pv _ 0 _ _ (by rfl) (by first | exact vis0 rfl | exact vis1 rfl | exact vis2 rfl) (by decide) (by decide)) (@pa_nil _) (by rfl)) (by rfl) (by rfl) (by rfl)) (@pe_alt _ _ _ _ (@pe_meth _ _ _ _ _ _ _ _ _ _ _ _ _ _ _ _ _ _ _ _ (@pv _ 1 _ _ (by rfl) (by first | exact vis0 rfl | exact vis1 rfl | exact vis2 rfl) (by decide) (by decide)) T.cl_Most T.me_Most_filled (ok_c_Rule_filled T) (hr.mono (by decide)) T.b_c_Rule_filled .nil pass0 (@pa_cons _ _ _ _ _ (@pv _ 0 _ _ (by rfl) (by first | exact vis0 rfl | exact vis1 rfl | exact vis2 rfl) (by decide) (by decide)) (@pa_nil _) (by rfl)) (by rfl) (by rfl) (by rfl)) (@pe_meth _ _ _ _ _ _ _ _ _ _ _ _ _ _ _ _ _ _ _ _ (@pv _ 1 _ _ (by rfl) (by first | exact vis0 rfl | exact vis1 rfl | exact vis2 rfl) (by decide) (by decide)) T.cl_Block T.me_Block_filled (ok_c_Rule_filled T) (hr.mono (by decide)) T.b_c_Rule_filled .nil pass0 (@pa_cons _ _ _ _ _ (@pv _ 0 _ _ (by rfl) (by first | exact vis0 rfl | exact vis1 rfl | exact vis2 rfl) (by decide) (by decide)) (@pa_nil _) (by rfl)) (by rfl) (by rfl) (by rfl)))))) (by intro _ ; rfl)))))), ?_⟩
    rw [show start n_d_written_out [V.ref r, V.ref b] = [some (V.ref r), some (V.ref b), none] from rfl]
    have CF := clsF T hk
    try simp only [tSeq, tAsg, gName, tIfS, tTest, tOp, tCB, tCons, tVar, List.set_cons_succ, List.set_cons_zero, List.getElem?_cons_succ, List.getElem?_cons_zero, tNil, tC, tRet, tLst, exSlot, tNext, tComp_eq, iList, tCall, List.append_nil]
    refine alt4 hk (tVar_go rfl) hR ⟨by decide +kernel, by decide +kernel, by decide +kernel⟩ ?_
    rw [pick_same hk]
    refine ⟨r, _, _, s0, ss, rfl, hR, ⟨CF.cl, CF.nh, CF.nb⟩, hT _ List.mem_cons_self, fun s hs => hT s (List.mem_cons_of_mem _ hs), by omega, fun F H1 s1 hFn hF1 => ?_⟩
    try simp only []
    refine rLenA_lst (SqL.of hF1) ?_
    rw [List.length_map]
    try simp only [rEqH_int, exBl, decide_eq_true_eq]
    refine ite2 (fun c => ?_) (fun c => ?_)
    · have e0 : allL (s0 :: ss) = [] := by
        cases e : allL (s0 :: ss) with
        | nil => rfl
        | cons x l => rw [e] at c; simp at c; omega
      refine ⟨by simp only [List.length_cons, List.length_nil]; decide, fun D hD => ?_⟩
      obtain ⟨H2, e2, s2, h2⟩ := newO hD (.lst [V.ref r]); rw [e2]
      refine q D _ H2 (s1.trans s2) (none_of s1 hD) h2 (by rw [e0]; rfl) fun n v e => ?_
      cases n with
      | zero =>
        cases e
        rw [e0]
        have el : lkf Th ([] : List (List Nat)).reverse 0 = fun _ => none := by funext p; rfl
        rw [el, show fillTF (fun _ => none) = id from by funext s; exact fillTF_none s, List.map_id]
        exact ⟨r, rfl, hR.same (s1.trans s2), hT _ List.mem_cons_self, fun s hs => hT s (List.mem_cons_of_mem _ hs)⟩
      | succ n => simp at e
    · refine ⟨F, b, allL (s0 :: ss), Th, rfl, hF1, s1 _ _ hb, all_cap _, hal, hTl, hTw, fun W ws H2 s2 hWn hW2 hwl hws => ?_⟩
      try simp only [exRef]
      have hwb : ws.length ≤ 1000 := by
        rw [hwl]
        exact Nat.le_trans (Nat.pow_le_pow_left hTl.2 _) (Nat.le_trans (Nat.pow_le_pow_right (by decide) hal) (by decide))
      refine ⟨⟨_, SqL.of hW2⟩, ?_⟩
      generalize (allL (s0 :: ss)).reverse = rs at hws q
      refine comp_1d (src_list (xs := ws)) (Nat.le_trans hwb (by decide)) [some (V.ref r)] rfl (fun D i v H' => ∃ r' dx t0, v = .ref r' ∧ r' ≠ D ∧ t0 ≠ D ∧ H' r' = some (.ins (clsOf t kind) dx (flds (sv lb) (sv (stat (fillTF (lkf Th rs i) s0))) t0)) ∧ H' t0 = some (.tup (tv (ss.map (fillTF (lkf Th rs i))))) ∧ IsT (fillTF (lkf Th rs i) s0) ∧ ∀ s ∈ ss, IsT (fillTF (lkf Th rs i) s)) ?_ (fun H' s => SqL.of (s _ _ hW2)) (fun D i H' R hi hDn s hD hR' => ?_) (fun D H3 ys hDn s3 hD3 hyl hv => ?_)
      · rintro D i v Ha Hb up ⟨p, dx, t0, e, n1, n2, g1, g2, g3⟩
        exact ⟨p, dx, t0, e, n1, n2, up _ _ n1 g1, up _ _ n2 g2, g3⟩
      · obtain ⟨d, gs, ev, hd, hg, hgl, hlk⟩ := hws i ws[i] (List.getElem?_eq_getElem hi)
        rw [List.getElem?_eq_getElem hi, Option.getD_some, ev]
        obtain ⟨zs, hD⟩ := hD
        have hr' := hR.same ((s1.trans s2).trans s)
        try skip
        refine alt4a hk (tVar_go rfl) hr' ⟨by decide +kernel, by decide +kernel, by decide +kernel⟩ ?_
        try simp only [tCons, tVar, List.getElem?_cons_zero, tNil, List.append_nil, exSlot]
        rw [pick_same hk]
        refine ⟨r, kind, _, s0, ss, d, gs, rfl, hk, hr', hT, by omega, hg, s _ _ hd, fun f H4 s4 hf4 => ?_⟩
        have hf := cls_norm (ss := ss.map (fillT gs)) (fun z => (hz z).1) (fun z => by rw [(hz z).2]; rfl) hf4
        have hD4 := s4 _ _ hD
        have ef : fillT gs = fillTF (lkf Th rs i) := by funext s; exact fill_look hlk s
        rw [ef] at hf
        obtain ⟨dx, t0, f1, f2⟩ := hf
        refine hR' _ _ s4 ⟨f, dx, t0, rfl, ne_of f1 hD4 (by intro z; cases z), ne_of f2 hD4 (by intro z; cases z), f1, f2, ?_, fun s hs => ?_⟩
        · rw [← ef]; exact fill_t hg (hT _ List.mem_cons_self)
        · rw [← ef]; exact fill_t hg (hT s (List.mem_cons_of_mem _ hs))
      refine q D ys H3 ((s1.trans s2).trans s3) (none_of (s1.trans s2) hDn) hD3 (by rw [hyl, hwl]) fun n v e => ?_
      obtain ⟨p, dx, t0, ev, _, _, g1, g2, g3⟩ := hv n v e
      exact ⟨p, ev, ⟨dx, t0, g1, g2⟩, g3⟩
end
end K21
namespace K21
open PySem L2 Tx

section
variable {P : Program} {w : World} {K : PySem.W.Frag} {mg : Str → Option Value} {base : Heap} {t : Adr}
theorem ok_d_law (T : Txt K mg t) : FnOk P w K mg base CX0 8 t.f_d_law t.fd_d_law ["_law_script"] (spLaw K) := by
  refine T.F_d_law.ok sc_d_law (fun vs H Q E h => ?_) (fun cdv A outer s H vs Q E hr h => ?_)
  · obtain ⟨a, ns, rfl, hS, hl, q⟩ := h; rfl
  · obtain ⟨a, ns, rfl, hS, hl, q⟩ := h
    refine ⟨_, (@pss_cons _ _ _ _ _ (@ps_set _ _ (1) _ _ _ _ sc_d_law.nd rfl (by first | exact Or.inl rfl | exact Or.inr rfl) (@pe_call _ _ _ _ _ _ _ _ _ _ _ _ _ _ _ _ (ok_d_l_words T) (hr.mono (by decide)) rfl T.g_d_l_words T.F_d_l_words.kp T.b_d_l_words .nil pass0 (@pa_cons _ _ _ _ _ (@pe_call _ _ _ _ _ _ _ _ _ _ _ _ _ _ _ _ (ok_d_l_cell_at T) (hr.mono (by decide)) rfl T.g_d_l_cell_at T.F_d_l_cell_at.kp T.b_d_l_cell_at .nil pass0 (@pa_cons _ _ _ _ _ (@pv _ 0 _ _ (by rfl) (by first | exact vis0 rfl | exact vis1 rfl | exact vis2 rfl) (by decide) (by decide)) (@pa_cons _ _ _ _ _ (@pe_int _ _ _ _) (@pa_nil _) (by rfl)) (by rfl)) (by decide) (by rfl) (by rfl)) (@pa_cons _ _ _ _ _ (@pe_op _ _ _ _ _ _ _ _ op_addA (@pe_int _ _ _ _) (@pe_op _ _ _ _ _ _ _ _ op_mod (@pe_call _ _ _ _ _ _ _ _ _ _ _ _ _ _ _ _ (ok_d_l_mix T) (hr.mono (by decide)) rfl T.g_d_l_mix T.F_d_l_mix.kp T.b_d_l_mix .nil pass0 (@pa_cons _ _ _ _ _ (@pe_call _ _ _ _ _ _ _ _ _ _ _ _ _ _ _ _ (ok_d_l_cell_at T) (hr.mono (by decide)) rfl T.g_d_l_cell_at T.F_d_l_cell_at.kp T.b_d_l_cell_at .nil pass0 (@pa_cons _ _ _ _ _ (@pv _ 0 _ _ (by rfl) (by first | exact vis0 rfl | exact vis1 rfl | exact vis2 rfl) (by decide) (by decide)) (@pa_cons _ _ _ _ _ (@pe_int _ _ _ _) (@pa_nil _) (by rfl)) (by rfl)) (by decide) (by rfl) (by rfl)) (@pa_cons _ _ _ _ _ (@pe_int _ _ _ _) (@pa_nil _) (by rfl)) (by rfl)) (by decide) (by rfl) (by rfl)) (@pe_int _ _ _ _))) (@pa_nil _) (by rfl)) (by rfl)) (by decide) (by rfl) (by rfl)) (by rfl) (by first | exact Or.inl rfl | exact Or.inr rfl | assumption)) (@pss_cons _ _ _ _ _ (@ps_set _ _ (2) _ _ _ _ sc_d_law.nd rfl (by first | exact Or.inl rfl | exact Or.inr rfl) (@pe_call _ _ _ _ _ _ _ _ _ _ _ _ _ _ _ _ (ok_d_l_words T) (hr.mono (by decide)) rfl T.g_d_l_words T.F_d_l_words.kp T.b_d_l_words .nil pass0 (@pa_cons _ _ _ _ _ (@pe_call _ _ _ _ _ _ _ _ _ _ _ _ _ _ _ _ (ok_d_l_cell_at T) (hr.mono (by decide)) rfl T.g_d_l_cell_at T.F_d_l_cell_at.kp T.b_d_l_cell_at .nil pass0 (@pa_cons _ _ _ _ _ (@pv _ 0 _ _ (by rfl) (by first | exact vis0 rfl | exact vis1 rfl | exact vis2 rfl) (by decide) (by decide)) (@pa_cons _ _ _ _ _ (@pe_int _ _ _ _) (@pa_nil _) (by rfl)) (by rfl)) (by decide) (by rfl) (by rfl)) (@pa_cons _ _ _ _ _ (@pe_int _ _ _ _) (@pa_nil _) (by rfl)) (by rfl)) (by decide) (by rfl) (by rfl)) (by rfl) (by first | exact Or.inl rfl | exact Or.inr rfl | assumption)) (@pss_cons _ _ _ _ _ (@ps_set _ _ (3) _ _ _ _ sc_d_law.nd rfl (by first | exact Or.inl rfl | exact Or.inr rfl) (@pe_op _ _ _ _ _ _ _ _ op_mod (@pe_call _ _ _ _ _ _ _ _ _ _ _ _ _ _ _ _ (ok_d_l_cell_at T) (hr.mono (by decide)) rfl T.g_d_l_cell_at T.F_d_l_cell_at.kp T.b_d_l_cell_at .nil pass0 (@pa_cons _ _ _ _ _ (@pv _ 0 _ _ (by rfl) (by first | exact vis0 rfl | exact vis1 rfl | exact vis2 rfl) (by decide) (by decide)) (@pa_cons _ _ _ _ _ (@pe_int _ _ _ _) (@pa_nil _) (by rfl)) (by rfl)) (by decide) (by rfl) (by rfl)) (@pe_int _ _ _ _)) (by rfl) (by first | exact Or.inl rfl | exact Or.inr rfl | assumption)) (@pss_cons _ _ _ _ _ (@ps_set _ _ (4) _ _ _ _ sc_d_law.nd rfl (by first | exact Or.inl rfl | exact Or.inr rfl) (@pe_ix _ _ _ _ _ _ _ ix_seq (@pe_lst _ _ _ _ (@pa_cons _ _ _ _ _ (@pe_op _ _ _ _ _ _ _ _ op_addA (@pe_str _ _ _ _) (@pe_callTy _ _ _ _ _ _ _ _ _ call_str_int rfl T.z_str boot_strT (@pa_cons _ _ _ _ _ (@pe_op _ _ _ _ _ _ _ _ op_mod (@pe_call _ _ _ _ _ _ _ _ _ _ _ _ _ _ _ _ (ok_d_l_mix T) (hr.mono (by decide)) rfl T.g_d_l_mix T.F_d_l_mix.kp T.b_d_l_mix .nil pass0 (@pa_cons _ _ _ _ _ (@pe_call _ _ _ _ _ _ _ _ _ _ _ _ _ _ _ _ (ok_d_l_cell_at T) (hr.mono (by decide)) rfl T.g_d_l_cell_at T.F_d_l_cell_at.kp T.b_d_l_cell_at .nil pass0 (@pa_cons _ _ _ _ _ (@pv _ 0 _ _ (by rfl) (by first | exact vis0 rfl | exact vis1 rfl | exact vis2 rfl) (by decide) (by decide)) (@pa_cons _ _ _ _ _ (@pe_int _ _ _ _) (@pa_nil _) (by rfl)) (by rfl)) (by decide) (by rfl) (by rfl)) (@pa_cons _ _ _ _ _ (@pe_int _ _ _ _) (@pa_nil _) (by rfl)) (by rfl)) (by decide) (by rfl) (by rfl)) (@pe_op _ _ _ _ _ _ _ _ op_pow (@pe_int _ _ _ _) (@pe_int _ _ _ _))) (@pa_nil _) (by rfl)) (by decide) (by decide) (by rfl) (by rfl))) (@pa_cons _ _ _ _ _ (@pe_str _ _ _ _) (@pa_nil _) (by rfl)) (by rfl))) (@pe_op _ _ _ _ _ _ _ _ op_fdiv (@pv _ 3 _ _ (by rfl) (by first | exact vis0 rfl | exact vis1 rfl | exact vis2 rfl) (by decide) (by decide)) (@pe_int _ _ _ _)) (fun _ _ => rfl)) (by rfl) (by first | exact Or.inl rfl | exact Or.inr rfl | assumption)) (@pss_cons _ _ _ _ _ (@ps_set _ _ (5) _ _ _ _ sc_d_law.nd rfl (by first | exact Or.inl rfl | exact Or.inr rfl) (@pe_call _ _ _ _ _ _ _ _ _ _ _ _ _ _ _ _ (ok_d_l_specs T) (hr.mono (by decide)) rfl T.g_d_l_specs T.F_d_l_specs.kp T.b_d_l_specs .nil pass0 (@pa_cons _ _ _ _ _ (@pv _ 0 _ _ (by rfl) (by first | exact vis0 rfl | exact vis1 rfl | exact vis2 rfl) (by decide) (by decide)) (@pa_cons _ _ _ _ _ (@pv _ 3 _ _ (by rfl) (by first | exact vis0 rfl | exact vis1 rfl | exact vis2 rfl) (by decide) (by decide)) (@pa_cons _ _ _ _ _ (@pv _ 1 _ _ (by rfl) (by first | exact vis0 rfl | exact vis1 rfl | exact vis2 rfl) (by decide) (by decide)) (@pa_cons _ _ _ _ _ (@pv _ 2 _ _ (by rfl) (by first | exact vis0 rfl | exact vis1 rfl | exact vis2 rfl) (by decide) (by decide)) (@pa_nil _) (by rfl)) (by rfl)) (by rfl)) (by rfl)) (by decide) (by rfl) (by rfl)) (by rfl) (by first | exact Or.inl rfl | exact Or.inr rfl | assumption)) (@pss_cons _ _ _ _ _ (@ps_setComp _ _ _ _ _ _ _ _ _ _ _ _ _ (6) _ _ _ (@compOk_of _ (defScope s_d_law) (n_d_law) (["_law_spec"]) ([none]) _ rfl rfl (by decide +kernel)) rfl (@pi_list _ _ _ _ (@pv _ 5 _ _ (by rfl) (by first | exact vis0 rfl | exact vis1 rfl | exact vis2 rfl) (by decide) (by decide))) (fun _ _ _ _ _ => (@pg_name _ _ (0) _ (show List.Nodup (["_law_spec"] : List Str) by decide +kernel) rfl (by first | exact Or.inl rfl | exact Or.inr rfl) (by first | exact Or.inl rfl | exact Or.inr rfl | assumption))) (fun _ _ _ _ _ => @pts_nil _) (fun _ _ _ _ _ => (@pe_call _ _ _ _ _ _ _ _ _ _ _ _ _ _ _ _ (ok_d_l_text T) (hr.mono (by decide)) rfl T.g_d_l_text T.F_d_l_text.kp T.b_d_l_text .nil pass0 (@pa_cons _ _ _ _ _ (@pv _ 0 _ _ (by rfl) (by first | exact vis0 rfl | exact vis1 rfl | exact vis2 rfl) (by decide) (by decide)) (@pa_cons _ _ _ _ _ (@pe_dnewK _ _) (@pa_nil _) (by rfl)) (by rfl)) (by decide) (by rfl) (by rfl))) sc_d_law.nd rfl (by first | exact Or.inl rfl | exact Or.inr rfl) rfl (by intro _ ; rfl) (by first | exact Or.inl rfl | exact Or.inr rfl | assumption)) (@pss_cons _ _ _ _ _ (@ps_set _ _ (7) _ _ _ _ sc_d_law.nd rfl (by first | exact Or.inl rfl | exact Or.inr rfl) (@pe_call _ _ _ _ _ _ _ _ _ _ _ _ _ _ _ _ (ok_d_l_made T) (hr.mono (by decide)) rfl T.g_d_l_made T.F_d_l_made.kp T.b_d_l_made .nil pass0 (@pa_cons _ _ _ _ _ (@pv _ 3 _ _ (by rfl) (by first | exact vis0 rfl | exact vis1 rfl | exact vis2 rfl) (by decide) (by decide)) (@pa_cons _ _ _ _ _ (@pv _ 4 _ _ (by rfl) (by first | exact vis0 rfl | exact vis1 rfl | exact vis2 rfl) (by decide) (by decide)) (@pa_cons _ _ _ _ _ (@pe_callTy _ _ _ _ _ _ _ _ _ call_listOf rfl T.z_list boot_listT (@pa_cons _ _ _ _ _ (@pv _ 6 _ _ (by rfl) (by first | exact vis0 rfl | exact vis1 rfl | exact vis2 rfl) (by decide) (by decide)) (@pa_nil _) (by rfl)) (by decide) (by decide) (by rfl) (by rfl)) (@pa_nil _) (by rfl)) (by rfl)) (by rfl)) (by decide) (by rfl) (by rfl)) (by rfl) (by first | exact Or.inl rfl | exact Or.inr rfl | assumption)) (@pss_cons _ _ _ _ _ (@ps_set _ _ (8) _ _ _ _ sc_d_law.nd rfl (by first | exact Or.inl rfl | exact Or.inr rfl) (@pe_call _ _ _ _ _ _ _ _ _ _ _ _ _ _ _ _ (ok_d_l_due T) (hr.mono (by decide)) rfl T.g_d_l_due T.F_d_l_due.kp T.b_d_l_due .nil pass0 (@pa_cons _ _ _ _ _ (@pv _ 5 _ _ (by rfl) (by first | exact vis0 rfl | exact vis1 rfl | exact vis2 rfl) (by decide) (by decide)) (@pa_cons _ _ _ _ _ (@pv _ 1 _ _ (by rfl) (by first | exact vis0 rfl | exact vis1 rfl | exact vis2 rfl) (by decide) (by decide)) (@pa_nil _) (by rfl)) (by rfl)) (by decide) (by rfl) (by rfl)) (by rfl) (by first | exact Or.inl rfl | exact Or.inr rfl | assumption)) (@pss_cons _ _ _ _ _ (@ps_set _ _ (9) _ _ _ _ sc_d_law.nd rfl (by first | exact Or.inl rfl | exact Or.inr rfl) (@pe_callTy _ _ _ _ _ _ _ _ _ call_listOf rfl T.z_list boot_listT (@pa_cons _ _ _ _ _ (@pv _ 1 _ _ (by rfl) (by first | exact vis0 rfl | exact vis1 rfl | exact vis2 rfl) (by decide) (by decide)) (@pa_nil _) (by rfl)) (by decide) (by decide) (by rfl) (by rfl)) (by rfl) (by first | exact Or.inl rfl | exact Or.inr rfl | assumption)) (@pss_cons _ _ _ _ _ (@ps_set _ _ (10) _ _ _ _ sc_d_law.nd rfl (by first | exact Or.inl rfl | exact Or.inr rfl) (@pe_call _ _ _ _ _ _ _ _ _ _ _ _ _ _ _ _ (ok_d_written_out T) (hr.mono (by decide)) rfl T.g_d_written_out T.F_d_written_out.kp T.b_d_written_out .nil pass0 (@pa_cons _ _ _ _ _ (@pv _ 7 _ _ (by rfl) (by first | exact vis0 rfl | exact vis1 rfl | exact vis2 rfl) (by decide) (by decide)) (@pa_cons _ _ _ _ _ (@pv _ 9 _ _ (by rfl) (by first | exact vis0 rfl | exact vis1 rfl | exact vis2 rfl) (by decide) (by decide)) (@pa_nil _) (by rfl)) (by rfl)) (by decide) (by rfl) (by rfl)) (by rfl) (by first | exact Or.inl rfl | exact Or.inr rfl | assumption)) (@pss_mid _ _ _ _ _ (@ps_if _ _ _ _ _ _ _ _ (@PW.pt _ _ _ (@pw_or _ _ _ _ _ _ _ (@pt_not _ _ _ _ (@pt_val _ _ _ (@pe_call _ _ _ _ _ _ _ _ _ _ _ _ _ _ _ _ (ok_d_l_good T) (hr.mono (by decide)) rfl T.g_d_l_good T.F_d_l_good.kp T.b_d_l_good .nil pass0 (@pa_cons _ _ _ _ _ (@pv _ 10 _ _ (by rfl) (by first | exact vis0 rfl | exact vis1 rfl | exact vis2 rfl) (by decide) (by decide)) (@pa_cons _ _ _ _ _ (@pv _ 3 _ _ (by rfl) (by first | exact vis0 rfl | exact vis1 rfl | exact vis2 rfl) (by decide) (by decide)) (@pa_cons _ _ _ _ _ (@pv _ 4 _ _ (by rfl) (by first | exact vis0 rfl | exact vis1 rfl | exact vis2 rfl) (by decide) (by decide)) (@pa_cons _ _ _ _ _ (@pv _ 8 _ _ (by rfl) (by first | exact vis0 rfl | exact vis1 rfl | exact vis2 rfl) (by decide) (by decide)) (@pa_nil _) (by rfl)) (by rfl)) (by rfl)) (by rfl)) (by decide) (by rfl) (by rfl)) (by intro _ ; rfl))) (@pw_or1 _ _ _ _ (@pt_cmpR _ _ _ _ _ _ _ _ (op_neH hr.units) (@pv _ 9 _ _ (by rfl) (by first | exact vis0 rfl | exact vis1 rfl | exact vis2 rfl) (by decide) (by decide)) (@pv _ 1 _ _ (by rfl) (by first | exact vis0 rfl | exact vis1 rfl | exact vis2 rfl) (by decide) (by decide)) (nomark _))))) (@pss_one _ _ _ (@ps_ret _ _ _ _ (@pe_bl _ _ _ _))) (@pss_nil _)) (@pss_cons _ _ _ _ _ (@ps_expr _ _ _ _ (@pe_bm0 _ _ _ _ _ _ _ _ _ PySem.F.plainAttrs_list PySem.F.slot_list_clear PySem.F.type_list_clear mt_clear (@pv _ 10 _ _ (by rfl) (by first | exact vis0 rfl | exact vis1 rfl | exact vis2 rfl) (by decide) (by decide)) (by rfl) (by rfl)) (by rfl)) (@pss_one _ _ _ (@ps_ret _ _ _ _ (@pe_and _ _ _ _ _ _ _ (@pe_call _ _ _ _ _ _ _ _ _ _ _ _ _ _ _ _ (ok_d_l_good T) (hr.mono (by decide)) rfl T.g_d_l_good T.F_d_l_good.kp T.b_d_l_good .nil pass0 (@pa_cons _ _ _ _ _ (@pe_call _ _ _ _ _ _ _ _ _ _ _ _ _ _ _ _ (ok_d_written_out T) (hr.mono (by decide)) rfl T.g_d_written_out T.F_d_written_out.kp T.b_d_written_out .nil pass0 (@pa_cons _ _ _ _ _ (@pv _ 7 _ _ (by rfl) (by first | exact vis0 rfl | exact vis1 rfl | exact vis2 rfl) (by decide) (by decide)) (@pa_cons _ _ _ _ _ (@pv _ 9 _ _ (by rfl) (by first | exact vis0 rfl | exact vis1 rfl | exact vis2 rfl) (by decide) (by decide)) (@pa_nil _) (by rfl)) (by rfl)) (by decide) (by rfl) (by rfl)) (@pa_cons _ _ _ _ _ (@pv _ 3 _ _ (by rfl) (by first | exact vis0 rfl | exact vis1 rfl | exact vis2 rfl) (by decide) (by decide)) (@pa_cons _ _ _ _ _ (@pv _ 4 _ _ (by rfl) (by first | exact vis0 rfl | exact vis1 rfl | exact vis2 rfl) (by decide) (by decide)) (@pa_cons _ _ _ _ _ (@pv _ 8 _ _ (by rfl) (by first | exact vis0 rfl | exact vis1 rfl | exact vis2 rfl) (by decide) (by decide)) (@pa_nil _) (by rfl)) (by rfl)) (by rfl)) (by rfl)) (by decide) (by rfl) (by rfl)) (@pe_one _ _ _ _ _ (@pe_call _ _ _ _ _ _ _ _ _ _ _ _ _ _ _ _ (ok_d_l_good T) (hr.mono (by decide)) rfl T.g_d_l_good T.F_d_l_good.kp T.b_d_l_good .nil pass0 (@pa_cons _ _ _ _ _ (@pe_lst _ _ _ _ (@pa_cons _ _ _ _ _ (@pv _ 7 _ _ (by rfl) (by first | exact vis0 rfl | exact vis1 rfl | exact vis2 rfl) (by decide) (by decide)) (@pa_nil _) (by rfl))) (@pa_cons _ _ _ _ _ (@pv _ 3 _ _ (by rfl) (by first | exact vis0 rfl | exact vis1 rfl | exact vis2 rfl) (by decide) (by decide)) (@pa_cons _ _ _ _ _ (@pv _ 4 _ _ (by rfl) (by first | exact vis0 rfl | exact vis1 rfl | exact vis2 rfl) (by decide) (by decide)) (@pa_cons _ _ _ _ _ (@pe_lst _ _ _ _ (@pa_cons _ _ _ _ _ (@pv _ 6 _ _ (by rfl) (by first | exact vis0 rfl | exact vis1 rfl | exact vis2 rfl) (by decide) (by decide)) (@pa_nil _) (by rfl))) (@pa_nil _) (by rfl)) (by rfl)) (by rfl)) (by rfl)) (by decide) (by rfl) (by rfl)))))))))))))))))), ?_⟩
    rw [show start n_d_law [V.ref a] = [some (V.ref a), none, none, none, none, none, none, none, none, none, none] from rfl]
    try simp only [tSeq, tAsg, tCall, tCons, tVar, List.getElem?_cons_zero, tC, tNil, List.append_nil, tOp, gName, List.set_cons_succ, List.set_cons_zero, tLst, tCB, List.getElem?_cons_succ, exSlot, tComp_eq, iList, rAddA_str, rI_int, CPow]
    refine ⟨a, ns, 0, rfl, hS, hl, by decide, by decide, fun c0 => ?_⟩
    try simp only []
    refine ⟨a, ns, 0, rfl, hS, hl, by decide, by decide, fun c1 => ?_⟩
    try simp only [spMix_at, rI_int, rAddA_int]
    intro r hr
    have m8 := mod_lt' (i := r) (j := 8) (by decide)
    refine ⟨by decide, c0, 1 + r % 8, rfl, by omega, fun Ta Th H1 s1 hTn hTa hTl hTw => ?_⟩
    have hTl' : 0 < Th.length ∧ Th.length ≤ 8 := by omega
    have hS1 : SqL K H1 a (ns.map V.int) := s1.seq hS
    try simp only []
    refine ⟨a, ns, 1, rfl, hS1, hl, by decide, by decide, fun c2 => ?_⟩
    refine ⟨c2, 3, rfl, by decide, fun Na N H2 s2 hNn hNa hNl hNw => ?_⟩
    have hNl' : 0 < N.length ∧ N.length ≤ 8 := by rw [hNl]; decide
    have hS2 : SqL K H2 a (ns.map V.int) := s2.seq hS1
    try simp only []
    refine ⟨a, ns, 2, rfl, hS2, hl, by decide, by decide, fun c3 => ?_⟩
    have m4 := mod_lt' (i := c3) (j := 4) (by decide)
    obtain ⟨kind, ek⟩ : ∃ k : Nat, c3 % 4 = (k : Int) := ⟨(c3 % 4).toNat, by omega⟩
    have hk : kind < 4 := by omega
    try simp only [rI_int, CDiv]
    rw [ek]
    refine ⟨by decide, ?_⟩
    refine ⟨a, ns, 1, rfl, hS2, hl, by decide, by decide, fun c4 => ?_⟩
    try simp only [spMix_at, rI_int]
    intro r5 hr5
    have m7 := mod_lt' (i := r5) (j := 10000000) (by decide)
    rw [show (10 : Int) ^ Int.toNat 7 = 10000000 from by decide]
    obtain ⟨n7, hn7⟩ : ∃ n : Nat, r5 % 10000000 = (n : Int) := ⟨(r5 % 10000000).toNat, by omega⟩
    rw [hn7]
    have hn7' : n7 < 10000000 := by omega
    refine ⟨by decide, by decide, _, rfl, ?_, ?_, by simp only [List.length_cons, List.length_nil]; decide, fun p1 hp1 => ⟨by decide, ?_⟩⟩
    · show n7.log2 < 1920
      by_cases h0 : n7 = 0
      · rw [h0]; decide
      · exact (Nat.log2_lt h0).mpr (Nat.lt_of_lt_of_le hn7' (Nat.le_trans (show 10000000 ≤ 2 ^ 24 by decide) (Nat.pow_le_pow_right (by decide) (by decide))))
    · have := PyProof.Rows.toString_length_le (v := (n7 : Int)) (by omega) (k := 7) (by decide) (by omega)
      refine Nat.le_trans (Nat.add_le_add (show (Str.ofString "r").length ≤ 1 by decide +kernel) this) (by decide)
    obtain ⟨H3, e3, s3, h3⟩ := newO hp1 (.lst [V.str (Str.ofString "r" ++ Str.ofString (toString (n7 : Int))), V.str (Str.ofString "")]); rw [e3]
    obtain ⟨lb, hlb, hlb0⟩ : ∃ lb : List Nat, atI [V.str (Str.ofString "r" ++ Str.ofString (toString (n7 : Int))), V.str (Str.ofString "")] ((kind : Int) / 3) = some (sv lb) ∧ (kind = 3 → lb = []) := by
      by_cases hz : kind = 3
      · exact ⟨[], by rw [hz]; rfl, fun _ => rfl⟩
      · refine ⟨(Str.ofString "r" ++ Str.ofString (toString (n7 : Int))).cps.toList, ?_, fun z => absurd z hz⟩
        rw [show (kind : Int) / 3 = 0 by omega]
        rfl
    refine rIx_lst (SqL.of h3) hlb ?_
    have s13 := s2.trans s3
    have hS3 : SqL K H3 a (ns.map V.int) := s3.seq hS2
    have hT3 := s13 _ _ hTa
    have hN3 := s3 _ _ hNa
    refine ⟨a, Ta, Na, ns, kind, Th, N, rfl, hS3, hl, hk, hT3, hN3, hTl', hNl', hTw, hNw, fun Sp xs s0 ss H4 s4 hSn hS4 hA4 hsl hT4 hal hk3 => ?_⟩
    have hT4' := s4 _ _ hT3
    have hxl := hA4.len
    try simp only [exRef]
    refine ⟨⟨_, SqL.of hS4⟩, ?_⟩
    refine comp_1 (src_list (xs := xs)) (Nat.le_trans (show xs.length ≤ 1000 by rw [hxl]; simp only [List.length_cons]; omega) (by decide)) [] rfl (fun i v => ∃ hi : i < (s0 :: ss).length, v = sv (stat (s0 :: ss)[i])) (fun H' s => SqL.of (s _ _ hS4)) (fun i H' R hi s hR => ?_) (fun X H5 us hXn s5 hX5 hul huv => ?_)
    · obtain ⟨hi', p, e, hp, hT⟩ := shown_all hA4 hT4 hi
      rw [e]
      try simp only [tCall, tCons, tVar, List.getElem?_cons_zero, tDNewK, tNil, List.append_nil, exSlot]
      intro G hG
      obtain ⟨H6, e6, s6, h6⟩ := newO hG (.dK []); rw [e6]
      refine ⟨p, G, (s0 :: ss)[i], [], rfl, (hp.same s).same s6, hT, (fun _ h => by cases h), h6, fun H7 s7 => ?_⟩
      refine hR _ _ (s6.trans s7) ⟨hi', ?_⟩
      rw [fill_look (gs := []) (f := fun _ => none) (fun _ => rfl), fillTF_none]
    have eu := tv_of (by rw [hul]; exact hxl) huv
    subst eu
    try skip
    refine ⟨X, _, rfl, .inl (SqL.of hX5), fun C hC => ?_⟩
    obtain ⟨H6, e6, s6, h6⟩ := newO hC (.lst (tv (s0 :: ss))); rw [e6]
    refine ⟨kind, sv lb, sv (stat s0), C, tv ss, rfl, hk, h6, fun r0 H7 s7 hr7 => ?_⟩
    have hr0 : RuleAt H7 r0 (clsOf t ((kind + 1) % 4)) (sv lb) (sv (stat s0)) (tv ss) := by
      by_cases hz : kind = 3
      · rw [if_pos hz, if_pos hz] at hr7
        rw [hlb0 hz, hk3 hz]; exact hr7
      · rw [if_neg hz, if_neg hz] at hr7; exact hr7
    have s47 := (s5.trans s6).trans s7
    refine ⟨Sp, Ta, xs, s0 :: ss, Th, rfl, s47 _ _ hS4, hA4.same s47, hT4, by simp only [List.length_cons]; omega, hal, s47 _ _ hT4', hTl', hTw, fun D ys H8 s8 hDn hD8 hyl hdue => ?_⟩
    have hT8 := s8 _ _ (s47 _ _ hT4')
    refine ⟨Ta, _, rfl, .inl (SqL.of hT8), fun Ha hHa => ?_⟩
    obtain ⟨H9, e9, s9, h9⟩ := newO hHa (.lst (pv' Th)); rw [e9]
    have hr9 := hr0.same (s8.trans s9)
    have hT9 := s9 _ _ hT8
    have hD9 := s9 _ _ hD8
    have hX9 := ((s6.trans s7).trans (s8.trans s9)) _ _ hX5
    have hdue9 : DueF Th (allL (s0 :: ss)).reverse (s0 :: ss) H9 ys := fun n v e => by
      obtain ⟨L, ev, hL⟩ := hdue n v e
      exact ⟨L, ev, s9 _ _ hL⟩
    have pw : Th.length ^ (allL (s0 :: ss)).length ≤ 1000 := Nat.le_trans (Nat.pow_le_pow_left hTl'.2 _) (Nat.le_trans (Nat.pow_le_pow_right (by decide) hal) (by decide))
    have hk0 : (kind + 1) % 4 = 0 → lb = [] ∧ ss = [] := fun z => by
      have : kind = 3 := by omega
      exact ⟨hlb0 this, hk3 this⟩
    have pairs : ∀ {H' : Hp} {zs : List V}, Same H9 H' → zs.length = Th.length ^ (allL (s0 :: ss)).length → RulesF t Th (allL (s0 :: ss)).reverse ((kind + 1) % 4) lb s0 ss H' zs → Pairs t kind lb H' zs ys := fun {H' zs} s' hzl hrf =>
      ⟨hzl.trans hyl.symm, fun n x y ex ey => by
        obtain ⟨r', e1, g1, g2, g3⟩ := hrf n x ex
        obtain ⟨L, e2, g4⟩ := hdue9 n y ey
        refine ⟨r', L, _, _, e1, e2, g1, s' _ _ g4, fun s hs => ?_, by rw [List.length_map]; exact hsl⟩
        rcases List.mem_cons.mp hs with z | z
        · rw [z]; exact g2
        · obtain ⟨s1, hs1, rfl⟩ := List.mem_map.mp z
          exact g3 s1 hs1⟩
    refine ⟨r0, Ha, (kind + 1) % 4, lb, s0, ss, [], Th, rfl, by omega, hk0, hr9, hT4, hsl, hal, h9, hTl', hTw, fun F zs H10 s10 hFn hF10 hzl hrf => ?_⟩
    refine ⟨fun σ' H' => σ' = [some (V.ref a), some (V.ref Ta), some (V.ref Na), some (V.int kind), some (sv lb), some (V.ref Sp), some (V.ref X), some (V.ref r0), some (V.ref D), some (V.ref Ha), some (V.ref F)] ∧ Same H10 H', ?_, ?_⟩
    · try simp only [tIfS, tOr, tNot, tB, tCall, tCons, tVar, List.getElem?_cons_succ, List.getElem?_cons_zero, tNil, List.append_nil, Bool.not_eq_true', tRet, tC, tNext, tTest, tOp, exSlot]
      refine ⟨F, D, kind, lb, zs, ys, rfl, hk, hF10, s10 _ _ hD9, by omega, pairs s10 hzl hrf, fun H11 s11 => ?_⟩
      try simp only [exBl, ite_tf]
      refine rNeD_same (denL (SqL.of (s11 _ _ (s10 _ _ h9)))) (denL (SqL.of (s11 _ _ (s10 _ _ hT9)))) (shapedL fun p hp => .inl (hTw p hp)) ?_
      try simp only [exBl, ite_ft]
      exact ⟨(by trivial), s11⟩
    rintro σ' H11 ⟨rfl, s11⟩
    have hF11 := s11 _ _ hF10
    try simp only [tSeq, tDrop, tBM0, tVar, List.getElem?_cons_succ, List.getElem?_cons_zero, tRet, tAndV, tCall, tCons, tNil, List.append_nil, tLst, exSlot]
    refine ⟨.inl ⟨rfl, _, SqL.of hF11⟩, F, _, rfl, rfl, hF11, ?_⟩
    obtain ⟨H12, e12, s12⟩ : ∃ H12, upd H11 F (.lst []) = H12 ∧ Same H9 H12 := ⟨_, rfl, fun c o e => by rw [upd_ne (ne_of_none e hFn)]; exact s11 _ _ (s10 _ _ e)⟩
    rw [e12]
    refine ⟨r0, Ha, (kind + 1) % 4, lb, s0, ss, [], Th, rfl, by omega, hk0, hr9.same s12, hT4, hsl, hal, s12 _ _ h9, hTl', hTw, fun F2 zs2 H13 s13' hF2n hF13 hzl2 hrf2 => ?_⟩
    have s913 := s12.trans s13'
    refine ⟨F2, D, kind, lb, zs2, ys, rfl, hk, hF13, s913 _ _ hD9, by omega, pairs s913 hzl2 hrf2, fun H14 s14 => ?_⟩
    try simp only [exBl]
    refine ⟨by simp only [List.length_cons, List.length_nil]; decide, fun p1 hp1' => ?_⟩
    obtain ⟨H15, e15, s15, h15⟩ := newO hp1' (.lst [V.ref r0]); rw [e15]
    refine ⟨by simp only [List.length_cons, List.length_nil]; decide, fun p2 hp2' => ?_⟩
    obtain ⟨H16, e16, s16, h16⟩ := newO hp2' (.lst [V.ref X]); rw [e16]
    have s916 := (s913.trans s14).trans (s15.trans s16)
    refine ⟨p1, p2, kind, lb, [V.ref r0], [V.ref X], rfl, hk, s16 _ _ h15, h16, by simp only [List.length_cons, List.length_nil]; decide, ⟨rfl, fun n x y ex ey => ?_⟩, fun H17 _ => q _⟩
    cases n with
    | zero =>
      cases ex
      cases ey
      exact ⟨r0, X, s0, ss, rfl, rfl, hr9.same s916, s916 _ _ hX9, hT4, hsl⟩
    | succ n => simp at ex
end
end K21
open PySem PySem.W PyProof.Rows
namespace K21
open PySem PySem.W L2
noncomputable def o0 (P : Params) : Obj := ⟨(.type "dict"), none, (.dict #[⟨PyData.keyHash P "__name__", (.str "__name__" 1), (.str "builtins" 160)⟩, ⟨PyData.keyHash P "__doc__", (.str "__doc__" 2), (.builtin "builtins.__doc__:str#opaque")⟩, ⟨PyData.keyHash P "__package__", (.str "__package__" 3), (.builtin "builtins.__package__:str#opaque")⟩, ⟨PyData.keyHash P "__loader__", (.str "__loader__" 4), (.builtin "builtins.__loader__:shared#opaque")⟩, ⟨PyData.keyHash P "__spec__", (.str "__spec__" 5), (.builtin "builtins.__spec__#opaque")⟩, ⟨PyData.keyHash P "__build_class__", (.str "__build_class__" 6), (.builtin "__build_class__")⟩, ⟨PyData.keyHash P "__import__", (.str "__import__" 7), (.builtin "__import__")⟩, ⟨PyData.keyHash P "abs", (.str "abs" 8), (.builtin "abs")⟩, ⟨PyData.keyHash P "all", (.str "all" 9), (.builtin "all")⟩, ⟨PyData.keyHash P "any", (.str "any" 10), (.builtin "any")⟩, ⟨PyData.keyHash P "ascii", (.str "ascii" 11), (.builtin "ascii")⟩, ⟨PyData.keyHash P "bin", (.str "bin" 12), (.builtin "bin")⟩, ⟨PyData.keyHash P "breakpoint", (.str "breakpoint" 13), (.builtin "breakpoint")⟩, ⟨PyData.keyHash P "callable", (.str "callable" 14), (.builtin "callable")⟩, ⟨PyData.keyHash P "chr", (.str "chr" 15), (.builtin "chr")⟩, ⟨PyData.keyHash P "compile", (.str "compile" 16), (.builtin "compile")⟩, ⟨PyData.keyHash P "delattr", (.str "delattr" 17), (.builtin "delattr")⟩, ⟨PyData.keyHash P "dir", (.str "dir" 18), (.builtin "dir")⟩, ⟨PyData.keyHash P "divmod", (.str "divmod" 19), (.builtin "divmod")⟩, ⟨PyData.keyHash P "eval", (.str "eval" 20), (.builtin "eval")⟩, ⟨PyData.keyHash P "exec", (.str "exec" 21), (.builtin "exec")⟩, ⟨PyData.keyHash P "format", (.str "format" 22), (.builtin "format")⟩, ⟨PyData.keyHash P "getattr", (.str "getattr" 23), (.builtin "getattr")⟩, ⟨PyData.keyHash P "globals", (.str "globals" 24), (.builtin "globals")⟩, ⟨PyData.keyHash P "hasattr", (.str "hasattr" 25), (.builtin "hasattr")⟩, ⟨PyData.keyHash P "hash", (.str "hash" 26), (.builtin "hash")⟩, ⟨PyData.keyHash P "hex", (.str "hex" 27), (.builtin "hex")⟩, ⟨PyData.keyHash P "id", (.str "id" 28), (.builtin "id")⟩, ⟨PyData.keyHash P "input", (.str "input" 29), (.builtin "input")⟩, ⟨PyData.keyHash P "isinstance", (.str "isinstance" 30), (.builtin "isinstance")⟩, ⟨PyData.keyHash P "issubclass", (.str "issubclass" 31), (.builtin "issubclass")⟩, ⟨PyData.keyHash P "iter", (.str "iter" 32), (.builtin "iter")⟩, ⟨PyData.keyHash P "aiter", (.str "aiter" 33), (.builtin "aiter")⟩, ⟨PyData.keyHash P "len", (.str "len" 34), (.builtin "len")⟩, ⟨PyData.keyHash P "locals", (.str "locals" 35), (.builtin "locals")⟩, ⟨PyData.keyHash P "max", (.str "max" 36), (.builtin "max")⟩, ⟨PyData.keyHash P "min", (.str "min" 37), (.builtin "min")⟩, ⟨PyData.keyHash P "next", (.str "next" 38), (.builtin "next")⟩, ⟨PyData.keyHash P "anext", (.str "anext" 39), (.builtin "anext")⟩, ⟨PyData.keyHash P "oct", (.str "oct" 40), (.builtin "oct")⟩, ⟨PyData.keyHash P "ord", (.str "ord" 41), (.builtin "ord")⟩, ⟨PyData.keyHash P "pow", (.str "pow" 42), (.builtin "pow")⟩, ⟨PyData.keyHash P "print", (.str "print" 43), (.builtin "print")⟩, ⟨PyData.keyHash P "repr", (.str "repr" 44), (.builtin "repr")⟩, ⟨PyData.keyHash P "round", (.str "round" 45), (.builtin "round")⟩, ⟨PyData.keyHash P "setattr", (.str "setattr" 46), (.builtin "setattr")⟩, ⟨PyData.keyHash P "sorted", (.str "sorted" 47), (.builtin "sorted")⟩, ⟨PyData.keyHash P "sum", (.str "sum" 48), (.builtin "sum")⟩, ⟨PyData.keyHash P "vars", (.str "vars" 49), (.builtin "vars")⟩, ⟨PyData.keyHash P "None", (.str "None" 50), .none⟩, ⟨PyData.keyHash P "Ellipsis", (.str "Ellipsis" 51), .ellipsis⟩, ⟨PyData.keyHash P "NotImplemented", (.str "NotImplemented" 52), .notImplemented⟩, ⟨PyData.keyHash P "False", (.str "False" 53), (.bool false)⟩, ⟨PyData.keyHash P "True", (.str "True" 54), (.bool true)⟩, ⟨PyData.keyHash P "bool", (.str "bool" 55), (.type "bool")⟩, ⟨PyData.keyHash P "memoryview", (.str "memoryview" 56), (.type "memoryview")⟩, ⟨PyData.keyHash P "bytearray", (.str "bytearray" 57), (.type "bytearray")⟩, ⟨PyData.keyHash P "bytes", (.str "bytes" 58), (.type "bytes")⟩, ⟨PyData.keyHash P "classmethod", (.str "classmethod" 59), (.type "classmethod")⟩, ⟨PyData.keyHash P "complex", (.str "complex" 60), (.type "complex")⟩, ⟨PyData.keyHash P "dict", (.str "dict" 61), (.type "dict")⟩, ⟨PyData.keyHash P "enumerate", (.str "enumerate" 62), (.type "enumerate")⟩, ⟨PyData.keyHash P "filter", (.str "filter" 63), (.type "filter")⟩, ⟨PyData.keyHash P "float", (.str "float" 64), (.type "float")⟩, ⟨PyData.keyHash P "frozenset", (.str "frozenset" 65), (.type "frozenset")⟩, ⟨PyData.keyHash P "property", (.str "property" 66), (.type "property")⟩, ⟨PyData.keyHash P "int", (.str "int" 67), (.type "int")⟩, ⟨PyData.keyHash P "list", (.str "list" 68), (.type "list")⟩, ⟨PyData.keyHash P "map", (.str "map" 69), (.type "map")⟩, ⟨PyData.keyHash P "object", (.str "object" 70), (.type "object")⟩, ⟨PyData.keyHash P "range", (.str "range" 71), (.type "range")⟩, ⟨PyData.keyHash P "reversed", (.str "reversed" 72), (.type "reversed")⟩, ⟨PyData.keyHash P "set", (.str "set" 73), (.type "set")⟩, ⟨PyData.keyHash P "slice", (.str "slice" 74), (.type "slice")⟩, ⟨PyData.keyHash P "staticmethod", (.str "staticmethod" 75), (.type "staticmethod")⟩, ⟨PyData.keyHash P "str", (.str "str" 76), (.type "str")⟩, ⟨PyData.keyHash P "super", (.str "super" 77), (.type "super")⟩, ⟨PyData.keyHash P "tuple", (.str "tuple" 78), (.type "tuple")⟩, ⟨PyData.keyHash P "type", (.str "type" 79), (.type "type")⟩, ⟨PyData.keyHash P "zip", (.str "zip" 80), (.type "zip")⟩, ⟨PyData.keyHash P "__debug__", (.str "__debug__" 81), (.bool true)⟩, ⟨PyData.keyHash P "BaseException", (.str "BaseException" 82), (.type "BaseException")⟩, ⟨PyData.keyHash P "BaseExceptionGroup", (.str "BaseExceptionGroup" 83), (.type "BaseExceptionGroup")⟩, ⟨PyData.keyHash P "Exception", (.str "Exception" 84), (.type "Exception")⟩, ⟨PyData.keyHash P "GeneratorExit", (.str "GeneratorExit" 85), (.type "GeneratorExit")⟩, ⟨PyData.keyHash P "KeyboardInterrupt", (.str "KeyboardInterrupt" 86), (.type "KeyboardInterrupt")⟩, ⟨PyData.keyHash P "SystemExit", (.str "SystemExit" 87), (.type "SystemExit")⟩, ⟨PyData.keyHash P "ArithmeticError", (.str "ArithmeticError" 88), (.type "ArithmeticError")⟩, ⟨PyData.keyHash P "AssertionError", (.str "AssertionError" 89), (.type "AssertionError")⟩, ⟨PyData.keyHash P "AttributeError", (.str "AttributeError" 90), (.type "AttributeError")⟩, ⟨PyData.keyHash P "BufferError", (.str "BufferError" 91), (.type "BufferError")⟩, ⟨PyData.keyHash P "EOFError", (.str "EOFError" 92), (.type "EOFError")⟩, ⟨PyData.keyHash P "ImportError", (.str "ImportError" 93), (.type "ImportError")⟩, ⟨PyData.keyHash P "LookupError", (.str "LookupError" 94), (.type "LookupError")⟩, ⟨PyData.keyHash P "MemoryError", (.str "MemoryError" 95), (.type "MemoryError")⟩, ⟨PyData.keyHash P "NameError", (.str "NameError" 96), (.type "NameError")⟩, ⟨PyData.keyHash P "OSError", (.str "OSError" 97), (.type "OSError")⟩, ⟨PyData.keyHash P "ReferenceError", (.str "ReferenceError" 98), (.type "ReferenceError")⟩, ⟨PyData.keyHash P "RuntimeError", (.str "RuntimeError" 99), (.type "RuntimeError")⟩, ⟨PyData.keyHash P "StopAsyncIteration", (.str "StopAsyncIteration" 100), (.type "StopAsyncIteration")⟩, ⟨PyData.keyHash P "StopIteration", (.str "StopIteration" 101), (.type "StopIteration")⟩, ⟨PyData.keyHash P "SyntaxError", (.str "SyntaxError" 102), (.type "SyntaxError")⟩, ⟨PyData.keyHash P "SystemError", (.str "SystemError" 103), (.type "SystemError")⟩, ⟨PyData.keyHash P "TypeError", (.str "TypeError" 104), (.type "TypeError")⟩, ⟨PyData.keyHash P "ValueError", (.str "ValueError" 105), (.type "ValueError")⟩, ⟨PyData.keyHash P "Warning", (.str "Warning" 106), (.type "Warning")⟩, ⟨PyData.keyHash P "FloatingPointError", (.str "FloatingPointError" 107), (.type "FloatingPointError")⟩, ⟨PyData.keyHash P "OverflowError", (.str "OverflowError" 108), (.type "OverflowError")⟩, ⟨PyData.keyHash P "ZeroDivisionError", (.str "ZeroDivisionError" 109), (.type "ZeroDivisionError")⟩, ⟨PyData.keyHash P "BytesWarning", (.str "BytesWarning" 110), (.type "BytesWarning")⟩, ⟨PyData.keyHash P "DeprecationWarning", (.str "DeprecationWarning" 111), (.type "DeprecationWarning")⟩, ⟨PyData.keyHash P "EncodingWarning", (.str "EncodingWarning" 112), (.type "EncodingWarning")⟩, ⟨PyData.keyHash P "FutureWarning", (.str "FutureWarning" 113), (.type "FutureWarning")⟩, ⟨PyData.keyHash P "ImportWarning", (.str "ImportWarning" 114), (.type "ImportWarning")⟩, ⟨PyData.keyHash P "PendingDeprecationWarning", (.str "PendingDeprecationWarning" 115), (.type "PendingDeprecationWarning")⟩, ⟨PyData.keyHash P "ResourceWarning", (.str "ResourceWarning" 116), (.type "ResourceWarning")⟩, ⟨PyData.keyHash P "RuntimeWarning", (.str "RuntimeWarning" 117), (.type "RuntimeWarning")⟩, ⟨PyData.keyHash P "SyntaxWarning", (.str "SyntaxWarning" 118), (.type "SyntaxWarning")⟩, ⟨PyData.keyHash P "UnicodeWarning", (.str "UnicodeWarning" 119), (.type "UnicodeWarning")⟩, ⟨PyData.keyHash P "UserWarning", (.str "UserWarning" 120), (.type "UserWarning")⟩, ⟨PyData.keyHash P "BlockingIOError", (.str "BlockingIOError" 121), (.type "BlockingIOError")⟩, ⟨PyData.keyHash P "ChildProcessError", (.str "ChildProcessError" 122), (.type "ChildProcessError")⟩, ⟨PyData.keyHash P "ConnectionError", (.str "ConnectionError" 123), (.type "ConnectionError")⟩, ⟨PyData.keyHash P "FileExistsError", (.str "FileExistsError" 124), (.type "FileExistsError")⟩, ⟨PyData.keyHash P "FileNotFoundError", (.str "FileNotFoundError" 125), (.type "FileNotFoundError")⟩, ⟨PyData.keyHash P "InterruptedError", (.str "InterruptedError" 126), (.type "InterruptedError")⟩, ⟨PyData.keyHash P "IsADirectoryError", (.str "IsADirectoryError" 127), (.type "IsADirectoryError")⟩, ⟨PyData.keyHash P "NotADirectoryError", (.str "NotADirectoryError" 128), (.type "NotADirectoryError")⟩, ⟨PyData.keyHash P "PermissionError", (.str "PermissionError" 129), (.type "PermissionError")⟩, ⟨PyData.keyHash P "ProcessLookupError", (.str "ProcessLookupError" 130), (.type "ProcessLookupError")⟩, ⟨PyData.keyHash P "TimeoutError", (.str "TimeoutError" 131), (.type "TimeoutError")⟩, ⟨PyData.keyHash P "IndentationError", (.str "IndentationError" 132), (.type "IndentationError")⟩, ⟨PyData.keyHash P "_IncompleteInputError", (.str "_IncompleteInputError" 133), (.type "_IncompleteInputError")⟩, ⟨PyData.keyHash P "IndexError", (.str "IndexError" 134), (.type "IndexError")⟩, ⟨PyData.keyHash P "KeyError", (.str "KeyError" 135), (.type "KeyError")⟩, ⟨PyData.keyHash P "ModuleNotFoundError", (.str "ModuleNotFoundError" 136), (.type "ModuleNotFoundError")⟩, ⟨PyData.keyHash P "NotImplementedError", (.str "NotImplementedError" 137), (.type "NotImplementedError")⟩, ⟨PyData.keyHash P "PythonFinalizationError", (.str "PythonFinalizationError" 138), (.type "PythonFinalizationError")⟩, ⟨PyData.keyHash P "RecursionError", (.str "RecursionError" 139), (.type "RecursionError")⟩, ⟨PyData.keyHash P "UnboundLocalError", (.str "UnboundLocalError" 140), (.type "UnboundLocalError")⟩, ⟨PyData.keyHash P "UnicodeError", (.str "UnicodeError" 141), (.type "UnicodeError")⟩, ⟨PyData.keyHash P "BrokenPipeError", (.str "BrokenPipeError" 142), (.type "BrokenPipeError")⟩, ⟨PyData.keyHash P "ConnectionAbortedError", (.str "ConnectionAbortedError" 143), (.type "ConnectionAbortedError")⟩, ⟨PyData.keyHash P "ConnectionRefusedError", (.str "ConnectionRefusedError" 144), (.type "ConnectionRefusedError")⟩, ⟨PyData.keyHash P "ConnectionResetError", (.str "ConnectionResetError" 145), (.type "ConnectionResetError")⟩, ⟨PyData.keyHash P "TabError", (.str "TabError" 146), (.type "TabError")⟩, ⟨PyData.keyHash P "UnicodeDecodeError", (.str "UnicodeDecodeError" 147), (.type "UnicodeDecodeError")⟩, ⟨PyData.keyHash P "UnicodeEncodeError", (.str "UnicodeEncodeError" 148), (.type "UnicodeEncodeError")⟩, ⟨PyData.keyHash P "UnicodeTranslateError", (.str "UnicodeTranslateError" 149), (.type "UnicodeTranslateError")⟩, ⟨PyData.keyHash P "ExceptionGroup", (.str "ExceptionGroup" 150), (.type "ExceptionGroup")⟩, ⟨PyData.keyHash P "EnvironmentError", (.str "EnvironmentError" 151), (.type "OSError")⟩, ⟨PyData.keyHash P "IOError", (.str "IOError" 152), (.type "OSError")⟩, ⟨PyData.keyHash P "open", (.str "open" 153), (.builtin "open")⟩, ⟨PyData.keyHash P "quit", (.str "quit" 154), (.builtin "builtins.quit#opaque")⟩, ⟨PyData.keyHash P "exit", (.str "exit" 155), (.builtin "builtins.exit#opaque")⟩, ⟨PyData.keyHash P "copyright", (.str "copyright" 156), (.builtin "builtins.copyright#opaque")⟩, ⟨PyData.keyHash P "credits", (.str "credits" 157), (.builtin "builtins.credits#opaque")⟩, ⟨PyData.keyHash P "license", (.str "license" 158), (.builtin "builtins.license#opaque")⟩, ⟨PyData.keyHash P "help", (.str "help" 159), (.builtin "builtins.help#opaque")⟩] 159), #[]⟩
noncomputable def o1 (P : Params) : Obj := ⟨(.type "dict"), none, (.dict #[⟨PyData.keyHash P "builtins", (.str "builtins" 162), (.ref 4)⟩, ⟨PyData.keyHash P "__main__", (.str "__main__" 163), (.ref 5)⟩] 2), #[]⟩
noncomputable def o2 (P : Params) : Obj := ⟨.none, none, (.dict #[] 0), #[]⟩
noncomputable def o3 (P : Params) : Obj := ⟨(.type "dict"), none, (.dict #[⟨PyData.keyHash P "__name__", (.str "__name__" 165), (.str "law_mostwise_k21_written_out" 588)⟩, ⟨PyData.keyHash P "__doc__", (.str "__doc__" 166), .none⟩, ⟨PyData.keyHash P "__package__", (.str "__package__" 167), .none⟩, ⟨PyData.keyHash P "__loader__", (.str "__loader__" 168), (.builtin "__main__.__loader__#opaque")⟩, ⟨PyData.keyHash P "__spec__", (.str "__spec__" 169), .none⟩, ⟨PyData.keyHash P "__annotations__", (.str "__annotations__" 170), (.ref 6)⟩, ⟨PyData.keyHash P "__builtins__", (.str "__builtins__" 171), (.ref 4)⟩, ⟨PyData.keyHash P "__file__", (.str "__file__" 173), (.str "/claim/cut.py" 172)⟩, ⟨PyData.keyHash P "__cached__", (.str "__cached__" 174), .none⟩, ⟨PyData.keyHash P "_wall", (.str "_wall" 193), (.ref 21)⟩, ⟨PyData.keyHash P "MostError", (.str "MostError" 213), (.ref 31)⟩, ⟨PyData.keyHash P "NoStatement", (.str "NoStatement" 238), (.ref 51)⟩, ⟨PyData.keyHash P "SMALL", (.str "SMALL" 242), (.str "abcdefghijklmnopqrstuvwxyz" 241)⟩, ⟨PyData.keyHash P "GREAT", (.str "GREAT" 244), (.str "ABCDEFGHIJKLMNOPQRSTUVWXYZ" 243)⟩, ⟨PyData.keyHash P "LONGEST", (.str "LONGEST" 246), (.int (8) 245)⟩, ⟨PyData.keyHash P "MOST_PLACES", (.str "MOST_PLACES" 248), (.int (2) 247)⟩, ⟨PyData.keyHash P "is_made_of", (.str "is_made_of" 254), (.ref 58)⟩, ⟨PyData.keyHash P "is_name", (.str "is_name" 261), (.ref 65)⟩, ⟨PyData.keyHash P "is_letter", (.str "is_letter" 268), (.ref 72)⟩, ⟨PyData.keyHash P "places_of", (.str "places_of" 274), (.ref 77)⟩, ⟨PyData.keyHash P "parts_of", (.str "parts_of" 284), (.ref 84)⟩, ⟨PyData.keyHash P "text_of", (.str "text_of" 293), (.ref 91)⟩, ⟨PyData.keyHash P "letters_of", (.str "letters_of" 302), (.ref 98)⟩, ⟨PyData.keyHash P "put_for", (.str "put_for" 310), (.ref 105)⟩, ⟨PyData.keyHash P "filled", (.str "filled" 316), (.ref 110)⟩, ⟨PyData.keyHash P "filled_words", (.str "filled_words" 317), (.ref 110)⟩, ⟨PyData.keyHash P "Rule", (.str "Rule" 401), (.ref 172)⟩, ⟨PyData.keyHash P "Fact", (.str "Fact" 455), (.ref 221)⟩, ⟨PyData.keyHash P "Sure", (.str "Sure" 494), (.ref 254)⟩, ⟨PyData.keyHash P "Most", (.str "Most" 526), (.ref 280)⟩, ⟨PyData.keyHash P "Block", (.str "Block" 565), (.ref 313)⟩, ⟨PyData.keyHash P "ways_to_give", (.str "ways_to_give" 581), (.ref 322)⟩, ⟨PyData.keyHash P "written_out", (.str "written_out" 587), (.ref 327)⟩, ⟨PyData.keyHash P "_law_cell_at", (.str "_law_cell_at" 597), (.ref 334)⟩, ⟨PyData.keyHash P "_law_mix", (.str "_law_mix" 606), (.ref 341)⟩, ⟨PyData.keyHash P "_law_words", (.str "_law_words" 612), (.ref 346)⟩, ⟨PyData.keyHash P "_law_statement", (.str "_law_statement" 624), (.ref 353)⟩, ⟨PyData.keyHash P "_law_text", (.str "_law_text" 630), (.ref 358)⟩, ⟨PyData.keyHash P "_law_order", (.str "_law_order" 642), (.ref 365)⟩, ⟨PyData.keyHash P "_law_made", (.str "_law_made" 651), (.ref 372)⟩, ⟨PyData.keyHash P "_law_specs", (.str "_law_specs" 657), (.ref 377)⟩, ⟨PyData.keyHash P "_law_due", (.str "_law_due" 663), (.ref 382)⟩, ⟨PyData.keyHash P "_law_good", (.str "_law_good" 669), (.ref 387)⟩, ⟨PyData.keyHash P "law", (.str "law" 675), (.ref 392)⟩] 44), #[]⟩
noncomputable def o4 (P : Params) : Obj := ⟨(.type "module"), (some 0), .plain, #[]⟩
noncomputable def o5 (P : Params) : Obj := ⟨(.type "module"), (some 3), .plain, #[]⟩
noncomputable def o6 (P : Params) : Obj := ⟨(.type "dict"), none, (.dict #[] 0), #[]⟩
noncomputable def o7 (P : Params) : Obj := ⟨(.type "tuple"), none, (.seq #[] 0), #[]⟩
noncomputable def o8 (P : Params) : Obj := ⟨.none, none, (.fields #[]), #[]⟩
noncomputable def o9 (P : Params) : Obj := ⟨(.type "code"), none, (.fields #[(.str "<module>" 176), (.str "<module>" 177), (.str "/claim/cut.py" 178), (.int (1) 0), (.int (0) 0), (.int (0) 0), (.int (0) 0), (.int (0) 0), (.ref 7), (.bool false), (.int (175) 0), (.ref 8), .none, .none, .none, .none, (.int (179) 0), (.int (1) 0), (.str "/claim/cut.py" 180)]), #[]⟩
noncomputable def o10 (P : Params) : Obj := ⟨(.type "frame"), none, .plain, #[(some (.ref 9)), (some (.ref 3)), (some (.ref 3)), none, (some (.str "__main__" 164)), none, (some (.ref 0))]⟩
noncomputable def o11 (P : Params) : Obj := ⟨(.type "tuple"), none, (.seq #[] 0), #[]⟩
noncomputable def o12 (P : Params) : Obj := ⟨.none, none, (.fields #[(.int (1) 0), (.int (0) 0), (.ref 20), (.int (5) 0), (.int (0) 0), (.ref 27), (.int (7) 0), (.int (0) 0), (.ref 40), (.int (16) 0), (.int (0) 0), (.ref 57), (.int (18) 0), (.int (0) 0), (.ref 64), (.int (20) 0), (.int (0) 0), (.ref 71), (.int (22) 0), (.int (0) 0), (.ref 76), (.int (31) 0), (.int (0) 0), (.ref 83), (.int (40) 0), (.int (0) 0), (.ref 90), (.int (44) 0), (.int (0) 0), (.ref 97), (.int (50) 0), (.int (0) 0), (.ref 104), (.int (52) 0), (.int (0) 0), (.ref 109), (.int (57) 0), (.int (0) 0), (.ref 116), (.int (87) 0), (.int (0) 0), (.ref 182), (.int (103) 0), (.int (0) 0), (.ref 229), (.int (113) 0), (.int (0) 0), (.ref 262), (.int (120) 0), (.int (0) 0), (.ref 288), (.int (131) 0), (.int (0) 0), (.ref 321), (.int (142) 0), (.int (0) 0), (.ref 326), (.int (148) 0), (.int (0) 0), (.ref 333), (.int (152) 0), (.int (0) 0), (.ref 340), (.int (157) 0), (.int (0) 0), (.ref 345), (.int (171) 0), (.int (0) 0), (.ref 352), (.int (178) 0), (.int (0) 0), (.ref 357), (.int (183) 0), (.int (0) 0), (.ref 364), (.int (190) 0), (.int (0) 0), (.ref 371), (.int (198) 0), (.int (0) 0), (.ref 376), (.int (211) 0), (.int (0) 0), (.ref 381), (.int (225) 0), (.int (0) 0), (.ref 386), (.int (235) 0), (.int (0) 0), (.ref 391)]), #[]⟩
noncomputable def o13 (P : Params) : Obj := ⟨(.type "code"), none, (.fields #[(.str "<module>" 182), (.str "<module>" 183), (.str "/claim/cut.py" 184), (.int (1) 0), (.int (0) 0), (.int (0) 0), (.int (0) 0), (.int (0) 0), (.ref 11), (.bool false), (.int (181) 0), (.ref 12), .none, .none, .none, .none, (.int (185) 0), (.int (1) 0), (.str "/claim/cut.py" 186)]), #[]⟩
noncomputable def o14 (P : Params) : Obj := ⟨(.type "frame"), none, .plain, #[(some (.ref 13)), (some (.ref 3)), (some (.ref 3)), none, (some (.str "__main__" 164)), none, (some (.ref 0))]⟩
noncomputable def o15 (P : Params) : Obj := ⟨(.type "tuple"), none, (.seq #[] 0), #[]⟩
noncomputable def o16 (P : Params) : Obj := ⟨.none, none, (.fields #[]), #[]⟩
noncomputable def o17 (P : Params) : Obj := ⟨(.type "tuple"), none, (.seq #[(.str "k" 190)] 0), #[]⟩
noncomputable def o18 (P : Params) : Obj := ⟨(.type "tuple"), none, (.seq #[] 0), #[]⟩
noncomputable def o19 (P : Params) : Obj := ⟨.none, none, (.func ⟨"_wall", "_wall", (defArgs (top 0)), .stmts (defBody (top 0)), (defScope (top 0)), 0, [], .none, .none, .none, .none, none, .none, .none, 0⟩), #[]⟩
noncomputable def o20 (P : Params) : Obj := ⟨(.type "code"), none, (.fields #[(.str "_wall" 187), (.str "_wall" 188), (.str "/claim/cut.py" 189), (.int (1) 0), (.int (1) 0), (.int (0) 0), (.int (0) 0), (.int (3) 0), (.ref 15), (.bool true), (.int (181) 0), (.ref 16), .none, (.ref 17), (.ref 18), (.ref 19), (.int (191) 0), (.int (1) 0), (.str "/claim/cut.py" 192)]), #[]⟩
noncomputable def o21 (P : Params) : Obj := ⟨(.type "function"), none, (.func (PySem.W.fnOf "_wall" "_wall" (defArgs (top 0)) (defBody (top 0)) (defScope (top 0)) .none .none .none (.str "__main__" 164) none (.ref 20) .none)), #[]⟩
noncomputable def o22 (P : Params) : Obj := ⟨(.type "tuple"), none, (.seq #[(.type "ValueError")] 0), #[]⟩
noncomputable def o23 (P : Params) : Obj := ⟨(.type "builtin_function_or_method"), none, (.fields #[(.builtin "type.__prepare__"), (.type "type")]), #[]⟩
noncomputable def o24 (P : Params) : Obj := ⟨(.type "dict"), none, (.dict #[⟨PyData.keyHash P "__module__", (.str "__module__" 203), (.str "mostwise.errors" 194)⟩, ⟨PyData.keyHash P "__qualname__", (.str "__qualname__" 205), (.str "MostError" 204)⟩, ⟨PyData.keyHash P "__firstlineno__", (.str "__firstlineno__" 207), (.int (5) 206)⟩, ⟨PyData.keyHash P "__static_attributes__", (.str "__static_attributes__" 208), (.ref 29)⟩] 4), #[]⟩
noncomputable def o25 (P : Params) : Obj := ⟨(.type "tuple"), none, (.seq #[] 0), #[]⟩
noncomputable def o26 (P : Params) : Obj := ⟨.none, none, (.fields #[]), #[]⟩
noncomputable def o27 (P : Params) : Obj := ⟨(.type "code"), none, (.fields #[(.str "MostError" 198), (.str "MostError" 199), (.str "/claim/cut.py" 200), (.int (5) 0), (.int (0) 0), (.int (0) 0), (.int (0) 0), (.int (0) 0), (.ref 25), (.bool false), (.int (181) 0), (.ref 26), .none, .none, .none, .none, (.int (201) 0), (.int (5) 0), (.str "/claim/cut.py" 202)]), #[]⟩
noncomputable def o28 (P : Params) : Obj := ⟨(.type "frame"), none, .plain, #[(some (.ref 27)), (some (.ref 3)), (some (.ref 24)), none, (some (.str "mostwise.errors" 194)), none, (some (.ref 0))]⟩
noncomputable def o29 (P : Params) : Obj := ⟨(.type "tuple"), none, (.seq #[] 0), #[]⟩
noncomputable def o30 (P : Params) : Obj := ⟨(.type "dict"), none, (.dict #[⟨PyData.keyHash P "__module__", (.str "__module__" 203), (.str "mostwise.errors" 194)⟩, ⟨PyData.keyHash P "__firstlineno__", (.str "__firstlineno__" 207), (.int (5) 206)⟩, ⟨PyData.keyHash P "__static_attributes__", (.str "__static_attributes__" 208), (.ref 29)⟩, ⟨PyData.keyHash P "__weakref__", (.str "__weakref__" 210), (.ref 32)⟩, ⟨PyData.keyHash P "__doc__", (.str "__doc__" 211), .none⟩] 3), #[]⟩
noncomputable def o31 (P : Params) : Obj := ⟨(.type "type"), none, (.cls ⟨"MostError", [(.type "ValueError")], [(.ref 31), (.type "ValueError"), (.type "Exception"), (.type "BaseException"), (.type "object")], 30, "MostError", true, [], [(.ref 51)], false, none, false⟩), #[(some (.ref 22)), none, (some (.str "MostError" 196)), (some (.str "MostError" 204)), (some (.builtin "ValueError.__new__")), (some (.bool true))]⟩
noncomputable def o32 (P : Params) : Obj := ⟨(.type "getset_descriptor"), none, (.fields #[(.str "__weakref__" 209), (.ref 31), (.builtin "ExceptionGroup.__weakref__"), .none]), #[]⟩
noncomputable def o33 (P : Params) : Obj := ⟨(.type "super"), none, (.fields #[(.ref 31), (.ref 31), (.ref 31)]), #[]⟩
noncomputable def o34 (P : Params) : Obj := ⟨(.type "builtin_function_or_method"), none, (.fields #[(.builtin "object.__init_subclass__"), (.ref 31)]), #[]⟩
noncomputable def o35 (P : Params) : Obj := ⟨(.type "tuple"), none, (.seq #[(.ref 31)] 0), #[]⟩
noncomputable def o36 (P : Params) : Obj := ⟨(.type "builtin_function_or_method"), none, (.fields #[(.builtin "type.__prepare__"), (.type "type")]), #[]⟩
noncomputable def o37 (P : Params) : Obj := ⟨(.type "dict"), none, (.dict #[⟨PyData.keyHash P "__module__", (.str "__module__" 221), (.str "mostwise.errors" 194)⟩, ⟨PyData.keyHash P "__qualname__", (.str "__qualname__" 223), (.str "NoStatement" 222)⟩, ⟨PyData.keyHash P "__firstlineno__", (.str "__firstlineno__" 225), (.int (7) 224)⟩, ⟨PyData.keyHash P "__init__", (.str "__init__" 233), (.ref 48)⟩, ⟨PyData.keyHash P "__static_attributes__", (.str "__static_attributes__" 235), (.ref 49)⟩] 5), #[]⟩
noncomputable def o38 (P : Params) : Obj := ⟨(.type "tuple"), none, (.seq #[] 0), #[]⟩
noncomputable def o39 (P : Params) : Obj := ⟨.none, none, (.fields #[(.int (9) 0), (.int (4) 0), (.ref 47)]), #[]⟩
noncomputable def o40 (P : Params) : Obj := ⟨(.type "code"), none, (.fields #[(.str "NoStatement" 216), (.str "NoStatement" 217), (.str "/claim/cut.py" 218), (.int (7) 0), (.int (0) 0), (.int (0) 0), (.int (0) 0), (.int (0) 0), (.ref 38), (.bool false), (.int (181) 0), (.ref 39), .none, .none, .none, .none, (.int (219) 0), (.int (7) 0), (.str "/claim/cut.py" 220)]), #[]⟩
noncomputable def o41 (P : Params) : Obj := ⟨(.type "frame"), none, .plain, #[(some (.ref 40)), (some (.ref 3)), (some (.ref 37)), none, (some (.str "mostwise.errors" 194)), none, (some (.ref 0))]⟩
noncomputable def o42 (P : Params) : Obj := ⟨(.type "tuple"), none, (.seq #[] 0), #[]⟩
noncomputable def o43 (P : Params) : Obj := ⟨.none, none, (.fields #[]), #[]⟩
noncomputable def o44 (P : Params) : Obj := ⟨(.type "tuple"), none, (.seq #[(.str "self" 229), (.str "found" 230)] 0), #[]⟩
noncomputable def o45 (P : Params) : Obj := ⟨(.type "tuple"), none, (.seq #[] 0), #[]⟩
noncomputable def o46 (P : Params) : Obj := ⟨.none, none, (.func ⟨"__init__", "NoStatement.__init__", (defArgs (inClass (top 3) 0)), .stmts (defBody (inClass (top 3) 0)), (defScope (inClass (top 3) 0)), 0, [], .none, .none, .none, .none, none, .none, .none, 0⟩), #[]⟩
noncomputable def o47 (P : Params) : Obj := ⟨(.type "code"), none, (.fields #[(.str "__init__" 226), (.str "NoStatement.__init__" 227), (.str "/claim/cut.py" 228), (.int (9) 0), (.int (2) 0), (.int (0) 0), (.int (0) 0), (.int (3) 0), (.ref 42), (.bool true), (.int (181) 0), (.ref 43), .none, (.ref 44), (.ref 45), (.ref 46), (.int (231) 0), (.int (9) 0), (.str "/claim/cut.py" 232)]), #[]⟩
noncomputable def o48 (P : Params) : Obj := ⟨(.type "function"), none, (.func (PySem.W.fnOf "__init__" "NoStatement.__init__" (defArgs (inClass (top 3) 0)) (defBody (inClass (top 3) 0)) (defScope (inClass (top 3) 0)) .none .none .none (.str "mostwise.errors" 194) none (.ref 47) .none)), #[]⟩
noncomputable def o49 (P : Params) : Obj := ⟨(.type "tuple"), none, (.seq #[(.str "found" 234)] 0), #[]⟩
noncomputable def o50 (P : Params) : Obj := ⟨(.type "dict"), none, (.dict #[⟨PyData.keyHash P "__module__", (.str "__module__" 221), (.str "mostwise.errors" 194)⟩, ⟨PyData.keyHash P "__firstlineno__", (.str "__firstlineno__" 225), (.int (7) 224)⟩, ⟨PyData.keyHash P "__init__", (.str "__init__" 233), (.ref 48)⟩, ⟨PyData.keyHash P "__static_attributes__", (.str "__static_attributes__" 235), (.ref 49)⟩, ⟨PyData.keyHash P "__doc__", (.str "__doc__" 236), .none⟩] 2), #[]⟩
noncomputable def o51 (P : Params) : Obj := ⟨(.type "type"), none, (.cls ⟨"NoStatement", [(.ref 31)], [(.ref 51), (.ref 31), (.type "ValueError"), (.type "Exception"), (.type "BaseException"), (.type "object")], 50, "NoStatement", true, [], [], false, none, false⟩), #[(some (.ref 35)), none, (some (.str "NoStatement" 214)), (some (.str "NoStatement" 222)), (some (.builtin "ValueError.__new__")), (some (.bool true))]⟩
noncomputable def o52 (P : Params) : Obj := ⟨(.type "super"), none, (.fields #[(.ref 51), (.ref 51), (.ref 51)]), #[]⟩
noncomputable def o53 (P : Params) : Obj := ⟨(.type "builtin_function_or_method"), none, (.fields #[(.builtin "object.__init_subclass__"), (.ref 51)]), #[]⟩
noncomputable def o54 (P : Params) : Obj := ⟨(.type "tuple"), none, (.seq #[] 0), #[]⟩
noncomputable def o55 (P : Params) : Obj := ⟨.none, none, (.fields #[]), #[]⟩
noncomputable def o56 (P : Params) : Obj := ⟨.none, none, (.func ⟨"is_made_of", "is_made_of", (defArgs s_d_is_made_of), .stmts (defBody s_d_is_made_of), (defScope s_d_is_made_of), 0, [], .none, .none, .none, .none, none, .none, .none, 0⟩), #[]⟩
noncomputable def o57 (P : Params) : Obj := ⟨(.type "code"), none, (.fields #[(.str "is_made_of" 249), (.str "is_made_of" 250), (.str "/claim/cut.py" 251), (.int (16) 0), (.int (3) 0), (.int (0) 0), (.int (0) 0), (.int (3) 0), (.ref 54), (.bool true), (.int (181) 0), (.ref 55), .none, .none, .none, (.ref 56), (.int (252) 0), (.int (16) 0), (.str "/claim/cut.py" 253)]), #[]⟩
noncomputable def o58 (P : Params) : Obj := ⟨(.type "function"), none, (.func (PySem.W.fnOf "is_made_of" "is_made_of" (defArgs s_d_is_made_of) (defBody s_d_is_made_of) (defScope s_d_is_made_of) .none .none .none (.str "mostwise.words" 239) none (.ref 57) .none)), #[]⟩
noncomputable def o59 (P : Params) : Obj := ⟨(.type "tuple"), none, (.seq #[] 0), #[]⟩
noncomputable def o60 (P : Params) : Obj := ⟨.none, none, (.fields #[]), #[]⟩
noncomputable def o61 (P : Params) : Obj := ⟨(.type "tuple"), none, (.seq #[(.str "thing" 258)] 0), #[]⟩
noncomputable def o62 (P : Params) : Obj := ⟨(.type "tuple"), none, (.seq #[] 0), #[]⟩
noncomputable def o63 (P : Params) : Obj := ⟨.none, none, (.func ⟨"is_name", "is_name", (defArgs s_d_is_name), .stmts (defBody s_d_is_name), (defScope s_d_is_name), 0, [], .none, .none, .none, .none, none, .none, .none, 0⟩), #[]⟩
noncomputable def o64 (P : Params) : Obj := ⟨(.type "code"), none, (.fields #[(.str "is_name" 255), (.str "is_name" 256), (.str "/claim/cut.py" 257), (.int (18) 0), (.int (1) 0), (.int (0) 0), (.int (0) 0), (.int (3) 0), (.ref 59), (.bool true), (.int (181) 0), (.ref 60), .none, (.ref 61), (.ref 62), (.ref 63), (.int (259) 0), (.int (18) 0), (.str "/claim/cut.py" 260)]), #[]⟩
noncomputable def o65 (P : Params) : Obj := ⟨(.type "function"), none, (.func (PySem.W.fnOf "is_name" "is_name" (defArgs s_d_is_name) (defBody s_d_is_name) (defScope s_d_is_name) .none .none .none (.str "mostwise.words" 239) none (.ref 64) .none)), #[]⟩
noncomputable def o66 (P : Params) : Obj := ⟨(.type "tuple"), none, (.seq #[] 0), #[]⟩
noncomputable def o67 (P : Params) : Obj := ⟨.none, none, (.fields #[]), #[]⟩
noncomputable def o68 (P : Params) : Obj := ⟨(.type "tuple"), none, (.seq #[(.str "thing" 265)] 0), #[]⟩
noncomputable def o69 (P : Params) : Obj := ⟨(.type "tuple"), none, (.seq #[] 0), #[]⟩
noncomputable def o70 (P : Params) : Obj := ⟨.none, none, (.func ⟨"is_letter", "is_letter", (defArgs s_d_is_letter), .stmts (defBody s_d_is_letter), (defScope s_d_is_letter), 0, [], .none, .none, .none, .none, none, .none, .none, 0⟩), #[]⟩
noncomputable def o71 (P : Params) : Obj := ⟨(.type "code"), none, (.fields #[(.str "is_letter" 262), (.str "is_letter" 263), (.str "/claim/cut.py" 264), (.int (20) 0), (.int (1) 0), (.int (0) 0), (.int (0) 0), (.int (3) 0), (.ref 66), (.bool true), (.int (181) 0), (.ref 67), .none, (.ref 68), (.ref 69), (.ref 70), (.int (266) 0), (.int (20) 0), (.str "/claim/cut.py" 267)]), #[]⟩
noncomputable def o72 (P : Params) : Obj := ⟨(.type "function"), none, (.func (PySem.W.fnOf "is_letter" "is_letter" (defArgs s_d_is_letter) (defBody s_d_is_letter) (defScope s_d_is_letter) .none .none .none (.str "mostwise.words" 239) none (.ref 71) .none)), #[]⟩
noncomputable def o73 (P : Params) : Obj := ⟨(.type "tuple"), none, (.seq #[] 0), #[]⟩
noncomputable def o74 (P : Params) : Obj := ⟨.none, none, (.fields #[]), #[]⟩
noncomputable def o75 (P : Params) : Obj := ⟨.none, none, (.func ⟨"places_of", "places_of", (defArgs s_d_places_of), .stmts (defBody s_d_places_of), (defScope s_d_places_of), 0, [], .none, .none, .none, .none, none, .none, .none, 0⟩), #[]⟩
noncomputable def o76 (P : Params) : Obj := ⟨(.type "code"), none, (.fields #[(.str "places_of" 269), (.str "places_of" 270), (.str "/claim/cut.py" 271), (.int (22) 0), (.int (1) 0), (.int (0) 0), (.int (0) 0), (.int (3) 0), (.ref 73), (.bool true), (.int (181) 0), (.ref 74), .none, .none, .none, (.ref 75), (.int (272) 0), (.int (22) 0), (.str "/claim/cut.py" 273)]), #[]⟩
noncomputable def o77 (P : Params) : Obj := ⟨(.type "function"), none, (.func (PySem.W.fnOf "places_of" "places_of" (defArgs s_d_places_of) (defBody s_d_places_of) (defScope s_d_places_of) .none .none .none (.str "mostwise.words" 239) none (.ref 76) .none)), #[]⟩
noncomputable def o78 (P : Params) : Obj := ⟨(.type "tuple"), none, (.seq #[] 0), #[]⟩
noncomputable def o79 (P : Params) : Obj := ⟨.none, none, (.fields #[]), #[]⟩
noncomputable def o80 (P : Params) : Obj := ⟨(.type "tuple"), none, (.seq #[(.str "statement" 278), (.str "side" 279), (.str "cut" 280), (.str "places" 281)] 0), #[]⟩
noncomputable def o81 (P : Params) : Obj := ⟨(.type "tuple"), none, (.seq #[] 0), #[]⟩
noncomputable def o82 (P : Params) : Obj := ⟨.none, none, (.func ⟨"parts_of", "parts_of", (defArgs s_d_parts_of), .stmts (defBody s_d_parts_of), (defScope s_d_parts_of), 0, [], .none, .none, .none, .none, none, .none, .none, 0⟩), #[]⟩
noncomputable def o83 (P : Params) : Obj := ⟨(.type "code"), none, (.fields #[(.str "parts_of" 275), (.str "parts_of" 276), (.str "/claim/cut.py" 277), (.int (31) 0), (.int (1) 0), (.int (0) 0), (.int (0) 0), (.int (3) 0), (.ref 78), (.bool true), (.int (181) 0), (.ref 79), .none, (.ref 80), (.ref 81), (.ref 82), (.int (282) 0), (.int (31) 0), (.str "/claim/cut.py" 283)]), #[]⟩
noncomputable def o84 (P : Params) : Obj := ⟨(.type "function"), none, (.func (PySem.W.fnOf "parts_of" "parts_of" (defArgs s_d_parts_of) (defBody s_d_parts_of) (defScope s_d_parts_of) .none .none .none (.str "mostwise.words" 239) none (.ref 83) .none)), #[]⟩
noncomputable def o85 (P : Params) : Obj := ⟨(.type "tuple"), none, (.seq #[] 0), #[]⟩
noncomputable def o86 (P : Params) : Obj := ⟨.none, none, (.fields #[]), #[]⟩
noncomputable def o87 (P : Params) : Obj := ⟨(.type "tuple"), none, (.seq #[(.str "side" 288), (.str "name" 289), (.str "places" 290)] 0), #[]⟩
noncomputable def o88 (P : Params) : Obj := ⟨(.type "tuple"), none, (.seq #[] 0), #[]⟩
noncomputable def o89 (P : Params) : Obj := ⟨.none, none, (.func ⟨"text_of", "text_of", (defArgs s_d_text_of), .stmts (defBody s_d_text_of), (defScope s_d_text_of), 0, [], .none, .none, .none, .none, none, .none, .none, 0⟩), #[]⟩
noncomputable def o90 (P : Params) : Obj := ⟨(.type "code"), none, (.fields #[(.str "text_of" 285), (.str "text_of" 286), (.str "/claim/cut.py" 287), (.int (40) 0), (.int (3) 0), (.int (0) 0), (.int (0) 0), (.int (3) 0), (.ref 85), (.bool true), (.int (181) 0), (.ref 86), .none, (.ref 87), (.ref 88), (.ref 89), (.int (291) 0), (.int (40) 0), (.str "/claim/cut.py" 292)]), #[]⟩
noncomputable def o91 (P : Params) : Obj := ⟨(.type "function"), none, (.func (PySem.W.fnOf "text_of" "text_of" (defArgs s_d_text_of) (defBody s_d_text_of) (defScope s_d_text_of) .none .none .none (.str "mostwise.words" 239) none (.ref 90) .none)), #[]⟩
noncomputable def o92 (P : Params) : Obj := ⟨(.type "tuple"), none, (.seq #[] 0), #[]⟩
noncomputable def o93 (P : Params) : Obj := ⟨.none, none, (.fields #[]), #[]⟩
noncomputable def o94 (P : Params) : Obj := ⟨(.type "tuple"), none, (.seq #[(.str "statement" 297), (.str "letters" 298), (.str "place" 299)] 0), #[]⟩
noncomputable def o95 (P : Params) : Obj := ⟨(.type "tuple"), none, (.seq #[] 0), #[]⟩
noncomputable def o96 (P : Params) : Obj := ⟨.none, none, (.func ⟨"letters_of", "letters_of", (defArgs s_d_letters_of), .stmts (defBody s_d_letters_of), (defScope s_d_letters_of), 0, [], .none, .none, .none, .none, none, .none, .none, 0⟩), #[]⟩
noncomputable def o97 (P : Params) : Obj := ⟨(.type "code"), none, (.fields #[(.str "letters_of" 294), (.str "letters_of" 295), (.str "/claim/cut.py" 296), (.int (44) 0), (.int (1) 0), (.int (0) 0), (.int (0) 0), (.int (3) 0), (.ref 92), (.bool true), (.int (181) 0), (.ref 93), .none, (.ref 94), (.ref 95), (.ref 96), (.int (300) 0), (.int (44) 0), (.str "/claim/cut.py" 301)]), #[]⟩
noncomputable def o98 (P : Params) : Obj := ⟨(.type "function"), none, (.func (PySem.W.fnOf "letters_of" "letters_of" (defArgs s_d_letters_of) (defBody s_d_letters_of) (defScope s_d_letters_of) .none .none .none (.str "mostwise.words" 239) none (.ref 97) .none)), #[]⟩
noncomputable def o99 (P : Params) : Obj := ⟨(.type "tuple"), none, (.seq #[] 0), #[]⟩
noncomputable def o100 (P : Params) : Obj := ⟨.none, none, (.fields #[]), #[]⟩
noncomputable def o101 (P : Params) : Obj := ⟨(.type "tuple"), none, (.seq #[(.str "place" 306), (.str "given" 307)] 0), #[]⟩
noncomputable def o102 (P : Params) : Obj := ⟨(.type "tuple"), none, (.seq #[] 0), #[]⟩
noncomputable def o103 (P : Params) : Obj := ⟨.none, none, (.func ⟨"put_for", "put_for", (defArgs s_d_put_for), .stmts (defBody s_d_put_for), (defScope s_d_put_for), 0, [], .none, .none, .none, .none, none, .none, .none, 0⟩), #[]⟩
noncomputable def o104 (P : Params) : Obj := ⟨(.type "code"), none, (.fields #[(.str "put_for" 303), (.str "put_for" 304), (.str "/claim/cut.py" 305), (.int (50) 0), (.int (2) 0), (.int (0) 0), (.int (0) 0), (.int (3) 0), (.ref 99), (.bool true), (.int (181) 0), (.ref 100), .none, (.ref 101), (.ref 102), (.ref 103), (.int (308) 0), (.int (50) 0), (.str "/claim/cut.py" 309)]), #[]⟩
noncomputable def o105 (P : Params) : Obj := ⟨(.type "function"), none, (.func (PySem.W.fnOf "put_for" "put_for" (defArgs s_d_put_for) (defBody s_d_put_for) (defScope s_d_put_for) .none .none .none (.str "mostwise.words" 239) none (.ref 104) .none)), #[]⟩
noncomputable def o106 (P : Params) : Obj := ⟨(.type "tuple"), none, (.seq #[] 0), #[]⟩
noncomputable def o107 (P : Params) : Obj := ⟨.none, none, (.fields #[]), #[]⟩
noncomputable def o108 (P : Params) : Obj := ⟨.none, none, (.func ⟨"filled", "filled", (defArgs s_d_filled), .stmts (defBody s_d_filled), (defScope s_d_filled), 0, [], .none, .none, .none, .none, none, .none, .none, 0⟩), #[]⟩
noncomputable def o109 (P : Params) : Obj := ⟨(.type "code"), none, (.fields #[(.str "filled" 311), (.str "filled" 312), (.str "/claim/cut.py" 313), (.int (52) 0), (.int (2) 0), (.int (0) 0), (.int (0) 0), (.int (3) 0), (.ref 106), (.bool true), (.int (181) 0), (.ref 107), .none, .none, .none, (.ref 108), (.int (314) 0), (.int (52) 0), (.str "/claim/cut.py" 315)]), #[]⟩
noncomputable def o110 (P : Params) : Obj := ⟨(.type "function"), none, (.func (PySem.W.fnOf "filled" "filled" (defArgs s_d_filled) (defBody s_d_filled) (defScope s_d_filled) .none .none .none (.str "mostwise.words" 239) none (.ref 109) .none)), #[]⟩
noncomputable def o111 (P : Params) : Obj := ⟨(.type "tuple"), none, (.seq #[] 0), #[]⟩
noncomputable def o112 (P : Params) : Obj := ⟨(.type "builtin_function_or_method"), none, (.fields #[(.builtin "type.__prepare__"), (.type "type")]), #[]⟩
noncomputable def o113 (P : Params) : Obj := ⟨(.type "dict"), none, (.dict #[⟨PyData.keyHash P "__module__", (.str "__module__" 327), (.str "mostwise.rules" 318)⟩, ⟨PyData.keyHash P "__qualname__", (.str "__qualname__" 329), (.str "Rule" 328)⟩, ⟨PyData.keyHash P "__firstlineno__", (.str "__firstlineno__" 331), (.int (57) 330)⟩, ⟨PyData.keyHash P "__init__", (.str "__init__" 341), (.ref 124)⟩, ⟨PyData.keyHash P "word", (.str "word" 348), (.ref 131)⟩, ⟨PyData.keyHash P "speaks", (.str "speaks" 355), (.ref 138)⟩, ⟨PyData.keyHash P "is_sure", (.str "is_sure" 362), (.ref 145)⟩, ⟨PyData.keyHash P "letters", (.str "letters" 368), (.ref 150)⟩, ⟨PyData.keyHash P "again", (.str "again" 377), (.ref 157)⟩, ⟨PyData.keyHash P "filled", (.str "filled" 383), (.ref 162)⟩, ⟨PyData.keyHash P "row", (.str "row" 390), (.ref 169)⟩, ⟨PyData.keyHash P "__static_attributes__", (.str "__static_attributes__" 394), (.ref 170)⟩] 12), #[]⟩
noncomputable def o114 (P : Params) : Obj := ⟨(.type "tuple"), none, (.seq #[] 0), #[]⟩
noncomputable def o115 (P : Params) : Obj := ⟨.none, none, (.fields #[(.int (59) 0), (.int (4) 0), (.ref 123), (.int (64) 0), (.int (4) 0), (.ref 130), (.int (67) 0), (.int (4) 0), (.ref 137), (.int (70) 0), (.int (4) 0), (.ref 144), (.int (73) 0), (.int (4) 0), (.ref 149), (.int (79) 0), (.int (4) 0), (.ref 156), (.int (82) 0), (.int (4) 0), (.ref 161), (.int (85) 0), (.int (4) 0), (.ref 168)]), #[]⟩
noncomputable def o116 (P : Params) : Obj := ⟨(.type "code"), none, (.fields #[(.str "Rule" 322), (.str "Rule" 323), (.str "/claim/cut.py" 324), (.int (57) 0), (.int (0) 0), (.int (0) 0), (.int (0) 0), (.int (0) 0), (.ref 114), (.bool false), (.int (181) 0), (.ref 115), .none, .none, .none, .none, (.int (325) 0), (.int (57) 0), (.str "/claim/cut.py" 326)]), #[]⟩
noncomputable def o117 (P : Params) : Obj := ⟨(.type "frame"), none, .plain, #[(some (.ref 116)), (some (.ref 3)), (some (.ref 113)), none, (some (.str "mostwise.rules" 318)), none, (some (.ref 0))]⟩
noncomputable def o118 (P : Params) : Obj := ⟨(.type "tuple"), none, (.seq #[] 0), #[]⟩
noncomputable def o119 (P : Params) : Obj := ⟨.none, none, (.fields #[]), #[]⟩
noncomputable def o120 (P : Params) : Obj := ⟨(.type "tuple"), none, (.seq #[(.str "self" 335), (.str "label" 336), (.str "head" 337), (.str "body" 338)] 0), #[]⟩
noncomputable def o121 (P : Params) : Obj := ⟨(.type "tuple"), none, (.seq #[] 0), #[]⟩
noncomputable def o122 (P : Params) : Obj := ⟨.none, none, (.func ⟨"__init__", "Rule.__init__", (defArgs s_c_Rule_init), .stmts (defBody s_c_Rule_init), (defScope s_c_Rule_init), 0, [], .none, .none, .none, .none, none, .none, .none, 0⟩), #[]⟩
noncomputable def o123 (P : Params) : Obj := ⟨(.type "code"), none, (.fields #[(.str "__init__" 332), (.str "Rule.__init__" 333), (.str "/claim/cut.py" 334), (.int (59) 0), (.int (4) 0), (.int (0) 0), (.int (0) 0), (.int (3) 0), (.ref 118), (.bool true), (.int (181) 0), (.ref 119), .none, (.ref 120), (.ref 121), (.ref 122), (.int (339) 0), (.int (59) 0), (.str "/claim/cut.py" 340)]), #[]⟩
noncomputable def o124 (P : Params) : Obj := ⟨(.type "function"), none, (.func (PySem.W.fnOf "__init__" "Rule.__init__" (defArgs s_c_Rule_init) (defBody s_c_Rule_init) (defScope s_c_Rule_init) .none .none .none (.str "mostwise.rules" 318) none (.ref 123) .none)), #[]⟩
noncomputable def o125 (P : Params) : Obj := ⟨(.type "tuple"), none, (.seq #[] 0), #[]⟩
noncomputable def o126 (P : Params) : Obj := ⟨.none, none, (.fields #[]), #[]⟩
noncomputable def o127 (P : Params) : Obj := ⟨(.type "tuple"), none, (.seq #[(.str "self" 345)] 0), #[]⟩
noncomputable def o128 (P : Params) : Obj := ⟨(.type "tuple"), none, (.seq #[] 0), #[]⟩
noncomputable def o129 (P : Params) : Obj := ⟨.none, none, (.func ⟨"word", "Rule.word", (defArgs (inClass (top 20) 1)), .stmts (defBody (inClass (top 20) 1)), (defScope (inClass (top 20) 1)), 0, [], .none, .none, .none, .none, none, .none, .none, 0⟩), #[]⟩
noncomputable def o130 (P : Params) : Obj := ⟨(.type "code"), none, (.fields #[(.str "word" 342), (.str "Rule.word" 343), (.str "/claim/cut.py" 344), (.int (64) 0), (.int (1) 0), (.int (0) 0), (.int (0) 0), (.int (3) 0), (.ref 125), (.bool true), (.int (181) 0), (.ref 126), .none, (.ref 127), (.ref 128), (.ref 129), (.int (346) 0), (.int (64) 0), (.str "/claim/cut.py" 347)]), #[]⟩
noncomputable def o131 (P : Params) : Obj := ⟨(.type "function"), none, (.func (PySem.W.fnOf "word" "Rule.word" (defArgs (inClass (top 20) 1)) (defBody (inClass (top 20) 1)) (defScope (inClass (top 20) 1)) .none .none .none (.str "mostwise.rules" 318) none (.ref 130) .none)), #[]⟩
noncomputable def o132 (P : Params) : Obj := ⟨(.type "tuple"), none, (.seq #[] 0), #[]⟩
noncomputable def o133 (P : Params) : Obj := ⟨.none, none, (.fields #[]), #[]⟩
noncomputable def o134 (P : Params) : Obj := ⟨(.type "tuple"), none, (.seq #[(.str "self" 352)] 0), #[]⟩
noncomputable def o135 (P : Params) : Obj := ⟨(.type "tuple"), none, (.seq #[] 0), #[]⟩
noncomputable def o136 (P : Params) : Obj := ⟨.none, none, (.func ⟨"speaks", "Rule.speaks", (defArgs (inClass (top 20) 2)), .stmts (defBody (inClass (top 20) 2)), (defScope (inClass (top 20) 2)), 0, [], .none, .none, .none, .none, none, .none, .none, 0⟩), #[]⟩
noncomputable def o137 (P : Params) : Obj := ⟨(.type "code"), none, (.fields #[(.str "speaks" 349), (.str "Rule.speaks" 350), (.str "/claim/cut.py" 351), (.int (67) 0), (.int (1) 0), (.int (0) 0), (.int (0) 0), (.int (3) 0), (.ref 132), (.bool true), (.int (181) 0), (.ref 133), .none, (.ref 134), (.ref 135), (.ref 136), (.int (353) 0), (.int (67) 0), (.str "/claim/cut.py" 354)]), #[]⟩
noncomputable def o138 (P : Params) : Obj := ⟨(.type "function"), none, (.func (PySem.W.fnOf "speaks" "Rule.speaks" (defArgs (inClass (top 20) 2)) (defBody (inClass (top 20) 2)) (defScope (inClass (top 20) 2)) .none .none .none (.str "mostwise.rules" 318) none (.ref 137) .none)), #[]⟩
noncomputable def o139 (P : Params) : Obj := ⟨(.type "tuple"), none, (.seq #[] 0), #[]⟩
noncomputable def o140 (P : Params) : Obj := ⟨.none, none, (.fields #[]), #[]⟩
noncomputable def o141 (P : Params) : Obj := ⟨(.type "tuple"), none, (.seq #[(.str "self" 359)] 0), #[]⟩
noncomputable def o142 (P : Params) : Obj := ⟨(.type "tuple"), none, (.seq #[] 0), #[]⟩
noncomputable def o143 (P : Params) : Obj := ⟨.none, none, (.func ⟨"is_sure", "Rule.is_sure", (defArgs (inClass (top 20) 3)), .stmts (defBody (inClass (top 20) 3)), (defScope (inClass (top 20) 3)), 0, [], .none, .none, .none, .none, none, .none, .none, 0⟩), #[]⟩
noncomputable def o144 (P : Params) : Obj := ⟨(.type "code"), none, (.fields #[(.str "is_sure" 356), (.str "Rule.is_sure" 357), (.str "/claim/cut.py" 358), (.int (70) 0), (.int (1) 0), (.int (0) 0), (.int (0) 0), (.int (3) 0), (.ref 139), (.bool true), (.int (181) 0), (.ref 140), .none, (.ref 141), (.ref 142), (.ref 143), (.int (360) 0), (.int (70) 0), (.str "/claim/cut.py" 361)]), #[]⟩
noncomputable def o145 (P : Params) : Obj := ⟨(.type "function"), none, (.func (PySem.W.fnOf "is_sure" "Rule.is_sure" (defArgs (inClass (top 20) 3)) (defBody (inClass (top 20) 3)) (defScope (inClass (top 20) 3)) .none .none .none (.str "mostwise.rules" 318) none (.ref 144) .none)), #[]⟩
noncomputable def o146 (P : Params) : Obj := ⟨(.type "tuple"), none, (.seq #[] 0), #[]⟩
noncomputable def o147 (P : Params) : Obj := ⟨.none, none, (.fields #[]), #[]⟩
noncomputable def o148 (P : Params) : Obj := ⟨.none, none, (.func ⟨"letters", "Rule.letters", (defArgs s_c_Rule_letters), .stmts (defBody s_c_Rule_letters), (defScope s_c_Rule_letters), 0, [], .none, .none, .none, .none, none, .none, .none, 0⟩), #[]⟩
noncomputable def o149 (P : Params) : Obj := ⟨(.type "code"), none, (.fields #[(.str "letters" 363), (.str "Rule.letters" 364), (.str "/claim/cut.py" 365), (.int (73) 0), (.int (1) 0), (.int (0) 0), (.int (0) 0), (.int (3) 0), (.ref 146), (.bool true), (.int (181) 0), (.ref 147), .none, .none, .none, (.ref 148), (.int (366) 0), (.int (73) 0), (.str "/claim/cut.py" 367)]), #[]⟩
noncomputable def o150 (P : Params) : Obj := ⟨(.type "function"), none, (.func (PySem.W.fnOf "letters" "Rule.letters" (defArgs s_c_Rule_letters) (defBody s_c_Rule_letters) (defScope s_c_Rule_letters) .none .none .none (.str "mostwise.rules" 318) none (.ref 149) .none)), #[]⟩
noncomputable def o151 (P : Params) : Obj := ⟨(.type "tuple"), none, (.seq #[] 0), #[]⟩
noncomputable def o152 (P : Params) : Obj := ⟨.none, none, (.fields #[]), #[]⟩
noncomputable def o153 (P : Params) : Obj := ⟨(.type "tuple"), none, (.seq #[(.str "self" 372), (.str "head" 373), (.str "body" 374)] 0), #[]⟩
noncomputable def o154 (P : Params) : Obj := ⟨(.type "tuple"), none, (.seq #[] 0), #[]⟩
noncomputable def o155 (P : Params) : Obj := ⟨.none, none, (.func ⟨"again", "Rule.again", (defArgs (inClass (top 20) 5)), .stmts (defBody (inClass (top 20) 5)), (defScope (inClass (top 20) 5)), 0, [], .none, .none, .none, .none, none, .none, .none, 0⟩), #[]⟩
noncomputable def o156 (P : Params) : Obj := ⟨(.type "code"), none, (.fields #[(.str "again" 369), (.str "Rule.again" 370), (.str "/claim/cut.py" 371), (.int (79) 0), (.int (3) 0), (.int (0) 0), (.int (0) 0), (.int (3) 0), (.ref 151), (.bool true), (.int (181) 0), (.ref 152), .none, (.ref 153), (.ref 154), (.ref 155), (.int (375) 0), (.int (79) 0), (.str "/claim/cut.py" 376)]), #[]⟩
noncomputable def o157 (P : Params) : Obj := ⟨(.type "function"), none, (.func (PySem.W.fnOf "again" "Rule.again" (defArgs (inClass (top 20) 5)) (defBody (inClass (top 20) 5)) (defScope (inClass (top 20) 5)) .none .none .none (.str "mostwise.rules" 318) none (.ref 156) .none)), #[]⟩
noncomputable def o158 (P : Params) : Obj := ⟨(.type "tuple"), none, (.seq #[] 0), #[]⟩
noncomputable def o159 (P : Params) : Obj := ⟨.none, none, (.fields #[]), #[]⟩
noncomputable def o160 (P : Params) : Obj := ⟨.none, none, (.func ⟨"filled", "Rule.filled", (defArgs s_c_Rule_filled), .stmts (defBody s_c_Rule_filled), (defScope s_c_Rule_filled), 0, [], .none, .none, .none, .none, none, .none, .none, 0⟩), #[]⟩
noncomputable def o161 (P : Params) : Obj := ⟨(.type "code"), none, (.fields #[(.str "filled" 378), (.str "Rule.filled" 379), (.str "/claim/cut.py" 380), (.int (82) 0), (.int (2) 0), (.int (0) 0), (.int (0) 0), (.int (3) 0), (.ref 158), (.bool true), (.int (181) 0), (.ref 159), .none, .none, .none, (.ref 160), (.int (381) 0), (.int (82) 0), (.str "/claim/cut.py" 382)]), #[]⟩
noncomputable def o162 (P : Params) : Obj := ⟨(.type "function"), none, (.func (PySem.W.fnOf "filled" "Rule.filled" (defArgs s_c_Rule_filled) (defBody s_c_Rule_filled) (defScope s_c_Rule_filled) .none .none .none (.str "mostwise.rules" 318) none (.ref 161) .none)), #[]⟩
noncomputable def o163 (P : Params) : Obj := ⟨(.type "tuple"), none, (.seq #[] 0), #[]⟩
noncomputable def o164 (P : Params) : Obj := ⟨.none, none, (.fields #[]), #[]⟩
noncomputable def o165 (P : Params) : Obj := ⟨(.type "tuple"), none, (.seq #[(.str "self" 387)] 0), #[]⟩
noncomputable def o166 (P : Params) : Obj := ⟨(.type "tuple"), none, (.seq #[] 0), #[]⟩
noncomputable def o167 (P : Params) : Obj := ⟨.none, none, (.func ⟨"row", "Rule.row", (defArgs (inClass (top 20) 7)), .stmts (defBody (inClass (top 20) 7)), (defScope (inClass (top 20) 7)), 0, [], .none, .none, .none, .none, none, .none, .none, 0⟩), #[]⟩
noncomputable def o168 (P : Params) : Obj := ⟨(.type "code"), none, (.fields #[(.str "row" 384), (.str "Rule.row" 385), (.str "/claim/cut.py" 386), (.int (85) 0), (.int (1) 0), (.int (0) 0), (.int (0) 0), (.int (3) 0), (.ref 163), (.bool true), (.int (181) 0), (.ref 164), .none, (.ref 165), (.ref 166), (.ref 167), (.int (388) 0), (.int (85) 0), (.str "/claim/cut.py" 389)]), #[]⟩
noncomputable def o169 (P : Params) : Obj := ⟨(.type "function"), none, (.func (PySem.W.fnOf "row" "Rule.row" (defArgs (inClass (top 20) 7)) (defBody (inClass (top 20) 7)) (defScope (inClass (top 20) 7)) .none .none .none (.str "mostwise.rules" 318) none (.ref 168) .none)), #[]⟩
noncomputable def o170 (P : Params) : Obj := ⟨(.type "tuple"), none, (.seq #[(.str "body" 391), (.str "head" 392), (.str "label" 393)] 0), #[]⟩
noncomputable def o171 (P : Params) : Obj := ⟨(.type "dict"), none, (.dict #[⟨PyData.keyHash P "__module__", (.str "__module__" 327), (.str "mostwise.rules" 318)⟩, ⟨PyData.keyHash P "__firstlineno__", (.str "__firstlineno__" 331), (.int (57) 330)⟩, ⟨PyData.keyHash P "__init__", (.str "__init__" 341), (.ref 124)⟩, ⟨PyData.keyHash P "word", (.str "word" 348), (.ref 131)⟩, ⟨PyData.keyHash P "speaks", (.str "speaks" 355), (.ref 138)⟩, ⟨PyData.keyHash P "is_sure", (.str "is_sure" 362), (.ref 145)⟩, ⟨PyData.keyHash P "letters", (.str "letters" 368), (.ref 150)⟩, ⟨PyData.keyHash P "again", (.str "again" 377), (.ref 157)⟩, ⟨PyData.keyHash P "filled", (.str "filled" 383), (.ref 162)⟩, ⟨PyData.keyHash P "row", (.str "row" 390), (.ref 169)⟩, ⟨PyData.keyHash P "__static_attributes__", (.str "__static_attributes__" 394), (.ref 170)⟩, ⟨PyData.keyHash P "__dict__", (.str "__dict__" 396), (.ref 173)⟩, ⟨PyData.keyHash P "__weakref__", (.str "__weakref__" 398), (.ref 174)⟩, ⟨PyData.keyHash P "__doc__", (.str "__doc__" 399), .none⟩] 4), #[]⟩
noncomputable def o172 (P : Params) : Obj := ⟨(.type "type"), none, (.cls ⟨"Rule", [(.type "object")], [(.ref 172), (.type "object")], 171, "Rule", true, [], [(.ref 221), (.ref 254), (.ref 280), (.ref 313)], false, none, false⟩), #[none, none, (some (.str "Rule" 320)), (some (.str "Rule" 328)), (some (.builtin "object.__new__")), (some (.bool true))]⟩
noncomputable def o173 (P : Params) : Obj := ⟨(.type "getset_descriptor"), none, (.fields #[(.str "__dict__" 395), (.ref 172), (.builtin "function.__dict__"), (.builtin "function.__dict__#set")]), #[]⟩
noncomputable def o174 (P : Params) : Obj := ⟨(.type "getset_descriptor"), none, (.fields #[(.str "__weakref__" 397), (.ref 172), (.builtin "ExceptionGroup.__weakref__"), .none]), #[]⟩
noncomputable def o175 (P : Params) : Obj := ⟨(.type "super"), none, (.fields #[(.ref 172), (.ref 172), (.ref 172)]), #[]⟩
noncomputable def o176 (P : Params) : Obj := ⟨(.type "builtin_function_or_method"), none, (.fields #[(.builtin "object.__init_subclass__"), (.ref 172)]), #[]⟩
noncomputable def o177 (P : Params) : Obj := ⟨(.type "tuple"), none, (.seq #[(.ref 172)] 0), #[]⟩
noncomputable def o178 (P : Params) : Obj := ⟨(.type "builtin_function_or_method"), none, (.fields #[(.builtin "type.__prepare__"), (.type "type")]), #[]⟩
noncomputable def o179 (P : Params) : Obj := ⟨(.type "dict"), none, (.dict #[⟨PyData.keyHash P "__module__", (.str "__module__" 409), (.str "mostwise.rules" 318)⟩, ⟨PyData.keyHash P "__qualname__", (.str "__qualname__" 411), (.str "Fact" 410)⟩, ⟨PyData.keyHash P "__firstlineno__", (.str "__firstlineno__" 413), (.int (87) 412)⟩, ⟨PyData.keyHash P "__init__", (.str "__init__" 421), (.ref 190)⟩, ⟨PyData.keyHash P "word", (.str "word" 428), (.ref 197)⟩, ⟨PyData.keyHash P "is_sure", (.str "is_sure" 435), (.ref 204)⟩, ⟨PyData.keyHash P "again", (.str "again" 444), (.ref 211)⟩, ⟨PyData.keyHash P "row", (.str "row" 451), (.ref 218)⟩, ⟨PyData.keyHash P "__static_attributes__", (.str "__static_attributes__" 452), (.ref 219)⟩] 9), #[]⟩
noncomputable def o180 (P : Params) : Obj := ⟨(.type "tuple"), none, (.seq #[] 0), #[]⟩
noncomputable def o181 (P : Params) : Obj := ⟨.none, none, (.fields #[(.int (89) 0), (.int (4) 0), (.ref 189), (.int (92) 0), (.int (4) 0), (.ref 196), (.int (95) 0), (.int (4) 0), (.ref 203), (.int (98) 0), (.int (4) 0), (.ref 210), (.int (101) 0), (.int (4) 0), (.ref 217)]), #[]⟩
noncomputable def o182 (P : Params) : Obj := ⟨(.type "code"), none, (.fields #[(.str "Fact" 404), (.str "Fact" 405), (.str "/claim/cut.py" 406), (.int (87) 0), (.int (0) 0), (.int (0) 0), (.int (0) 0), (.int (0) 0), (.ref 180), (.bool false), (.int (181) 0), (.ref 181), .none, .none, .none, .none, (.int (407) 0), (.int (87) 0), (.str "/claim/cut.py" 408)]), #[]⟩
noncomputable def o183 (P : Params) : Obj := ⟨(.type "frame"), none, .plain, #[(some (.ref 182)), (some (.ref 3)), (some (.ref 179)), none, (some (.str "mostwise.rules" 318)), none, (some (.ref 0))]⟩
noncomputable def o184 (P : Params) : Obj := ⟨(.type "tuple"), none, (.seq #[] 0), #[]⟩
noncomputable def o185 (P : Params) : Obj := ⟨.none, none, (.fields #[]), #[]⟩
noncomputable def o186 (P : Params) : Obj := ⟨(.type "tuple"), none, (.seq #[(.str "self" 417), (.str "head" 418)] 0), #[]⟩
noncomputable def o187 (P : Params) : Obj := ⟨(.type "tuple"), none, (.seq #[] 0), #[]⟩
noncomputable def o188 (P : Params) : Obj := ⟨.none, none, (.func ⟨"__init__", "Fact.__init__", (defArgs s_c_Fact_init), .stmts (defBody s_c_Fact_init), (defScope s_c_Fact_init), 0, [], .none, .none, .none, .none, none, .none, .none, 0⟩), #[]⟩
noncomputable def o189 (P : Params) : Obj := ⟨(.type "code"), none, (.fields #[(.str "__init__" 414), (.str "Fact.__init__" 415), (.str "/claim/cut.py" 416), (.int (89) 0), (.int (2) 0), (.int (0) 0), (.int (0) 0), (.int (3) 0), (.ref 184), (.bool true), (.int (181) 0), (.ref 185), .none, (.ref 186), (.ref 187), (.ref 188), (.int (419) 0), (.int (89) 0), (.str "/claim/cut.py" 420)]), #[]⟩
noncomputable def o190 (P : Params) : Obj := ⟨(.type "function"), none, (.func (PySem.W.fnOf "__init__" "Fact.__init__" (defArgs s_c_Fact_init) (defBody s_c_Fact_init) (defScope s_c_Fact_init) .none .none .none (.str "mostwise.rules" 318) none (.ref 189) .none)), #[]⟩
noncomputable def o191 (P : Params) : Obj := ⟨(.type "tuple"), none, (.seq #[] 0), #[]⟩
noncomputable def o192 (P : Params) : Obj := ⟨.none, none, (.fields #[]), #[]⟩
noncomputable def o193 (P : Params) : Obj := ⟨(.type "tuple"), none, (.seq #[(.str "self" 425)] 0), #[]⟩
noncomputable def o194 (P : Params) : Obj := ⟨(.type "tuple"), none, (.seq #[] 0), #[]⟩
noncomputable def o195 (P : Params) : Obj := ⟨.none, none, (.func ⟨"word", "Fact.word", (defArgs (inClass (top 21) 1)), .stmts (defBody (inClass (top 21) 1)), (defScope (inClass (top 21) 1)), 0, [], .none, .none, .none, .none, none, .none, .none, 0⟩), #[]⟩
noncomputable def o196 (P : Params) : Obj := ⟨(.type "code"), none, (.fields #[(.str "word" 422), (.str "Fact.word" 423), (.str "/claim/cut.py" 424), (.int (92) 0), (.int (1) 0), (.int (0) 0), (.int (0) 0), (.int (3) 0), (.ref 191), (.bool true), (.int (181) 0), (.ref 192), .none, (.ref 193), (.ref 194), (.ref 195), (.int (426) 0), (.int (92) 0), (.str "/claim/cut.py" 427)]), #[]⟩
noncomputable def o197 (P : Params) : Obj := ⟨(.type "function"), none, (.func (PySem.W.fnOf "word" "Fact.word" (defArgs (inClass (top 21) 1)) (defBody (inClass (top 21) 1)) (defScope (inClass (top 21) 1)) .none .none .none (.str "mostwise.rules" 318) none (.ref 196) .none)), #[]⟩
noncomputable def o198 (P : Params) : Obj := ⟨(.type "tuple"), none, (.seq #[] 0), #[]⟩
noncomputable def o199 (P : Params) : Obj := ⟨.none, none, (.fields #[]), #[]⟩
noncomputable def o200 (P : Params) : Obj := ⟨(.type "tuple"), none, (.seq #[(.str "self" 432)] 0), #[]⟩
noncomputable def o201 (P : Params) : Obj := ⟨(.type "tuple"), none, (.seq #[] 0), #[]⟩
noncomputable def o202 (P : Params) : Obj := ⟨.none, none, (.func ⟨"is_sure", "Fact.is_sure", (defArgs (inClass (top 21) 2)), .stmts (defBody (inClass (top 21) 2)), (defScope (inClass (top 21) 2)), 0, [], .none, .none, .none, .none, none, .none, .none, 0⟩), #[]⟩
noncomputable def o203 (P : Params) : Obj := ⟨(.type "code"), none, (.fields #[(.str "is_sure" 429), (.str "Fact.is_sure" 430), (.str "/claim/cut.py" 431), (.int (95) 0), (.int (1) 0), (.int (0) 0), (.int (0) 0), (.int (3) 0), (.ref 198), (.bool true), (.int (181) 0), (.ref 199), .none, (.ref 200), (.ref 201), (.ref 202), (.int (433) 0), (.int (95) 0), (.str "/claim/cut.py" 434)]), #[]⟩
noncomputable def o204 (P : Params) : Obj := ⟨(.type "function"), none, (.func (PySem.W.fnOf "is_sure" "Fact.is_sure" (defArgs (inClass (top 21) 2)) (defBody (inClass (top 21) 2)) (defScope (inClass (top 21) 2)) .none .none .none (.str "mostwise.rules" 318) none (.ref 203) .none)), #[]⟩
noncomputable def o205 (P : Params) : Obj := ⟨(.type "tuple"), none, (.seq #[] 0), #[]⟩
noncomputable def o206 (P : Params) : Obj := ⟨.none, none, (.fields #[]), #[]⟩
noncomputable def o207 (P : Params) : Obj := ⟨(.type "tuple"), none, (.seq #[(.str "self" 439), (.str "head" 440), (.str "body" 441)] 0), #[]⟩
noncomputable def o208 (P : Params) : Obj := ⟨(.type "tuple"), none, (.seq #[] 0), #[]⟩
noncomputable def o209 (P : Params) : Obj := ⟨.none, none, (.func ⟨"again", "Fact.again", (defArgs s_c_Fact_again), .stmts (defBody s_c_Fact_again), (defScope s_c_Fact_again), 0, [], .none, .none, .none, .none, none, .none, .none, 0⟩), #[]⟩
noncomputable def o210 (P : Params) : Obj := ⟨(.type "code"), none, (.fields #[(.str "again" 436), (.str "Fact.again" 437), (.str "/claim/cut.py" 438), (.int (98) 0), (.int (3) 0), (.int (0) 0), (.int (0) 0), (.int (3) 0), (.ref 205), (.bool true), (.int (181) 0), (.ref 206), .none, (.ref 207), (.ref 208), (.ref 209), (.int (442) 0), (.int (98) 0), (.str "/claim/cut.py" 443)]), #[]⟩
noncomputable def o211 (P : Params) : Obj := ⟨(.type "function"), none, (.func (PySem.W.fnOf "again" "Fact.again" (defArgs s_c_Fact_again) (defBody s_c_Fact_again) (defScope s_c_Fact_again) .none .none .none (.str "mostwise.rules" 318) none (.ref 210) .none)), #[]⟩
noncomputable def o212 (P : Params) : Obj := ⟨(.type "tuple"), none, (.seq #[] 0), #[]⟩
noncomputable def o213 (P : Params) : Obj := ⟨.none, none, (.fields #[]), #[]⟩
noncomputable def o214 (P : Params) : Obj := ⟨(.type "tuple"), none, (.seq #[(.str "self" 448)] 0), #[]⟩
noncomputable def o215 (P : Params) : Obj := ⟨(.type "tuple"), none, (.seq #[] 0), #[]⟩
noncomputable def o216 (P : Params) : Obj := ⟨.none, none, (.func ⟨"row", "Fact.row", (defArgs (inClass (top 21) 4)), .stmts (defBody (inClass (top 21) 4)), (defScope (inClass (top 21) 4)), 0, [], .none, .none, .none, .none, none, .none, .none, 0⟩), #[]⟩
noncomputable def o217 (P : Params) : Obj := ⟨(.type "code"), none, (.fields #[(.str "row" 445), (.str "Fact.row" 446), (.str "/claim/cut.py" 447), (.int (101) 0), (.int (1) 0), (.int (0) 0), (.int (0) 0), (.int (3) 0), (.ref 212), (.bool true), (.int (181) 0), (.ref 213), .none, (.ref 214), (.ref 215), (.ref 216), (.int (449) 0), (.int (101) 0), (.str "/claim/cut.py" 450)]), #[]⟩
noncomputable def o218 (P : Params) : Obj := ⟨(.type "function"), none, (.func (PySem.W.fnOf "row" "Fact.row" (defArgs (inClass (top 21) 4)) (defBody (inClass (top 21) 4)) (defScope (inClass (top 21) 4)) .none .none .none (.str "mostwise.rules" 318) none (.ref 217) .none)), #[]⟩
noncomputable def o219 (P : Params) : Obj := ⟨(.type "tuple"), none, (.seq #[] 0), #[]⟩
noncomputable def o220 (P : Params) : Obj := ⟨(.type "dict"), none, (.dict #[⟨PyData.keyHash P "__module__", (.str "__module__" 409), (.str "mostwise.rules" 318)⟩, ⟨PyData.keyHash P "__firstlineno__", (.str "__firstlineno__" 413), (.int (87) 412)⟩, ⟨PyData.keyHash P "__init__", (.str "__init__" 421), (.ref 190)⟩, ⟨PyData.keyHash P "word", (.str "word" 428), (.ref 197)⟩, ⟨PyData.keyHash P "is_sure", (.str "is_sure" 435), (.ref 204)⟩, ⟨PyData.keyHash P "again", (.str "again" 444), (.ref 211)⟩, ⟨PyData.keyHash P "row", (.str "row" 451), (.ref 218)⟩, ⟨PyData.keyHash P "__static_attributes__", (.str "__static_attributes__" 452), (.ref 219)⟩, ⟨PyData.keyHash P "__doc__", (.str "__doc__" 453), .none⟩] 2), #[]⟩
noncomputable def o221 (P : Params) : Obj := ⟨(.type "type"), none, (.cls ⟨"Fact", [(.ref 172)], [(.ref 221), (.ref 172), (.type "object")], 220, "Fact", true, [], [], false, none, false⟩), #[(some (.ref 177)), none, (some (.str "Fact" 402)), (some (.str "Fact" 410)), (some (.builtin "object.__new__")), (some (.bool true))]⟩
noncomputable def o222 (P : Params) : Obj := ⟨(.type "super"), none, (.fields #[(.ref 221), (.ref 221), (.ref 221)]), #[]⟩
noncomputable def o223 (P : Params) : Obj := ⟨(.type "builtin_function_or_method"), none, (.fields #[(.builtin "object.__init_subclass__"), (.ref 221)]), #[]⟩
noncomputable def o224 (P : Params) : Obj := ⟨(.type "tuple"), none, (.seq #[(.ref 172)] 0), #[]⟩
noncomputable def o225 (P : Params) : Obj := ⟨(.type "builtin_function_or_method"), none, (.fields #[(.builtin "type.__prepare__"), (.type "type")]), #[]⟩
noncomputable def o226 (P : Params) : Obj := ⟨(.type "dict"), none, (.dict #[⟨PyData.keyHash P "__module__", (.str "__module__" 463), (.str "mostwise.rules" 318)⟩, ⟨PyData.keyHash P "__qualname__", (.str "__qualname__" 465), (.str "Sure" 464)⟩, ⟨PyData.keyHash P "__firstlineno__", (.str "__firstlineno__" 467), (.int (103) 466)⟩, ⟨PyData.keyHash P "word", (.str "word" 474), (.ref 237)⟩, ⟨PyData.keyHash P "is_sure", (.str "is_sure" 481), (.ref 244)⟩, ⟨PyData.keyHash P "again", (.str "again" 490), (.ref 251)⟩, ⟨PyData.keyHash P "__static_attributes__", (.str "__static_attributes__" 491), (.ref 252)⟩] 7), #[]⟩
noncomputable def o227 (P : Params) : Obj := ⟨(.type "tuple"), none, (.seq #[] 0), #[]⟩
noncomputable def o228 (P : Params) : Obj := ⟨.none, none, (.fields #[(.int (105) 0), (.int (4) 0), (.ref 236), (.int (108) 0), (.int (4) 0), (.ref 243), (.int (111) 0), (.int (4) 0), (.ref 250)]), #[]⟩
noncomputable def o229 (P : Params) : Obj := ⟨(.type "code"), none, (.fields #[(.str "Sure" 458), (.str "Sure" 459), (.str "/claim/cut.py" 460), (.int (103) 0), (.int (0) 0), (.int (0) 0), (.int (0) 0), (.int (0) 0), (.ref 227), (.bool false), (.int (181) 0), (.ref 228), .none, .none, .none, .none, (.int (461) 0), (.int (103) 0), (.str "/claim/cut.py" 462)]), #[]⟩
noncomputable def o230 (P : Params) : Obj := ⟨(.type "frame"), none, .plain, #[(some (.ref 229)), (some (.ref 3)), (some (.ref 226)), none, (some (.str "mostwise.rules" 318)), none, (some (.ref 0))]⟩
noncomputable def o231 (P : Params) : Obj := ⟨(.type "tuple"), none, (.seq #[] 0), #[]⟩
noncomputable def o232 (P : Params) : Obj := ⟨.none, none, (.fields #[]), #[]⟩
noncomputable def o233 (P : Params) : Obj := ⟨(.type "tuple"), none, (.seq #[(.str "self" 471)] 0), #[]⟩
noncomputable def o234 (P : Params) : Obj := ⟨(.type "tuple"), none, (.seq #[] 0), #[]⟩
noncomputable def o235 (P : Params) : Obj := ⟨.none, none, (.func ⟨"word", "Sure.word", (defArgs (inClass (top 22) 0)), .stmts (defBody (inClass (top 22) 0)), (defScope (inClass (top 22) 0)), 0, [], .none, .none, .none, .none, none, .none, .none, 0⟩), #[]⟩
noncomputable def o236 (P : Params) : Obj := ⟨(.type "code"), none, (.fields #[(.str "word" 468), (.str "Sure.word" 469), (.str "/claim/cut.py" 470), (.int (105) 0), (.int (1) 0), (.int (0) 0), (.int (0) 0), (.int (3) 0), (.ref 231), (.bool true), (.int (181) 0), (.ref 232), .none, (.ref 233), (.ref 234), (.ref 235), (.int (472) 0), (.int (105) 0), (.str "/claim/cut.py" 473)]), #[]⟩
noncomputable def o237 (P : Params) : Obj := ⟨(.type "function"), none, (.func (PySem.W.fnOf "word" "Sure.word" (defArgs (inClass (top 22) 0)) (defBody (inClass (top 22) 0)) (defScope (inClass (top 22) 0)) .none .none .none (.str "mostwise.rules" 318) none (.ref 236) .none)), #[]⟩
noncomputable def o238 (P : Params) : Obj := ⟨(.type "tuple"), none, (.seq #[] 0), #[]⟩
noncomputable def o239 (P : Params) : Obj := ⟨.none, none, (.fields #[]), #[]⟩
noncomputable def o240 (P : Params) : Obj := ⟨(.type "tuple"), none, (.seq #[(.str "self" 478)] 0), #[]⟩
noncomputable def o241 (P : Params) : Obj := ⟨(.type "tuple"), none, (.seq #[] 0), #[]⟩
noncomputable def o242 (P : Params) : Obj := ⟨.none, none, (.func ⟨"is_sure", "Sure.is_sure", (defArgs (inClass (top 22) 1)), .stmts (defBody (inClass (top 22) 1)), (defScope (inClass (top 22) 1)), 0, [], .none, .none, .none, .none, none, .none, .none, 0⟩), #[]⟩
noncomputable def o243 (P : Params) : Obj := ⟨(.type "code"), none, (.fields #[(.str "is_sure" 475), (.str "Sure.is_sure" 476), (.str "/claim/cut.py" 477), (.int (108) 0), (.int (1) 0), (.int (0) 0), (.int (0) 0), (.int (3) 0), (.ref 238), (.bool true), (.int (181) 0), (.ref 239), .none, (.ref 240), (.ref 241), (.ref 242), (.int (479) 0), (.int (108) 0), (.str "/claim/cut.py" 480)]), #[]⟩
noncomputable def o244 (P : Params) : Obj := ⟨(.type "function"), none, (.func (PySem.W.fnOf "is_sure" "Sure.is_sure" (defArgs (inClass (top 22) 1)) (defBody (inClass (top 22) 1)) (defScope (inClass (top 22) 1)) .none .none .none (.str "mostwise.rules" 318) none (.ref 243) .none)), #[]⟩
noncomputable def o245 (P : Params) : Obj := ⟨(.type "tuple"), none, (.seq #[] 0), #[]⟩
noncomputable def o246 (P : Params) : Obj := ⟨.none, none, (.fields #[]), #[]⟩
noncomputable def o247 (P : Params) : Obj := ⟨(.type "tuple"), none, (.seq #[(.str "self" 485), (.str "head" 486), (.str "body" 487)] 0), #[]⟩
noncomputable def o248 (P : Params) : Obj := ⟨(.type "tuple"), none, (.seq #[] 0), #[]⟩
noncomputable def o249 (P : Params) : Obj := ⟨.none, none, (.func ⟨"again", "Sure.again", (defArgs s_c_Sure_again), .stmts (defBody s_c_Sure_again), (defScope s_c_Sure_again), 0, [], .none, .none, .none, .none, none, .none, .none, 0⟩), #[]⟩
noncomputable def o250 (P : Params) : Obj := ⟨(.type "code"), none, (.fields #[(.str "again" 482), (.str "Sure.again" 483), (.str "/claim/cut.py" 484), (.int (111) 0), (.int (3) 0), (.int (0) 0), (.int (0) 0), (.int (3) 0), (.ref 245), (.bool true), (.int (181) 0), (.ref 246), .none, (.ref 247), (.ref 248), (.ref 249), (.int (488) 0), (.int (111) 0), (.str "/claim/cut.py" 489)]), #[]⟩
noncomputable def o251 (P : Params) : Obj := ⟨(.type "function"), none, (.func (PySem.W.fnOf "again" "Sure.again" (defArgs s_c_Sure_again) (defBody s_c_Sure_again) (defScope s_c_Sure_again) .none .none .none (.str "mostwise.rules" 318) none (.ref 250) .none)), #[]⟩
noncomputable def o252 (P : Params) : Obj := ⟨(.type "tuple"), none, (.seq #[] 0), #[]⟩
noncomputable def o253 (P : Params) : Obj := ⟨(.type "dict"), none, (.dict #[⟨PyData.keyHash P "__module__", (.str "__module__" 463), (.str "mostwise.rules" 318)⟩, ⟨PyData.keyHash P "__firstlineno__", (.str "__firstlineno__" 467), (.int (103) 466)⟩, ⟨PyData.keyHash P "word", (.str "word" 474), (.ref 237)⟩, ⟨PyData.keyHash P "is_sure", (.str "is_sure" 481), (.ref 244)⟩, ⟨PyData.keyHash P "again", (.str "again" 490), (.ref 251)⟩, ⟨PyData.keyHash P "__static_attributes__", (.str "__static_attributes__" 491), (.ref 252)⟩, ⟨PyData.keyHash P "__doc__", (.str "__doc__" 492), .none⟩] 2), #[]⟩
noncomputable def o254 (P : Params) : Obj := ⟨(.type "type"), none, (.cls ⟨"Sure", [(.ref 172)], [(.ref 254), (.ref 172), (.type "object")], 253, "Sure", true, [], [], false, none, false⟩), #[(some (.ref 224)), none, (some (.str "Sure" 456)), (some (.str "Sure" 464)), (some (.builtin "object.__new__")), (some (.bool true))]⟩
noncomputable def o255 (P : Params) : Obj := ⟨(.type "super"), none, (.fields #[(.ref 254), (.ref 254), (.ref 254)]), #[]⟩
noncomputable def o256 (P : Params) : Obj := ⟨(.type "builtin_function_or_method"), none, (.fields #[(.builtin "object.__init_subclass__"), (.ref 254)]), #[]⟩
noncomputable def o257 (P : Params) : Obj := ⟨(.type "tuple"), none, (.seq #[(.ref 172)] 0), #[]⟩
noncomputable def o258 (P : Params) : Obj := ⟨(.type "builtin_function_or_method"), none, (.fields #[(.builtin "type.__prepare__"), (.type "type")]), #[]⟩
noncomputable def o259 (P : Params) : Obj := ⟨(.type "dict"), none, (.dict #[⟨PyData.keyHash P "__module__", (.str "__module__" 502), (.str "mostwise.rules" 318)⟩, ⟨PyData.keyHash P "__qualname__", (.str "__qualname__" 504), (.str "Most" 503)⟩, ⟨PyData.keyHash P "__firstlineno__", (.str "__firstlineno__" 506), (.int (113) 505)⟩, ⟨PyData.keyHash P "word", (.str "word" 513), (.ref 270)⟩, ⟨PyData.keyHash P "again", (.str "again" 522), (.ref 277)⟩, ⟨PyData.keyHash P "__static_attributes__", (.str "__static_attributes__" 523), (.ref 278)⟩] 6), #[]⟩
noncomputable def o260 (P : Params) : Obj := ⟨(.type "tuple"), none, (.seq #[] 0), #[]⟩
noncomputable def o261 (P : Params) : Obj := ⟨.none, none, (.fields #[(.int (115) 0), (.int (4) 0), (.ref 269), (.int (118) 0), (.int (4) 0), (.ref 276)]), #[]⟩
noncomputable def o262 (P : Params) : Obj := ⟨(.type "code"), none, (.fields #[(.str "Most" 497), (.str "Most" 498), (.str "/claim/cut.py" 499), (.int (113) 0), (.int (0) 0), (.int (0) 0), (.int (0) 0), (.int (0) 0), (.ref 260), (.bool false), (.int (181) 0), (.ref 261), .none, .none, .none, .none, (.int (500) 0), (.int (113) 0), (.str "/claim/cut.py" 501)]), #[]⟩
noncomputable def o263 (P : Params) : Obj := ⟨(.type "frame"), none, .plain, #[(some (.ref 262)), (some (.ref 3)), (some (.ref 259)), none, (some (.str "mostwise.rules" 318)), none, (some (.ref 0))]⟩
noncomputable def o264 (P : Params) : Obj := ⟨(.type "tuple"), none, (.seq #[] 0), #[]⟩
noncomputable def o265 (P : Params) : Obj := ⟨.none, none, (.fields #[]), #[]⟩
noncomputable def o266 (P : Params) : Obj := ⟨(.type "tuple"), none, (.seq #[(.str "self" 510)] 0), #[]⟩
noncomputable def o267 (P : Params) : Obj := ⟨(.type "tuple"), none, (.seq #[] 0), #[]⟩
noncomputable def o268 (P : Params) : Obj := ⟨.none, none, (.func ⟨"word", "Most.word", (defArgs (inClass (top 23) 0)), .stmts (defBody (inClass (top 23) 0)), (defScope (inClass (top 23) 0)), 0, [], .none, .none, .none, .none, none, .none, .none, 0⟩), #[]⟩
noncomputable def o269 (P : Params) : Obj := ⟨(.type "code"), none, (.fields #[(.str "word" 507), (.str "Most.word" 508), (.str "/claim/cut.py" 509), (.int (115) 0), (.int (1) 0), (.int (0) 0), (.int (0) 0), (.int (3) 0), (.ref 264), (.bool true), (.int (181) 0), (.ref 265), .none, (.ref 266), (.ref 267), (.ref 268), (.int (511) 0), (.int (115) 0), (.str "/claim/cut.py" 512)]), #[]⟩
noncomputable def o270 (P : Params) : Obj := ⟨(.type "function"), none, (.func (PySem.W.fnOf "word" "Most.word" (defArgs (inClass (top 23) 0)) (defBody (inClass (top 23) 0)) (defScope (inClass (top 23) 0)) .none .none .none (.str "mostwise.rules" 318) none (.ref 269) .none)), #[]⟩
noncomputable def o271 (P : Params) : Obj := ⟨(.type "tuple"), none, (.seq #[] 0), #[]⟩
noncomputable def o272 (P : Params) : Obj := ⟨.none, none, (.fields #[]), #[]⟩
noncomputable def o273 (P : Params) : Obj := ⟨(.type "tuple"), none, (.seq #[(.str "self" 517), (.str "head" 518), (.str "body" 519)] 0), #[]⟩
noncomputable def o274 (P : Params) : Obj := ⟨(.type "tuple"), none, (.seq #[] 0), #[]⟩
noncomputable def o275 (P : Params) : Obj := ⟨.none, none, (.func ⟨"again", "Most.again", (defArgs s_c_Most_again), .stmts (defBody s_c_Most_again), (defScope s_c_Most_again), 0, [], .none, .none, .none, .none, none, .none, .none, 0⟩), #[]⟩
noncomputable def o276 (P : Params) : Obj := ⟨(.type "code"), none, (.fields #[(.str "again" 514), (.str "Most.again" 515), (.str "/claim/cut.py" 516), (.int (118) 0), (.int (3) 0), (.int (0) 0), (.int (0) 0), (.int (3) 0), (.ref 271), (.bool true), (.int (181) 0), (.ref 272), .none, (.ref 273), (.ref 274), (.ref 275), (.int (520) 0), (.int (118) 0), (.str "/claim/cut.py" 521)]), #[]⟩
noncomputable def o277 (P : Params) : Obj := ⟨(.type "function"), none, (.func (PySem.W.fnOf "again" "Most.again" (defArgs s_c_Most_again) (defBody s_c_Most_again) (defScope s_c_Most_again) .none .none .none (.str "mostwise.rules" 318) none (.ref 276) .none)), #[]⟩
noncomputable def o278 (P : Params) : Obj := ⟨(.type "tuple"), none, (.seq #[] 0), #[]⟩
noncomputable def o279 (P : Params) : Obj := ⟨(.type "dict"), none, (.dict #[⟨PyData.keyHash P "__module__", (.str "__module__" 502), (.str "mostwise.rules" 318)⟩, ⟨PyData.keyHash P "__firstlineno__", (.str "__firstlineno__" 506), (.int (113) 505)⟩, ⟨PyData.keyHash P "word", (.str "word" 513), (.ref 270)⟩, ⟨PyData.keyHash P "again", (.str "again" 522), (.ref 277)⟩, ⟨PyData.keyHash P "__static_attributes__", (.str "__static_attributes__" 523), (.ref 278)⟩, ⟨PyData.keyHash P "__doc__", (.str "__doc__" 524), .none⟩] 2), #[]⟩
noncomputable def o280 (P : Params) : Obj := ⟨(.type "type"), none, (.cls ⟨"Most", [(.ref 172)], [(.ref 280), (.ref 172), (.type "object")], 279, "Most", true, [], [], false, none, false⟩), #[(some (.ref 257)), none, (some (.str "Most" 495)), (some (.str "Most" 503)), (some (.builtin "object.__new__")), (some (.bool true))]⟩
noncomputable def o281 (P : Params) : Obj := ⟨(.type "super"), none, (.fields #[(.ref 280), (.ref 280), (.ref 280)]), #[]⟩
noncomputable def o282 (P : Params) : Obj := ⟨(.type "builtin_function_or_method"), none, (.fields #[(.builtin "object.__init_subclass__"), (.ref 280)]), #[]⟩
noncomputable def o283 (P : Params) : Obj := ⟨(.type "tuple"), none, (.seq #[(.ref 172)] 0), #[]⟩
noncomputable def o284 (P : Params) : Obj := ⟨(.type "builtin_function_or_method"), none, (.fields #[(.builtin "type.__prepare__"), (.type "type")]), #[]⟩
noncomputable def o285 (P : Params) : Obj := ⟨(.type "dict"), none, (.dict #[⟨PyData.keyHash P "__module__", (.str "__module__" 534), (.str "mostwise.rules" 318)⟩, ⟨PyData.keyHash P "__qualname__", (.str "__qualname__" 536), (.str "Block" 535)⟩, ⟨PyData.keyHash P "__firstlineno__", (.str "__firstlineno__" 538), (.int (120) 537)⟩, ⟨PyData.keyHash P "word", (.str "word" 545), (.ref 296)⟩, ⟨PyData.keyHash P "speaks", (.str "speaks" 552), (.ref 303)⟩, ⟨PyData.keyHash P "again", (.str "again" 561), (.ref 310)⟩, ⟨PyData.keyHash P "__static_attributes__", (.str "__static_attributes__" 562), (.ref 311)⟩] 7), #[]⟩
noncomputable def o286 (P : Params) : Obj := ⟨(.type "tuple"), none, (.seq #[] 0), #[]⟩
noncomputable def o287 (P : Params) : Obj := ⟨.none, none, (.fields #[(.int (122) 0), (.int (4) 0), (.ref 295), (.int (125) 0), (.int (4) 0), (.ref 302), (.int (128) 0), (.int (4) 0), (.ref 309)]), #[]⟩
noncomputable def o288 (P : Params) : Obj := ⟨(.type "code"), none, (.fields #[(.str "Block" 529), (.str "Block" 530), (.str "/claim/cut.py" 531), (.int (120) 0), (.int (0) 0), (.int (0) 0), (.int (0) 0), (.int (0) 0), (.ref 286), (.bool false), (.int (181) 0), (.ref 287), .none, .none, .none, .none, (.int (532) 0), (.int (120) 0), (.str "/claim/cut.py" 533)]), #[]⟩
noncomputable def o289 (P : Params) : Obj := ⟨(.type "frame"), none, .plain, #[(some (.ref 288)), (some (.ref 3)), (some (.ref 285)), none, (some (.str "mostwise.rules" 318)), none, (some (.ref 0))]⟩
noncomputable def o290 (P : Params) : Obj := ⟨(.type "tuple"), none, (.seq #[] 0), #[]⟩
noncomputable def o291 (P : Params) : Obj := ⟨.none, none, (.fields #[]), #[]⟩
noncomputable def o292 (P : Params) : Obj := ⟨(.type "tuple"), none, (.seq #[(.str "self" 542)] 0), #[]⟩
noncomputable def o293 (P : Params) : Obj := ⟨(.type "tuple"), none, (.seq #[] 0), #[]⟩
noncomputable def o294 (P : Params) : Obj := ⟨.none, none, (.func ⟨"word", "Block.word", (defArgs (inClass (top 24) 0)), .stmts (defBody (inClass (top 24) 0)), (defScope (inClass (top 24) 0)), 0, [], .none, .none, .none, .none, none, .none, .none, 0⟩), #[]⟩
noncomputable def o295 (P : Params) : Obj := ⟨(.type "code"), none, (.fields #[(.str "word" 539), (.str "Block.word" 540), (.str "/claim/cut.py" 541), (.int (122) 0), (.int (1) 0), (.int (0) 0), (.int (0) 0), (.int (3) 0), (.ref 290), (.bool true), (.int (181) 0), (.ref 291), .none, (.ref 292), (.ref 293), (.ref 294), (.int (543) 0), (.int (122) 0), (.str "/claim/cut.py" 544)]), #[]⟩
noncomputable def o296 (P : Params) : Obj := ⟨(.type "function"), none, (.func (PySem.W.fnOf "word" "Block.word" (defArgs (inClass (top 24) 0)) (defBody (inClass (top 24) 0)) (defScope (inClass (top 24) 0)) .none .none .none (.str "mostwise.rules" 318) none (.ref 295) .none)), #[]⟩
noncomputable def o297 (P : Params) : Obj := ⟨(.type "tuple"), none, (.seq #[] 0), #[]⟩
noncomputable def o298 (P : Params) : Obj := ⟨.none, none, (.fields #[]), #[]⟩
noncomputable def o299 (P : Params) : Obj := ⟨(.type "tuple"), none, (.seq #[(.str "self" 549)] 0), #[]⟩
noncomputable def o300 (P : Params) : Obj := ⟨(.type "tuple"), none, (.seq #[] 0), #[]⟩
noncomputable def o301 (P : Params) : Obj := ⟨.none, none, (.func ⟨"speaks", "Block.speaks", (defArgs (inClass (top 24) 1)), .stmts (defBody (inClass (top 24) 1)), (defScope (inClass (top 24) 1)), 0, [], .none, .none, .none, .none, none, .none, .none, 0⟩), #[]⟩
noncomputable def o302 (P : Params) : Obj := ⟨(.type "code"), none, (.fields #[(.str "speaks" 546), (.str "Block.speaks" 547), (.str "/claim/cut.py" 548), (.int (125) 0), (.int (1) 0), (.int (0) 0), (.int (0) 0), (.int (3) 0), (.ref 297), (.bool true), (.int (181) 0), (.ref 298), .none, (.ref 299), (.ref 300), (.ref 301), (.int (550) 0), (.int (125) 0), (.str "/claim/cut.py" 551)]), #[]⟩
noncomputable def o303 (P : Params) : Obj := ⟨(.type "function"), none, (.func (PySem.W.fnOf "speaks" "Block.speaks" (defArgs (inClass (top 24) 1)) (defBody (inClass (top 24) 1)) (defScope (inClass (top 24) 1)) .none .none .none (.str "mostwise.rules" 318) none (.ref 302) .none)), #[]⟩
noncomputable def o304 (P : Params) : Obj := ⟨(.type "tuple"), none, (.seq #[] 0), #[]⟩
noncomputable def o305 (P : Params) : Obj := ⟨.none, none, (.fields #[]), #[]⟩
noncomputable def o306 (P : Params) : Obj := ⟨(.type "tuple"), none, (.seq #[(.str "self" 556), (.str "head" 557), (.str "body" 558)] 0), #[]⟩
noncomputable def o307 (P : Params) : Obj := ⟨(.type "tuple"), none, (.seq #[] 0), #[]⟩
noncomputable def o308 (P : Params) : Obj := ⟨.none, none, (.func ⟨"again", "Block.again", (defArgs s_c_Block_again), .stmts (defBody s_c_Block_again), (defScope s_c_Block_again), 0, [], .none, .none, .none, .none, none, .none, .none, 0⟩), #[]⟩
noncomputable def o309 (P : Params) : Obj := ⟨(.type "code"), none, (.fields #[(.str "again" 553), (.str "Block.again" 554), (.str "/claim/cut.py" 555), (.int (128) 0), (.int (3) 0), (.int (0) 0), (.int (0) 0), (.int (3) 0), (.ref 304), (.bool true), (.int (181) 0), (.ref 305), .none, (.ref 306), (.ref 307), (.ref 308), (.int (559) 0), (.int (128) 0), (.str "/claim/cut.py" 560)]), #[]⟩
noncomputable def o310 (P : Params) : Obj := ⟨(.type "function"), none, (.func (PySem.W.fnOf "again" "Block.again" (defArgs s_c_Block_again) (defBody s_c_Block_again) (defScope s_c_Block_again) .none .none .none (.str "mostwise.rules" 318) none (.ref 309) .none)), #[]⟩
noncomputable def o311 (P : Params) : Obj := ⟨(.type "tuple"), none, (.seq #[] 0), #[]⟩
noncomputable def o312 (P : Params) : Obj := ⟨(.type "dict"), none, (.dict #[⟨PyData.keyHash P "__module__", (.str "__module__" 534), (.str "mostwise.rules" 318)⟩, ⟨PyData.keyHash P "__firstlineno__", (.str "__firstlineno__" 538), (.int (120) 537)⟩, ⟨PyData.keyHash P "word", (.str "word" 545), (.ref 296)⟩, ⟨PyData.keyHash P "speaks", (.str "speaks" 552), (.ref 303)⟩, ⟨PyData.keyHash P "again", (.str "again" 561), (.ref 310)⟩, ⟨PyData.keyHash P "__static_attributes__", (.str "__static_attributes__" 562), (.ref 311)⟩, ⟨PyData.keyHash P "__doc__", (.str "__doc__" 563), .none⟩] 2), #[]⟩
noncomputable def o313 (P : Params) : Obj := ⟨(.type "type"), none, (.cls ⟨"Block", [(.ref 172)], [(.ref 313), (.ref 172), (.type "object")], 312, "Block", true, [], [], false, none, false⟩), #[(some (.ref 283)), none, (some (.str "Block" 527)), (some (.str "Block" 535)), (some (.builtin "object.__new__")), (some (.bool true))]⟩
noncomputable def o314 (P : Params) : Obj := ⟨(.type "super"), none, (.fields #[(.ref 313), (.ref 313), (.ref 313)]), #[]⟩
noncomputable def o315 (P : Params) : Obj := ⟨(.type "builtin_function_or_method"), none, (.fields #[(.builtin "object.__init_subclass__"), (.ref 313)]), #[]⟩
noncomputable def o316 (P : Params) : Obj := ⟨(.type "tuple"), none, (.seq #[] 0), #[]⟩
noncomputable def o317 (P : Params) : Obj := ⟨.none, none, (.fields #[]), #[]⟩
noncomputable def o318 (P : Params) : Obj := ⟨(.type "tuple"), none, (.seq #[(.str "letters" 571), (.str "things" 572), (.str "ways" 573), (.str "letter" 574), (.str "longer" 575), (.str "way" 576), (.str "thing" 577), (.str "given" 578)] 0), #[]⟩
noncomputable def o319 (P : Params) : Obj := ⟨(.type "tuple"), none, (.seq #[] 0), #[]⟩
noncomputable def o320 (P : Params) : Obj := ⟨.none, none, (.func ⟨"ways_to_give", "ways_to_give", (defArgs s_d_ways_to_give), .stmts (defBody s_d_ways_to_give), (defScope s_d_ways_to_give), 0, [], .none, .none, .none, .none, none, .none, .none, 0⟩), #[]⟩
noncomputable def o321 (P : Params) : Obj := ⟨(.type "code"), none, (.fields #[(.str "ways_to_give" 568), (.str "ways_to_give" 569), (.str "/claim/cut.py" 570), (.int (131) 0), (.int (2) 0), (.int (0) 0), (.int (0) 0), (.int (3) 0), (.ref 316), (.bool true), (.int (181) 0), (.ref 317), .none, (.ref 318), (.ref 319), (.ref 320), (.int (579) 0), (.int (131) 0), (.str "/claim/cut.py" 580)]), #[]⟩
noncomputable def o322 (P : Params) : Obj := ⟨(.type "function"), none, (.func (PySem.W.fnOf "ways_to_give" "ways_to_give" (defArgs s_d_ways_to_give) (defBody s_d_ways_to_give) (defScope s_d_ways_to_give) .none .none .none (.str "mostwise.ground" 566) none (.ref 321) .none)), #[]⟩
noncomputable def o323 (P : Params) : Obj := ⟨(.type "tuple"), none, (.seq #[] 0), #[]⟩
noncomputable def o324 (P : Params) : Obj := ⟨.none, none, (.fields #[]), #[]⟩
noncomputable def o325 (P : Params) : Obj := ⟨.none, none, (.func ⟨"written_out", "written_out", (defArgs s_d_written_out), .stmts (defBody s_d_written_out), (defScope s_d_written_out), 0, [], .none, .none, .none, .none, none, .none, .none, 0⟩), #[]⟩
noncomputable def o326 (P : Params) : Obj := ⟨(.type "code"), none, (.fields #[(.str "written_out" 582), (.str "written_out" 583), (.str "/claim/cut.py" 584), (.int (142) 0), (.int (2) 0), (.int (0) 0), (.int (0) 0), (.int (3) 0), (.ref 323), (.bool true), (.int (181) 0), (.ref 324), .none, .none, .none, (.ref 325), (.int (585) 0), (.int (142) 0), (.str "/claim/cut.py" 586)]), #[]⟩
noncomputable def o327 (P : Params) : Obj := ⟨(.type "function"), none, (.func (PySem.W.fnOf "written_out" "written_out" (defArgs s_d_written_out) (defBody s_d_written_out) (defScope s_d_written_out) .none .none .none (.str "mostwise.ground" 566) none (.ref 326) .none)), #[]⟩
noncomputable def o328 (P : Params) : Obj := ⟨(.type "tuple"), none, (.seq #[] 0), #[]⟩
noncomputable def o329 (P : Params) : Obj := ⟨.none, none, (.fields #[]), #[]⟩
noncomputable def o330 (P : Params) : Obj := ⟨(.type "tuple"), none, (.seq #[(.str "_law_script" 593), (.str "_law_k" 594)] 0), #[]⟩
noncomputable def o331 (P : Params) : Obj := ⟨(.type "tuple"), none, (.seq #[] 0), #[]⟩
noncomputable def o332 (P : Params) : Obj := ⟨.none, none, (.func ⟨"_law_cell_at", "_law_cell_at", (defArgs s_d_l_cell_at), .stmts (defBody s_d_l_cell_at), (defScope s_d_l_cell_at), 0, [], .none, .none, .none, .none, none, .none, .none, 0⟩), #[]⟩
noncomputable def o333 (P : Params) : Obj := ⟨(.type "code"), none, (.fields #[(.str "_law_cell_at" 590), (.str "_law_cell_at" 591), (.str "/claim/cut.py" 592), (.int (148) 0), (.int (2) 0), (.int (0) 0), (.int (0) 0), (.int (3) 0), (.ref 328), (.bool true), (.int (181) 0), (.ref 329), .none, (.ref 330), (.ref 331), (.ref 332), (.int (595) 0), (.int (148) 0), (.str "/claim/cut.py" 596)]), #[]⟩
noncomputable def o334 (P : Params) : Obj := ⟨(.type "function"), none, (.func (PySem.W.fnOf "_law_cell_at" "_law_cell_at" (defArgs s_d_l_cell_at) (defBody s_d_l_cell_at) (defScope s_d_l_cell_at) .none .none .none (.str "law_mostwise_k21_written_out" 588) none (.ref 333) .none)), #[]⟩
noncomputable def o335 (P : Params) : Obj := ⟨(.type "tuple"), none, (.seq #[] 0), #[]⟩
noncomputable def o336 (P : Params) : Obj := ⟨.none, none, (.fields #[]), #[]⟩
noncomputable def o337 (P : Params) : Obj := ⟨(.type "tuple"), none, (.seq #[(.str "_law_cell" 601), (.str "_law_k" 602), (.str "_law_number" 603)] 0), #[]⟩
noncomputable def o338 (P : Params) : Obj := ⟨(.type "tuple"), none, (.seq #[] 0), #[]⟩
noncomputable def o339 (P : Params) : Obj := ⟨.none, none, (.func ⟨"_law_mix", "_law_mix", (defArgs s_d_l_mix), .stmts (defBody s_d_l_mix), (defScope s_d_l_mix), 0, [], .none, .none, .none, .none, none, .none, .none, 0⟩), #[]⟩
noncomputable def o340 (P : Params) : Obj := ⟨(.type "code"), none, (.fields #[(.str "_law_mix" 598), (.str "_law_mix" 599), (.str "/claim/cut.py" 600), (.int (152) 0), (.int (2) 0), (.int (0) 0), (.int (0) 0), (.int (3) 0), (.ref 335), (.bool true), (.int (181) 0), (.ref 336), .none, (.ref 337), (.ref 338), (.ref 339), (.int (604) 0), (.int (152) 0), (.str "/claim/cut.py" 605)]), #[]⟩
noncomputable def o341 (P : Params) : Obj := ⟨(.type "function"), none, (.func (PySem.W.fnOf "_law_mix" "_law_mix" (defArgs s_d_l_mix) (defBody s_d_l_mix) (defScope s_d_l_mix) .none .none .none (.str "law_mostwise_k21_written_out" 588) none (.ref 340) .none)), #[]⟩
noncomputable def o342 (P : Params) : Obj := ⟨(.type "tuple"), none, (.seq #[] 0), #[]⟩
noncomputable def o343 (P : Params) : Obj := ⟨.none, none, (.fields #[]), #[]⟩
noncomputable def o344 (P : Params) : Obj := ⟨.none, none, (.func ⟨"_law_words", "_law_words", (defArgs s_d_l_words), .stmts (defBody s_d_l_words), (defScope s_d_l_words), 0, [], .none, .none, .none, .none, none, .none, .none, 0⟩), #[]⟩
noncomputable def o345 (P : Params) : Obj := ⟨(.type "code"), none, (.fields #[(.str "_law_words" 607), (.str "_law_words" 608), (.str "/claim/cut.py" 609), (.int (157) 0), (.int (2) 0), (.int (0) 0), (.int (0) 0), (.int (3) 0), (.ref 342), (.bool true), (.int (181) 0), (.ref 343), .none, .none, .none, (.ref 344), (.int (610) 0), (.int (157) 0), (.str "/claim/cut.py" 611)]), #[]⟩
noncomputable def o346 (P : Params) : Obj := ⟨(.type "function"), none, (.func (PySem.W.fnOf "_law_words" "_law_words" (defArgs s_d_l_words) (defBody s_d_l_words) (defScope s_d_l_words) .none .none .none (.str "law_mostwise_k21_written_out" 588) none (.ref 345) .none)), #[]⟩
noncomputable def o347 (P : Params) : Obj := ⟨(.type "tuple"), none, (.seq #[] 0), #[]⟩
noncomputable def o348 (P : Params) : Obj := ⟨.none, none, (.fields #[]), #[]⟩
noncomputable def o349 (P : Params) : Obj := ⟨(.type "tuple"), none, (.seq #[(.str "_law_number" 616), (.str "_law_names" 617), (.str "_law_some" 618), (.str "_law_places" 619), (.str "_law_rest" 620), (.str "_law_k" 621)] 0), #[]⟩
noncomputable def o350 (P : Params) : Obj := ⟨(.type "tuple"), none, (.seq #[] 0), #[]⟩
noncomputable def o351 (P : Params) : Obj := ⟨.none, none, (.func ⟨"_law_statement", "_law_statement", (defArgs s_d_l_statement), .stmts (defBody s_d_l_statement), (defScope s_d_l_statement), 0, [], .none, .none, .none, .none, none, .none, .none, 0⟩), #[]⟩
noncomputable def o352 (P : Params) : Obj := ⟨(.type "code"), none, (.fields #[(.str "_law_statement" 613), (.str "_law_statement" 614), (.str "/claim/cut.py" 615), (.int (171) 0), (.int (3) 0), (.int (0) 0), (.int (0) 0), (.int (3) 0), (.ref 347), (.bool true), (.int (181) 0), (.ref 348), .none, (.ref 349), (.ref 350), (.ref 351), (.int (622) 0), (.int (171) 0), (.str "/claim/cut.py" 623)]), #[]⟩
noncomputable def o353 (P : Params) : Obj := ⟨(.type "function"), none, (.func (PySem.W.fnOf "_law_statement" "_law_statement" (defArgs s_d_l_statement) (defBody s_d_l_statement) (defScope s_d_l_statement) .none .none .none (.str "law_mostwise_k21_written_out" 588) none (.ref 352) .none)), #[]⟩
noncomputable def o354 (P : Params) : Obj := ⟨(.type "tuple"), none, (.seq #[] 0), #[]⟩
noncomputable def o355 (P : Params) : Obj := ⟨.none, none, (.fields #[]), #[]⟩
noncomputable def o356 (P : Params) : Obj := ⟨.none, none, (.func ⟨"_law_text", "_law_text", (defArgs s_d_l_text), .stmts (defBody s_d_l_text), (defScope s_d_l_text), 0, [], .none, .none, .none, .none, none, .none, .none, 0⟩), #[]⟩
noncomputable def o357 (P : Params) : Obj := ⟨(.type "code"), none, (.fields #[(.str "_law_text" 625), (.str "_law_text" 626), (.str "/claim/cut.py" 627), (.int (178) 0), (.int (2) 0), (.int (0) 0), (.int (0) 0), (.int (3) 0), (.ref 354), (.bool true), (.int (181) 0), (.ref 355), .none, .none, .none, (.ref 356), (.int (628) 0), (.int (178) 0), (.str "/claim/cut.py" 629)]), #[]⟩
noncomputable def o358 (P : Params) : Obj := ⟨(.type "function"), none, (.func (PySem.W.fnOf "_law_text" "_law_text" (defArgs s_d_l_text) (defBody s_d_l_text) (defScope s_d_l_text) .none .none .none (.str "law_mostwise_k21_written_out" 588) none (.ref 357) .none)), #[]⟩
noncomputable def o359 (P : Params) : Obj := ⟨(.type "tuple"), none, (.seq #[] 0), #[]⟩
noncomputable def o360 (P : Params) : Obj := ⟨.none, none, (.fields #[]), #[]⟩
noncomputable def o361 (P : Params) : Obj := ⟨(.type "tuple"), none, (.seq #[(.str "_law_specs_here" 634), (.str "_law_found" 635), (.str "_law_side" 636), (.str "_law_name" 637), (.str "_law_places" 638), (.str "_law_place" 639)] 0), #[]⟩
noncomputable def o362 (P : Params) : Obj := ⟨(.type "tuple"), none, (.seq #[] 0), #[]⟩
noncomputable def o363 (P : Params) : Obj := ⟨.none, none, (.func ⟨"_law_order", "_law_order", (defArgs s_d_l_order), .stmts (defBody s_d_l_order), (defScope s_d_l_order), 0, [], .none, .none, .none, .none, none, .none, .none, 0⟩), #[]⟩
noncomputable def o364 (P : Params) : Obj := ⟨(.type "code"), none, (.fields #[(.str "_law_order" 631), (.str "_law_order" 632), (.str "/claim/cut.py" 633), (.int (183) 0), (.int (1) 0), (.int (0) 0), (.int (0) 0), (.int (3) 0), (.ref 359), (.bool true), (.int (181) 0), (.ref 360), .none, (.ref 361), (.ref 362), (.ref 363), (.int (640) 0), (.int (183) 0), (.str "/claim/cut.py" 641)]), #[]⟩
noncomputable def o365 (P : Params) : Obj := ⟨(.type "function"), none, (.func (PySem.W.fnOf "_law_order" "_law_order" (defArgs s_d_l_order) (defBody s_d_l_order) (defScope s_d_l_order) .none .none .none (.str "law_mostwise_k21_written_out" 588) none (.ref 364) .none)), #[]⟩
noncomputable def o366 (P : Params) : Obj := ⟨(.type "tuple"), none, (.seq #[] 0), #[]⟩
noncomputable def o367 (P : Params) : Obj := ⟨.none, none, (.fields #[]), #[]⟩
noncomputable def o368 (P : Params) : Obj := ⟨(.type "tuple"), none, (.seq #[(.str "_law_kind" 646), (.str "_law_label" 647), (.str "_law_texts" 648)] 0), #[]⟩
noncomputable def o369 (P : Params) : Obj := ⟨(.type "tuple"), none, (.seq #[] 0), #[]⟩
noncomputable def o370 (P : Params) : Obj := ⟨.none, none, (.func ⟨"_law_made", "_law_made", (defArgs s_d_l_made), .stmts (defBody s_d_l_made), (defScope s_d_l_made), 0, [], .none, .none, .none, .none, none, .none, .none, 0⟩), #[]⟩
noncomputable def o371 (P : Params) : Obj := ⟨(.type "code"), none, (.fields #[(.str "_law_made" 643), (.str "_law_made" 644), (.str "/claim/cut.py" 645), (.int (190) 0), (.int (3) 0), (.int (0) 0), (.int (0) 0), (.int (3) 0), (.ref 366), (.bool true), (.int (181) 0), (.ref 367), .none, (.ref 368), (.ref 369), (.ref 370), (.int (649) 0), (.int (190) 0), (.str "/claim/cut.py" 650)]), #[]⟩
noncomputable def o372 (P : Params) : Obj := ⟨(.type "function"), none, (.func (PySem.W.fnOf "_law_made" "_law_made" (defArgs s_d_l_made) (defBody s_d_l_made) (defScope s_d_l_made) .none .none .none (.str "law_mostwise_k21_written_out" 588) none (.ref 371) .none)), #[]⟩
noncomputable def o373 (P : Params) : Obj := ⟨(.type "tuple"), none, (.seq #[] 0), #[]⟩
noncomputable def o374 (P : Params) : Obj := ⟨.none, none, (.fields #[]), #[]⟩
noncomputable def o375 (P : Params) : Obj := ⟨.none, none, (.func ⟨"_law_specs", "_law_specs", (defArgs s_d_l_specs), .stmts (defBody s_d_l_specs), (defScope s_d_l_specs), 0, [], .none, .none, .none, .none, none, .none, .none, 0⟩), #[]⟩
noncomputable def o376 (P : Params) : Obj := ⟨(.type "code"), none, (.fields #[(.str "_law_specs" 652), (.str "_law_specs" 653), (.str "/claim/cut.py" 654), (.int (198) 0), (.int (4) 0), (.int (0) 0), (.int (0) 0), (.int (3) 0), (.ref 373), (.bool true), (.int (181) 0), (.ref 374), .none, .none, .none, (.ref 375), (.int (655) 0), (.int (198) 0), (.str "/claim/cut.py" 656)]), #[]⟩
noncomputable def o377 (P : Params) : Obj := ⟨(.type "function"), none, (.func (PySem.W.fnOf "_law_specs" "_law_specs" (defArgs s_d_l_specs) (defBody s_d_l_specs) (defScope s_d_l_specs) .none .none .none (.str "law_mostwise_k21_written_out" 588) none (.ref 376) .none)), #[]⟩
noncomputable def o378 (P : Params) : Obj := ⟨(.type "tuple"), none, (.seq #[] 0), #[]⟩
noncomputable def o379 (P : Params) : Obj := ⟨.none, none, (.fields #[]), #[]⟩
noncomputable def o380 (P : Params) : Obj := ⟨.none, none, (.func ⟨"_law_due", "_law_due", (defArgs s_d_l_due), .stmts (defBody s_d_l_due), (defScope s_d_l_due), 0, [], .none, .none, .none, .none, none, .none, .none, 0⟩), #[]⟩
noncomputable def o381 (P : Params) : Obj := ⟨(.type "code"), none, (.fields #[(.str "_law_due" 658), (.str "_law_due" 659), (.str "/claim/cut.py" 660), (.int (211) 0), (.int (2) 0), (.int (0) 0), (.int (0) 0), (.int (3) 0), (.ref 378), (.bool true), (.int (181) 0), (.ref 379), .none, .none, .none, (.ref 380), (.int (661) 0), (.int (211) 0), (.str "/claim/cut.py" 662)]), #[]⟩
noncomputable def o382 (P : Params) : Obj := ⟨(.type "function"), none, (.func (PySem.W.fnOf "_law_due" "_law_due" (defArgs s_d_l_due) (defBody s_d_l_due) (defScope s_d_l_due) .none .none .none (.str "law_mostwise_k21_written_out" 588) none (.ref 381) .none)), #[]⟩
noncomputable def o383 (P : Params) : Obj := ⟨(.type "tuple"), none, (.seq #[] 0), #[]⟩
noncomputable def o384 (P : Params) : Obj := ⟨.none, none, (.fields #[]), #[]⟩
noncomputable def o385 (P : Params) : Obj := ⟨.none, none, (.func ⟨"_law_good", "_law_good", (defArgs s_d_l_good), .stmts (defBody s_d_l_good), (defScope s_d_l_good), 0, [], .none, .none, .none, .none, none, .none, .none, 0⟩), #[]⟩
noncomputable def o386 (P : Params) : Obj := ⟨(.type "code"), none, (.fields #[(.str "_law_good" 664), (.str "_law_good" 665), (.str "/claim/cut.py" 666), (.int (225) 0), (.int (4) 0), (.int (0) 0), (.int (0) 0), (.int (3) 0), (.ref 383), (.bool true), (.int (181) 0), (.ref 384), .none, .none, .none, (.ref 385), (.int (667) 0), (.int (225) 0), (.str "/claim/cut.py" 668)]), #[]⟩
noncomputable def o387 (P : Params) : Obj := ⟨(.type "function"), none, (.func (PySem.W.fnOf "_law_good" "_law_good" (defArgs s_d_l_good) (defBody s_d_l_good) (defScope s_d_l_good) .none .none .none (.str "law_mostwise_k21_written_out" 588) none (.ref 386) .none)), #[]⟩
noncomputable def o388 (P : Params) : Obj := ⟨(.type "tuple"), none, (.seq #[] 0), #[]⟩
noncomputable def o389 (P : Params) : Obj := ⟨.none, none, (.fields #[]), #[]⟩
noncomputable def o390 (P : Params) : Obj := ⟨.none, none, (.func ⟨"law", "law", (defArgs s_d_law), .stmts (defBody s_d_law), (defScope s_d_law), 0, [], .none, .none, .none, .none, none, .none, .none, 0⟩), #[]⟩
noncomputable def o391 (P : Params) : Obj := ⟨(.type "code"), none, (.fields #[(.str "law" 670), (.str "law" 671), (.str "/claim/cut.py" 672), (.int (235) 0), (.int (1) 0), (.int (0) 0), (.int (0) 0), (.int (3) 0), (.ref 388), (.bool true), (.int (181) 0), (.ref 389), .none, .none, .none, (.ref 390), (.int (673) 0), (.int (235) 0), (.str "/claim/cut.py" 674)]), #[]⟩
noncomputable def o392 (P : Params) : Obj := ⟨(.type "function"), none, (.func (PySem.W.fnOf "law" "law" (defArgs s_d_law) (defBody s_d_law) (defScope s_d_law) .none .none .none (.str "law_mostwise_k21_written_out" 588) none (.ref 391) .none)), #[]⟩
noncomputable def p3 (P : Params) : Obj := ⟨(.type "dict"), none, (.dict #[⟨PyData.keyHash P "__name__", (.str "__name__" 165), (.str "__main__" 164)⟩, ⟨PyData.keyHash P "__doc__", (.str "__doc__" 166), .none⟩, ⟨PyData.keyHash P "__package__", (.str "__package__" 167), .none⟩, ⟨PyData.keyHash P "__loader__", (.str "__loader__" 168), (.builtin "__main__.__loader__#opaque")⟩, ⟨PyData.keyHash P "__spec__", (.str "__spec__" 169), .none⟩, ⟨PyData.keyHash P "__annotations__", (.str "__annotations__" 170), (.ref 6)⟩, ⟨PyData.keyHash P "__builtins__", (.str "__builtins__" 171), (.ref 4)⟩, ⟨PyData.keyHash P "__file__", (.str "__file__" 173), (.str "/claim/cut.py" 172)⟩, ⟨PyData.keyHash P "__cached__", (.str "__cached__" 174), .none⟩] 9), #[]⟩
noncomputable def H0 (P : Params) : Heap := ⟨⟨o0 P :: o1 P :: o2 P :: p3 P :: o4 P :: o5 P :: o6 P :: o7 P :: o8 P :: o9 P :: o10 P :: []⟩, {}⟩
noncomputable def H1 (P : Params) : Heap := ⟨⟨o0 P :: o1 P :: o2 P :: o3 P :: o4 P :: o5 P :: o6 P :: o7 P :: o8 P :: o9 P :: o10 P :: o11 P :: o12 P :: o13 P :: o14 P :: o15 P :: o16 P :: o17 P :: o18 P :: o19 P :: o20 P :: o21 P :: o22 P :: o23 P :: o24 P :: o25 P :: o26 P :: o27 P :: o28 P :: o29 P :: o30 P :: o31 P :: o32 P :: o33 P :: o34 P :: o35 P :: o36 P :: o37 P :: o38 P :: o39 P :: o40 P :: o41 P :: o42 P :: o43 P :: o44 P :: o45 P :: o46 P :: o47 P :: o48 P :: o49 P :: o50 P :: o51 P :: o52 P :: o53 P :: o54 P :: o55 P :: o56 P :: o57 P :: o58 P :: o59 P :: o60 P :: o61 P :: o62 P :: o63 P :: o64 P :: o65 P :: o66 P :: o67 P :: o68 P :: o69 P :: o70 P :: o71 P :: o72 P :: o73 P :: o74 P :: o75 P :: o76 P :: o77 P :: o78 P :: o79 P :: o80 P :: o81 P :: o82 P :: o83 P :: o84 P :: o85 P :: o86 P :: o87 P :: o88 P :: o89 P :: o90 P :: o91 P :: o92 P :: o93 P :: o94 P :: o95 P :: o96 P :: o97 P :: o98 P :: o99 P :: o100 P :: o101 P :: o102 P :: o103 P :: o104 P :: o105 P :: o106 P :: o107 P :: o108 P :: o109 P :: o110 P :: o111 P :: o112 P :: o113 P :: o114 P :: o115 P :: o116 P :: o117 P :: o118 P :: o119 P :: o120 P :: o121 P :: o122 P :: o123 P :: o124 P :: o125 P :: o126 P :: o127 P :: o128 P :: o129 P :: o130 P :: o131 P :: o132 P :: o133 P :: o134 P :: o135 P :: o136 P :: o137 P :: o138 P :: o139 P :: o140 P :: o141 P :: o142 P :: o143 P :: o144 P :: o145 P :: o146 P :: o147 P :: o148 P :: o149 P :: o150 P :: o151 P :: o152 P :: o153 P :: o154 P :: o155 P :: o156 P :: o157 P :: o158 P :: o159 P :: o160 P :: o161 P :: o162 P :: o163 P :: o164 P :: o165 P :: o166 P :: o167 P :: o168 P :: o169 P :: o170 P :: o171 P :: o172 P :: o173 P :: o174 P :: o175 P :: o176 P :: o177 P :: o178 P :: o179 P :: o180 P :: o181 P :: o182 P :: o183 P :: o184 P :: o185 P :: o186 P :: o187 P :: o188 P :: o189 P :: o190 P :: o191 P :: o192 P :: o193 P :: o194 P :: o195 P :: o196 P :: o197 P :: o198 P :: o199 P :: o200 P :: o201 P :: o202 P :: o203 P :: o204 P :: o205 P :: o206 P :: o207 P :: o208 P :: o209 P :: o210 P :: o211 P :: o212 P :: o213 P :: o214 P :: o215 P :: o216 P :: o217 P :: o218 P :: o219 P :: o220 P :: o221 P :: o222 P :: o223 P :: o224 P :: o225 P :: o226 P :: o227 P :: o228 P :: o229 P :: o230 P :: o231 P :: o232 P :: o233 P :: o234 P :: o235 P :: o236 P :: o237 P :: o238 P :: o239 P :: o240 P :: o241 P :: o242 P :: o243 P :: o244 P :: o245 P :: o246 P :: o247 P :: o248 P :: o249 P :: o250 P :: o251 P :: o252 P :: o253 P :: o254 P :: o255 P :: o256 P :: o257 P :: o258 P :: o259 P :: o260 P :: o261 P :: o262 P :: o263 P :: o264 P :: o265 P :: o266 P :: o267 P :: o268 P :: o269 P :: o270 P :: o271 P :: o272 P :: o273 P :: o274 P :: o275 P :: o276 P :: o277 P :: o278 P :: o279 P :: o280 P :: o281 P :: o282 P :: o283 P :: o284 P :: o285 P :: o286 P :: o287 P :: o288 P :: o289 P :: o290 P :: o291 P :: o292 P :: o293 P :: o294 P :: o295 P :: o296 P :: o297 P :: o298 P :: o299 P :: o300 P :: o301 P :: o302 P :: o303 P :: o304 P :: o305 P :: o306 P :: o307 P :: o308 P :: o309 P :: o310 P :: o311 P :: o312 P :: o313 P :: o314 P :: o315 P :: o316 P :: o317 P :: o318 P :: o319 P :: o320 P :: o321 P :: o322 P :: o323 P :: o324 P :: o325 P :: o326 P :: o327 P :: o328 P :: o329 P :: o330 P :: o331 P :: o332 P :: o333 P :: o334 P :: o335 P :: o336 P :: o337 P :: o338 P :: o339 P :: o340 P :: o341 P :: o342 P :: o343 P :: o344 P :: o345 P :: o346 P :: o347 P :: o348 P :: o349 P :: o350 P :: o351 P :: o352 P :: o353 P :: o354 P :: o355 P :: o356 P :: o357 P :: o358 P :: o359 P :: o360 P :: o361 P :: o362 P :: o363 P :: o364 P :: o365 P :: o366 P :: o367 P :: o368 P :: o369 P :: o370 P :: o371 P :: o372 P :: o373 P :: o374 P :: o375 P :: o376 P :: o377 P :: o378 P :: o379 P :: o380 P :: o381 P :: o382 P :: o383 P :: o384 P :: o385 P :: o386 P :: o387 P :: o388 P :: o389 P :: o390 P :: o391 P :: o392 P :: []⟩, {}⟩
noncomputable def heapK : Params → PySem.W.Frag := fun P =>
(nat_lit 2, o2 P) :: (nat_lit 3, o3 P) :: (nat_lit 15, o15 P) :: (nat_lit 17, o17 P) :: (nat_lit 18, o18 P) :: (nat_lit 20, o20 P) :: (nat_lit 22, o22 P) :: (nat_lit 29, o29 P) :: (nat_lit 30, o30 P) :: (nat_lit 31, o31 P) :: (nat_lit 32, o32 P) :: (nat_lit 35, o35 P) :: (nat_lit 42, o42 P) :: (nat_lit 44, o44 P) :: (nat_lit 45, o45 P) :: (nat_lit 47, o47 P) :: (nat_lit 49, o49 P) :: (nat_lit 50, o50 P) :: (nat_lit 51, o51 P) :: (nat_lit 54, o54 P) :: (nat_lit 57, o57 P) :: (nat_lit 58, o58 P) :: (nat_lit 59, o59 P) :: (nat_lit 61, o61 P) :: (nat_lit 62, o62 P) :: (nat_lit 64, o64 P) :: (nat_lit 65, o65 P) :: (nat_lit 66, o66 P) :: (nat_lit 68, o68 P) :: (nat_lit 69, o69 P) :: (nat_lit 71, o71 P) :: (nat_lit 72, o72 P) :: (nat_lit 73, o73 P) :: (nat_lit 76, o76 P) :: (nat_lit 77, o77 P) :: (nat_lit 78, o78 P) :: (nat_lit 80, o80 P) :: (nat_lit 81, o81 P) :: (nat_lit 83, o83 P) :: (nat_lit 84, o84 P) :: (nat_lit 85, o85 P) :: (nat_lit 87, o87 P) :: (nat_lit 88, o88 P) :: (nat_lit 90, o90 P) :: (nat_lit 91, o91 P) :: (nat_lit 92, o92 P) :: (nat_lit 94, o94 P) :: (nat_lit 95, o95 P) :: (nat_lit 97, o97 P) :: (nat_lit 98, o98 P) :: (nat_lit 99, o99 P) :: (nat_lit 101, o101 P) :: (nat_lit 102, o102 P) :: (nat_lit 104, o104 P) :: (nat_lit 105, o105 P) :: (nat_lit 106, o106 P) :: (nat_lit 109, o109 P) :: (nat_lit 110, o110 P) :: (nat_lit 118, o118 P) :: (nat_lit 120, o120 P) :: (nat_lit 121, o121 P) :: (nat_lit 123, o123 P) :: (nat_lit 124, o124 P) :: (nat_lit 125, o125 P) :: (nat_lit 127, o127 P) :: (nat_lit 128, o128 P) :: (nat_lit 130, o130 P) :: (nat_lit 132, o132 P) :: (nat_lit 134, o134 P) :: (nat_lit 135, o135 P) :: (nat_lit 137, o137 P) :: (nat_lit 139, o139 P) :: (nat_lit 141, o141 P) :: (nat_lit 142, o142 P) :: (nat_lit 144, o144 P) :: (nat_lit 146, o146 P) :: (nat_lit 149, o149 P) :: (nat_lit 150, o150 P) :: (nat_lit 151, o151 P) :: (nat_lit 153, o153 P) :: (nat_lit 154, o154 P) :: (nat_lit 156, o156 P) :: (nat_lit 158, o158 P) :: (nat_lit 161, o161 P) :: (nat_lit 162, o162 P) :: (nat_lit 163, o163 P) :: (nat_lit 165, o165 P) :: (nat_lit 166, o166 P) :: (nat_lit 168, o168 P) :: (nat_lit 170, o170 P) :: (nat_lit 171, o171 P) :: (nat_lit 172, o172 P) :: (nat_lit 173, o173 P) :: (nat_lit 174, o174 P) :: (nat_lit 177, o177 P) :: (nat_lit 184, o184 P) :: (nat_lit 186, o186 P) :: (nat_lit 187, o187 P) :: (nat_lit 189, o189 P) :: (nat_lit 190, o190 P) :: (nat_lit 191, o191 P) :: (nat_lit 193, o193 P) :: (nat_lit 194, o194 P) :: (nat_lit 196, o196 P) :: (nat_lit 198, o198 P) :: (nat_lit 200, o200 P) :: (nat_lit 201, o201 P) :: (nat_lit 203, o203 P) :: (nat_lit 205, o205 P) :: (nat_lit 207, o207 P) :: (nat_lit 208, o208 P) :: (nat_lit 210, o210 P) :: (nat_lit 211, o211 P) :: (nat_lit 212, o212 P) :: (nat_lit 214, o214 P) :: (nat_lit 215, o215 P) :: (nat_lit 217, o217 P) :: (nat_lit 219, o219 P) :: (nat_lit 220, o220 P) :: (nat_lit 221, o221 P) :: (nat_lit 224, o224 P) :: (nat_lit 231, o231 P) :: (nat_lit 233, o233 P) :: (nat_lit 234, o234 P) :: (nat_lit 236, o236 P) :: (nat_lit 238, o238 P) :: (nat_lit 240, o240 P) :: (nat_lit 241, o241 P) :: (nat_lit 243, o243 P) :: (nat_lit 245, o245 P) :: (nat_lit 247, o247 P) :: (nat_lit 248, o248 P) :: (nat_lit 250, o250 P) :: (nat_lit 251, o251 P) :: (nat_lit 252, o252 P) :: (nat_lit 253, o253 P) :: (nat_lit 254, o254 P) :: (nat_lit 257, o257 P) :: (nat_lit 264, o264 P) :: (nat_lit 266, o266 P) :: (nat_lit 267, o267 P) :: (nat_lit 269, o269 P) :: (nat_lit 271, o271 P) :: (nat_lit 273, o273 P) :: (nat_lit 274, o274 P) :: (nat_lit 276, o276 P) :: (nat_lit 277, o277 P) :: (nat_lit 278, o278 P) :: (nat_lit 279, o279 P) :: (nat_lit 280, o280 P) :: (nat_lit 283, o283 P) :: (nat_lit 290, o290 P) :: (nat_lit 292, o292 P) :: (nat_lit 293, o293 P) :: (nat_lit 295, o295 P) :: (nat_lit 297, o297 P) :: (nat_lit 299, o299 P) :: (nat_lit 300, o300 P) :: (nat_lit 302, o302 P) :: (nat_lit 304, o304 P) :: (nat_lit 306, o306 P) :: (nat_lit 307, o307 P) :: (nat_lit 309, o309 P) :: (nat_lit 310, o310 P) :: (nat_lit 311, o311 P) :: (nat_lit 312, o312 P) :: (nat_lit 313, o313 P) :: (nat_lit 316, o316 P) :: (nat_lit 318, o318 P) :: (nat_lit 319, o319 P) :: (nat_lit 321, o321 P) :: (nat_lit 322, o322 P) :: (nat_lit 323, o323 P) :: (nat_lit 326, o326 P) :: (nat_lit 327, o327 P) :: (nat_lit 328, o328 P) :: (nat_lit 330, o330 P) :: (nat_lit 331, o331 P) :: (nat_lit 333, o333 P) :: (nat_lit 334, o334 P) :: (nat_lit 335, o335 P) :: (nat_lit 337, o337 P) :: (nat_lit 338, o338 P) :: (nat_lit 340, o340 P) :: (nat_lit 341, o341 P) :: (nat_lit 342, o342 P) :: (nat_lit 345, o345 P) :: (nat_lit 346, o346 P) :: (nat_lit 347, o347 P) :: (nat_lit 349, o349 P) :: (nat_lit 350, o350 P) :: (nat_lit 352, o352 P) :: (nat_lit 353, o353 P) :: (nat_lit 354, o354 P) :: (nat_lit 357, o357 P) :: (nat_lit 358, o358 P) :: (nat_lit 359, o359 P) :: (nat_lit 361, o361 P) :: (nat_lit 362, o362 P) :: (nat_lit 364, o364 P) :: (nat_lit 365, o365 P) :: (nat_lit 366, o366 P) :: (nat_lit 368, o368 P) :: (nat_lit 369, o369 P) :: (nat_lit 371, o371 P) :: (nat_lit 372, o372 P) :: (nat_lit 373, o373 P) :: (nat_lit 376, o376 P) :: (nat_lit 377, o377 P) :: (nat_lit 378, o378 P) :: (nat_lit 381, o381 P) :: (nat_lit 382, o382 P) :: (nat_lit 383, o383 P) :: (nat_lit 386, o386 P) :: (nat_lit 387, o387 P) :: (nat_lit 388, o388 P) :: (nat_lit 391, o391 P) :: (nat_lit 392, o392 P) :: []
abbrev heapA : List Addr := [2, 3, 15, 17, 18, 20, 22, 29, 30, 31, 32, 35, 42, 44, 45, 47, 49, 50, 51, 54, 57, 58, 59, 61, 62, 64, 65, 66, 68, 69, 71, 72, 73, 76, 77, 78, 80, 81, 83, 84, 85, 87, 88, 90, 91, 92, 94, 95, 97, 98, 99, 101, 102, 104, 105, 106, 109, 110, 118, 120, 121, 123, 124, 125, 127, 128, 130, 132, 134, 135, 137, 139, 141, 142, 144, 146, 149, 150, 151, 153, 154, 156, 158, 161, 162, 163, 165, 166, 168, 170, 171, 172, 173, 174, 177, 184, 186, 187, 189, 190, 191, 193, 194, 196, 198, 200, 201, 203, 205, 207, 208, 210, 211, 212, 214, 215, 217, 219, 220, 221, 224, 231, 233, 234, 236, 238, 240, 241, 243, 245, 247, 248, 250, 251, 252, 253, 254, 257, 264, 266, 267, 269, 271, 273, 274, 276, 277, 278, 279, 280, 283, 290, 292, 293, 295, 297, 299, 300, 302, 304, 306, 307, 309, 310, 311, 312, 313, 316, 318, 319, 321, 322, 323, 326, 327, 328, 330, 331, 333, 334, 335, 337, 338, 340, 341, 342, 345, 346, 347, 349, 350, 352, 353, 354, 357, 358, 359, 361, 362, 364, 365, 366, 368, 369, 371, 372, 373, 376, 377, 378, 381, 382, 383, 386, 387, 388, 391, 392]
theorem heapE : ∀ P, heapA = (heapK P).map (·.1) := fun _ => by kernel_rfl
def viewQ : Program := PySem.W.view PySem.Challenge.pw_mostwise_k21_written_out [0, 2, 3, 5, 6, 7, 8, 9, 10, 11, 12, 13, 14, 15, 16, 17, 18, 20, 21, 22, 23, 24, 26, 27, 29, 30, 31, 32, 33, 34, 35, 36, 37, 38, 39]
theorem l_open : ∀ w : World, (fencedOpening treeTable PySem.Challenge.pw_mostwise_k21_written_out w 5902).map (fun s => (s.heap, s.gens, s.drawn, s.toks)) = some (H0 w.params, #[], {}, 181) := fun w => by kernel_rfl
theorem l_run : ∀ (w : World) (os : OsState), topRun treeTable PySem.Challenge.pw_mostwise_k21_written_out w 11 (some (.ref 6)) 5902 ⟨H0 w.params, #[], {}, 181, os⟩ (topStub PySem.Challenge.pw_mostwise_k21_written_out) = some ⟨H1 w.params, #[], {}, 676, os⟩ := fun w os => by kernel_rfl
end K21
set_option maxRecDepth 100000 in
set_option maxHeartbeats 0 in
theorem PySem.Challenge.cw_mostwise_k21_written_out_holds : PySem.Challenge.rw_mostwise_k21_written_out.Holds := by
  w_on; o_law
  refine PySem.W.holds_open (q := K21.viewQ) (loose := [("filled_words" : PySem.Str)]) (Xt := fun s => PySem.W.xlAt K21.viewQ [] s && PySem.W.recOk (PySem.W.RowW.records (PySem.W.OpenRow.toRowW PySem.Challenge.rw_mostwise_k21_written_out.row)) s) (XP := PySem.W.XL K21.viewQ []) (Yf := PySem.W.Hook.obs (PySem.W.kHook K21.heapK K21.heapA K21.heapE)) (Ya := PySem.W.Hook.val (PySem.W.kHook K21.heapK K21.heapA K21.heapE)) (YP := PySem.W.Hook.says (PySem.W.kHook K21.heapK K21.heapA K21.heapE)) (N := 5902) ?hl (PySem.W.Hook.of (PySem.W.kHook K21.heapK K21.heapA K21.heapE)) (PySem.W.Hook.keeps (PySem.W.kHook K21.heapK K21.heapA K21.heapE)) (fun s e => PySem.W.xl_of s (Bool.and_eq_true_iff.mp e).1) PySem.W.XL.keeps (by rfl) (by rfl) (by rfl) (fun s e => PySem.W.recFacts_of (Bool.and_eq_true_iff.mp e).2) (by rfl) (by first | assumption | decide +kernel) (by decide +kernel) ⟨rfl, rfl, rfl, rfl, rfl, by decide +kernel⟩ ?hw ?hc
  (case hl => refine PySem.W.LeftO.of_pieces (H₀ := K21.H0) (H₁ := K21.H1) (gs₀ := #[]) (gs₁ := #[]) (d₀ := {}) (d₁ := {}) (k₀ := 181) (k₁ := 676) (m₀ := 11) (ann := (some (.ref 6))) (M := 5902) K21.l_open ?_ K21.l_run rfl ?_ <;> (intro w; kernel_rfl))
  (case hw => w_witness2)
  k_fill
  refine L2.walk_ofK (l := PySem.Challenge.rw_mostwise_k21_written_out) (n := 63) (k := 8) (x := "_law_script") (CX := L2.CX0) (sp := K21.spLaw) rfl (by decide) rfl ⟨rfl, by decide, by decide⟩ (fun w h Y => PySem.W.kIn_of Y) ?F (fun K H a ns hl hO hS => K21.spLaw_of hl hO hS) (fun _ _ _ _ z => z)
  case F =>
    intro w mg fa h KX G hmg
    have T : ∃ t : K21.Adr, K21.Txt (L2.KOf KX) mg t := by
      dsimp only [L2.KOf]
      refine' Exists.imp (fun _ h => h.2.2) (K21.txt_mk KX G ?a_MostError ?a_NoStatement ?a_Rule ?a_Fact ?a_Sure ?a_Most ?a_Block ?a_d_is_made_of ?l_d_is_made_of ?c_d_is_made_of ?p_d_is_made_of ?a_d_is_name ?l_d_is_name ?c_d_is_name ?p_d_is_name ?a_d_is_letter ?l_d_is_letter ?c_d_is_letter ?p_d_is_letter ?a_d_places_of ?l_d_places_of ?c_d_places_of ?p_d_places_of ?a_d_parts_of ?l_d_parts_of ?c_d_parts_of ?p_d_parts_of ?a_d_text_of ?l_d_text_of ?c_d_text_of ?p_d_text_of ?a_d_letters_of ?l_d_letters_of ?c_d_letters_of ?p_d_letters_of ?a_d_put_for ?l_d_put_for ?c_d_put_for ?p_d_put_for ?a_d_filled ?l_d_filled ?c_d_filled ?p_d_filled ?a_c_Rule_init ?l_c_Rule_init ?c_c_Rule_init ?p_c_Rule_init ?a_c_Rule_letters ?l_c_Rule_letters ?c_c_Rule_letters ?p_c_Rule_letters ?a_c_Rule_filled ?l_c_Rule_filled ?c_c_Rule_filled ?p_c_Rule_filled ?a_c_Fact_init ?l_c_Fact_init ?c_c_Fact_init ?p_c_Fact_init ?a_c_Fact_again ?l_c_Fact_again ?c_c_Fact_again ?p_c_Fact_again ?a_c_Sure_again ?l_c_Sure_again ?c_c_Sure_again ?p_c_Sure_again ?a_c_Most_again ?l_c_Most_again ?c_c_Most_again ?p_c_Most_again ?a_c_Block_again ?l_c_Block_again ?c_c_Block_again ?p_c_Block_again ?a_d_ways_to_give ?l_d_ways_to_give ?c_d_ways_to_give ?p_d_ways_to_give ?a_d_written_out ?l_d_written_out ?c_d_written_out ?p_d_written_out ?a_d_l_cell_at ?l_d_l_cell_at ?c_d_l_cell_at ?p_d_l_cell_at ?a_d_l_mix ?l_d_l_mix ?c_d_l_mix ?p_d_l_mix ?a_d_l_words ?l_d_l_words ?c_d_l_words ?p_d_l_words ?a_d_l_statement ?l_d_l_statement ?c_d_l_statement ?p_d_l_statement ?a_d_l_text ?l_d_l_text ?c_d_l_text ?p_d_l_text ?a_d_l_order ?l_d_l_order ?c_d_l_order ?p_d_l_order ?a_d_l_made ?l_d_l_made ?c_d_l_made ?p_d_l_made ?a_d_l_specs ?l_d_l_specs ?c_d_l_specs ?p_d_l_specs ?a_d_l_due ?l_d_l_due ?c_d_l_due ?p_d_l_due ?a_d_l_good ?l_d_l_good ?c_d_l_good ?p_d_l_good ?a_d_law ?l_d_law ?c_d_law ?p_d_law ?k_SMALL ?k_GREAT ?k_LONGEST ?k_MOST_PLACES ?aa_filled_words ?z_NotImplementedError ?z_ValueError ?z_all ?z_dict ?z_isinstance ?z_len ?z_list ?z_range ?z_reversed ?z_str ?z_tuple ?z_zip ?kc_Rule ?kt_Rule ?cg_Rule ?cr_Rule ?ca_Rule ?kc_Fact ?kt_Fact ?pg_Fact ?hd_Fact ?po_Fact ?sa_Fact ?th_Fact ?tn_Fact ?tt_Fact ?tm_Fact ?nf_Fact_label ?nf_Fact_head ?nf_Fact_body ?mm_Fact ?mi_Fact ?mf_Fact ?mq_Fact ?ma_Fact_letters ?mb_Fact_letters ?ma_Fact_again ?mb_Fact_again ?ma_Fact_filled ?mb_Fact_filled ?ks_Fact_Rule ?ks_Fact_Fact ?ks_Fact_Sure ?ks_Fact_Most ?ks_Fact_Block ?kc_Sure ?kt_Sure ?pg_Sure ?hd_Sure ?po_Sure ?sa_Sure ?th_Sure ?tn_Sure ?tt_Sure ?tm_Sure ?nf_Sure_label ?nf_Sure_head ?nf_Sure_body ?mm_Sure ?mi_Sure ?mf_Sure ?mq_Sure ?ma_Sure_letters ?mb_Sure_letters ?ma_Sure_again ?mb_Sure_again ?ma_Sure_filled ?mb_Sure_filled ?ks_Sure_Rule ?ks_Sure_Fact ?ks_Sure_Sure ?ks_Sure_Most ?ks_Sure_Block ?kc_Most ?kt_Most ?pg_Most ?hd_Most ?po_Most ?sa_Most ?th_Most ?tn_Most ?tt_Most ?tm_Most ?nf_Most_label ?nf_Most_head ?nf_Most_body ?mm_Most ?mi_Most ?mf_Most ?mq_Most ?ma_Most_letters ?mb_Most_letters ?ma_Most_again ?mb_Most_again ?ma_Most_filled ?mb_Most_filled ?ks_Most_Rule ?ks_Most_Fact ?ks_Most_Sure ?ks_Most_Most ?ks_Most_Block ?kc_Block ?kt_Block ?pg_Block ?hd_Block ?po_Block ?sa_Block ?th_Block ?tn_Block ?tt_Block ?tm_Block ?nf_Block_label ?nf_Block_head ?nf_Block_body ?mm_Block ?mi_Block ?mf_Block ?mq_Block ?ma_Block_letters ?mb_Block_letters ?ma_Block_again ?mb_Block_again ?ma_Block_filled ?mb_Block_filled ?ks_Block_Rule ?ks_Block_Fact ?ks_Block_Sure ?ks_Block_Most ?ks_Block_Block)
      (case a_MostError => k_is)
      (case a_NoStatement => k_is)
      (case a_Rule => k_is)
      (case a_Fact => k_is)
      (case a_Sure => k_is)
      (case a_Most => k_is)
      (case a_Block => k_is)
      (case a_d_is_made_of => k_is)
      (case l_d_is_made_of => k_is)
      (case c_d_is_made_of => k_is)
      (case p_d_is_made_of => k_is)
      (case a_d_is_name => k_is)
      (case l_d_is_name => k_is)
      (case c_d_is_name => k_is)
      (case p_d_is_name => k_is)
      (case a_d_is_letter => k_is)
      (case l_d_is_letter => k_is)
      (case c_d_is_letter => k_is)
      (case p_d_is_letter => k_is)
      (case a_d_places_of => k_is)
      (case l_d_places_of => k_is)
      (case c_d_places_of => k_is)
      (case p_d_places_of => k_is)
      (case a_d_parts_of => k_is)
      (case l_d_parts_of => k_is)
      (case c_d_parts_of => k_is)
      (case p_d_parts_of => k_is)
      (case a_d_text_of => k_is)
      (case l_d_text_of => k_is)
      (case c_d_text_of => k_is)
      (case p_d_text_of => k_is)
      (case a_d_letters_of => k_is)
      (case l_d_letters_of => k_is)
      (case c_d_letters_of => k_is)
      (case p_d_letters_of => k_is)
      (case a_d_put_for => k_is)
      (case l_d_put_for => k_is)
      (case c_d_put_for => k_is)
      (case p_d_put_for => k_is)
      (case a_d_filled => k_is)
      (case l_d_filled => k_is)
      (case c_d_filled => k_is)
      (case p_d_filled => k_is)
      (case a_c_Rule_init => k_is)
      (case l_c_Rule_init => k_is)
      (case c_c_Rule_init => k_is)
      (case p_c_Rule_init => k_is)
      (case a_c_Rule_letters => k_is)
      (case l_c_Rule_letters => k_is)
      (case c_c_Rule_letters => k_is)
      (case p_c_Rule_letters => k_is)
      (case a_c_Rule_filled => k_is)
      (case l_c_Rule_filled => k_is)
      (case c_c_Rule_filled => k_is)
      (case p_c_Rule_filled => k_is)
      (case a_c_Fact_init => k_is)
      (case l_c_Fact_init => k_is)
      (case c_c_Fact_init => k_is)
      (case p_c_Fact_init => k_is)
      (case a_c_Fact_again => k_is)
      (case l_c_Fact_again => k_is)
      (case c_c_Fact_again => k_is)
      (case p_c_Fact_again => k_is)
      (case a_c_Sure_again => k_is)
      (case l_c_Sure_again => k_is)
      (case c_c_Sure_again => k_is)
      (case p_c_Sure_again => k_is)
      (case a_c_Most_again => k_is)
      (case l_c_Most_again => k_is)
      (case c_c_Most_again => k_is)
      (case p_c_Most_again => k_is)
      (case a_c_Block_again => k_is)
      (case l_c_Block_again => k_is)
      (case c_c_Block_again => k_is)
      (case p_c_Block_again => k_is)
      (case a_d_ways_to_give => k_is)
      (case l_d_ways_to_give => k_is)
      (case c_d_ways_to_give => k_is)
      (case p_d_ways_to_give => k_is)
      (case a_d_written_out => k_is)
      (case l_d_written_out => k_is)
      (case c_d_written_out => k_is)
      (case p_d_written_out => k_is)
      (case a_d_l_cell_at => k_is)
      (case l_d_l_cell_at => k_is)
      (case c_d_l_cell_at => k_is)
      (case p_d_l_cell_at => k_is)
      (case a_d_l_mix => k_is)
      (case l_d_l_mix => k_is)
      (case c_d_l_mix => k_is)
      (case p_d_l_mix => k_is)
      (case a_d_l_words => k_is)
      (case l_d_l_words => k_is)
      (case c_d_l_words => k_is)
      (case p_d_l_words => k_is)
      (case a_d_l_statement => k_is)
      (case l_d_l_statement => k_is)
      (case c_d_l_statement => k_is)
      (case p_d_l_statement => k_is)
      (case a_d_l_text => k_is)
      (case l_d_l_text => k_is)
      (case c_d_l_text => k_is)
      (case p_d_l_text => k_is)
      (case a_d_l_order => k_is)
      (case l_d_l_order => k_is)
      (case c_d_l_order => k_is)
      (case p_d_l_order => k_is)
      (case a_d_l_made => k_is)
      (case l_d_l_made => k_is)
      (case c_d_l_made => k_is)
      (case p_d_l_made => k_is)
      (case a_d_l_specs => k_is)
      (case l_d_l_specs => k_is)
      (case c_d_l_specs => k_is)
      (case p_d_l_specs => k_is)
      (case a_d_l_due => k_is)
      (case l_d_l_due => k_is)
      (case c_d_l_due => k_is)
      (case p_d_l_due => k_is)
      (case a_d_l_good => k_is)
      (case l_d_l_good => k_is)
      (case c_d_l_good => k_is)
      (case p_d_l_good => k_is)
      (case a_d_law => k_is)
      (case l_d_law => k_is)
      (case c_d_law => k_is)
      (case p_d_law => k_is)
      (case k_SMALL => k_is)
      (case k_GREAT => k_is)
      (case k_LONGEST => k_is)
      (case k_MOST_PLACES => k_is)
      (case aa_filled_words => k_is)
      (case z_NotImplementedError => k_is)
      (case z_ValueError => k_is)
      (case z_all => k_is)
      (case z_dict => k_is)
      (case z_isinstance => k_is)
      (case z_len => k_is)
      (case z_list => k_is)
      (case z_range => k_is)
      (case z_reversed => k_is)
      (case z_str => k_is)
      (case z_tuple => k_is)
      (case z_zip => k_is)
      (case kc_Rule => k_is)
      (case kt_Rule => k_is)
      (case cg_Rule => k_is)
      (case cr_Rule => k_is)
      (case ca_Rule => k_is)
      (case kc_Fact => k_is)
      (case kt_Fact => k_is)
      (case pg_Fact => k_is)
      (case hd_Fact => k_is)
      (case po_Fact => k_is)
      (case sa_Fact => k_is)
      (case th_Fact => k_is)
      (case tn_Fact => k_is)
      (case tt_Fact => k_is)
      (case tm_Fact => k_is)
      (case nf_Fact_label => k_is)
      (case nf_Fact_head => k_is)
      (case nf_Fact_body => k_is)
      (case mm_Fact => k_is)
      (case mi_Fact => k_is)
      (case mf_Fact => k_is)
      (case mq_Fact => k_is)
      (case ma_Fact_letters => k_is)
      (case mb_Fact_letters => k_is)
      (case ma_Fact_again => k_is)
      (case mb_Fact_again => k_is)
      (case ma_Fact_filled => k_is)
      (case mb_Fact_filled => k_is)
      (case ks_Fact_Rule => k_is)
      (case ks_Fact_Fact => k_is)
      (case ks_Fact_Sure => k_is)
      (case ks_Fact_Most => k_is)
      (case ks_Fact_Block => k_is)
      (case kc_Sure => k_is)
      (case kt_Sure => k_is)
      (case pg_Sure => k_is)
      (case hd_Sure => k_is)
      (case po_Sure => k_is)
      (case sa_Sure => k_is)
      (case th_Sure => k_is)
      (case tn_Sure => k_is)
      (case tt_Sure => k_is)
      (case tm_Sure => k_is)
      (case nf_Sure_label => k_is)
      (case nf_Sure_head => k_is)
      (case nf_Sure_body => k_is)
      (case mm_Sure => k_is)
      (case mi_Sure => k_is)
      (case mf_Sure => k_is)
      (case mq_Sure => k_is)
      (case ma_Sure_letters => k_is)
      (case mb_Sure_letters => k_is)
      (case ma_Sure_again => k_is)
      (case mb_Sure_again => k_is)
      (case ma_Sure_filled => k_is)
      (case mb_Sure_filled => k_is)
      (case ks_Sure_Rule => k_is)
      (case ks_Sure_Fact => k_is)
      (case ks_Sure_Sure => k_is)
      (case ks_Sure_Most => k_is)
      (case ks_Sure_Block => k_is)
      (case kc_Most => k_is)
      (case kt_Most => k_is)
      (case pg_Most => k_is)
      (case hd_Most => k_is)
      (case po_Most => k_is)
      (case sa_Most => k_is)
      (case th_Most => k_is)
      (case tn_Most => k_is)
      (case tt_Most => k_is)
      (case tm_Most => k_is)
      (case nf_Most_label => k_is)
      (case nf_Most_head => k_is)
      (case nf_Most_body => k_is)
      (case mm_Most => k_is)
      (case mi_Most => k_is)
      (case mf_Most => k_is)
      (case mq_Most => k_is)
      (case ma_Most_letters => k_is)
      (case mb_Most_letters => k_is)
      (case ma_Most_again => k_is)
      (case mb_Most_again => k_is)
      (case ma_Most_filled => k_is)
      (case mb_Most_filled => k_is)
      (case ks_Most_Rule => k_is)
      (case ks_Most_Fact => k_is)
      (case ks_Most_Sure => k_is)
      (case ks_Most_Most => k_is)
      (case ks_Most_Block => k_is)
      (case kc_Block => k_is)
      (case kt_Block => k_is)
      (case pg_Block => k_is)
      (case hd_Block => k_is)
      (case po_Block => k_is)
      (case sa_Block => k_is)
      (case th_Block => k_is)
      (case tn_Block => k_is)
      (case tt_Block => k_is)
      (case tm_Block => k_is)
      (case nf_Block_label => k_is)
      (case nf_Block_head => k_is)
      (case nf_Block_body => k_is)
      (case mm_Block => k_is)
      (case mi_Block => k_is)
      (case mf_Block => k_is)
      (case mq_Block => k_is)
      (case ma_Block_letters => k_is)
      (case mb_Block_letters => k_is)
      (case ma_Block_again => k_is)
      (case mb_Block_again => k_is)
      (case ma_Block_filled => k_is)
      (case mb_Block_filled => k_is)
      (case ks_Block_Rule => k_is)
      (case ks_Block_Fact => k_is)
      (case ks_Block_Sure => k_is)
      (case ks_Block_Most => k_is)
      (case ks_Block_Block => k_is)
    obtain ⟨t, T⟩ := T
    obtain ⟨_, _, _, _, _, _, _, _, _, e2, _, _⟩ := T.F_d_law.ex
    have e0 := hmg.symm.trans T.g_d_law
    cases e0
    exact ⟨t.fd_d_law, fun s u => by rw [e2]; exact .of_eq rfl, fun base kb nb => K21.ok_d_law T⟩
