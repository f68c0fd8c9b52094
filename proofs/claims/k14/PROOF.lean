import PyProof.Rows.All
import Wide.All
import OpenK.AllK
import Wide.FinOn
import Lean
import PyProof.EqAt
import PyProof.EqKinds
import PyProof.TupleCall
import PyProof.StrLawsChain
import PyProof.StrLawsIn
import PyProof.Rows.StrNews2
import PyProof.StrBlockL
import PyProof.Rows.StrClose3
import PyProof.Rows.StrClose5
import PyProof.Rows.StrFirst
import PyProof.WalkInts
import PyProof.StrOps
import PyProof.WalksEnum
import PyProof.EnumMake
import PyProof.NeKinds
import KE.KEqDict
import KE.KRevIter
import PyProof.DictWalks
import PyProof.DictValues
import PyProof.ListRange
import PyProof.CollectIter
import PyProof.ZipIter
import PyProof.Rows.ZipGen
import PyProof.FString5
import KE.KDictLaws
import KE.KDictSum
import KE.KSortTup
import PyProof.Rows.SortStr
import PyProof.DictItems
import KE.KPairComp
import KE.KUnpack
import PyProof.P3Eq
import PyProof.Rows.SetFrom
import PySem.Challenge.RW_mostwise_k14_beats_and_things
set_option Elab.async false
set_option linter.all false
set_option maxRecDepth 100000
set_option maxHeartbeats 4000000
namespace L2
open PySem PySem.Spec PyProof.Rows
abbrev Key := Sum Int Str
def keyIs : Key → Value → Bool
  | .inl k, v => Value.isInt k v
  | .inr x, v => Value.isStrOf x v
def keyH (w : World) : Key → Int
  | .inl k => hashInt k
  | .inr x => hashStr w x
theorem keyIs_shape : ∀ {k : Key} {v : Value}, keyIs k v = true → (∃ i t, k = Sum.inl i ∧ v = Value.int i t) ∨ (∃ x t, k = Sum.inr x ∧ v = Value.str x t)
  | .inl i, v, h => by
    obtain ⟨t, e⟩ := Value.isInt_shape (k := i) (v := v) h
    exact .inl ⟨i, t, rfl, e⟩
  | .inr x, v, h => by
    obtain ⟨t, e⟩ := Value.isStrOf_shape (x := x) (v := v) h
    exact .inr ⟨x, t, rfl, e⟩
theorem keyIs_str (x : Str) (t : Tok) : keyIs (.inr x) (.str x t) = true := by simp [keyIs, Value.isStrOf]
theorem key_ll (a b : Int) : decide ((Sum.inl a : Key) = Sum.inl b) = (a == b) := by
  by_cases e : a = b
  · subst e; simp
  · have h : ¬ (Sum.inl a : Key) = Sum.inl b := fun q => e (Sum.inl.inj q)
    rw [decide_eq_false h]
    exact (beq_eq_false_iff_ne.mpr e).symm
theorem key_rr (a b : Str) : decide ((Sum.inr a : Key) = Sum.inr b) = decide (a = b) := by
  by_cases e : a = b
  · subst e; simp
  · have h : ¬ (Sum.inr a : Key) = Sum.inr b := fun q => e (Sum.inr.inj q)
    rw [decide_eq_false h, decide_eq_false e]
theorem key_lr (a : Int) (b : Str) : decide ((Sum.inl a : Key) = Sum.inr b) = false := decide_eq_false (fun q => nomatch q)
theorem key_rl (a : Str) (b : Int) : decide ((Sum.inr a : Key) = Sum.inl b) = false := decide_eq_false (fun q => nomatch q)
def mixKind (prog : Program) (w : World) : PySem.KeyKind prog w Key where
  is := keyIs
  hash := keyH w
  inj := fun v a b ha hb => by
    rcases keyIs_shape ha with ⟨i, t, rfl, rfl⟩ | ⟨x, t, rfl, rfl⟩
    · rcases keyIs_shape hb with ⟨j, u, rfl, e⟩ | ⟨y, u, rfl, e⟩
      · injection e with e1 _; rw [e1]
      · exact nomatch e
    · rcases keyIs_shape hb with ⟨j, u, rfl, e⟩ | ⟨y, u, rfl, e⟩
      · exact nomatch e
      · injection e with e1 _; rw [e1]
  byValue := fun k v h => by
    rcases keyIs_shape h with ⟨i, t, rfl, rfl⟩ | ⟨x, t, rfl, rfl⟩ <;> rfl
  pyHash := fun hv h => by
    rcases keyIs_shape hv with ⟨i, t, rfl, rfl⟩ | ⟨x, t, rfl, rfl⟩
    · exact wpAny_pyHash_int h
    · exact wpAny_pyHash_str h
  eqBool := fun hu hv h => by
    rcases keyIs_shape hu with ⟨i, t, rfl, rfl⟩ | ⟨x, t, rfl, rfl⟩
    · rcases keyIs_shape hv with ⟨j, u, rfl, rfl⟩ | ⟨y, u, rfl, rfl⟩
      · rw [key_ll] at h; exact wpAny_eqBool_int h
      · rw [key_lr] at h; exact SeqAt.EqAt.int_str i t y u _ _ _ _ h
    · rcases keyIs_shape hv with ⟨j, u, rfl, rfl⟩ | ⟨y, u, rfl, rfl⟩
      · rw [key_rl] at h; exact SeqAt.EqAt.str_int x t j u _ _ _ _ h
      · rw [key_rr] at h; exact wpAny_eqBool_str h
  «strs» := fun k x t v h => by
    rcases keyIs_shape h with ⟨i, u, rfl, e⟩ | ⟨y, u, rfl, e⟩
    · exact nomatch e
    · injection e with e1 _
      subst e1
      cases v <;> rfl
theorem mixKind_str (prog : Program) (w : World) (x : Str) (t : Tok) : (mixKind prog w).is (.inr x) (.str x t) = true := keyIs_str x t
end L2
namespace L2
open PySem PySem.Spec PyProof.Rows
inductive V where
  | non | bl (b : Bool) | int (i : Int) | str (x : Str) | byt (b : Array UInt8) | flt (b : UInt64) | ref (a : Addr) | ty (n : String)
  deriving DecidableEq
def RelV : V → Value → Prop
  | .non, u => u = Value.none
  | .bl b, u => u = Value.bool b
  | .int i, u => ∃ t, u = Value.int i t
  | .str x, u => ∃ t, u = Value.str x t
  | .byt b, u => ∃ t, u = Value.bytes b t
  | .flt b, u => ∃ t, u = Value.float b t
  | .ref a, u => u = Value.ref a
  | .ty n, u => u = Value.type n
abbrev Vals : List V → List Value → Prop := Paired RelV
theorem Vals.length {xs : List V} {us : List Value} (r : Vals xs us) : xs.length = us.length := Paired.length r
theorem Vals.get : ∀ {xs : List V} {us : List Value} {i : Nat} {x : V}, Vals xs us → xs[i]? = some x → ∃ u, us[i]? = some u ∧ RelV x u
  | _, _, _, _, .nil, e => by simp at e
  | _, _, 0, _, .cons r _, e => by simp at e; subst e; exact ⟨_, rfl, r⟩
  | _, _, i + 1, x, .cons _ t, e => by
    obtain ⟨u, h1, h2⟩ := Vals.get (i := i) (x := x) t (by simpa using e)
    exact ⟨u, by simpa using h1, h2⟩
theorem Vals.set {x : V} {u : Value} (r : RelV x u) : ∀ {xs : List V} {us : List Value} (i : Nat), Vals xs us → Vals (xs.set i x) (us.set i u)
  | _, _, _, .nil => .nil
  | _, _, 0, .cons _ t => .cons r t
  | _, _, i + 1, .cons q t => .cons q (Vals.set r i t)
theorem Vals.append : ∀ {xs ys : List V} {us ws : List Value}, Vals xs us → Vals ys ws → Vals (xs ++ ys) (us ++ ws)
  | _, _, _, _, .nil, s => s
  | _, _, _, _, .cons r t, s => .cons r (Vals.append t s)
theorem Vals.take : ∀ {xs : List V} {us : List Value} (n : Nat), Vals xs us → Vals (xs.take n) (us.take n)
  | _, _, 0, _ => .nil
  | _, _, _ + 1, .nil => .nil
  | _, _, n + 1, .cons r t => .cons r (Vals.take n t)
theorem Vals.drop : ∀ {xs : List V} {us : List Value} (n : Nat), Vals xs us → Vals (xs.drop n) (us.drop n)
  | _, _, 0, r => r
  | _, _, _ + 1, .nil => .nil
  | _, _, n + 1, .cons _ t => Vals.drop n t
def RelO : Option V → Option Value → Prop
  | some v, some u => RelV v u
  | none, none => True
  | _, _ => False
def KV {κ : Type} : List (κ × V) → List (κ × Value) → Prop := Paired fun (p : κ × V) (q : κ × Value) => p.1 = q.1 ∧ RelV p.2 q.2
def kV : Key → V
  | .inl i => .int i
  | .inr x => .str x
inductive HO where
  | lst (xs : List V)
  | tup (xs : List V)
  | dK (kvs : List (Key × V)) | dT (kvs : List (List Key × V))
  | set (S : Int → Bool) (n : Nat)
  | ins (C dx : Addr) (fs : List (Str × V))
  | own (x : Addr)
  | xd (fs : List (Str × V))
  | met (f x : Addr)
  | rng (lo hi : Int)
  | frz (o : Obj) (u : HO)
  | tbl (ps : Array Value)
  | ext (φ : Heap → Prop)
abbrev Hp := Addr → Option HO
def upd (H : Hp) (a : Addr) (o : HO) : Hp := fun b => if b = a then some o else H b
theorem upd_same {H : Hp} {a : Addr} {o : HO} : upd H a o a = some o := by unfold upd; rw [if_pos rfl]
theorem upd_ne {H : Hp} {a b : Addr} {o : HO} (h : b ≠ a) : upd H a o b = H b := by unfold upd; rw [if_neg h]
theorem ne_of_none {H : Hp} {a b : Addr} {o : HO} (h : H a = some o) (h' : H b = none) : a ≠ b := by
  intro e; subst e; rw [h] at h'; cases h'
section
variable (P : Program) (w : World)
def ObjOk (H : Hp) (h : Heap) (a : Addr) : HO → Prop
  | .lst xs => xs.length ≤ sizeLine ∧ ∃ (its : List Value) (n : Nat), Vals xs its ∧ h.get? a = some { cls := .type "list", data := .seq its.toArray n }
  | .tup xs => xs.length ≤ sizeLine ∧ ∃ its : List Value, Vals xs its ∧ IsTup h a its.toArray
  | .dK kvs => kvs.length ≤ sizeLine ∧ (a == sysModules) = false ∧ ∃ vs, KV kvs vs ∧ h.DictOf (mixKind P w) a vs
  | .dT kvs => kvs.length ≤ sizeLine ∧ (a == sysModules) = false ∧ ∃ xs : List (List Key × Addr × Value),
      Paired (fun (p : List Key × V) (q : List Key × Addr × Value) => p.1 = q.1 ∧ H q.2.1 = some (.tup (p.1.map kV)) ∧ RelV p.2 q.2.2) kvs xs ∧
      ∃ o es ep, h.get? a = some o ∧ o.ExactDict ∧ o.data = .dict es ep ∧ es.toList = xs.map (entryOfKey (tupleKind (mixKind P w))) ∧ (xs.map (·.1)).Nodup
  | .set S n => h.SetOf (intKind P w) a S n
  | .ins C dx fs => H dx = some (.own a) ∧ fs.length ≤ 1000 ∧ dx ≠ a ∧ h.get? a = some (PySem.W.instObj C dx) ∧
      ∃ mA, h.Ns1 dx mA ∧ (∀ f, RelO (fs.lookup f) (mA f)) ∧ PySem.Within mA (fs.map (·.1))
  | .own _ => ∃ o, h.get? a = some o
  | .xd fs => ∃ mA, h.Ns1 a mA ∧ ∀ f, RelO (fs.lookup f) (mA f)
  | .rng lo hi => ∃ t u v, h.get? a = some { cls := .type "range", data := .fields #[.int lo t, .int hi u, .int 1 v] }
  | .frz o u => h.get? a = some o ∧ ObjOk H h a u
  | .tbl ps => h.get? a = some { cls := .none, data := .fields ps }
  | .met f x => h.get? a = some (PySem.W.methodObj (.ref f) (.ref x))
  | .ext φ => φ h ∧ (∃ o, h.get? a = some o) ∧ ∀ h1 h2 : Heap, φ h1 → (∀ o, h1.get? a = some o → h2.get? a = some o) → φ h2
def HOk (H : Hp) (h : Heap) : Prop := ∀ a o, H a = some o → ObjOk P w H h a o
end
section
variable {P : Program} {w : World} {H H' : Hp} {h h' : Heap} {a : Addr} {o : HO}
theorem ObjOk.lt (x : ObjOk P w H h a o) : a < h.objs.size := by
  cases o with
  | lst xs => obtain ⟨_, _, _, _, e⟩ := x; exact Heap.lt_size e
  | tup xs => obtain ⟨_, _, _, p⟩ := x; exact p.lt
  | dK kvs => obtain ⟨_, _, _, _, o, _, _, e, _⟩ := x; exact Heap.lt_size e
  | dT kvs => obtain ⟨_, _, _, _, o, _, _, e, _⟩ := x; exact Heap.lt_size e
  | set S n => obtain ⟨o, _, _, _, e, _⟩ := x; exact Heap.lt_size e
  | ins C dx fs => obtain ⟨_, _, _, e, _⟩ := x; exact Heap.lt_size e
  | own y => obtain ⟨_, e⟩ := x; exact Heap.lt_size e
  | xd fs => obtain ⟨_, ⟨_, _, _, e, _⟩, _⟩ := x; exact Heap.lt_size e
  | rng lo hi => obtain ⟨_, _, _, e⟩ := x; exact Heap.lt_size e
  | frz ob u => obtain ⟨e, _⟩ := x; exact Heap.lt_size e
  | tbl ps => exact Heap.lt_size (show h.get? a = some _ from x)
  | met f y => exact Heap.lt_size (show h.get? a = some _ from x)
  | ext φ => obtain ⟨_, ⟨_, e⟩, _⟩ := x; exact Heap.lt_size e
theorem Paired.mapP {α β : Type} {F G : α → β → Prop} : ∀ {l₁ : List α} {l₂ : List β}, Paired F l₁ l₂ → (∀ a b, F a b → G a b) → Paired G l₁ l₂
  | _, _, .nil, _ => .nil
  | _, _, .cons r t, f => .cons (f _ _ r) (Paired.mapP t f)
theorem ObjOk.stay (x : ObjOk P w H h a o) (k : ∀ b u, (b = a ∨ H b = some (.own a)) → h.get? b = some u → h'.get? b = some u)
    (ho : ∀ b, H b = some (.own a) → H' b = some (.own a)) (ht : ∀ b xs, H b = some (.tup xs) → H' b = some (.tup xs)) : ObjOk P w H' h' a o := by
  induction o with
  | lst xs => obtain ⟨z, its, n, r, e⟩ := x; exact ⟨z, its, n, r, k _ _ (.inl rfl) e⟩
  | tup xs => obtain ⟨z, its, r, ob, e, c⟩ := x; exact ⟨z, its, r, ob, k _ _ (.inl rfl) e, c⟩
  | dK kvs => obtain ⟨z, y, vs, r, ob, es, ep, e, c⟩ := x; exact ⟨z, y, vs, r, ob, es, ep, k _ _ (.inl rfl) e, c⟩
  | dT kvs =>
    obtain ⟨z, y, xs, r, ob, es, ep, e, c⟩ := x
    exact ⟨z, y, xs, Paired.mapP r fun p q z => ⟨z.1, ht _ _ z.2.1, z.2.2⟩, ob, es, ep, k _ _ (.inl rfl) e, c⟩
  | set S n => obtain ⟨ob, es, ep, t, e, c⟩ := x; exact ⟨ob, es, ep, t, k _ _ (.inl rfl) e, c⟩
  | ins C dx fs =>
    obtain ⟨d, z, ne, e, mA, ⟨od, es, ep, e2, c⟩, r⟩ := x
    exact ⟨ho _ d, z, ne, k _ _ (.inl rfl) e, mA, ⟨od, es, ep, k _ _ (.inr d) e2, c⟩, r⟩
  | own y => obtain ⟨ob, e⟩ := x; exact ⟨ob, k _ _ (.inl rfl) e⟩
  | xd fs => obtain ⟨mA, ⟨od, es, ep, e, c⟩, r⟩ := x; exact ⟨mA, ⟨od, es, ep, k _ _ (.inl rfl) e, c⟩, r⟩
  | rng lo hi => obtain ⟨t, u, v, e⟩ := x; exact ⟨t, u, v, k _ _ (.inl rfl) e⟩
  | frz ob u ih => obtain ⟨e, q⟩ := x; exact ⟨k _ _ (.inl rfl) e, ih q⟩
  | tbl ps =>
    have e : h.get? a = some { cls := .none, data := .fields ps } := x
    show h'.get? a = some { cls := .none, data := .fields ps }
    exact k a _ (.inl rfl) e
  | met f y =>
    have e : h.get? a = some (PySem.W.methodObj (.ref f) (.ref y)) := x
    show h'.get? a = some (PySem.W.methodObj (.ref f) (.ref y))
    exact k a _ (.inl rfl) e
  | ext φ => obtain ⟨p, ⟨o, e⟩, st⟩ := x; exact ⟨st _ _ p fun o q => k _ _ (.inl rfl) q, ⟨o, k _ _ (.inl rfl) e⟩, st⟩
theorem HOk.lt (x : HOk P w H h) (e : H a = some o) : a < h.objs.size := (x a o e).lt
theorem HOk.fresh (x : HOk P w H h) (e : h.objs.size ≤ a) : H a = none := by
  cases q : H a with
  | none => rfl
  | some u => exact absurd (Nat.lt_of_lt_of_le (x.lt q) e) (Nat.lt_irrefl _)
theorem HOk.kept (x : HOk P w H h) (k : ∀ b u, h.get? b = some u → h'.get? b = some u) : HOk P w H h' := fun a o e =>
  (x a o e).stay (fun b u _ q => k b u q) (fun _ q => q) fun _ _ q => q
theorem HOk.laid (x : HOk P w H h) (k : ∀ b u, h.get? b = some u → h'.get? b = some u) (hp : h.objs.size ≤ a) (new : ObjOk P w (upd H a o) h' a o) : HOk P w (upd H a o) h' := fun b u e => by
  have hn := x.fresh hp
  by_cases hb : b = a
  · subst hb; rw [upd_same] at e; cases e; exact new
  · rw [upd_ne hb] at e
    exact (x b u e).stay (fun c v _ q => k c v q) (fun c q => by rw [upd_ne (ne_of_none q hn)]; exact q) fun c xs q => by rw [upd_ne (ne_of_none q hn)]; exact q
end
def Rd (H : Hp) (a : Addr) (u : HO) : Prop := H a = some u ∨ ∃ o, H a = some (.frz o u)
theorem Rd.of {H : Hp} {a : Addr} {u : HO} (h : H a = some u) : Rd H a u := .inl h
theorem Rd.ok {P : Program} {w : World} {H : Hp} {h : Heap} {a : Addr} {u : HO} (r : Rd H a u) (x : HOk P w H h) : ObjOk P w H h a u := by
  rcases r with r | ⟨o, r⟩
  · exact x a u r
  · obtain ⟨_, q⟩ := x a _ r
    exact q
def Mut : Option HO → Prop
  | some (.lst _) => True
  | some (.dK _) => True
  | some (.dT _) => True
  | some (.set _ _) => True
  | some (.ins _ _ _) => True
  | some (.ext _) => True
  | _ => False
section
variable {P : Program} {w : World} {H : Hp} {h h' : Heap} {x e : Addr} {o' : HO}
theorem HOk.write (ok : HOk P w H h) (mu : Mut (H x)) (he : e = x ∨ H e = some (.own x)) (k : ∀ b u, b ≠ e → h.get? b = some u → h'.get? b = some u) (heo : ∃ u, h'.get? e = some u)
    (new : ObjOk P w (upd H x o') h' x o') : HOk P w (upd H x o') h' := fun b u q => by
  have nown : ∀ c y, H c = some (.own y) → c ≠ x := fun c y r z => by subst z; rw [r] at mu; exact mu
  have ntup : ∀ c xs, H c = some (.tup xs) → c ≠ x := fun c xs r z => by subst z; rw [r] at mu; exact mu
  by_cases hb : b = x
  · subst hb; rw [upd_same] at q; cases q; exact new
  · rw [upd_ne hb] at q
    by_cases hbe : b = e
    · have q' : H b = some (.own x) := by
        rcases he with z | z
        · exact absurd (hbe.trans z) hb
        · rw [hbe]; exact z
      rw [q] at q'; cases q'
      obtain ⟨v, hv⟩ := heo
      exact ⟨v, by rw [hbe]; exact hv⟩
    · refine (ok b u q).stay (fun c v hc r => k c v ?_ r) (fun c r => by rw [upd_ne (nown c b r)]; exact r) fun c xs r => by rw [upd_ne (ntup c xs r)]; exact r
      rcases hc with rfl | hc
      · exact hbe
      · rintro rfl
        rcases he with z | z
        · exact nown c b hc z
        · rw [hc] at z; cases z; exact hb rfl
end
structure Un (fs ex : List Addr) (H H' : Hp) (h h' : Heap) : Prop where
  keep : ∀ b o, h.get? b = some o → H b = none → b ∉ fs → b ∉ ex → h'.get? b = some o
  slot : ∀ b o, h.get? b = some o → H b = none → b ∈ fs → b ∉ ex → ∃ sl, h'.get? b = some { o with slots := sl }
  free : ∀ b o, h.get? b = some o → H b = none → b ∉ ex → H' b = none
  there : ∀ b o, h.get? b = some o → b ∉ ex → ∃ o', h'.get? b = some o'
  tups : ∀ b xs, H b = some (.tup xs) → H' b = some (.tup xs)
  frzs : ∀ b o u, H b = some (.frz o u) → H' b = some (.frz o u)
  tbls : ∀ b ps, H b = some (.tbl ps) → ∃ more, H' b = some (.tbl (ps ++ more))
section
variable {fs fs' ex ex' : List Addr} {H H1 H2 : Hp} {h h1 h2 h' : Heap} {a x e : Addr} {o : HO}
theorem Un.any (u : Un fs ex H H1 h h1) {b : Addr} {ob : Obj} (q : h.get? b = some ob) (n : H b = none) (hx : b ∉ ex) : ∃ sl, h1.get? b = some { ob with slots := sl } := by
  by_cases hb : b ∈ fs
  · exact u.slot b ob q n hb hx
  · exact ⟨ob.slots, u.keep b ob q n hb hx⟩
theorem Un.trans (a : Un fs ex H H1 h h1) (b : Un fs ex H1 H2 h1 h2) : Un fs ex H H2 h h2 where
  keep := fun c ob q n hc hx => b.keep c ob (a.keep c ob q n hc hx) (a.free c ob q n hx) hc hx
  slot := fun c ob q n hc hx => by
    obtain ⟨sl, e1⟩ := a.slot c ob q n hc hx
    obtain ⟨sl', e2⟩ := b.slot c _ e1 (a.free c ob q n hx) hc hx
    exact ⟨sl', e2⟩
  free := fun c ob q n hx => by
    obtain ⟨o', e1⟩ := a.there c ob q hx
    exact b.free c o' e1 (a.free c ob q n hx) hx
  there := fun c ob q hx => by
    obtain ⟨o', e1⟩ := a.there c ob q hx
    exact b.there c o' e1 hx
  tups := fun c xs q => b.tups c xs (a.tups c xs q)
  frzs := fun c ob xs q => b.frzs c ob xs (a.frzs c ob xs q)
  tbls := fun c ps q => by
    obtain ⟨m1, e1⟩ := a.tbls c ps q
    obtain ⟨m2, e2⟩ := b.tbls c _ e1
    exact ⟨m1 ++ m2, by rw [e2, Array.append_assoc]⟩
theorem Un.kept (k : ∀ b u, h.get? b = some u → h'.get? b = some u) : Un fs ex H H h h' :=
  ⟨fun b ob q _ _ _ => k b ob q, fun b ob q _ _ _ => ⟨ob.slots, k b ob q⟩, fun _ _ _ n _ => n, fun b ob q _ => ⟨ob, k b ob q⟩, fun _ _ q => q, fun _ _ _ q => q, fun _ ps q => ⟨#[], by rw [q]; simp⟩⟩
theorem Un.refl : Un fs ex H H h h := Un.kept fun _ _ q => q
theorem Un.laid (k : ∀ b u, h.get? b = some u → h'.get? b = some u) (hp : h.objs.size ≤ a) (hn : H a = none) : Un fs ex H (upd H a o) h h' where
  keep := fun b u q _ _ _ => k b u q
  slot := fun b u q _ _ _ => ⟨u.slots, k b u q⟩
  free := fun b u q n _ => by rw [upd_ne (Nat.ne_of_lt (Nat.lt_of_lt_of_le (Heap.lt_size q) hp))]; exact n
  there := fun b u q _ => ⟨u, k b u q⟩
  tups := fun b xs q => by rw [upd_ne (ne_of_none q hn)]; exact q
  frzs := fun b u xs q => by rw [upd_ne (ne_of_none q hn)]; exact q
  tbls := fun b ps q => ⟨#[], by rw [upd_ne (ne_of_none q hn), q]; simp⟩
theorem Un.write (mu : Mut (H x)) (he : e = x ∨ H e = some (.own x)) (k : ∀ b u, b ≠ e → h.get? b = some u → h'.get? b = some u) (heo : ∃ u, h'.get? e = some u) : Un fs ex H (upd H x o) h h' := by
  have hx : ∀ b, H b = none → b ≠ x := fun b n z => by subst z; rw [n] at mu; exact mu
  have hb : ∀ b, H b = none → b ≠ e := fun b n z => by
    subst z
    rcases he with r | r
    · exact hx b n r
    · rw [n] at r; cases r
  have hm : ∀ b u, H b = some u → ¬ Mut (some u) → b ≠ x := fun b u q nm z => by subst z; rw [q] at mu; exact nm mu
  refine ⟨fun b u q n _ _ => k b u (hb b n) q, fun b u q n _ _ => ⟨u.slots, k b u (hb b n) q⟩, fun b u q n _ => by rw [upd_ne (hx b n)]; exact n, fun b u q _ => ?_,
    fun b xs q => by rw [upd_ne (hm b _ q fun z => z)]; exact q, fun b u xs q => by rw [upd_ne (hm b _ q fun z => z)]; exact q, fun b ps q => ⟨#[], by rw [upd_ne (hm b _ q fun z => z), q]; simp⟩⟩
  by_cases hbe : b = e
  · subst hbe; exact heo
  · exact ⟨u, k b u hbe q⟩
theorem Un.mono (u : Un fs ex H H1 h h1) (hs : ∀ b ∈ fs, b ∈ fs') (hx : ∀ b ∈ ex, b ∈ ex') : Un fs' ex' H H1 h h1 :=
  ⟨fun b ob q n hb he => u.keep b ob q n (fun z => hb (hs b z)) fun z => he (hx b z), fun _ _ q n _ he => u.any q n fun z => he (hx _ z), fun b ob q n he => u.free b ob q n fun z => he (hx b z), fun b ob q he => u.there b ob q fun z => he (hx b z), u.tups, u.frzs, u.tbls⟩
end
def trk (h : Heap) (H : Hp) : List Addr := (List.range h.objs.size).filter fun a => (H a).isSome
def hidT (h : Heap) (H : Hp) : Heap := PySem.W.hideAll h (trk h H)
theorem hidT_size (h : Heap) (H : Hp) : (hidT h H).objs.size = h.objs.size := PySem.W.hideAll_size _ _
theorem hidT_get {h : Heap} {H : Hp} {b : Addr} {o : Obj} (e : h.get? b = some o) (n : H b = none) : (hidT h H).get? b = some o :=
  PySem.W.hideAll_get _ e fun hm => by
    have q : (H b).isSome = true := (List.mem_filter.mp hm).2
    rw [n] at q; simp at q
theorem of_hidT {h : Heap} {H : Hp} {b : Addr} {o : Obj} (e : (hidT h H).get? b = some o) : h.get? b = some o ∧ H b = none := by
  have e' : h.get? b = some o := PySem.W.of_hideAll (trk h H) e
  refine ⟨e', ?_⟩
  cases q : H b with
  | none => rfl
  | some x =>
    have hm : b ∈ trk h H := List.mem_filter.mpr ⟨List.mem_range.mpr (Heap.lt_size e'), by simp [q]⟩
    have z : (hidT h H).get? b = none := PySem.W.hideAll_none (trk h H) hm
    rw [z] at e; cases e
def allNews (g h : Heap) (L : Addr) : List (Addr × Obj) := (List.range h.objs.size).filterMap fun a => if a = L ∨ (g.get? a).isSome = true then none else (h.get? a).map fun o => (a, o)
def rest (g h : Heap) (L d : Addr) : List (Addr × Obj) := (allNews g h L).filter fun p => decide (p.1 ≠ d)
end L2
namespace L2
open PySem PySem.Spec PyProof.Rows
structure Mod (K : PySem.W.Frag) (mg : Str → Option Value) (base : Heap) : Prop where
  kin : K.In base
  glob : base.Ns mainGlobals mg
  blt : ∃ mb, base.Ns builtinsNs mb ∧ ∀ x : Str, x ≠ "__name__" → mb x = bootBuiltins x
  nolimit : base.NoLimit
structure Cx where
  prog : Program
  w : World
  K : PySem.W.Frag
  mg : Str → Option Value
  base : Heap
  A : Around
  N : List Str
  s₀ : Shared
  H₀ : Hp
  env : Env
  outer : List Env
  stack : List Env
  ex : List Addr
  fn : Str → Bool
  calm : Bool
  pn : List (Addr × Obj)
  xe : Value → Shared → Prop
def frs (l : List Env) : List Addr := l.filterMap (·.frame)
abbrev Cx.fs (X : Cx) : List Addr := frs X.outer
def Vis (sc : Scope) (x : Str) : Prop := sc.names.lookup x = some .local ∨ sc.names.lookup x = some .cell ∨ sc.names.lookup x = some .free
def Loc (sc : Scope) (x : Str) : Prop := sc.names.lookup x = some .local ∨ sc.names.lookup x = some .cell
def Look (env : Env) (h : Heap) (m : Str → Option Value) (x : Str) (u : Value) : Prop :=
  (env.kindOf x = some .local ∧ m x = some u) ∨ ((env.kindOf x = some .cell ∨ env.kindOf x = some .free) ∧ ∃ c, env.cells.lookup x = some c ∧ h.IsCell c (some u))
structure Cx.Ok (X : Cx) : Prop where
  mod : Mod X.K X.mg X.base
  kind : X.env.scope.kind = .function
  glob : X.env.globals = mainGlobals
  blt : X.env.builtins = builtinsNs
  above : X.s₀.heap.objs.size ≤ X.env.locals
  inj : ∀ x y c, X.env.cells.lookup x = some c → X.env.cells.lookup y = some c → x = y
  has : ∀ x, (X.env.kindOf x = some .cell ∨ X.env.kindOf x = some .free) → ∃ c, X.env.cells.lookup x = some c
  cab : ∀ x c, X.fn x = true → X.env.cells.lookup x = some c → X.s₀.heap.objs.size ≤ c
  hd : X.calm = true → X.A.handled = none
  frames : X.A.frames = some X.stack
  stk : X.stack = X.outer ∨ (X.stack = X.env :: X.outer ∧ X.env.frame = some X.env.locals)
  exf : ∀ b ∈ X.ex, b ≠ X.env.locals ∧ ∀ x c, X.env.cells.lookup x = some c → c ≠ b
  bs : ∀ b o, X.base.get? b = some o → X.s₀.heap.get? b = some o ∧ X.H₀ b = none
  bsz : X.base.objs.size ≤ X.s₀.heap.objs.size
  noex : ∀ b o, X.base.get? b = some o → b ∉ X.ex
  exfs : ∀ b ∈ X.ex, b ∉ X.fs
  funs : X.s₀.heap.FunFrames X.base X.outer
  frf : ∀ b ∈ X.fs, X.H₀ b = none
structure Inv (X : Cx) (pins : List (Addr × Obj)) (σ : List (Option V)) (H : Hp) (s : Shared) : Prop where
  ok : X.Ok
  os : s.os = X.s₀.os
  bare : AllBare s.gens
  base : Un X.fs X.ex X.H₀ H X.s₀.heap s.heap
  loc : ∃ m, s.heap.Ns X.env.locals m ∧ ∀ (i : Nat) (x : Str) (v : V), X.N[i]? = some x → σ[i]? = some (some v) → Vis X.env.scope x → ∃ u, RelV v u ∧ Look X.env s.heap m x u
  cell : ∀ x c, X.env.cells.lookup x = some c → ∃ v, s.heap.IsCell c v
  free : H X.env.locals = none
  freeC : ∀ x c, X.env.cells.lookup x = some c → H c = none
  pin : ∀ p ∈ X.pn ++ pins, s.heap.get? p.1 = some p.2 ∧ H p.1 = none ∧ p.1 ≠ X.env.locals ∧ p.1 ∉ X.fs ∧ ∀ v, p.2.data ≠ .cell v
  hok : HOk X.prog X.w H s.heap
  len : σ.length = X.N.length
section
variable {X : Cx} {pins : List (Addr × Obj)} {σ : List (Option V)} {H H' : Hp} {s : Shared} {h' : Heap}
theorem Cx.Ok.nofr (ok : X.Ok) {b : Addr} {o : Obj} (e : X.base.get? b = some o) : b ∉ X.fs := fun hb => by
  have := (ok.funs.mem hb).1
  rw [e] at this; cases this
theorem Inv.bs (I : Inv X pins σ H s) : ∀ b o, X.base.get? b = some o → s.heap.get? b = some o ∧ H b = none := fun b o e =>
  ⟨I.base.keep b o (I.ok.bs b o e).1 (I.ok.bs b o e).2 (I.ok.nofr e) (I.ok.noex b o e), I.base.free b o (I.ok.bs b o e).1 (I.ok.bs b o e).2 (I.ok.noex b o e)⟩
theorem Inv.bk (I : Inv X pins σ H s) : ∀ b o, X.base.get? b = some o → s.heap.get? b = some o := fun b o e => (I.bs b o e).1
theorem Inv.mod (I : Inv X pins σ H s) : Mod X.K X.mg X.base := I.ok.mod
theorem Inv.kIn (I : Inv X pins σ H s) : X.K.In s.heap := I.ok.mod.kin.keeps I.bk
theorem Inv.nolimit (I : Inv X pins σ H s) : s.heap.NoLimit := I.ok.mod.nolimit.keeps I.bk
theorem Inv.lt (I : Inv X pins σ H s) : X.env.locals < s.heap.objs.size := let ⟨_, hn, _⟩ := I.loc; hn.lt
theorem Inv.sz (I : Inv X pins σ H s) : X.s₀.heap.objs.size ≤ s.heap.objs.size := Nat.le_trans I.ok.above (Nat.le_of_lt I.lt)
theorem Inv.nofs (I : Inv X pins σ H s) {a : Addr} (h : s.heap.objs.size ≤ a) : a ∉ X.fs := fun hb => by
  obtain ⟨_, o, ho, _⟩ := I.ok.funs.mem hb
  exact absurd (Nat.lt_of_lt_of_le (Heap.lt_size ho) (Nat.le_trans I.sz h)) (Nat.lt_irrefl _)
theorem Inv.cne (I : Inv X pins σ H s) : ∀ x c, X.env.cells.lookup x = some c → c ≠ X.env.locals := fun x c e z => by
  obtain ⟨v, o, ho, hd⟩ := I.cell x c e
  obtain ⟨m, ⟨o', es, ep, ho', hd', _⟩, _⟩ := I.loc
  rw [z, ho'] at ho; cases ho; rw [hd'] at hd; cases hd
theorem Inv.funs (I : Inv X pins σ H s) : s.heap.FunFrames X.base X.outer := by
  have all : ∀ (l : List Env), (∀ b ∈ frs l, b ∈ X.fs) → X.s₀.heap.FunFrames X.base l → s.heap.FunFrames X.base l := by
    intro l
    induction l with
    | nil => intro _ _; trivial
    | cons env r ih =>
      intro hs hl
      obtain ⟨hk, ⟨L, o, hf, hn, ho, hd⟩, hr⟩ := hl
      have hL : L ∈ X.fs := hs L (by unfold frs; rw [List.filterMap_cons, hf]; exact List.mem_cons_self)
      obtain ⟨sl, e⟩ := I.base.slot L o ho (I.ok.frf L hL) hL fun z => I.ok.exfs L z hL
      exact ⟨hk, ⟨L, _, hf, hn, e, hd⟩, ih (fun b hb => hs b (by unfold frs; rw [List.filterMap_cons, hf]; exact List.mem_cons_of_mem _ hb)) hr⟩
  exact all X.outer (fun _ hb => hb) I.ok.funs
theorem Inv.stack (I : Inv X pins σ H s) : s.heap.FunFrames X.base X.stack := by
  rcases I.ok.stk with e | ⟨e, hf⟩
  · rw [e]; exact I.funs
  · rw [e]
    obtain ⟨m, hn, _⟩ := I.loc
    refine .cons (by rw [I.ok.kind]; decide) hf hn ?_ I.funs
    exact Heap.get?_none_of_le (Nat.le_trans I.ok.bsz I.ok.above)
theorem Inv.stkSub (I : Inv X pins σ H s) : ∀ b ∈ frs X.stack, b ∈ X.env.locals :: X.fs := fun b hb => by
  rcases I.ok.stk with e | ⟨e, hf⟩
  · rw [e] at hb; exact List.mem_cons_of_mem _ hb
  · rw [e] at hb
    unfold frs at hb
    rw [List.filterMap_cons, hf] at hb
    exact hb
theorem Inv.stkFree (I : Inv X pins σ H s) : ∀ b ∈ frs X.stack, H b = none := fun b hb => by
  rcases List.mem_cons.mp (I.stkSub b hb) with e | hb
  · rw [e]; exact I.free
  · obtain ⟨_, o, ho, _⟩ := I.ok.funs.mem hb
    exact I.base.free b o ho (I.ok.frf b hb) fun z => I.ok.exfs b z hb
theorem Inv.step {g' : Array GenState} {t' : Nat} {d' : Drawn} {ch : List Addr} (I : Inv X pins σ H s)
    (hch : ∀ b ∈ ch, (b ∈ X.ex ∨ X.s₀.heap.objs.size ≤ b) ∧ b ≠ X.env.locals ∧ (∀ x c, X.env.cells.lookup x = some c → c ≠ b) ∧ ∀ p ∈ X.pn ++ pins, p.1 ≠ b)
    (keep : ∀ b o, b ≠ X.env.locals → b ∉ X.fs → b ∉ ch → s.heap.get? b = some o → H b = none → h'.get? b = some o)
    (slot : ∀ b o, b ≠ X.env.locals → b ∈ X.fs → b ∉ ch → s.heap.get? b = some o → H b = none → ∃ sl, h'.get? b = some { o with slots := sl }) (free : ∀ b o, b ∉ ch → s.heap.get? b = some o → H b = none → H' b = none)
    (there : ∀ b o, b ∉ ch → s.heap.get? b = some o → ∃ o', h'.get? b = some o')
    (tups : ∀ b xs, H b = some (.tup xs) → H' b = some (.tup xs)) (frzs : ∀ b o u, H b = some (.frz o u) → H' b = some (.frz o u)) (tbls : ∀ b ps, H b = some (.tbl ps) → ∃ more, H' b = some (.tbl (ps ++ more)))
    (ns : ∀ m, s.heap.Ns X.env.locals m → h'.Ns X.env.locals m) (hok : HOk X.prog X.w H' h') (hg : AllBare g') :
    Inv X pins σ H' { s with heap := h', gens := g', drawn := d', toks := t' } := by
  have neL : ∀ b o, X.s₀.heap.get? b = some o → b ≠ X.env.locals := fun b o e => Nat.ne_of_lt (Nat.lt_of_lt_of_le (Heap.lt_size e) I.ok.above)
  have neC : ∀ b o, X.s₀.heap.get? b = some o → b ∉ X.ex → b ∉ ch := fun b o e hx hb => by
    rcases (hch b hb).1 with z | z
    · exact hx z
    · exact absurd (Nat.lt_of_lt_of_le (Heap.lt_size e) z) (Nat.lt_irrefl _)
  have cellK : ∀ x c, X.env.cells.lookup x = some c → ∀ v, s.heap.IsCell c v → h'.IsCell c v := fun x c e v ⟨o, ho, hd⟩ => by
    have nch : c ∉ ch := fun z => (hch c z).2.2.1 x c e rfl
    by_cases hc : c ∈ X.fs
    · obtain ⟨sl, q⟩ := slot c o (I.cne x c e) hc nch ho (I.freeC x c e)
      exact ⟨_, q, hd⟩
    · exact ⟨o, keep c o (I.cne x c e) hc nch ho (I.freeC x c e), hd⟩
  refine ⟨I.ok, I.os, hg, ⟨fun b o e n hb hx => ?_, fun b o e n hb hx => ?_, fun b o e n hx => ?_, fun b o e hx => ?_, fun b xs e => tups b xs (I.base.tups b xs e), fun b o xs e => frzs b o xs (I.base.frzs b o xs e), fun b ps e => ?_⟩, ?_, fun x c e => ?_, ?_, fun x c e => ?_, fun p hp => ?_, hok, I.len⟩
  · exact keep b o (neL b o e) hb (neC b o e hx) (I.base.keep b o e n hb hx) (I.base.free b o e n hx)
  · obtain ⟨sl, e1⟩ := I.base.slot b o e n hb hx
    obtain ⟨sl', e2⟩ := slot b _ (neL b o e) hb (neC b o e hx) e1 (I.base.free b o e n hx)
    exact ⟨sl', e2⟩
  · obtain ⟨o', e1⟩ := I.base.there b o e hx
    exact free b o' (neC b o e hx) e1 (I.base.free b o e n hx)
  · obtain ⟨o', e1⟩ := I.base.there b o e hx
    exact there b o' (neC b o e hx) e1
  · obtain ⟨m1, e1⟩ := I.base.tbls b ps e
    obtain ⟨m2, e2⟩ := tbls b _ e1
    exact ⟨m1 ++ m2, by rw [e2, Array.append_assoc]⟩
  · obtain ⟨m, hn, hl⟩ := I.loc
    refine ⟨m, ns m hn, fun i x v e1 e2 e3 => ?_⟩
    obtain ⟨u, r, l⟩ := hl i x v e1 e2 e3
    refine ⟨u, r, ?_⟩
    rcases l with l | ⟨k, c, e, z⟩
    · exact .inl l
    · exact .inr ⟨k, c, e, cellK x c e _ z⟩
  · obtain ⟨v, z⟩ := I.cell x c e
    exact ⟨v, cellK x c e v z⟩
  · obtain ⟨m, ⟨o, _, _, ho, _⟩, _⟩ := I.loc
    exact free _ o (fun z => (hch _ z).2.1 rfl) ho I.free
  · obtain ⟨v, o, ho, hd⟩ := I.cell x c e
    exact free c o (fun z => (hch c z).2.2.1 x c e rfl) ho (I.freeC x c e)
  · obtain ⟨e, n, ne, nf, d⟩ := I.pin p hp
    have nch : p.1 ∉ ch := fun z => (hch p.1 z).2.2.2 p hp rfl
    exact ⟨keep p.1 p.2 ne nf nch e n, free p.1 p.2 nch e n, ne, nf, d⟩
theorem Inv.un {t' : Nat} (I : Inv X pins σ H s) (u : Un X.fs [] H H' s.heap h') (hok : HOk X.prog X.w H' h') : Inv X pins σ H' { s with heap := h', toks := t' } := by
  obtain ⟨m, ⟨o, es, ep, ho, r⟩, _⟩ := id I.loc
  obtain ⟨sl, hL⟩ := u.any ho I.free (by simp)
  exact I.step (g' := s.gens) (d' := s.drawn) (ch := []) (fun _ z => nomatch z) (fun b o _ hb _ e n => u.keep b o e n hb (by simp)) (fun b o _ hb _ e n => u.slot b o e n hb (by simp)) (fun b o _ e n => u.free b o e n (by simp)) (fun b o _ e => u.there b o e (by simp)) u.tups u.frzs u.tbls (fun m' hm => by
    obtain ⟨o', es', ep', ho', r'⟩ := hm
    rw [ho] at ho'; cases ho'
    exact ⟨_, es', ep', hL, r'⟩) hok I.bare
theorem Inv.call {g' : Array GenState} {t' : Nat} {d' : Drawn} {ch : List Addr} (I : Inv X pins σ H s) (u : Un (frs X.stack) ch H H' s.heap h') (hok : HOk X.prog X.w H' h') (hg : AllBare g')
    (hch : ∀ b ∈ ch, (b ∈ X.ex ∨ X.s₀.heap.objs.size ≤ b) ∧ b ≠ X.env.locals ∧ (∀ x c, X.env.cells.lookup x = some c → c ≠ b) ∧ ∀ p ∈ X.pn ++ pins, p.1 ≠ b) :
    Inv X pins σ H' { s with heap := h', gens := g', drawn := d', toks := t' } := by
  obtain ⟨m, ⟨o, es, ep, ho, r⟩, _⟩ := id I.loc
  obtain ⟨sl, hL⟩ := u.any ho I.free fun z => (hch _ z).2.1 rfl
  exact I.step (ch := ch) hch (fun b o hL hb hc e n => u.keep b o e n (fun z => (List.mem_cons.mp (I.stkSub b z)).elim hL hb) hc) (fun b o _ _ hc e n => u.any e n hc) (fun b o hc e n => u.free b o e n hc) (fun b o hc e => u.there b o e hc) u.tups u.frzs u.tbls (fun m' hm => by
    obtain ⟨o', es', ep', ho', r'⟩ := hm
    rw [ho] at ho'; cases ho'
    exact ⟨_, es', ep', hL, r'⟩) hok hg
theorem Inv.turned {t' : Nat} {it : Addr} (I : Inv X pins σ H s) (k : ∀ b o, b ≠ it → s.heap.get? b = some o → h'.get? b = some o) (hn : H it = none) (hL : it ≠ X.env.locals)
    (h1 : it ∈ X.ex ∨ X.s₀.heap.objs.size ≤ it) (h2 : ∀ x c, X.env.cells.lookup x = some c → c ≠ it) (h3 : ∀ p ∈ X.pn ++ pins, p.1 ≠ it) : Inv X pins σ H { s with heap := h', toks := t' } := by
  have nit : ∀ b u, H b = some u → b ≠ it := fun b u e z => by rw [z, hn] at e; cases e
  refine I.step (g' := s.gens) (d' := s.drawn) (ch := [it]) (fun b hb => ?_) (fun b o _ _ hc e _ => k b o (fun z => hc (by simp [z])) e) (fun b o _ _ hc e _ => ⟨o.slots, k b o (fun z => hc (by simp [z])) e⟩) (fun _ _ _ _ n => n)
    (fun b o hc e => ⟨o, k b o (fun z => hc (by simp [z])) e⟩) (fun _ _ e => e) (fun _ _ _ e => e) (fun b ps e => ⟨#[], by rw [e]; simp⟩) (fun m hm => ?_) (fun b u e => ?_) I.bare
  · have e : b = it := by simpa using hb
    subst e
    exact ⟨h1, hL, h2, h3⟩
  · obtain ⟨o, es, ep, ho, r⟩ := hm
    exact ⟨o, es, ep, k _ o (Ne.symm hL) ho, r⟩
  · refine (I.hok b u e).stay (fun c v hc q => k c v ?_ q) (fun _ q => q) fun _ _ q => q
    rcases hc with z | z
    · rw [z]; exact nit b u e
    · exact nit c _ z
theorem Inv.tok (I : Inv X pins σ H s) (t : Nat) : Inv X pins σ H { s with toks := t } := I.un (h' := s.heap) (t' := t) Un.refl I.hok
theorem Inv.kept {t' : Nat} (I : Inv X pins σ H s) (k : ∀ b u, s.heap.get? b = some u → h'.get? b = some u) : Inv X pins σ H { s with heap := h', toks := t' } := I.un (Un.kept k) (I.hok.kept k)
theorem Inv.laid {a : Addr} {o : HO} {t' : Nat} (I : Inv X pins σ H s) (k : ∀ b u, s.heap.get? b = some u → h'.get? b = some u) (hp : s.heap.objs.size ≤ a) (new : ObjOk X.prog X.w (upd H a o) h' a o) :
    Inv X pins σ (upd H a o) { s with heap := h', toks := t' } := I.un (Un.laid k hp (I.hok.fresh hp)) (I.hok.laid k hp new)
theorem Inv.write {x e : Addr} {o : HO} {t' : Nat} (I : Inv X pins σ H s) (mu : Mut (H x)) (he : e = x ∨ H e = some (.own x)) (k : ∀ b u, b ≠ e → s.heap.get? b = some u → h'.get? b = some u) (heo : ∃ u, h'.get? e = some u)
    (new : ObjOk X.prog X.w (upd H x o) h' x o) : Inv X pins σ (upd H x o) { s with heap := h', toks := t' } := I.un (Un.write mu he k heo) (I.hok.write mu he k heo new)
theorem Inv.pins_of {pins' : List (Addr × Obj)} (I : Inv X pins σ H s) (h : ∀ p ∈ pins', s.heap.get? p.1 = some p.2 ∧ H p.1 = none ∧ p.1 ≠ X.env.locals ∧ p.1 ∉ X.fs ∧ ∀ v, p.2.data ≠ .cell v) : Inv X pins' σ H s :=
  ⟨I.ok, I.os, I.bare, I.base, I.loc, I.cell, I.free, I.freeC, fun p hp => (List.mem_append.mp hp).elim (fun z => I.pin p (List.mem_append_left _ z)) (h p), I.hok, I.len⟩
theorem nodup_ix {N : List Str} (hN : N.Nodup) {i j : Nat} {x : Str} (a : N[i]? = some x) (b : N[j]? = some x) : i = j := by
  obtain ⟨h1, e1⟩ := List.getElem?_eq_some_iff.mp a
  obtain ⟨h2, e2⟩ := List.getElem?_eq_some_iff.mp b
  exact (List.getElem_inj hN).mp (e1.trans e2.symm)
theorem store_ok2 {M : Model} {A : Around} {E : Value → Shared → Prop} {i : Nat} {x : Str} {v : V} {u : Value} {Q : Unit → Shared → Prop} (I : Inv X pins σ H s) (hN : X.N.Nodup) (hi : X.N[i]? = some x) (hx : Loc X.env.scope x) (r : RelV v u)
    (h : ∀ s', Inv X pins (σ.set i (some v)) H s' → (∃ a, Heap.SameBut a s.heap s'.heap ∧ (a = X.env.locals ∨ X.env.cells.lookup x = some a)) → Q () s') (hf : X.fn x = true ∨ X.env.scope.names.lookup x = some .local := by first | exact .inl rfl | exact .inr rfl | assumption) : wpAny M A (storeName X.env x u) Q E s := by
  obtain ⟨m, hn, hl⟩ := id I.loc
  have hcls : (X.env.scope.kind == .class || (X.env.scope.kind == .module && X.env.locals != X.env.globals)) = false := by rw [I.ok.kind]; rfl
  have hiσ : i < σ.length := by rw [I.len]; exact (List.getElem?_eq_some_iff.mp hi).1
  have cne := I.cne
  have tracked : ∀ {a : Addr} {h' : Heap}, (∃ o, s.heap.get? a = some o ∧ H a = none) → Heap.SameBut a s.heap h' → HOk X.prog X.w H h' := fun {a h'} ha hs b ob e => by
    obtain ⟨_, _, hfree⟩ := ha
    refine (I.hok b ob e).stay (fun c w' hc q => (hs.2 c ?_).trans q) (fun _ q => q) fun _ _ q => q
    rintro rfl
    rcases hc with rfl | hc
    · rw [hfree] at e; cases e
    · rw [hfree] at hc; cases hc
  rcases hx with hk | hk
  · refine wpAny_storeName_local hk hn (fun h' hn' hs => ?_) hcls
    obtain ⟨oL, _, _, hoL, _⟩ := id hn
    refine h _ ⟨I.ok, I.os, I.bare, ⟨fun b o e n hb hx => ?_, fun b o e n hb hx => ?_, I.base.free, fun b o e hx => ?_, I.base.tups, I.base.frzs, I.base.tbls⟩, ⟨_, hn', fun j y v' e1 e2 e3 => ?_⟩, fun y c e => ?_, I.free, I.freeC, fun p hp => ?_, tracked ⟨oL, hoL, I.free⟩ hs, by simpa using I.len⟩ ⟨_, hs, .inl rfl⟩
    · exact (hs.2 b (Nat.ne_of_lt (Nat.lt_of_lt_of_le (Heap.lt_size e) I.ok.above))).trans (I.base.keep b o e n hb hx)
    · obtain ⟨sl, e1⟩ := I.base.slot b o e n hb hx
      exact ⟨sl, (hs.2 b (Nat.ne_of_lt (Nat.lt_of_lt_of_le (Heap.lt_size e) I.ok.above))).trans e1⟩
    · obtain ⟨o', e1⟩ := I.base.there b o e hx
      exact ⟨o', (hs.2 b (Nat.ne_of_lt (Nat.lt_of_lt_of_le (Heap.lt_size e) I.ok.above))).trans e1⟩
    · by_cases hj : j = i
      · subst hj
        rw [hi] at e1; cases e1
        rw [List.getElem?_set_self hiσ] at e2
        cases e2
        exact ⟨u, r, .inl ⟨hk, by simp⟩⟩
      · rw [List.getElem?_set_ne (Ne.symm hj)] at e2
        obtain ⟨u', r', q⟩ := hl j y v' e1 e2 e3
        refine ⟨u', r', ?_⟩
        rcases q with ⟨k, e⟩ | ⟨k, c, e, z⟩
        · refine .inl ⟨k, ?_⟩
          have : y ≠ x := fun e => hj (nodup_ix hN e1 (e ▸ hi))
          simp [this, e]
        · exact .inr ⟨k, c, e, z.sameBut hs (cne y c e)⟩
    · obtain ⟨w', z⟩ := I.cell y c e
      exact ⟨w', z.sameBut hs (cne y c e)⟩
    · obtain ⟨e, n, ne, nf, d⟩ := I.pin p hp
      exact ⟨(hs.2 p.1 ne).trans e, n, ne, nf, d⟩
  · have hfn : X.fn x = true := by
      rcases hf with z | z
      · exact z
      · rw [z] at hk; cases hk
    obtain ⟨c, hc⟩ := I.ok.has x (.inl hk)
    obtain ⟨w', z⟩ := I.cell x c hc
    refine wpAny_storeName_cell I.ok.kind hk hc z (fun h' hc' hs => ?_)
    obtain ⟨oc, hoc, hocd⟩ := id z
    refine h { s with heap := h' } ⟨I.ok, I.os, I.bare, ⟨fun b o e n hb hx => ?_, fun b o e n hb hx => ?_, I.base.free, fun b o e hx => ?_, I.base.tups, I.base.frzs, I.base.tbls⟩, ⟨m, hn.sameBut hs (Ne.symm (cne x c hc)), fun j y v' e1 e2 e3 => ?_⟩, fun y c' e => ?_, I.free, I.freeC, fun p hp => ?_, tracked ⟨oc, hoc, I.freeC x c hc⟩ hs, by simpa using I.len⟩ ⟨c, hs, .inr hc⟩
    · exact (hs.2 b (Nat.ne_of_lt (Nat.lt_of_lt_of_le (Heap.lt_size e) (I.ok.cab x c hfn hc)))).trans (I.base.keep b o e n hb hx)
    · obtain ⟨sl, e1⟩ := I.base.slot b o e n hb hx
      exact ⟨sl, (hs.2 b (Nat.ne_of_lt (Nat.lt_of_lt_of_le (Heap.lt_size e) (I.ok.cab x c hfn hc)))).trans e1⟩
    · obtain ⟨o', e1⟩ := I.base.there b o e hx
      exact ⟨o', (hs.2 b (Nat.ne_of_lt (Nat.lt_of_lt_of_le (Heap.lt_size e) (I.ok.cab x c hfn hc)))).trans e1⟩
    · by_cases hj : j = i
      · subst hj
        rw [hi] at e1; cases e1
        rw [List.getElem?_set_self hiσ] at e2
        cases e2
        exact ⟨u, r, .inr ⟨.inl hk, c, hc, hc'⟩⟩
      · rw [List.getElem?_set_ne (Ne.symm hj)] at e2
        obtain ⟨u', r', q⟩ := hl j y v' e1 e2 e3
        refine ⟨u', r', ?_⟩
        rcases q with q | ⟨k, c', e, z'⟩
        · exact .inl q
        · refine .inr ⟨k, c', e, z'.sameBut hs ?_⟩
          rintro rfl
          exact hj (nodup_ix hN e1 (I.ok.inj _ _ _ e hc ▸ hi))
    · by_cases hcc : c' = c
      · subst hcc; exact ⟨_, hc'⟩
      · obtain ⟨w2, z2⟩ := I.cell y c' e
        exact ⟨w2, z2.sameBut hs hcc⟩
    · obtain ⟨e, n, ne, nf, d⟩ := I.pin p hp
      refine ⟨(hs.2 p.1 ?_).trans e, n, ne, nf, d⟩
      intro q
      rw [q, hoc] at e
      have q' : oc = p.2 := Option.some.inj e
      exact d w' (by rw [← q']; exact hocd)
theorem store_ok {M : Model} {A : Around} {E : Value → Shared → Prop} {i : Nat} {x : Str} {v : V} {u : Value} {Q : Unit → Shared → Prop} (I : Inv X pins σ H s) (hN : X.N.Nodup) (hi : X.N[i]? = some x) (hx : Loc X.env.scope x) (r : RelV v u)
    (h : ∀ s', Inv X pins (σ.set i (some v)) H s' → Q () s') (hf : X.fn x = true ∨ X.env.scope.names.lookup x = some .local := by first | exact .inl rfl | exact .inr rfl | assumption) : wpAny M A (storeName X.env x u) Q E s :=
  store_ok2 I hN hi hx r (fun s' I' _ => h s' I') hf
theorem Inv.call' {s' : Shared} {ch : List Addr} (I : Inv X pins σ H s) (ho : s'.os = s.os) (u : Un (frs X.stack) ch H H' s.heap s'.heap) (hok : HOk X.prog X.w H' s'.heap) (hg : AllBare s'.gens)
    (hch : ∀ b ∈ ch, (b ∈ X.ex ∨ X.s₀.heap.objs.size ≤ b) ∧ b ≠ X.env.locals ∧ (∀ x c, X.env.cells.lookup x = some c → c ≠ b) ∧ ∀ p ∈ X.pn ++ pins, p.1 ≠ b) : Inv X pins σ H' s' := by
  obtain ⟨h', g', d', t', o'⟩ := s'
  have e : o' = s.os := ho
  subst e
  exact I.call (g' := g') (t' := t') (d' := d') u hok hg hch
end
abbrev XK := Value → Option Addr → Hp → Prop
abbrev St := List (Option V)
abbrev VK := V → Hp → Prop
abbrev TE := St → Hp → VK → Prop
abbrev TT := St → Hp → (Bool → Hp → Prop) → Prop
abbrev TA := St → Hp → (List V → Hp → Prop) → Prop
structure Ends where
  nx : St → Hp → Prop
  rt : VK
  bk : St → Hp → Prop := fun _ _ => False
  ct : St → Hp → Prop := fun _ _ => False
abbrev TS := Ends → St → Hp → Prop
def EP (X : Cx) (pins : List (Addr × Obj)) (σ : St) (Q : VK) (u : Value) (s' : Shared) : Prop := ∃ v H', Inv X pins σ H' s' ∧ RelV v u ∧ Q v H'
def TP (X : Cx) (pins : List (Addr × Obj)) (σ : St) (Q : Bool → Hp → Prop) (b : Bool) (s' : Shared) : Prop := ∃ H', Inv X pins σ H' s' ∧ Q b H'
def AP (X : Cx) (pins : List (Addr × Obj)) (σ : St) (Q : List V → Hp → Prop) (us : List Value) (s' : Shared) : Prop := ∃ vs H', Inv X pins σ H' s' ∧ Vals vs us ∧ Q vs H'
def SP (X : Cx) (pins : List (Addr × Obj)) (D : Ends) (f : Flow) (s' : Shared) : Prop :=
  match f with
  | .next => ∃ σ' H', Inv X pins σ' H' s' ∧ D.nx σ' H'
  | .brk => ∃ σ' H', Inv X pins σ' H' s' ∧ D.bk σ' H'
  | .cont => ∃ σ' H', Inv X pins σ' H' s' ∧ D.ct σ' H'
  | .ret u => ∃ v σ' H', Inv X pins σ' H' s' ∧ RelV v u ∧ D.rt v H'
def PE (X : Cx) (e : Expr) (t : TE) : Prop :=
  ∀ (pins : List (Addr × Obj)) (s : Shared) (σ : St) (H : Hp) (Q : VK), Inv X pins σ H s → t σ H Q → wpAny (model X.prog X.w) X.A (eval e X.env) (EP X pins σ Q) X.xe s
def PT (X : Cx) (e : Expr) (t : TT) : Prop :=
  ∀ (pins : List (Addr × Obj)) (s : Shared) (σ : St) (H : Hp) (Q : Bool → Hp → Prop), Inv X pins σ H s → t σ H Q → wpAny (model X.prog X.w) X.A (isTrue e X.env (eval e X.env)) (TP X pins σ Q) X.xe s
def PW (X : Cx) (e : Expr) (t : TT) : Prop :=
  ∀ (whole : Sem Value) (pins : List (Addr × Obj)) (s : Shared) (σ : St) (H : Hp) (Q : Bool → Hp → Prop), Inv X pins σ H s → t σ H Q → wpAny (model X.prog X.w) X.A (isTrue e X.env whole) (TP X pins σ Q) X.xe s
theorem PW.pt {X : Cx} {e : Expr} {t : TT} (h : PW X e t) : PT X e t := h _
def PA (X : Cx) (es : List Expr) (t : TA) : Prop :=
  ∀ (pos : Pos) (pins : List (Addr × Obj)) (s : Shared) (σ : St) (H : Hp) (Q : List V → Hp → Prop), Inv X pins σ H s → t σ H Q → wpAny (model X.prog X.w) X.A (spliced (backTo pos (starEach es X.env))) (AP X pins σ Q) X.xe s
def PS (X : Cx) (st : Stmt) (t : TS) : Prop :=
  ∀ (pins : List (Addr × Obj)) (s : Shared) (σ : St) (H : Hp) (D : Ends), Inv X pins σ H s → t D σ H → wpAny (model X.prog X.w) X.A (exec st X.env) (SP X pins D) X.xe s
def PSs (X : Cx) (st : List Stmt) (t : TS) : Prop :=
  ∀ (pins : List (Addr × Obj)) (s : Shared) (σ : St) (H : Hp) (D : Ends), Inv X pins σ H s → t D σ H → wpAny (model X.prog X.w) X.A (execs st X.env) (SP X pins D) X.xe s
theorem thn {α : Type} {t : Sem α} {Q Q' : α → Shared → Prop} {M : Model} {A : Around} {E : Value → Shared → Prop} {s : Shared} (h : wpAny M A t Q E s) (hQ : ∀ a s, Q a s → Q' a s) : wpAny M A t Q' E s := wpAny_mono h hQ fun _ _ x => x
end L2
namespace L2
open PySem PySem.Spec PyProof.Rows
section
variable {X : Cx}
theorem bin {a b : Expr} {ta tb : TE} (ha : PE X a ta) (hb : PE X b tb) {pins : List (Addr × Obj)} {s : Shared} {σ : St} {H : Hp} {R : V → V → Hp → Prop} (I : Inv X pins σ H s) (h : ta σ H fun x H1 => tb σ H1 fun y H2 => R x y H2)
    {α : Type} {Q : α → Shared → Prop} {f : Value → Value → Sem α}
    (hf : ∀ v u s2 x y H2, Inv X pins σ H2 s2 → RelV x v → RelV y u → R x y H2 → wpAny (model X.prog X.w) X.A (f v u) Q X.xe s2) :
    wpAny (model X.prog X.w) X.A (eval a X.env) (fun v s₁ => wpAny (model X.prog X.w) X.A (eval b X.env) (fun u s₂ => wpAny (model X.prog X.w) X.A (f v u) Q X.xe s₂) X.xe s₁) X.xe s := by
  refine thn (ha pins s σ H _ I h) fun v s1 ⟨x, H1, I1, r1, q1⟩ => ?_
  refine thn (hb pins s1 σ H1 _ I1 q1) fun u s2 ⟨y, H2, I2, r2, q2⟩ => ?_
  exact hf v u s2 x y H2 I2 r1 r2 q2
def tVar (i : Nat) : TE := fun σ H Q => ∃ v, σ[i]? = some (some v) ∧ Q v H
def tC (v : V) : TE := fun _ H Q => Q v H
theorem pe_var {i : Nat} {x : Str} {pos : Pos} (hN : X.N[i]? = some x) (hv : Vis X.env.scope x) (hd : (x == ("__debug__" : Str)) = false := by decide) (hcd : (x == ("__classdict__" : Str)) = false := by decide) : PE X (.Name x pos) (tVar i) := by
  intro pins s σ H Q I h
  obtain ⟨v, e, h⟩ := h
  obtain ⟨m, hn, hl⟩ := I.loc
  obtain ⟨u, r, l⟩ := hl i x v hN e hv
  have fin : EP X pins σ Q u s := ⟨v, H, I, r, h⟩
  rcases l with ⟨hk, hm⟩ | ⟨hk, c, hc, hcell⟩
  · exact wpAny_Name (wpAny_loadName_local I.ok.kind hk hn hm fin) hd
  · rcases hk with hk | hk
    · exact wpAny_Name (wpAny_loadName_cell I.ok.kind hk hc hcell fin) hd
    · exact wpAny_Name (wpAny_loadName_free I.ok.kind hk hc hcell fin hcd) hd
theorem pe_int {i j pos} : PE X (.Constant (.int i) j pos) (tC (.int i)) := fun _ _ _ H _ I h => wpAny_Constant_int ⟨.int i, H, I.tok _, ⟨_, rfl⟩, h⟩
theorem pe_bl {b j pos} : PE X (.Constant (.bool b) j pos) (tC (.bl b)) := fun _ _ _ H _ I h => Constant_bool ⟨.bl b, H, I, rfl, h⟩
theorem pe_non {j pos} : PE X (.Constant .none j pos) (tC .non) := fun _ _ _ H _ I h => Constant_none ⟨.non, H, I, rfl, h⟩
theorem pe_str {x j pos} : PE X (.Constant (.str x) j pos) (tC (.str x)) := fun _ _ _ H _ I h => Calls.Constant_str ⟨.str x, H, I.tok _, ⟨_, rfl⟩, h⟩
def Gl (X : Cx) (x : Str) : Prop := X.env.kindOf x = some .globalImplicit
theorem ld_glob {E : Value → Shared → Prop} {pins : List (Addr × Obj)} {s : Shared} {σ : St} {H : Hp} {x : Str} {u : Value} {pos : Pos} {Q : Value → Shared → Prop} (I : Inv X pins σ H s) (hg : Gl X x) (hm : X.mg x = some u) (h : Q u s)
    (hd : (x == ("__debug__" : Str)) = false := by decide) : wpAny (model X.prog X.w) X.A (eval (.Name x pos) X.env) Q E s :=
  Calls.Name_function_global I.ok.kind hg (Calls.loadGlobal_global (by rw [I.ok.glob]; exact I.mod.glob.keeps I.bk) hm h) hd
theorem ld_blt {E : Value → Shared → Prop} {pins : List (Addr × Obj)} {s : Shared} {σ : St} {H : Hp} {x : Str} {u : Value} {pos : Pos} {Q : Value → Shared → Prop} (I : Inv X pins σ H s) (hg : Gl X x) (hm : X.mg x = none) (hv : bootBuiltins x = some u) (h : Q u s)
    (hn : x ≠ "__name__" := by decide) (hd : (x == ("__debug__" : Str)) = false := by decide) : wpAny (model X.prog X.w) X.A (eval (.Name x pos) X.env) Q E s := by
  obtain ⟨mb, h1, h2⟩ := I.mod.blt
  exact Calls.Name_function_global I.ok.kind hg (Calls.loadGlobal_builtin (by rw [I.ok.glob]; exact I.mod.glob.keeps I.bk) hm (by rw [I.ok.blt]; exact h1.keeps I.bk) ((h2 x hn).trans hv) h) hd
theorem pe_glob {x : Str} {v : V} {u : Value} {pos : Pos} (hg : Gl X x) (hm : X.mg x = some u) (r : RelV v u) (hd : (x == ("__debug__" : Str)) = false := by decide) : PE X (.Name x pos) (tC v) :=
  fun _ _ _ H _ I h => ld_glob I hg hm ⟨v, H, I, r, h⟩ hd
theorem pe_bltn {x : Str} {v : V} {u : Value} {pos : Pos} (hg : Gl X x) (hm : X.mg x = none) (hv : bootBuiltins x = some u) (r : RelV v u) (hn : x ≠ "__name__" := by decide) (hd : (x == ("__debug__" : Str)) = false := by decide) : PE X (.Name x pos) (tC v) :=
  fun _ _ _ H _ I h => ld_blt I hg hm hv ⟨v, H, I, r, h⟩ hn hd
variable {a b : Expr} {ta tb : TE} {pos : Pos}
def tB (t : TE) : TT := fun σ H Q => t σ H fun x H1 => ∃ c, x = .bl c ∧ Q c H1
theorem pt_val {e : Expr} {t : TE} (h : PE X e t) (he : ∀ whole, isTrue e X.env whole = (do let v ← whole; standAt e.pos; holding [v] (truthy v)) := by intro _; rfl) : PT X e (tB t) := by
  intro pins s σ H Q I hw
  refine isTrue_plain (thn (h pins s σ H _ I hw) fun v s1 ⟨x, H1, I1, r1, q1⟩ => ?_) (he _)
  obtain ⟨d, rfl, q⟩ := q1
  cases r1
  exact wpAny_truthy_bool ⟨H1, I1, q⟩
variable {tA tB' : TT} {rest : List Expr}
def tAnd (t u : TT) : TT := fun σ H Q => t σ H fun c H1 => if c = true then u σ H1 Q else Q false H1
def tOr (t u : TT) : TT := fun σ H Q => t σ H fun c H1 => if c = true then Q true H1 else u σ H1 Q
def tNot (t : TT) : TT := fun σ H Q => t σ H fun c H1 => Q (!c) H1
theorem pw_and1 (ha : PT X a tA) : PW X (.BoolOp .And [a] pos) tA := by
  intro wh pins s σ H Q I h
  refine isTrue_and (thn (ha pins s σ H Q I h) fun c s1 e => ?_)
  cases c with
  | true => exact isTrue_and_nil e
  | false => exact e
theorem pw_or1 (ha : PT X a tA) : PW X (.BoolOp .Or [a] pos) tA := by
  intro wh pins s σ H Q I h
  refine isTrue_or (thn (ha pins s σ H Q I h) fun c s1 e => ?_)
  cases c with
  | false => exact isTrue_or_nil e
  | true => exact e
theorem pw_and (ha : PT X a tA) (hb : PW X (.BoolOp .And (b :: rest) pos) tB') : PW X (.BoolOp .And (a :: b :: rest) pos) (tAnd tA tB') := by
  intro wh pins s σ H Q I h
  refine isTrue_and (thn (ha pins s σ H _ I h) fun c s1 ⟨H1, I1, q1⟩ => ?_)
  cases c with
  | true => exact hb wh pins s1 σ H1 Q I1 q1
  | false => exact ⟨H1, I1, q1⟩
theorem pw_or (ha : PT X a tA) (hb : PW X (.BoolOp .Or (b :: rest) pos) tB') : PW X (.BoolOp .Or (a :: b :: rest) pos) (tOr tA tB') := by
  intro wh pins s σ H Q I h
  refine isTrue_or (thn (ha pins s σ H _ I h) fun c s1 ⟨H1, I1, q1⟩ => ?_)
  cases c with
  | true => exact ⟨H1, I1, q1⟩
  | false => exact hb wh pins s1 σ H1 Q I1 q1
theorem pt_not (ha : PT X a tA) : PT X (.UnaryOp .Not a pos) (tNot tA) := by
  intro pins s σ H Q I h
  exact isTrue_not (ha pins s σ H (fun c H1 => Q (!c) H1) I h)
def tAndV (ta tb : TE) : TE := fun σ H Q => ta σ H fun x H1 => ∃ c, x = .bl c ∧ if c = true then tb σ H1 Q else Q (.bl false) H1
theorem pe_one {op} {t : TE} (h : PE X a t) : PE X (.BoolOp op [a] pos) t := fun pins s σ H Q I hw => BoolOp_one (h pins s σ H Q I hw)
theorem pe_and (ha : PE X a ta) (hb : PE X (.BoolOp .And (b :: rest) pos) tb) : PE X (.BoolOp .And (a :: b :: rest) pos) (tAndV ta tb) := by
  intro pins s σ H Q I h
  refine BoolOp_and (thn (ha pins s σ H _ I h) fun v s1 ⟨x, H1, I1, r1, q1⟩ => ?_)
  obtain ⟨c, rfl, q1⟩ := q1
  cases r1
  refine wpAny_truthy_bool ?_
  cases c with
  | true => exact hb pins s1 σ H1 Q I1 q1
  | false => exact ⟨.bl false, H1, I1, rfl, q1⟩
def tIf (t : TT) (ta tb : TE) : TE := fun σ H Q => t σ H fun c H1 => if c = true then ta σ H1 Q else tb σ H1 Q
theorem pe_ifExp {c : Expr} (hc : PT X c tA) (ha : PE X a ta) (hb : PE X b tb) : PE X (.IfExp c a b pos) (tIf tA ta tb) := by
  intro pins s σ H Q I h
  refine wpAny_IfExp (thn (hc pins s σ H _ I h) fun d s1 ⟨H1, I1, q1⟩ => ?_)
  cases d with
  | true => exact ha pins s1 σ H1 Q I1 q1
  | false => exact hb pins s1 σ H1 Q I1 q1
end
end L2
namespace L2
open PySem PySem.Spec PyProof.Rows
def SqL (K : PySem.W.Frag) (H : Hp) (a : Addr) (xs : List V) : Prop :=
  Rd H a (.lst xs) ∨
    ∃ (o : Obj) (its : Array Value) (n : Nat), K.lookup a = some o ∧ o.cls = .type "list" ∧ o.dict = none ∧ o.data = .seq its n ∧ its.size ≤ sizeLine ∧ Vals xs its.toList
def SqT (K : PySem.W.Frag) (H : Hp) (a : Addr) (xs : List V) : Prop :=
  Rd H a (.tup xs) ∨
    ∃ (o : Obj) (its : Array Value) (n : Nat), K.lookup a = some o ∧ o.cls = .type "tuple" ∧ o.data = .seq its n ∧ its.size ≤ sizeLine ∧ Vals xs its.toList
def absV : Value → Option V
  | .none => some .non
  | .bool b => some (.bl b)
  | .int i _ => some (.int i)
  | .str x _ => some (.str x)
  | .bytes b _ => some (.byt b)
  | .float b _ => some (.flt b)
  | .ref a => some (.ref a)
  | .type n => some (.ty n)
  | _ => none
theorem RelV.abs {x : V} {u : Value} (r : RelV x u) : absV u = some x := by
  cases x with
  | non => cases r; rfl
  | bl _ => cases r; rfl
  | int _ => obtain ⟨t, rfl⟩ := r; rfl
  | str _ => obtain ⟨t, rfl⟩ := r; rfl
  | byt _ => obtain ⟨t, rfl⟩ := r; rfl
  | flt _ => obtain ⟨t, rfl⟩ := r; rfl
  | ref _ => cases r; rfl
  | ty _ => cases r; rfl
theorem RelV.inj {x y : V} {u : Value} (r : RelV x u) (q : RelV y u) : x = y := Option.some.inj (r.abs.symm.trans q.abs)
theorem Vals.inj : ∀ {xs ys : List V} {us : List Value}, Vals xs us → Vals ys us → xs = ys
  | _, _, _, .nil, .nil => rfl
  | _, _, _, .cons r t, .cons r' t' => by rw [r.inj r', Vals.inj t t']
section
variable {X : Cx} {pins : List (Addr × Obj)} {σ : St} {H : Hp} {s : Shared} {a : Addr} {xs ys : List V}
theorem SqL.of {K : PySem.W.Frag} (h : H a = some (.lst xs)) : SqL K H a xs := .inl (.inl h)
theorem SqT.of {K : PySem.W.Frag} (h : H a = some (.tup xs)) : SqT K H a xs := .inl (.inl h)
theorem Inv.list (I : Inv X pins σ H s) (h : SqL X.K H a xs) : ∃ its : List Value, Vals xs its ∧ PlainL s.heap a its.toArray ∧ xs.length ≤ sizeLine := by
  rcases h with h | ⟨o, its, n, hk, hc, hd, hs, hz, r⟩
  · obtain ⟨z, its, n, r, e⟩ := h.ok I.hok
    exact ⟨its, r, ⟨_, n, e, rfl, rfl, rfl⟩, z⟩
  · refine ⟨its.toList, r, ⟨o, n, I.kIn a o hk, hc, hd, by simpa using hs⟩, ?_⟩
    have e := r.length
    simp only [Array.length_toList] at e
    omega
theorem Inv.tuple (I : Inv X pins σ H s) (h : SqT X.K H a xs) : ∃ its : List Value, Vals xs its ∧ IsTup s.heap a its.toArray ∧ xs.length ≤ sizeLine := by
  rcases h with h | ⟨o, its, n, hk, hc, hs, hz, r⟩
  · obtain ⟨z, its, r, p⟩ := h.ok I.hok
    exact ⟨its, r, p, z⟩
  · refine ⟨its.toList, r, ⟨o, I.kIn a o hk, hc, n, by simpa using hs⟩, ?_⟩
    have e := r.length
    simp only [Array.length_toList] at e
    omega
theorem Inv.list_inj (I : Inv X pins σ H s) (h : SqL X.K H a xs) (h' : SqL X.K H a ys) : xs = ys := by
  obtain ⟨its, r, ⟨o, n, e, _, _, d⟩, _⟩ := I.list h
  obtain ⟨its', r', ⟨o', n', e', _, _, d'⟩, _⟩ := I.list h'
  rw [e] at e'; cases e'
  rw [d] at d'
  injection d' with d1 _
  have : its = its' := by simpa using congrArg Array.toList d1
  subst this
  exact r.inj r'
end
abbrev Cx.wish (X : Cx) (E : Value → Shared → Prop) : Cx := { X with xe := E }
abbrev Cx.nox (X : Cx) : Cx := X.wish fun _ _ => False
theorem Cx.Ok.wish {X : Cx} (ok : X.Ok) (E : Value → Shared → Prop) : (X.wish E).Ok :=
  ⟨ok.mod, ok.kind, ok.glob, ok.blt, ok.above, ok.inj, ok.has, ok.cab, ok.hd, ok.frames, ok.stk, ok.exf, ok.bs, ok.bsz, ok.noex, ok.exfs, ok.funs, ok.frf⟩
theorem Cx.Ok.unwish {X : Cx} {E : Value → Shared → Prop} (ok : (X.wish E).Ok) : X.Ok :=
  ⟨ok.mod, ok.kind, ok.glob, ok.blt, ok.above, ok.inj, ok.has, ok.cab, ok.hd, ok.frames, ok.stk, ok.exf, ok.bs, ok.bsz, ok.noex, ok.exfs, ok.funs, ok.frf⟩
section
variable {X : Cx} {pins : List (Addr × Obj)} {σ : St} {H : Hp} {s : Shared} {E : Value → Shared → Prop}
theorem Inv.wish (I : Inv X pins σ H s) (E : Value → Shared → Prop) : Inv (X.wish E) pins σ H s := ⟨I.ok.wish E, I.os, I.bare, I.base, I.loc, I.cell, I.free, I.freeC, I.pin, I.hok, I.len⟩
theorem Inv.unwish (I : Inv (X.wish E) pins σ H s) : Inv X pins σ H s := ⟨I.ok.unwish, I.os, I.bare, I.base, I.loc, I.cell, I.free, I.freeC, I.pin, I.hok, I.len⟩
theorem SP.unwish {D : Ends} {f : Flow} {s' : Shared} (h : SP (X.wish E) pins D f s') : SP X pins D f s' := by
  cases f with
  | next => obtain ⟨σ', H', I, q⟩ := h; exact ⟨σ', H', I.unwish, q⟩
  | brk => obtain ⟨σ', H', I, q⟩ := h; exact ⟨σ', H', I.unwish, q⟩
  | cont => obtain ⟨σ', H', I, q⟩ := h; exact ⟨σ', H', I.unwish, q⟩
  | ret u => obtain ⟨v, σ', H', I, r, q⟩ := h; exact ⟨v, σ', H', I.unwish, r, q⟩
theorem PE.nox {e : Expr} {t : TE} (h : PE X.nox e t) : PE X e t := fun pins s σ H Q I hw =>
  wpAny_mono (h pins s σ H Q (I.wish _) hw) (fun _ _ ⟨v, H', I', r, q⟩ => ⟨v, H', I'.unwish, r, q⟩) fun _ _ z => False.elim z
theorem PT.nox {e : Expr} {t : TT} (h : PT X.nox e t) : PT X e t := fun pins s σ H Q I hw =>
  wpAny_mono (h pins s σ H Q (I.wish _) hw) (fun _ _ ⟨H', I', q⟩ => ⟨H', I'.unwish, q⟩) fun _ _ z => False.elim z
theorem PSs.nox {st : List Stmt} {t : TS} (h : PSs X.nox st t) : PSs X st t := fun pins s σ H D I hw =>
  wpAny_mono (h pins s σ H D (I.wish _) hw) (fun _ _ q => q.unwish) fun _ _ z => False.elim z
end
section
variable {X : Cx} {st : Stmt} {rest : List Stmt} {t u : TS} {e : Expr} {te : TE} {pos : Pos}
def tNext : TS := fun D σ H => D.nx σ H
def tSeq (t u : TS) : TS := fun D σ H => t { D with nx := u D } σ H
theorem pss_nil : PSs X [] tNext := fun _ _ σ H _ I h => wpAny_execs_nil ⟨σ, H, I, h⟩
theorem pss_cons (h1 : PS X st t) (h2 : PSs X rest u) : PSs X (st :: rest) (tSeq t u) := by
  intro pins s σ H D I h
  refine wpAny_execs_cons (thn (h1 pins s σ H { D with nx := u D } I h) fun f s1 q => ?_)
  cases f with
  | next =>
    obtain ⟨σ', H', I', q⟩ := q
    exact h2 pins s1 σ' H' D I' q
  | ret v => exact q
  | brk => exact q
  | cont => exact q
theorem pss_one (h1 : PS X st t) : PSs X [st] t := by
  intro pins s σ H D I h
  refine wpAny_execs_cons (thn (h1 pins s σ H D I h) fun f s1 q => ?_)
  cases f with
  | next => exact wpAny_execs_nil q
  | ret v => exact q
  | brk => exact q
  | cont => exact q
theorem Inv.quiet {pins : List (Addr × Obj)} {σ : St} {H : Hp} {s : Shared} (I : Inv X pins σ H s) : interactive X.env = false := by simp [interactive, I.ok.kind]
def tDrop (te : TE) : TS := fun D σ H => te σ H fun _ H1 => D.nx σ H1
theorem ps_expr (he : PE X e te) (hs : swapsWith e none pos.line X.env = pure false := by rfl) : PS X (.Expr e pos) (tDrop te) := by
  intro pins s σ H D I h
  exact wpAny_Expr_any (thn (he pins s σ H _ I h) fun v s1 ⟨x, H1, I1, r1, q1⟩ => ⟨σ, H1, I1, q1⟩) I.quiet hs
def tRet (te : TE) : TS := fun D σ H => te σ H D.rt
theorem ps_ret (he : PE X e te) : PS X (.Return (some e) pos) (tRet te) := by
  intro pins s σ H D I h
  exact wpAny_Return_some (thn (he pins s σ H _ I h) fun v s1 ⟨x, H1, I1, r1, q1⟩ => ⟨x, σ, H1, I1, r1, q1⟩)
def tIfS (c : TT) (t u : TS) : TS := fun D σ H => c σ H fun b H1 => if b = true then t D σ H1 else u D σ H1
theorem ps_if {c : Expr} {a b : List Stmt} {tc : TT} (hc : PT X c tc) (ha : PSs X a t) (hb : PSs X b u) : PS X (.If c a b pos) (tIfS tc t u) := by
  intro pins s σ H D I h
  refine wpAny_If (thn (hc pins s σ H _ I h) fun d s1 ⟨H1, I1, q1⟩ => ?_)
  cases d with
  | true => exact ha pins s1 σ H1 D I1 q1
  | false => exact hb pins s1 σ H1 D I1 q1
end
abbrev TG := V → St → Hp → (St → Hp → Prop) → Prop
def PG (X : Cx) (target : Expr) (t : TG) : Prop :=
  ∀ (pins : List (Addr × Obj)) (s : Shared) (σ : St) (H : Hp) (v : V) (u : Value) (Q : St → Hp → Prop), Inv X pins σ H s → RelV v u → t v σ H Q →
    wpAny (model X.prog X.w) X.A (assign target X.env u) (fun _ s' => ∃ σ' H', Inv X pins σ' H' s' ∧ Q σ' H') X.xe s
abbrev TSet := V → V → V → Hp → (Hp → Prop) → Prop
def PSet (X : Cx) (t : TSet) : Prop :=
  ∀ (pins : List (Addr × Obj)) (s : Shared) (σ : St) (H : Hp) (o i v : V) (ov iv u : Value) (Q : Hp → Prop), Inv X pins σ H s → RelV o ov → RelV i iv → RelV v u → t o i v H Q →
    wpAny (model X.prog X.w) X.A (setItem ov iv u) (fun _ s' => ∃ H', Inv X pins σ H' s' ∧ Q H') X.xe s
section
variable {X : Cx} {pos : Pos}
def gName (i : Nat) : TG := fun v σ H Q => Q (σ.set i (some v)) H
theorem pg_name {i : Nat} {x : Str} (hN : X.N.Nodup) (hi : X.N[i]? = some x) (hx : Loc X.env.scope x) (hf : X.fn x = true ∨ X.env.scope.names.lookup x = some .local := by first | exact .inl rfl | exact .inr rfl | assumption) : PG X (.Name x pos) (gName i) := by
  intro pins s σ H v u Q I r h
  exact wpAny_assign_Name (store_ok I hN hi hx r (fun s' I' => ⟨_, H, I', h⟩) hf)
def gSub (to ti : TE) (t : TSet) : TG := fun v σ H Q => to σ H fun o H1 => ti σ H1 fun i H2 => t o i v H2 fun H3 => Q σ H3
theorem pg_sub {o i : Expr} {to ti : TE} {t : TSet} (ho : PE X o to) (hi : PE X i ti) (hs : PSet X t)
    (ha : ∀ v, assign (.Subscript o i pos) X.env v = (do
      let ov ← holding [v] (eval o X.env)
      let iv ← holding [v, ov] (eval i X.env)
      standAt pos
      holding [v, ov, iv] (setItem ov iv v)
      release [v, ov, iv] []) := by intro _; rfl) : PG X (.Subscript o i pos) (gSub to ti t) := by
  intro pins s σ H v u Q I r h
  rw [ha]
  refine wpAny_bind (wpAny_holding (thn (ho pins s σ H _ I h) fun ov s1 ⟨x, H1, I1, r1, q1⟩ => ?_))
  refine wpAny_bind (wpAny_holding (thn (hi pins s1 σ H1 _ I1 q1) fun iv s2 ⟨y, H2, I2, r2, q2⟩ => ?_))
  refine wpAny_bind (wpAny_standAt (wpAny_bind (wpAny_holding (thn (hs pins s2 σ H2 x y v ov iv u _ I2 r1 r2 r q2) fun _ s3 ⟨H3, I3, q3⟩ => ?_))))
  exact wpAny_release ⟨σ, H3, I3, q3⟩
def tAsg (te : TE) (g : TG) : TS := fun D σ H => te σ H fun x H1 => g x σ H1 D.nx
theorem ps_asg {tg e : Expr} {te : TE} {g : TG} (he : PE X e te) (hg : PG X tg g) (hs : swapsWithSole [tg] e pos.line X.env = pure false := by rfl) (hw : swappedStores [tg] e X.env = pure none := by rfl)
    (h1 : (assignEach [tg] X.env).map (·.2) = [assign tg X.env] := by rfl) : PS X (.Assign [tg] e pos) (tAsg te g) := by
  intro pins s σ H D I h
  refine wpAny_Assign_stores (thn (he pins s σ H _ I h) fun v s1 ⟨x, H1, I1, r1, q1⟩ => ?_) hs hw
  rw [h1]
  exact thn (hg pins s1 σ H1 x v _ I1 r1 q1) fun _ s2 q => q
theorem ps_set {i : Nat} {x : Str} {e : Expr} {te : TE} {pos' : Pos} (hN : X.N.Nodup) (hi : X.N[i]? = some x) (hx : Loc X.env.scope x) (he : PE X e te) (hs : swapsWith e (some (.Name x pos')) pos.line X.env = pure false := by rfl) (hf : X.fn x = true ∨ X.env.scope.names.lookup x = some .local := by first | exact .inl rfl | exact .inr rfl | assumption) :
    PS X (.Assign [.Name x pos'] e pos) (tAsg te (gName i)) := by
  intro pins s σ H D I h
  refine wpAny_Assign_Name (thn (he pins s σ H _ I h) fun v s1 ⟨y, H1, I1, r1, q1⟩ => ?_) hs
  exact store_ok I1 hN hi hx r1 (fun s2 I2 => ⟨_, H1, I2, q1⟩) hf
end
structure It where
  go : Nat → Hp → Prop
  yld : Nat → Hp → V → Hp → Prop
  stop : Nat → Hp → Prop
def FpOk (X : Cx) (pins : List (Addr × Obj)) (H : Hp) (b : Addr) : Prop :=
  H b = none ∧ b ≠ X.env.locals ∧ b ∉ X.fs ∧ (b ∈ X.ex ∨ X.s₀.heap.objs.size ≤ b) ∧ (∀ x c, X.env.cells.lookup x = some c → c ≠ b) ∧ ∀ p ∈ X.pn ++ pins, p.1 ≠ b
theorem Inv.fpOk {X : Cx} {pins : List (Addr × Obj)} {σ : St} {H H' : Hp} {s : Shared} {b : Addr} (I : Inv X pins σ H s) (hb : s.heap.objs.size ≤ b) (hn : H' b = none) : FpOk X pins H' b := by
  refine ⟨hn, Nat.ne_of_gt (Nat.lt_of_lt_of_le I.lt hb), I.nofs hb, .inr (Nat.le_trans I.sz hb), fun x c e z => ?_, fun p hp z => ?_⟩
  · obtain ⟨v, q⟩ := I.cell x c e
    exact absurd (Nat.lt_of_lt_of_le q.lt (by rw [z]; exact hb)) (Nat.lt_irrefl _)
  · exact absurd (Nat.lt_of_lt_of_le (Heap.lt_size (I.pin p hp).1) (by rw [z]; exact hb)) (Nat.lt_irrefl _)
structure Turn (P : Program) (w : World) (K : PySem.W.Frag) (tg : Expr) (J : It) (fp : List Addr) (it : Addr) (tn : Nat → Heap → Prop) : Prop where
  mem : it ∈ fp
  obj : ∀ i h, tn i h → ∀ b ∈ fp, ∃ o, h.get? b = some o ∧ ∀ v, o.data ≠ .cell v
  keep : ∀ i h h', tn i h → (∀ b ∈ fp, ∀ o, h.get? b = some o → h'.get? b = some o) → tn i h'
  item : ∀ (X : Cx), X.prog = P → X.w = w → X.K = K → X.calm = true → ∀ (i : Nat) (pins : List (Addr × Obj)) (s : Shared) (σ : St) (H : Hp) (E : Value → Shared → Prop), Inv X pins σ H s → (∀ b ∈ fp, FpOk X pins H b) → tn i s.heap → J.go i H →
    wpAny (model P w) X.A (pyNext (.ref it)) (fun r s1 => ∃ u, r = some u ∧
      wpAny (model P w) X.A (letOwnedTupleGo tg (.ref it) u) (fun _ s2 => ∃ x H', Inv X pins σ H' s2 ∧ RelV x u ∧ J.yld i H x H' ∧ tn (i + 1) s2.heap ∧ ∀ b ∈ fp, H' b = none) E s1) E s
  done : ∀ (X : Cx), X.prog = P → X.w = w → X.K = K → X.calm = true → ∀ (i : Nat) (pins : List (Addr × Obj)) (s : Shared) (σ : St) (H : Hp) (E : Value → Shared → Prop), Inv X pins σ H s → (∀ b ∈ fp, FpOk X pins H b) → tn i s.heap → J.stop i H →
    wpAny (model P w) X.A (pyNext (.ref it)) (fun r s1 => r = none ∧ Inv X pins σ H s1) E s
  self : ∀ (A : Around) (i : Nat) (s : Shared) (Q : Value → Shared → Prop) (E : Value → Shared → Prop), tn i s.heap → Q (.ref it) s → wpAny (model P w) A (pyIter (.ref it)) Q E s
abbrev TI := St → Hp → (It → Hp → Prop) → Prop
def PIE (X : Cx) (pins : List (Addr × Obj)) (σ : St) (tg : Expr) (R : It → Hp → Prop) (itv : Value) (s2 : Shared) : Prop :=
  ∃ (it : Addr) (fp : List Addr) (tn : Nat → Heap → Prop) (J : It) (H' : Hp), itv = .ref it ∧ Inv X pins σ H' s2 ∧ Turn X.prog X.w X.K tg J fp it tn ∧ tn 0 s2.heap ∧ (∀ b ∈ fp, FpOk X pins H' b) ∧ R J H'
def PI (X : Cx) (tg iter : Expr) (wi : TI) : Prop :=
  ∀ (pins : List (Addr × Obj)) (s : Shared) (σ : St) (H : Hp) (R : It → Hp → Prop), Inv X pins σ H s → wi σ H R →
    wpAny (model X.prog X.w) X.A (eval iter X.env) (fun v s1 => wpAny (model X.prog X.w) X.A (pyIter v) (PIE X pins σ tg R) X.xe s1) X.xe s
theorem go_of {M : Model} {A : Around} {E : Value → Shared → Prop} {s : Shared} {tg : Expr} {it : Addr} {u : Value} {o : Obj} {n : String} {vs : Array Value} {Q : Unit → Shared → Prop} (ho : s.heap.get? it = some o) (hc : o.cls = .type n) (hd : o.data = .fields vs)
    (hn : ["enumerate", "zip", "dict_itemiterator", "dict_reverseitemiterator", "odict_iterator", "itertools.zip_longest", "itertools.pairwise"].contains n = false) (hQ : Q () s) : wpAny M A (letOwnedTupleGo tg (.ref it) u) Q E s := by
  unfold letOwnedTupleGo
  cases tg <;> first
    | exact wpAny_pure hQ
    | (cases u <;> first
        | exact wpAny_pure hQ
        | (refine wpAny_bind (wpAny_load ho ?_)
           rw [hc, hd]
           show wpAny M A (if (["enumerate", "zip", "dict_itemiterator", "dict_reverseitemiterator", "odict_iterator", "itertools.zip_longest", "itertools.pairwise"].contains n && vs[0]? == some (rawInt _)) = true then _ else _) Q E s
           rw [if_neg (by intro h; rw [hn, Bool.false_and] at h; cases h)]
           exact wpAny_pure hQ))
def Itl (K : PySem.W.Frag) (a : Addr) : It :=
  ⟨fun i H => ∃ xs x, SqL K H a xs ∧ xs[i]? = some x, fun i H x H' => H' = H ∧ ∀ xs, SqL K H a xs → xs[i]? = some x, fun i H => ∃ xs, SqL K H a xs ∧ xs.length ≤ i⟩
def Itr (lo : Int) (n : Nat) : It := ⟨fun i _ => i < n, fun i H x H' => H' = H ∧ x = .int (lo + i), fun i _ => n ≤ i⟩
theorem turn_list {P : Program} {w : World} {K : PySem.W.Frag} {tg : Expr} (a it : Addr) : Turn P w K tg (Itl K a) [it] it (fun i h => h.IsListIter it a i) where
  mem := by simp
  obj := fun i h st b hb => by
    have e : b = it := by simpa using hb
    subst e
    obtain ⟨o, e, c, d⟩ := st
    exact ⟨o, e, fun v z => by rw [d] at z; cases z⟩
  keep := fun i h h' st k => st.at fun o e => k it (by simp) o e
  item := by
    intro X hP hw hK hc i pins s σ H E I hf st hg
    subst hP hw hK
    obtain ⟨xs, x, hq, hx⟩ := hg
    obtain ⟨its, rv, p, hz⟩ := I.list hq
    obtain ⟨u, hu, ru⟩ := rv.get hx
    obtain ⟨f0, f1, f2, f3, f4, f5⟩ := hf it (by simp)
    refine wpAny_pyNext_list_item st p.isList (x := u) (by simpa using hu) fun h' st' sb => ?_
    have I1 : Inv X pins σ H { s with heap := h' } := I.turned (t' := s.toks) (fun b o hb e => (sb.2 b hb).trans e) f0 f1 f3 f4 f5
    obtain ⟨o, e, c, d⟩ := id st'
    exact ⟨u, rfl, go_of (s := { s with heap := h' }) e c d (by decide) ⟨x, H, I1, ru, ⟨rfl, fun ys hy => by rw [I.list_inj hy hq]; exact hx⟩, st', fun b hb => (hf b hb).1⟩⟩
  done := by
    intro X hP hw hK hc i pins s σ H E I hf st hg
    subst hP hw hK
    obtain ⟨xs, hq, hx⟩ := hg
    obtain ⟨its, rv, p, hz⟩ := I.list hq
    obtain ⟨f0, f1, f2, f3, f4, f5⟩ := hf it (by simp)
    have hl := rv.length
    exact wpAny_pyNext_list_end (I.ok.hd hc) st p.isList (by simp; omega) fun h' eb => ⟨rfl, I.turned (t' := s.toks) (fun b o hb e => eb b o hb e) f0 f1 f3 f4 f5⟩
  self := fun _ _ _ _ _ st h => wpAny_pyIter_listiter st h
theorem turn_range {P : Program} {w : World} {K : PySem.W.Frag} {tg : Expr} (it : Addr) (lo : Int) (n : Nat) : Turn P w K tg (Itr lo n) [it] it (fun i h => IsRangeIter h it (lo + (i : Nat) * 1) ((n : Int) - (i : Nat)) 1) where
  mem := by simp
  obj := fun i h st b hb => by
    have e : b = it := by simpa using hb
    subst e
    exact ⟨_, st, fun v z => by
      have z' : Data.fields _ = Data.cell v := z
      cases z'⟩
  keep := fun i h h' st k => k it (by simp) _ st
  item := by
    intro X hP hw hK hc i pins s σ H E I hf st hg
    subst hP hw hK
    obtain ⟨f0, f1, f2, f3, f4, f5⟩ := hf it (by simp)
    have W := Walks.range (prog := X.prog) (w := X.w) (I.ok.hd hc) it lo 1 n
    refine W.item i s _ _ hg st fun v h' tk hv st' kk => ?_
    obtain ⟨t, rfl⟩ := hv
    have I1 : Inv X pins σ H { s with heap := h', toks := tk } := I.turned (fun b o hb e => kk b o (by simpa using hb) e) f0 f1 f3 f4 f5
    refine ⟨_, rfl, go_of (s := { s with heap := h', toks := tk }) (n := "range_iterator") st' rfl rfl (by decide) ⟨.int (lo + i), H, I1, ⟨t, ?_⟩, ⟨rfl, rfl⟩, st', fun b hb => (hf b hb).1⟩⟩
    rw [Int.mul_one]
  done := by
    intro X hP hw hK hc i pins s σ H E I hf st hg
    subst hP hw hK
    obtain ⟨f0, f1, f2, f3, f4, f5⟩ := hf it (by simp)
    exact wpAny_pyNext_range_end (I.ok.hd hc) st (by have : n ≤ i := hg; omega) fun h' eb => ⟨rfl, I.turned (t' := s.toks) (fun b o hb e => eb b o hb e) f0 f1 f3 f4 f5⟩
  self := fun _ _ _ _ _ st h => wpAny_pyIter_rangeiter st h
end L2
namespace L2
open PySem PySem.Spec PyProof.Rows
section
variable {X : Cx} {tg : Expr}
def iList (K : PySem.W.Frag) (tl : TE) : TI := fun σ H R => tl σ H fun x H1 => ∃ a, x = .ref a ∧ (∃ xs, SqL K H1 a xs) ∧ R (Itl K a) H1
theorem pi_list {l : Expr} {tl : TE} (hl : PE X l tl) : PI X tg l (iList X.K tl) := by
  intro pins s σ H R I h
  refine thn (hl pins s σ H _ I h) fun v s1 ⟨x, H1, I1, r1, q1⟩ => ?_
  obtain ⟨a, e, ⟨xs, hq⟩, q⟩ := q1
  subst e
  cases r1
  obtain ⟨its, rv, p, hz⟩ := I1.list hq
  refine wpAny_pyIter_list p.isList ?_
  refine ⟨s1.heap.objs.size, [s1.heap.objs.size], _, _, H1, rfl, I1.kept (t' := s1.toks) fun b o e => Heap.get?_push_of_some _ e, turn_list a _, ⟨_, Heap.get?_push_size _ rfl, rfl, rfl⟩, fun b hb => ?_, q⟩
  have e : b = s1.heap.objs.size := by simpa using hb
  subst e
  exact I1.fpOk (Nat.le_refl _) (I1.hok.fresh (Nat.le_refl _))
theorem range_it {pins : List (Addr × Obj)} {σ : St} {H : Hp} {s : Shared} {R : It → Hp → Prop} {E : Value → Shared → Prop} {lo hi : Int} {t u v : Tok} {tk : Nat} (I : Inv X pins σ H s) (h1 : -(2 ^ 62) ≤ lo) (h2 : lo < 2 ^ 62) (h3 : -(2 ^ 62) ≤ hi) (h4 : hi < 2 ^ 62)
    (q : R (Itr lo (hi - lo).toNat) H) : wpAny (model X.prog X.w) X.A (pyIter (.ref s.heap.objs.size)) (PIE X pins σ tg R) E { s with heap := s.heap.push { cls := .type "range", data := .fields #[.int lo t, .int hi u, .int 1 v] }, toks := tk } := by
  refine wpAny_pyIter_range (IsRange.new ..) (small_one h1 h2 h3 h4) ?_
  have I1 : Inv X pins σ H { s with heap := s.heap.push { cls := .type "range", data := .fields #[.int lo t, .int hi u, .int 1 v] }, toks := tk } := I.kept fun b o e => Heap.get?_push_of_some _ e
  refine ⟨(s.heap.push { cls := .type "range", data := .fields #[.int lo t, .int hi u, .int 1 v] }).objs.size, [(s.heap.push { cls := .type "range", data := .fields #[.int lo t, .int hi u, .int 1 v] }).objs.size], _, _, H, rfl,
    I1.kept (t' := tk) fun b o e => Heap.get?_push_of_some _ e, turn_range _ lo (hi - lo).toNat, ?_, fun b hb => ?_, q⟩
  · have e1 : lo + ((0 : Nat) : Int) * 1 = lo := by simp
    have e2 : (((hi - lo).toNat : Nat) : Int) - ((0 : Nat) : Int) = Builtin.Range.rangeSize lo hi 1 := by rw [rangeSize_one]; split <;> omega
    show IsRangeIter _ _ (lo + ((0 : Nat) : Int) * 1) ((((hi - lo).toNat : Nat) : Int) - ((0 : Nat) : Int)) 1
    rw [e1, e2]
    exact Heap.get?_push_size _ rfl
  · have e : b = (s.heap.push { cls := .type "range", data := .fields #[.int lo t, .int hi u, .int 1 v] }).objs.size := by simpa using hb
    subst e
    exact I1.fpOk (Nat.le_refl _) (I1.hok.fresh (Nat.le_refl _))
def iRng1 (ta : TA) : TI := fun σ H R => ta σ H fun vs H1 => ∃ j : Int, vs = [.int j] ∧ -(2 ^ 62) ≤ j ∧ j < 2 ^ 62 ∧ R (Itr 0 j.toNat) H1
theorem pi_range1 {a : Expr} {ta : TA} {p pos : Pos} (hg : Gl X "range") (hm : X.mg "range" = none) (ha : PA X [a] ta) (hs : starEach [a] X.env = [(false, eval a X.env)] := by rfl) : PI X tg (.Call (.Name "range" p) [a] [] pos) (iRng1 ta) := by
  intro pins s σ H R I h
  refine Call_ (ld_blt I hg hm boot_range (PyProof.Rows.callWith_type1 (thn (ha pos pins s σ H _ I h) fun us s1 ⟨vs, H1, I1, r1, q1⟩ => ?_) hs rfl))
  obtain ⟨j, e, q1, q2, q⟩ := q1
  subst e
  cases r1 with
  | cons r rr =>
    cases rr
    obtain ⟨t, rfl⟩ := r
    exact call_range_1 (range_it I1 (by omega) (by omega) q1 q2 (by simpa using q))
def tFor (wi : TI) (g : TG) (tb : TS) : TS := fun D σ H => wi σ H fun J H1 => ∃ W : Nat → Nat → St → Hp → Prop, (∃ m, W 0 m σ H1) ∧ ∀ i m σ H, W i m σ H →
  (J.stop i H ∧ D.nx σ H) ∨ (J.go i H ∧ ∃ N : St → Hp → Prop, (∀ σ' H', N σ' H' → ∃ m', m' < m ∧ W (i + 1) m' σ' H') ∧ ∀ x H', J.yld i H x H' → g x σ H' fun σ2 H2 => tb { D with nx := N, ct := N, bk := D.nx } σ2 H2)
def pinsAt (fp : List Addr) (h : Heap) : List (Addr × Obj) := fp.filterMap fun b => (h.get? b).map fun o => (b, o)
theorem mem_pinsAt {fp : List Addr} {h : Heap} {b : Addr} {o : Obj} (hb : b ∈ fp) (e : h.get? b = some o) : (b, o) ∈ pinsAt fp h := List.mem_filterMap.mpr ⟨b, hb, by rw [e]; rfl⟩
theorem of_pinsAt {fp : List Addr} {h : Heap} {p : Addr × Obj} (hp : p ∈ pinsAt fp h) : p.1 ∈ fp ∧ h.get? p.1 = some p.2 := by
  obtain ⟨b, hb, e⟩ := List.mem_filterMap.mp hp
  cases q : h.get? b with
  | none => rw [q] at e; cases e
  | some o =>
    rw [q] at e
    have e' : (b, o) = p := Option.some.inj e
    subst e'
    exact ⟨hb, q⟩
theorem Inv.pinned {pins : List (Addr × Obj)} {σ : St} {H : Hp} {s : Shared} {fp : List Addr} (I : Inv X pins σ H s) (hf : ∀ b ∈ fp, FpOk X pins H b) (ho : ∀ b ∈ fp, ∃ o, s.heap.get? b = some o ∧ ∀ v, o.data ≠ .cell v) : Inv X (pins ++ pinsAt fp s.heap) σ H s :=
  I.pins_of fun p hp => (List.mem_append.mp hp).elim (fun z => I.pin p (List.mem_append_right _ z)) fun z => by
    obtain ⟨hb, e⟩ := of_pinsAt z
    obtain ⟨f0, f1, f2, _⟩ := hf p.1 hb
    obtain ⟨o, e', d⟩ := ho p.1 hb
    rw [e] at e'; cases e'
    exact ⟨e, f0, f1, f2, d⟩
theorem Inv.unpinned {pins pl : List (Addr × Obj)} {σ : St} {H : Hp} {s : Shared} (I : Inv X (pins ++ pl) σ H s) : Inv X pins σ H s := I.pins_of fun p hp => I.pin p (List.mem_append_right _ (List.mem_append_left _ hp))
theorem ps_for {iter : Expr} {body : List Stmt} {wi : TI} {g : TG} {tb : TS} {pos : Pos} (hp : PassesOwn (model X.prog X.w) X.A X.env X.xe) (hc : X.calm = true) (hi : PI X tg iter wi) (hg : PG X tg g) (hb : PSs X body tb)
    (hs : ∀ x, foldedSetIterable iter X.env x = pure x := by intro _; rfl) : PS X (.For tg iter body [] pos) (tFor wi g tb) := by
  intro pins s σ H D I h
  refine wpAny_For (thn (hi pins s σ H _ I h) fun v s1 h1 => thn h1 fun itv s2 h2 => ?_) hs
  obtain ⟨it, fp, tn, J, H2, e, I2, T, st2, f2, W, ⟨m0, w0⟩, turn⟩ := h2
  subst e
  have stat : ∀ {H' : Hp}, (∀ b ∈ fp, H' b = none) → ∀ b ∈ fp, FpOk X pins H' b := fun hn b hb => ⟨hn b hb, (f2 b hb).2⟩
  refine codeAny_forLoop_any (fun n s' => ∃ i σ' H', Inv X pins σ' H' s' ∧ tn i s'.heap ∧ (∀ b ∈ fp, H' b = none) ∧ W i n σ' H') ?_ m0 ⟨0, σ, H2, I2, st2, fun b hb => (f2 b hb).1, w0⟩
  rintro n s3 ⟨i, σ3, H3, I3, st3, fr3, w3⟩
  rcases turn i n σ3 H3 w3 with ⟨stop, qn⟩ | ⟨go, N, hN, step⟩
  · refine wpAny_passesOwn hp (thn (T.done X rfl rfl rfl hc i pins s3 σ3 H3 X.xe I3 (stat fr3) st3 stop) fun r s4 ⟨hr, I4⟩ => ?_)
    subst hr
    exact wpAny_execs_nil ⟨σ3, H3, I4, qn⟩
  · refine wpAny_passesOwn hp (thn (T.item X rfl rfl rfl hc i pins s3 σ3 H3 X.xe I3 (stat fr3) st3 go) fun r s4 ⟨u, hr, h4⟩ => ?_)
    subst hr
    refine wpAny_passesOwn hp (thn h4 fun _ s5 ⟨x, H5, I5, r5, y5, st5, fr5⟩ => ?_)
    have I5' := I5.pinned (stat fr5) (T.obj _ _ st5)
    refine wpAny_passesOwn hp (thn (hg _ s5 σ3 H5 x u _ I5' r5 (step x H5 y5)) fun _ s6 ⟨σ6, H6, I6, q6⟩ => ?_)
    refine wpAny_passesOwn hp (thn (hb _ s6 σ6 H6 _ I6 q6) fun f s7 q7 => ?_)
    have again : ∀ {σ7 : St} {H7 : Hp}, Inv X (pins ++ pinsAt fp s5.heap) σ7 H7 s7 → N σ7 H7 → ∃ m, m < n ∧ ∃ i σ' H', Inv X pins σ' H' s7 ∧ tn i s7.heap ∧ (∀ b ∈ fp, H' b = none) ∧ W i m σ' H' := fun {σ7 H7} I7 n7 => by
      obtain ⟨m', hm, w7⟩ := hN σ7 H7 n7
      refine ⟨m', hm, i + 1, σ7, H7, I7.unpinned, T.keep _ _ _ st5 fun b hb o e => (I7.pin (b, o) (List.mem_append_right _ (List.mem_append_right _ (mem_pinsAt hb e)))).1, fun b hb => ?_, w7⟩
      obtain ⟨o, e, d⟩ := T.obj _ _ st5 b hb
      exact (I7.pin (b, o) (List.mem_append_right _ (List.mem_append_right _ (mem_pinsAt hb e)))).2.1
    cases f with
    | next => obtain ⟨σ7, H7, I7, n7⟩ := q7; exact again I7 n7
    | cont => obtain ⟨σ7, H7, I7, n7⟩ := q7; exact again I7 n7
    | brk => obtain ⟨σ7, H7, I7, q7⟩ := q7; exact ⟨σ7, H7, I7.unpinned, q7⟩
    | ret v => obtain ⟨x7, σ7, H7, I7, r7, q7⟩ := q7; exact ⟨x7, σ7, H7, I7.unpinned, r7, q7⟩
end
theorem for_list {K : PySem.W.Frag} {a : Addr} {xs : List V} {g : TG} {tb : TS} {D : Ends} {σ : St} {H : Hp} (Pv : Nat → St → Hp → Prop) (h0 : Pv 0 σ H) (hl : ∀ i σ H, i ≤ xs.length → Pv i σ H → SqL K H a xs)
    (hs : ∀ i x σ H, xs[i]? = some x → Pv i σ H → g x σ H fun σ2 H2 => tb { D with nx := Pv (i + 1), ct := Pv (i + 1), bk := D.nx } σ2 H2) (hd : ∀ σ H, Pv xs.length σ H → D.nx σ H) :
    ∃ W : Nat → Nat → St → Hp → Prop, (∃ m, W 0 m σ H) ∧ ∀ i m σ H, W i m σ H →
      ((Itl K a).stop i H ∧ D.nx σ H) ∨ ((Itl K a).go i H ∧ ∃ N : St → Hp → Prop, (∀ σ' H', N σ' H' → ∃ m', m' < m ∧ W (i + 1) m' σ' H') ∧ ∀ x H', (Itl K a).yld i H x H' → g x σ H' fun σ2 H2 => tb { D with nx := N, ct := N, bk := D.nx } σ2 H2) := by
  refine ⟨fun i m σ H => m = xs.length - i ∧ i ≤ xs.length ∧ Pv i σ H, ⟨xs.length, by simp, Nat.zero_le _, h0⟩, ?_⟩
  rintro i m σ H ⟨rfl, hi, p⟩
  have q := hl i σ H hi p
  by_cases hlt : i < xs.length
  · refine .inr ⟨⟨xs, xs[i], q, by simp [hlt]⟩, Pv (i + 1), fun σ' H' p' => ⟨xs.length - (i + 1), by omega, rfl, hlt, p'⟩, fun x H' y => ?_⟩
    obtain ⟨e, y⟩ := y
    subst e
    exact hs i x σ _ (y xs q) p
  · have e : i = xs.length := by omega
    subst e
    exact .inl ⟨⟨xs, q, Nat.le_refl _⟩, hd σ H p⟩
theorem for_range {lo : Int} {n : Nat} {g : TG} {tb : TS} {D : Ends} {σ : St} {H : Hp} (Pv : Nat → St → Hp → Prop) (h0 : Pv 0 σ H)
    (hs : ∀ i σ H, i < n → Pv i σ H → g (.int (lo + i)) σ H fun σ2 H2 => tb { D with nx := Pv (i + 1), ct := Pv (i + 1), bk := D.nx } σ2 H2) (hd : ∀ σ H, Pv n σ H → D.nx σ H) :
    ∃ W : Nat → Nat → St → Hp → Prop, (∃ m, W 0 m σ H) ∧ ∀ i m σ H, W i m σ H →
      ((Itr lo n).stop i H ∧ D.nx σ H) ∨ ((Itr lo n).go i H ∧ ∃ N : St → Hp → Prop, (∀ σ' H', N σ' H' → ∃ m', m' < m ∧ W (i + 1) m' σ' H') ∧ ∀ x H', (Itr lo n).yld i H x H' → g x σ H' fun σ2 H2 => tb { D with nx := N, ct := N, bk := D.nx } σ2 H2) := by
  refine ⟨fun i m σ H => m = n - i ∧ i ≤ n ∧ Pv i σ H, ⟨n, by simp, Nat.zero_le _, h0⟩, ?_⟩
  rintro i m σ H ⟨rfl, hi, p⟩
  by_cases hlt : i < n
  · refine .inr ⟨hlt, Pv (i + 1), fun σ' H' p' => ⟨n - (i + 1), by omega, rfl, hlt, p'⟩, fun x H' y => ?_⟩
    obtain ⟨e, y⟩ := y
    subst e y
    exact hs i σ _ hlt p
  · have e : i = n := by omega
    subst e
    exact .inl ⟨Nat.le_refl _, hd σ H p⟩
end L2
namespace L2
open PySem PySem.Spec PyProof.Rows
abbrev R2 := V → V → Hp → VK → Prop
def OpR (X : Cx) (f : Value → Value → Sem Value) (r : R2) : Prop :=
  ∀ (pins : List (Addr × Obj)) (s : Shared) (σ : St) (H : Hp) (x y : V) (v u : Value) (Q : VK), Inv X pins σ H s → RelV x v → RelV y u → r x y H Q →
    wpAny (model X.prog X.w) X.A (f v u) (EP X pins σ Q) X.xe s
def CallR (X : Cx) (f : Value) (r : List V → Hp → VK → Prop) : Prop :=
  ∀ (pins : List (Addr × Obj)) (s : Shared) (σ : St) (H : Hp) (xs : List V) (us : List Value) (Q : VK), Inv X pins σ H s → Vals xs us → r xs H Q →
    wpAny (model X.prog X.w) X.A (call f us) (EP X pins σ Q) X.xe s
def tOp (r : R2) (ta tb : TE) : TE := fun σ H Q => ta σ H fun x H1 => tb σ H1 fun y H2 => r x y H2 Q
def rI (C : Int → Int → Prop) (g : Int → Int → V) : R2 := fun x y H Q => ∃ i j, x = .int i ∧ y = .int j ∧ C i j ∧ Q (g i j) H
def rI0 (g : Int → Int → V) : R2 := fun x y H Q => ∃ i j, x = .int i ∧ y = .int j ∧ Q (g i j) H
section
variable {X : Cx} {a b c : Expr} {ta tb tc : TE} {pos : Pos}
theorem binT (ha : PE X a ta) (hb : PE X b tb) {pins : List (Addr × Obj)} {s : Shared} {σ : St} {H : Hp} {R : V → V → Hp → Prop} (I : Inv X pins σ H s)
    (h : ta σ H fun x H1 => tb σ H1 fun y H2 => R x y H2) {Q : Value → Shared → Prop} {f : Value → Value → Sem Value}
    (hf : ∀ v u s2 x y H2, Inv X pins σ H2 s2 → RelV x v → RelV y u → R x y H2 → wpAny (model X.prog X.w) X.A (f v u) Q X.xe s2) :
    wpAny (model X.prog X.w) X.A (eval a X.env) (fun v s₁ => wpAny (model X.prog X.w) X.A (eval b X.env) (fun u s₂ => wpAny (model X.prog X.w) X.A (f v u) Q X.xe s₂) X.xe s₁) X.xe s := by
  refine thn (ha pins s σ H _ I h) fun v s1 ⟨x, H1, I1, r1, q1⟩ => ?_
  refine thn (hb pins s1 σ H1 _ I1 q1) fun u s2 ⟨y, H2, I2, r2, q2⟩ => ?_
  exact hf v u s2 x y H2 I2 r1 r2 q2
theorem pe_op {op : Operator} {r : R2} (ho : OpR X (binaryOp op) r) (ha : PE X a ta) (hb : PE X b tb) : PE X (.BinOp a op b pos) (tOp r ta tb) := by
  intro pins s σ H Q I h
  exact wpAny_BinOp (binT ha hb I h fun v u s2 x y H2 I2 rx ry q => ho pins s2 σ H2 x y v u Q I2 rx ry q)
theorem opI {f : Value → Value → Sem Value} {C : Int → Int → Prop} {g : Int → Int → Int}
    (rule : ∀ (i j : Int) (t u : Tok) (s : Shared) (Q : Value → Shared → Prop) (E : Value → Shared → Prop), C i j → Q (.int (g i j) s.toks) { s with toks := s.toks + 1 } → wpAny (model X.prog X.w) X.A (f (.int i t) (.int j u)) Q E s) :
    OpR X f (rI C fun i j => .int (g i j)) := by
  intro pins s σ H x y v u Q I rx ry h
  obtain ⟨i, j, rfl, rfl, hc, q⟩ := h
  obtain ⟨t, rfl⟩ := rx
  obtain ⟨t', rfl⟩ := ry
  exact rule i j t t' s _ _ hc ⟨.int (g i j), H, I.tok _, ⟨_, rfl⟩, q⟩
theorem opI0 {f : Value → Value → Sem Value} {g : Int → Int → Int}
    (rule : ∀ (i j : Int) (t u : Tok) (s : Shared) (Q : Value → Shared → Prop) (E : Value → Shared → Prop), Q (.int (g i j) s.toks) { s with toks := s.toks + 1 } → wpAny (model X.prog X.w) X.A (f (.int i t) (.int j u)) Q E s) :
    OpR X f (rI0 fun i j => .int (g i j)) := by
  intro pins s σ H x y v u Q I rx ry h
  obtain ⟨i, j, rfl, rfl, q⟩ := h
  obtain ⟨t, rfl⟩ := rx
  obtain ⟨t', rfl⟩ := ry
  exact rule i j t t' s _ _ ⟨.int (g i j), H, I.tok _, ⟨_, rfl⟩, q⟩
theorem opB0 {f : Value → Value → Sem Value} {g : Int → Int → Bool}
    (rule : ∀ (i j : Int) (t u : Tok) (s : Shared) (Q : Value → Shared → Prop) (E : Value → Shared → Prop), Q (.bool (g i j)) s → wpAny (model X.prog X.w) X.A (f (.int i t) (.int j u)) Q E s) :
    OpR X f (rI0 fun i j => .bl (g i j)) := by
  intro pins s σ H x y v u Q I rx ry h
  obtain ⟨i, j, rfl, rfl, q⟩ := h
  obtain ⟨t, rfl⟩ := rx
  obtain ⟨t', rfl⟩ := ry
  exact rule i j t t' s _ _ ⟨.bl (g i j), H, I, rfl, q⟩
def CDiv (i j : Int) : Prop := 0 < j ∧ j < 1073741824
def CMul (i j : Int) : Prop := (-(2 ^ 64) < i ∧ i < 2 ^ 64) ∨ (-(2 ^ 64) < j ∧ j < 2 ^ 64)
theorem CMul.ok {i j : Int} (h : CMul i j) : IntMulOk i j := by
  rcases h with ⟨h1, h2⟩ | ⟨h1, h2⟩
  · exact .of_left (intBits_le_64 h1 h2)
  · exact .of_right (intBits_le_64 h1 h2)
theorem op_add : OpR X (binaryOp .Add) (rI0 fun i j => .int (i + j)) := opI0 fun _ _ _ _ _ _ _ q => add_int q
theorem op_sub : OpR X (binaryOp .Sub) (rI0 fun i j => .int (i - j)) := opI0 fun _ _ _ _ _ _ _ q => sub_int q
theorem op_mul : OpR X (binaryOp .Mult) (rI CMul fun i j => .int (i * j)) := opI fun _ _ _ _ _ _ _ hc q => mul_int q hc.ok
theorem op_fdiv : OpR X (binaryOp .FloorDiv) (rI CDiv fun i j => .int (i / j)) := opI fun i j _ _ _ _ _ hc q => by
  have h1 : (0 : Int) < j := hc.1
  have h2 : j < 1073741824 := hc.2
  exact floordiv_int (by omega) (by rw [Int.fdiv_eq_ediv_of_nonneg i (by omega)]; exact q) (.inl (PyProof.noPylong_small (by omega)))
theorem op_mod : OpR X (binaryOp .Mod) (rI (fun _ j => 0 < j) fun i j => .int (i % j)) := opI fun i j _ _ _ _ _ hc q => by
  have h1 : (0 : Int) < j := hc
  exact mod_int' (by omega) (by rw [Int.fmod_eq_emod_of_nonneg i (by omega)]; exact q)
end
def scal : V → V → Bool
  | .non, .non => true | .non, .int _ => true | .int _, .non => true | .non, .bl _ => true | .bl _, .non => true | .non, .str _ => true | .str _, .non => true
  | .int _, .int _ => true | .bl _, .bl _ => true | .str _, .str _ => true | .byt _, .byt _ => true
  | .int _, .str _ => true | .str _, .int _ => true | .bl _, .str _ => true | .str _, .bl _ => true
  | _, _ => false
def rEq : R2 := fun x y H Q => scal x y = true ∧ Q (.bl (decide (x = y))) H
def rNe : R2 := fun x y H Q => scal x y = true ∧ Q (.bl (!decide (x = y))) H
theorem dec_int {i j : Int} : decide (V.int i = V.int j) = (i == j) := by
  rw [Bool.eq_iff_iff]
  simp
theorem dec_bl {i j : Bool} : decide (V.bl i = V.bl j) = (i == j) := by
  rw [Bool.eq_iff_iff]
  simp
theorem dec_str {i j : Str} : decide (V.str i = V.str j) = (i == j) := by
  rw [Bool.eq_iff_iff]
  simp
theorem dec_byt {i j : Array UInt8} : decide (V.byt i = V.byt j) = (i.toList == j.toList) := by
  rw [Bool.eq_iff_iff]
  cases i
  cases j
  simp
section
variable {X : Cx} {a b c : Expr} {ta tb tc : TE} {pos : Pos}
theorem fin_bl {pins : List (Addr × Obj)} {σ : St} {H : Hp} {s : Shared} {Q : VK} {k k' : Bool} (I : Inv X pins σ H s) (q : Q (.bl k) H) (e : k = k') : EP X pins σ Q (.bool k') s := by
  subst e
  exact ⟨.bl k, H, I, rfl, q⟩
theorem op_eq : OpR X (compareOp .Eq) rEq := by
  intro pins s σ H x y v u Q I rx ry h
  obtain ⟨hs, q⟩ := h
  cases x with
  | non =>
    cases rx
    cases y with
    | non => cases ry; exact PySem.EqNone.eq_none_none (fin_bl I q (by simp))
    | bl j => cases ry; exact PySem.EqNone.eq_none_bool (fin_bl I q (by simp))
    | int j => obtain ⟨t', rfl⟩ := ry; exact PySem.EqNone.eq_none_int (fin_bl I q (by simp))
    | str j => obtain ⟨t', rfl⟩ := ry; exact PySem.EqNone.eq_none_str (fin_bl I q (by simp))
    | _ => exact absurd (show false = true from hs) Bool.false_ne_true
  | bl i =>
    cases rx
    cases y with
    | non => cases ry; exact PySem.EqNone.eq_bool_none (fin_bl I q (by simp))
    | bl j => cases ry; exact eq_bool (fin_bl I q dec_bl)
    | str j => obtain ⟨t', rfl⟩ := ry; exact PySem.EqMixed.eq_bool_str (fin_bl I q (by simp))
    | _ => exact absurd (show false = true from hs) Bool.false_ne_true
  | int i =>
    obtain ⟨t, rfl⟩ := rx
    cases y with
    | non => cases ry; exact PySem.EqNone.eq_int_none (fin_bl I q (by simp))
    | int j => obtain ⟨t', rfl⟩ := ry; exact eq_int (fin_bl I q dec_int)
    | str j => obtain ⟨t', rfl⟩ := ry; exact PySem.EqMixed.eq_int_str (fin_bl I q (by simp))
    | _ => exact absurd (show false = true from hs) Bool.false_ne_true
  | str i =>
    obtain ⟨t, rfl⟩ := rx
    cases y with
    | non => cases ry; exact PySem.EqNone.eq_str_none (fin_bl I q (by simp))
    | bl j => cases ry; exact PySem.EqMixed.eq_str_bool (fin_bl I q (by simp))
    | int j => obtain ⟨t', rfl⟩ := ry; exact PySem.EqMixed.eq_str_int (fin_bl I q (by simp))
    | str j => obtain ⟨t', rfl⟩ := ry; exact eq_str (fin_bl I q dec_str)
    | _ => exact absurd (show false = true from hs) Bool.false_ne_true
  | byt i =>
    obtain ⟨t, rfl⟩ := rx
    cases y with
    | byt j => obtain ⟨t', rfl⟩ := ry; exact PySem.W.eq_bytes (fin_bl I q dec_byt)
    | _ => exact absurd (show false = true from hs) Bool.false_ne_true
  | _ => cases y <;> exact absurd (show false = true from hs) Bool.false_ne_true
theorem op_ne : OpR X (compareOp .NotEq) rNe := by
  intro pins s σ H x y v u Q I rx ry h
  obtain ⟨hs, q⟩ := h
  cases x with
  | non =>
    cases rx
    cases y with
    | non => cases ry; exact PySem.EqNone.ne_none_none (fin_bl I q (by simp))
    | bl j => cases ry; exact PySem.EqNone.ne_none_bool (fin_bl I q (by simp))
    | int j => obtain ⟨t', rfl⟩ := ry; exact PySem.EqNone.ne_none_int (fin_bl I q (by simp))
    | str j => obtain ⟨t', rfl⟩ := ry; exact PySem.EqNone.ne_none_str (fin_bl I q (by simp))
    | _ => exact absurd (show false = true from hs) Bool.false_ne_true
  | bl i =>
    cases rx
    cases y with
    | non => cases ry; exact PySem.EqNone.ne_bool_none (fin_bl I q (by simp))
    | bl j => cases ry; exact ne_bool (fin_bl I q (congrArg not dec_bl))
    | str j => obtain ⟨t', rfl⟩ := ry; exact PySem.EqMixed.ne_bool_str (fin_bl I q (by simp))
    | _ => exact absurd (show false = true from hs) Bool.false_ne_true
  | int i =>
    obtain ⟨t, rfl⟩ := rx
    cases y with
    | non => cases ry; exact PySem.EqNone.ne_int_none (fin_bl I q (by simp))
    | int j => obtain ⟨t', rfl⟩ := ry; exact ne_int (fin_bl I q (congrArg not dec_int))
    | str j => obtain ⟨t', rfl⟩ := ry; exact PySem.EqMixed.ne_int_str (fin_bl I q (by simp))
    | _ => exact absurd (show false = true from hs) Bool.false_ne_true
  | str i =>
    obtain ⟨t, rfl⟩ := rx
    cases y with
    | non => cases ry; exact PySem.EqNone.ne_str_none (fin_bl I q (by simp))
    | bl j => cases ry; exact PySem.EqMixed.ne_str_bool (fin_bl I q (by simp))
    | int j => obtain ⟨t', rfl⟩ := ry; exact PySem.EqMixed.ne_str_int (fin_bl I q (by simp))
    | str j => obtain ⟨t', rfl⟩ := ry; exact ne_str (fin_bl I q (congrArg not dec_str))
    | _ => exact absurd (show false = true from hs) Bool.false_ne_true
  | byt i =>
    obtain ⟨t, rfl⟩ := rx
    cases y with
    | byt j => obtain ⟨t', rfl⟩ := ry; exact PySem.W.ne_bytes (fin_bl I q (congrArg not dec_byt))
    | _ => exact absurd (show false = true from hs) Bool.false_ne_true
  | _ => cases y <;> exact absurd (show false = true from hs) Bool.false_ne_true
theorem op_lt : OpR X (compareOp .Lt) (rI0 fun i j => .bl (decide (i < j))) := opB0 fun _ _ _ _ _ _ _ q => lt_int q
theorem op_le : OpR X (compareOp .LtE) (rI0 fun i j => .bl (decide (i ≤ j))) := opB0 fun _ _ _ _ _ _ _ q => le_int q
theorem op_gt : OpR X (compareOp .Gt) (rI0 fun i j => .bl (decide (j < i))) := opB0 fun _ _ _ _ _ _ _ q => gt_int q
theorem op_lt_str : OpR X (compareOp .Lt) (fun x y H Q => ∃ i j, x = .str i ∧ y = .str j ∧ Q (.bl (decide (i.cps.toList < j.cps.toList))) H) := by
  intro pins s σ H x y v u Q I rx ry h
  obtain ⟨i, j, rfl, rfl, q⟩ := h
  obtain ⟨t, rfl⟩ := rx
  obtain ⟨t', rfl⟩ := ry
  exact lt_str (fin_bl I q rfl)
theorem op_in_str : OpR X (compareOp .In) (fun x y H Q => ∃ i j, x = .str i ∧ y = .str j ∧ Q (.bl (!(Builtin.Str.occurrences j i 0 j.length 1).isEmpty)) H) := by
  intro pins s σ H x y v u Q I rx ry h
  obtain ⟨i, j, rfl, rfl, q⟩ := h
  obtain ⟨t, rfl⟩ := rx
  obtain ⟨t', rfl⟩ := ry
  exact in_str (fin_bl I q rfl)
theorem op_isN : OpR X (compareOp .Is) (fun x y H Q => y = .non ∧ Q (.bl (decide (x = .non))) H) := by
  intro pins s σ H x y v u Q I rx ry h
  obtain ⟨rfl, q⟩ := h
  cases ry
  refine is_none_gen (fin_bl I q ?_)
  cases x <;> first
    | (cases rx; rfl)
    | (obtain ⟨t, rfl⟩ := rx; rfl)
theorem OpR.or {f : Value → Value → Sem Value} {r r' : R2} (h : OpR X f r) (h' : OpR X f r') : OpR X f (fun x y H Q => r x y H Q ∨ r' x y H Q) := by
  intro pins s σ H x y v u Q I rx ry q
  rcases q with q | q
  · exact h pins s σ H x y v u Q I rx ry q
  · exact h' pins s σ H x y v u Q I rx ry q
theorem nomark (b : Expr) {op : CmpOp} (h : op ≠ .In := by decide) (h2 : op ≠ .NotIn := by decide) : behindInMarks op b = false := by
  have e1 : (op == CmpOp.In) = false := by cases op <;> first | rfl | exact absurd rfl h
  have e2 : (op == CmpOp.NotIn) = false := by cases op <;> first | rfl | exact absurd rfl h2
  cases b <;> simp [behindInMarks, e1, e2]
theorem pe_cmpR {op : CmpOp} {r : R2} (ho : OpR X (compareOp op) r) (ha : PE X a ta) (hb : PE X b tb) (hm : behindInMarks op b = false) : PE X (.Compare a [op] [b] pos) (tOp r ta tb) := by
  intro pins s σ H Q I h
  exact wpAny_Compare1 (binT ha hb I h fun v u s2 x y H2 I2 rx ry q => ho pins s2 σ H2 x y v u Q I2 rx ry q) hm
def tTest (t : TE) : TT := fun σ H Q => t σ H fun x H' => ∃ k, x = .bl k ∧ Q k H'
theorem pt_cmpR {op : CmpOp} {r : R2} (ho : OpR X (compareOp op) r) (ha : PE X a ta) (hb : PE X b tb) (hm : behindInMarks op b = false) : PT X (.Compare a [op] [b] pos) (tTest (tOp r ta tb)) := by
  intro pins s σ H Q I h
  refine wpAny_isTrue_Compare1 (thn (ha pins s σ H _ I h) fun v s1 ⟨x, H1, I1, r1, q1⟩ => thn (hb pins s1 σ H1 _ I1 q1) fun u s2 ⟨y, H2, I2, r2, q2⟩ =>
    thn (ho pins s2 σ H2 x y v u _ I2 r1 r2 q2) fun c s3 ⟨z, H3, I3, r3, k, e, q3⟩ => ?_) hm
  subst e
  cases r3
  exact wpAny_truthy_bool ⟨H3, I3, q3⟩
def tChain (r r' : R2) (ta tb tc : TE) : TE := fun σ H Q => ta σ H fun x H1 => tb σ H1 fun y H2 => r x y H2 fun z H3 => ∃ k, z = .bl k ∧
  (if k = true then tc σ H3 fun w' H4 => r' y w' H4 Q else Q (.bl false) H3)
theorem pe_chain {op op' : CmpOp} {r r' : R2} (ho : OpR X (compareOp op) r) (ho' : OpR X (compareOp op') r') (ha : PE X a ta) (hb : PE X b tb) (hc : PE X c tc)
    (hm : lastMarks [op, op'] [b, c] = false := by with_unfolding_all rfl) : PE X (.Compare a [op, op'] [b, c] pos) (tChain r r' ta tb tc) := by
  intro pins s σ H Q I h
  refine Compare_chain (thn (ha pins s σ H _ I h) fun v s1 ⟨x, H1, I1, r1, q1⟩ => chain_link (thn (hb pins s1 σ H1 _ I1 q1) fun u s2 ⟨y, H2, I2, r2, q2⟩ =>
    thn (ho pins s2 σ H2 x y v u _ I2 r1 r2 q2) fun d s3 ⟨z, H3, I3, r3, k, e, q3⟩ => ?_)) hm
  subst e
  cases r3
  refine wpAny_truthy_bool ?_
  cases k with
  | false => exact ite_ff ⟨.bl false, H3, I3, rfl, q3⟩
  | true => exact ite_tt (chain_last (thn (hc pins s3 σ H3 _ I3 q3) fun w' s4 ⟨z', H4, I4, r4, q4⟩ => ho' pins s4 σ H4 y z' u w' Q I4 r2 r4 q4))
theorem pt_chain {op op' : CmpOp} {r r' : R2} (ho : OpR X (compareOp op) r) (ho' : OpR X (compareOp op') r') (ha : PE X a ta) (hb : PE X b tb) (hc : PE X c tc)
    (hm : lastMarks [op, op'] [b, c] = false := by with_unfolding_all rfl) : PT X (.Compare a [op, op'] [b, c] pos) (tTest (tChain r r' ta tb tc)) := by
  intro pins s σ H Q I h
  refine isTrue_chain (thn (ha pins s σ H _ I h) fun v s1 ⟨x, H1, I1, r1, q1⟩ => test_link (thn (hb pins s1 σ H1 _ I1 q1) fun u s2 ⟨y, H2, I2, r2, q2⟩ =>
    thn (ho pins s2 σ H2 x y v u _ I2 r1 r2 q2) fun d s3 ⟨z, H3, I3, r3, k, e, q3⟩ => ?_)) hm
  subst e
  cases r3
  refine wpAny_truthy_bool ?_
  cases k with
  | false =>
    obtain ⟨k', e', q'⟩ := q3
    cases e'
    exact ite_ff ⟨H3, I3, q'⟩
  | true =>
    refine ite_tt (test_last (thn (hc pins s3 σ H3 _ I3 q3) fun w' s4 ⟨z', H4, I4, r4, q4⟩ => thn (ho' pins s4 σ H4 y z' u w' _ I4 r2 r4 q4) fun d' s5 ⟨z2, H5, I5, r5, k2, e2, q5⟩ => ?_))
    subst e2
    cases r5
    exact wpAny_truthy_bool ⟨H5, I5, q5⟩
theorem line63 : (sizeLine : Nat) < 2 ^ 63 := by rw [sizeLine_eq]; decide
theorem op_add_str : OpR X (binaryOp .Add) (fun x y H Q => ∃ i j, x = .str i ∧ y = .str j ∧ i.length + j.length ≤ sizeLine ∧ Q (.str (i ++ j)) H) := by
  intro pins s σ H x y v u Q I rx ry h
  obtain ⟨i, j, rfl, rfl, hz, q⟩ := h
  obtain ⟨t, rfl⟩ := rx
  obtain ⟨t', rfl⟩ := ry
  exact add_str (fun t' tk => ⟨.str (i ++ j), H, I.tok _, ⟨_, rfl⟩, q⟩) hz
theorem vals1 {x : V} {us : List Value} (r : Vals [x] us) : ∃ u, us = [u] ∧ RelV x u := by
  cases r with
  | cons r1 r2 => cases r2; exact ⟨_, rfl, r1⟩
theorem vals2 {x y : V} {us : List Value} (r : Vals [x, y] us) : ∃ u w', us = [u, w'] ∧ RelV x u ∧ RelV y w' := by
  cases r with
  | cons r1 r2 =>
    cases r2 with
    | cons r3 r4 => cases r4; exact ⟨_, _, rfl, r1, r3⟩
def LenV (K : PySem.W.Frag) (x : V) (H : Hp) (n : Nat) : Prop :=
  match x with
  | .str y => y.length ≤ sizeLine ∧ n = y.length
  | .byt y => y.size ≤ sizeLine ∧ n = y.size
  | .ref p => (∃ xs, SqL K H p xs ∧ n = xs.length) ∨ ∃ xs, SqT K H p xs ∧ n = xs.length
  | _ => False
theorem call_len : CallR X (.builtin "len") (fun xs H Q => ∃ x n, xs = [x] ∧ LenV X.K x H n ∧ Q (.int n) H) := by
  intro pins s σ H xs us Q I r h
  obtain ⟨x, n, rfl, e, q⟩ := h
  obtain ⟨u, rfl, rx⟩ := vals1 r
  have hl := line63
  have hs : sizeLine = 16777216 := sizeLine_eq
  cases x with
  | str y =>
    obtain ⟨t, rfl⟩ := rx
    obtain ⟨hy, e'⟩ : y.length ≤ sizeLine ∧ n = y.length := e
    subst e'
    exact len_str (by omega) ⟨.int _, H, I.tok _, ⟨_, rfl⟩, q⟩
  | byt y =>
    obtain ⟨t, rfl⟩ := rx
    obtain ⟨hy, e'⟩ : y.size ≤ sizeLine ∧ n = y.size := e
    subst e'
    exact PySem.W.len_bytes (by omega) ⟨.int _, H, I.tok _, ⟨_, rfl⟩, q⟩
  | ref p =>
    cases rx
    have e' : (∃ xs, SqL X.K H p xs ∧ n = xs.length) ∨ ∃ xs, SqT X.K H p xs ∧ n = xs.length := e
    rcases e' with ⟨xs, hx, e'⟩ | ⟨xs, hx, e'⟩
    · subst e'
      obtain ⟨its, r', pl, hz⟩ := I.list hx
      have hlen := r'.length
      exact Calls.call_len_list pl.isList (by simp only [List.size_toArray]; omega) ⟨.int xs.length, H, I.tok _, ⟨_, by simp only [List.size_toArray]; rw [hlen]⟩, q⟩
    · subst e'
      obtain ⟨its, r', pl, hz⟩ := I.tuple hx
      have hlen := r'.length
      exact len_tuple pl (by simp only [List.size_toArray]; omega) ⟨.int xs.length, H, I.tok _, ⟨_, by simp only [List.size_toArray]; rw [hlen]⟩, q⟩
  | _ => exact (show False from e).elim
end
end L2
namespace L2
open PySem PySem.Spec PyProof.Rows
structure ObjM (h : Heap) (x dx C : Addr) (mA : Str → Option Value) : Prop where
  obj : h.get? x = some (PySem.W.instObj C dx)
  ns : h.Ns1 dx mA
  ne : dx ≠ x
theorem lookIn_ns {h : Heap} {dx : Addr} {mA : Str → Option Value} (n : h.Ns1 dx mA) : ∃ od, h.get? dx = some od ∧ ∀ name, PySem.W.lookIn name od = some (mA name) := by
  obtain ⟨o, es, ep, ho, hd, hk, _, hm⟩ := n
  refine ⟨o, ho, fun name => ?_⟩
  have e := hm name
  unfold nsFind findBy at e
  rw [← Array.find?_toList] at e
  unfold PySem.W.lookIn
  rw [hd]
  dsimp only
  split
  · rename_i y q
    rw [q] at e
    exact congrArg some e
  · rename_i q
    rw [q] at e
    have a : es.toList.any (·.refKey) = false := by
      rw [List.any_eq_false]
      intro y hy
      obtain ⟨z, t, hkey⟩ := hk y (Array.mem_toList_iff.mp hy)
      simp [DictEntry.refKey, hkey]
    have a' : ¬ es.toList.any (·.refKey) = true := by rw [a]; exact Bool.false_ne_true
    rw [if_neg a']
    exact congrArg some e
theorem ObjM.look {h : Heap} {x dx C : Addr} {mA : Str → Option Value} (I : ObjM h x dx C mA) : ∃ od, PySem.W.InstAt h x (PySem.W.instObj C dx) C (some od) ∧ ∀ name, PySem.W.lookIn name od = some (mA name) :=
  let ⟨od, ho, hl⟩ := lookIn_ns I.ns
  ⟨od, ⟨I.obj, rfl, rfl, ho⟩, hl⟩
theorem RelO.some_of {v : V} {o : Option Value} (r : RelO (some v) o) : ∃ u, o = some u ∧ RelV v u := by
  cases o with
  | none => exact (show False from r).elim
  | some u => exact ⟨u, rfl, r⟩
theorem handed_of {v : V} {u : Value} (r : RelV v u) : PySem.W.handedIn u = true := by
  cases v with
  | non => cases (show u = Value.none from r); rfl
  | bl b => cases (show u = Value.bool b from r); rfl
  | int i => obtain ⟨t, e⟩ := (show ∃ t, u = Value.int i t from r); cases e; rfl
  | str x => obtain ⟨t, e⟩ := (show ∃ t, u = Value.str x t from r); cases e; rfl
  | byt b => obtain ⟨t, e⟩ := (show ∃ t, u = Value.bytes b t from r); cases e; rfl
  | flt b => obtain ⟨t, e⟩ := (show ∃ t, u = Value.float b t from r); cases e; rfl
  | ref a => cases (show u = Value.ref a from r); rfl
  | ty n => cases (show u = Value.type n from r); rfl
section
variable {P : Program} {w : World} {H H' : Hp} {h h' : Heap} {a C dx : Addr} {fs fs' : List (Str × V)}
theorem ins_get (hok : HOk P w H h) (e : H a = some (.ins C dx fs)) : ∃ mA, ObjM h a dx C mA ∧ (∀ f, RelO (fs.lookup f) (mA f)) ∧ PySem.Within mA (fs.map (·.1)) ∧ fs.length ≤ 1000 ∧ H dx = some (.own a) := by
  obtain ⟨d, z, ne, ob, mA, n, r, q⟩ := (show ObjOk P w H h a (.ins C dx fs) from hok a _ e)
  exact ⟨mA, ⟨ob, n, ne⟩, r, q, z, d⟩
end
structure Cls (K : PySem.W.Frag) (C : Addr) : Prop where
  pg : PySem.W.plainGet K C Str.empty = true
  hd : PySem.W.hasDictIn K C = true
  po : PySem.W.plainOver K C = true
  sa : PySem.W.findIn K (.ref C) "__setattr__" = some (some (.builtin "object.__setattr__"))
theorem Cls.get {K : PySem.W.Frag} {C : Addr} (c : Cls K C) (f : Str) : PySem.W.plainGet K C f = true := c.pg
def NoAttr (K : PySem.W.Frag) (C : Addr) (f : Str) : Prop := PySem.W.findIn K (.ref C) f = some none
section
variable {X : Cx} {pins : List (Addr × Obj)} {σ : St} {H : Hp} {s : Shared} {a C dx : Addr} {fs : List (Str × V)} {f : Str} {v : V} {A : Around} {E : Value → Shared → Prop}
theorem Inv.made (I : Inv X pins σ H s) : Inv X pins σ (upd (upd H s.heap.objs.size (.own (s.heap.objs.size + 1))) (s.heap.objs.size + 1) (.ins C s.heap.objs.size []))
    { s with heap := (s.heap.push PySem.W.emptyDict).push (PySem.W.instObj C s.heap.objs.size) } := by
  have e1 : (s.heap.push PySem.W.emptyDict).get? s.heap.objs.size = some PySem.W.emptyDict := Heap.get?_push_size s.heap rfl
  have e2 : ((s.heap.push PySem.W.emptyDict).push (PySem.W.instObj C s.heap.objs.size)).get? (s.heap.objs.size + 1) = some (PySem.W.instObj C s.heap.objs.size) := by
    have := Heap.get?_push_size (s.heap.push PySem.W.emptyDict) (o := PySem.W.instObj C s.heap.objs.size) rfl
    rwa [Heap.size_push] at this
  have e3 : (s.heap.push PySem.W.emptyDict).Ns s.heap.objs.size (fun _ => none) := ⟨PySem.W.emptyDict, #[], _, e1, rfl, (fun e he => absurd he (by simp)), fun _ => rfl⟩
  have I1 := I.laid (a := s.heap.objs.size) (o := .own (s.heap.objs.size + 1)) (h' := s.heap.push PySem.W.emptyDict) (t' := s.toks) (fun b u q => Heap.get?_push_of_some _ q) (Nat.le_refl _) ⟨_, e1⟩
  refine I1.laid (a := s.heap.objs.size + 1) (o := .ins C s.heap.objs.size []) (t' := s.toks) (fun b u q => Heap.get?_push_of_some _ q) (Nat.le_of_eq (Heap.size_push _ _)) ?_
  have ne : s.heap.objs.size ≠ s.heap.objs.size + 1 := Nat.ne_of_lt (Nat.lt_succ_self _)
  refine ⟨by rw [upd_ne ne, upd_same], Nat.zero_le _, ne, e2, fun _ => none, (Heap.Ns1.of_empty e3).at fun o q => Heap.get?_push_of_some _ q, fun _ => True.intro, fun y hy => absurd rfl hy⟩
theorem attr_of {prog : Program} {w : World} {env : Env} {e : Expr} {f : Str} {pos : Pos} {s : Shared} {Q : Value → Shared → Prop} (hb : attributeBase e f env (eval e env) = eval e env)
    (h : wpAny (model prog w) A (eval e env) (fun o s₁ => wpAny (model prog w) A (getAttr o f true) Q E s₁) E s) : wpAny (model prog w) A (eval (.Attribute e f pos) env) Q E s :=
  Attribute_any_ h (by rw [arm_eval_Attribute, hb])
end
section
variable {X : Cx} {pins : List (Addr × Obj)} {σ : St} {H : Hp} {s : Shared} {A : Around} {E : Value → Shared → Prop} {Q : Value → Shared → Prop} {c : Value} {b : Bool}
inductive TyOf (K : PySem.W.Frag) (H : Hp) : V → Value → Prop where
  | non : TyOf K H .non (.type "NoneType")
  | bl (x : Bool) : TyOf K H (.bl x) (.type "bool")
  | int (i : Int) : TyOf K H (.int i) (.type "int")
  | str (x : Str) : TyOf K H (.str x) (.type "str")
  | flt (x : UInt64) : TyOf K H (.flt x) (.type "float")
  | lst {a : Addr} {xs : List V} (e : H a = some (.lst xs)) : TyOf K H (.ref a) (.type "list")
  | frz {a : Addr} {o : Obj} {xs : List V} (e : H a = some (.frz o (.lst xs))) : TyOf K H (.ref a) (.type "list")
  | tup {a : Addr} {xs : List V} (e : H a = some (.tup xs)) : TyOf K H (.ref a) (.type "tuple")
  | dK {a : Addr} {kvs : List (Key × V)} (e : H a = some (.dK kvs)) : TyOf K H (.ref a) (.type "dict")
  | dT {a : Addr} {kvs : List (List Key × V)} (e : H a = some (.dT kvs)) : TyOf K H (.ref a) (.type "dict")
  | ins {a C dx : Addr} {fs : List (Str × V)} (e : H a = some (.ins C dx fs)) (cl : Cls K C) (ha : PySem.W.findIn K (.ref C) "__class__" = some (some (.builtin "object.__class__")))
      (hn : PySem.W.specialIn K (.builtin "object.__class__") "__get__" = some (some (.builtin "getset_descriptor.__get__"))) (htk : PySem.W.takesIn K (.builtin "object.__class__") = some true)
      (hm : PySem.W.mroIn K C (.type "object") = some true) : TyOf K H (.ref a) (.ref C)
theorem isinst_ok {x : V} {u t : Value} (I : Inv X pins σ H s) (rx : RelV x u) (ty : TyOf X.K H x t) (e : PySem.W.kitOne X.K t c = some b) (h : ∀ tk, Q (.bool b) { s with toks := tk }) :
    wpAny (model X.prog X.w) A (call (.builtin "isinstance") [u, c]) Q E s := by
  cases ty with
  | non => cases (show u = Value.none from rx); exact PySem.W.kia_one PySem.W.kitx_none I.kIn True.intro e (fun z => nomatch z) h
  | bl y => cases (show u = Value.bool y from rx); exact PySem.W.kia_one PySem.W.kitx_bool I.kIn True.intro e (fun z => nomatch z) h
  | int i => obtain ⟨t, q⟩ := (show ∃ t, u = Value.int i t from rx); cases q; exact PySem.W.kia_one PySem.W.kitx_int I.kIn True.intro e (fun z => nomatch z) h
  | str y => obtain ⟨t, q⟩ := (show ∃ t, u = Value.str y t from rx); cases q; exact PySem.W.kia_one PySem.W.kitx_str I.kIn True.intro e (fun z => nomatch z) h
  | flt y => obtain ⟨t, q⟩ := (show ∃ t, u = Value.float y t from rx); cases q; exact PySem.W.kia_one PySem.W.kitx_float I.kIn True.intro e (fun z => nomatch z) h
  | @lst a xs ea =>
    cases (show u = Value.ref a from rx)
    obtain ⟨_, _, n, _, h1⟩ := (show ObjOk X.prog X.w H s.heap a (.lst xs) from I.hok a _ ea)
    exact PySem.W.kia_one PySem.W.kitx_list I.kIn ⟨_, h1, rfl⟩ e (fun z => nomatch z) h
  | @frz a ob xs ea =>
    cases (show u = Value.ref a from rx)
    obtain ⟨_, _, _, n, _, h1⟩ := (show ObjOk X.prog X.w H s.heap a (.frz ob (.lst xs)) from I.hok a _ ea)
    exact PySem.W.kia_one PySem.W.kitx_list I.kIn ⟨_, h1, rfl⟩ e (fun z => nomatch z) h
  | @tup a xs ea =>
    cases (show u = Value.ref a from rx)
    obtain ⟨_, _, _, p⟩ := (show ObjOk X.prog X.w H s.heap a (.tup xs) from I.hok a _ ea)
    obtain ⟨o, h1, h2, _⟩ := p
    exact PySem.W.kia_one PySem.W.kitx_tuple I.kIn ⟨o, h1, h2⟩ e (fun z => nomatch z) h
  | @dK a kvs ea =>
    cases (show u = Value.ref a from rx)
    obtain ⟨_, _, vs, _, p⟩ := (show ObjOk X.prog X.w H s.heap a (.dK kvs) from I.hok a _ ea)
    obtain ⟨o, es, ep, h1, h2, _⟩ := p
    exact PySem.W.kia_one PySem.W.kitx_dict I.kIn ⟨o, h1, h2.1⟩ e (fun z => nomatch z) h
  | @dT a kvs ea =>
    cases (show u = Value.ref a from rx)
    obtain ⟨_, _, xs, _, o, es, ep, h1, h2, _⟩ := (show ObjOk X.prog X.w H s.heap a (.dT kvs) from I.hok a _ ea)
    exact PySem.W.kia_one PySem.W.kitx_dict I.kIn ⟨o, h1, h2.1⟩ e (fun z => nomatch z) h
  | @ins a C dx fs ea cl ha hn htk hm =>
    cases (show u = Value.ref a from rx)
    obtain ⟨mA, O, _⟩ := ins_get I.hok ea
    obtain ⟨od, J, _⟩ := O.look
    exact PySem.W.kia_one (PySem.W.kitx_own (cl.get _) cl.hd ha hn htk hm) I.kIn J e (fun z => nomatch z) h
end
end L2
namespace L2
open PySem PySem.Spec PyProof.Rows
structure Room (k : Nat) (A : Around) : Prop where
  hd : A.handled = none
  dp : A.depth + 3 * k + 5 < recursionLimit
  un : A.units + 16 * k + 200 < cLine
theorem Room.mono {j k : Nat} {A : Around} (r : Room k A) (h : j ≤ k) : Room j A := ⟨r.hd, by have := r.dp; omega, by have := r.un; omega⟩
theorem Room.deeper {k : Nat} {A : Around} (r : Room (k + 1) A) (env : Env) : Room k (A.deeper env) :=
  ⟨r.hd, by have := r.dp; show A.depth + 1 + 3 * k + 5 < _; omega, by have := r.un; show A.units + 3 + 16 * k + 200 < _; omega⟩
theorem Room.in1 {k : Nat} {A : Around} (r : Room (k + 1) A) : Room k A.in1 :=
  ⟨r.hd, by have := r.dp; show A.depth + 3 * k + 5 < _; omega, by have := r.un; show A.units + 1 + 16 * k + 200 < _; omega⟩
theorem make_depth {A : Around} {C : Addr} {us : List Value} {kw : List (Str × Value)} : (A.under (.builtin "type.__call__" ⟨.ref C :: us, kw⟩)).depth = A.depth + 1 := by
  first | rfl | simp [Around.under, Code.weight, Code.isCreation, Code.isGuard, Code.isCaller, Code.frames, Code.isFrame, guardIds]
theorem make_units {A : Around} {C : Addr} {us : List Value} {kw : List (Str × Value)} : (A.under (.builtin "type.__call__" ⟨.ref C :: us, kw⟩)).units = A.units + 1 := by
  first | rfl | simp [Around.under, Code.cUnits, Code.frames, Code.isFrame]
theorem Room.make {k : Nat} {A : Around} (r : Room (k + 1) A) (C : Addr) (us : List Value) (kw : List (Str × Value)) : Room k (A.under (.builtin "type.__call__" ⟨.ref C :: us, kw⟩)) :=
  ⟨r.hd, by have := r.dp; rw [make_depth]; omega, by have := r.un; rw [make_units]; omega⟩
theorem Room.depth {k : Nat} {A : Around} (r : Room k A) : A.depth < recursionLimit := by have := r.dp; omega
theorem Room.units {k : Nat} {A : Around} (r : Room k A) : A.units + 64 < cLine := by have := r.un; omega
def tNil : TA := fun _ H Q => Q [] H
def tCons (ta : TE) (tr : TA) : TA := fun σ H Q => ta σ H fun x H1 => tr σ H1 fun xs H2 => Q (x :: xs) H2
section
variable {X : Cx} {e : Expr} {es : List Expr} {te : TE} {t : TA} {pos : Pos}
theorem pa_nil : PA X [] tNil := fun _ _ _ _ H Q I h => Calls.spliced_nil ⟨[], H, I, .nil, h⟩
theorem pa_cons (ha : PE X e te) (hr : PA X es t) (hs : starEach (e :: es) X.env = (false, eval e X.env) :: starEach es X.env := by rfl) : PA X (e :: es) (tCons te t) := by
  intro pos pins s σ H Q I h
  rw [hs]
  show wpAny _ _ (spliced ((false, eval e X.env) :: backTo pos (starEach es X.env))) _ _ s
  refine Calls.spliced_cons (thn (ha pins s σ H _ I h) fun u s1 ⟨x, H1, I1, r1, q1⟩ => ?_)
  exact thn (hr pos pins s1 σ H1 _ I1 q1) fun us s2 ⟨xs, H2, I2, r2, q2⟩ => ⟨x :: xs, H2, I2, .cons r1 r2, q2⟩
def tTup (t : TA) : TE := fun σ H Q => t σ H fun xs H1 => xs.length ≤ sizeLine ∧ ∀ p, H1 p = none → Q (.ref p) (upd H1 p (.tup xs))
def tLst (t : TA) : TE := fun σ H Q => t σ H fun xs H1 => xs.length ≤ sizeLine ∧ ∀ p, H1 p = none → Q (.ref p) (upd H1 p (.lst xs))
theorem pe_tup {x1} (h : PA X es t) : PE X (.Tuple es x1 pos) (tTup t) := by
  intro pins s σ H Q I hq
  refine wpAny_Tuple_spliced (thn (h pos pins s σ H _ I hq) fun us s1 ⟨xs, H1, I1, r, z, q⟩ => ⟨by rw [← r.length]; exact z, ?_⟩)
  have hf : H1 s1.heap.objs.size = none := I1.hok.fresh (Nat.le_refl _)
  refine ⟨.ref s1.heap.objs.size, upd H1 s1.heap.objs.size (.tup xs), I1.laid (t' := s1.toks) (fun b u e => Heap.get?_push_of_some _ e) (Nat.le_refl _) ?_, rfl, q _ hf⟩
  exact ⟨z, us, r, ⟨_, Heap.get?_push_size _ rfl, rfl, _, rfl⟩⟩
theorem pe_lst (h : PA X es t) : PE X (.List es pos) (tLst t) := by
  intro pins s σ H Q I hq
  refine wpAny_List_spliced (thn (h pos pins s σ H _ I hq) fun us s1 ⟨xs, H1, I1, r, z, q⟩ => ⟨by rw [← r.length]; exact z, ?_⟩)
  have hf : H1 s1.heap.objs.size = none := I1.hok.fresh (Nat.le_refl _)
  refine ⟨.ref s1.heap.objs.size, upd H1 s1.heap.objs.size (.lst xs), I1.laid (t' := s1.toks) (fun b u e => Heap.get?_push_of_some _ e) (Nat.le_refl _) ?_, rfl, q _ hf⟩
  exact ⟨z, us, 0, r, Heap.get?_push_size _ rfl⟩
end
abbrev Sp := List V → Hp → VK → XK → Prop
abbrev CXT := List Env → Hp → Shared → XK → Value → Shared → Prop
structure Env0 (P : Program) (w : World) (K : PySem.W.Frag) (mg : Str → Option Value) (base : Heap) (A : Around) (outer : List Env) (s : Shared) (H : Hp) : Prop where
  frames : A.frames = some outer
  mod : Mod K mg base
  bs : ∀ b o, base.get? b = some o → s.heap.get? b = some o ∧ H b = none
  bsz : base.objs.size ≤ s.heap.objs.size
  funs : s.heap.FunFrames base outer
  frf : ∀ b ∈ frs outer, H b = none
  hok : HOk P w H s.heap
  bare : AllBare s.gens
def CE (outer : List Env) (P : Program) (w : World) (H : Hp) (s : Shared) (Q : VK) (u : Value) (s' : Shared) : Prop :=
  ∃ v H', s'.os = s.os ∧ AllBare s'.gens ∧ Un (frs outer) [] H H' s.heap s'.heap ∧ HOk P w H' s'.heap ∧ RelV v u ∧ Q v H'
def CR (CX : CXT) (outer : List Env) (P : Program) (w : World) (H : Hp) (s : Shared) (Q : VK) (E : XK) (r : Result) (s' : Shared) : Prop :=
  match r with
  | .ok (.ret u) => CE outer P w H s Q u s'
  | .ok _ => False
  | .error e => CX outer H s E e s'
structure FnOk (P : Program) (w : World) (K : PySem.W.Frag) (mg : Str → Option Value) (base : Heap) (CX : CXT) (k : Nat) (f : Addr) (fd : FuncData) (ps : List Str) (sp : Sp) : Prop where
  len : ∀ vs H Q E, sp vs H Q E → vs.length = ps.length
  run : ∀ (A : Around) (outer : List Env) (s : Shared) (H : Hp) (args : Args) (us : List Value) (vs : List V) (Q : VK) (E : XK), Room k A → Env0 P w K mg base A outer s H → BindsTo s fd args (ps.zip us) → Vals vs us → sp vs H Q E →
    codeAny (model P w) A (.call (.ref f) args) (CR CX outer P w H s Q E) s
theorem FnOk.mono {P : Program} {w : World} {K : PySem.W.Frag} {mg : Str → Option Value} {base : Heap} {CX : CXT} {j k : Nat} {f : Addr} {fd : FuncData} {ps : List Str} {sp : Sp} (F : FnOk P w K mg base CX j f fd ps sp) (h : j ≤ k) :
    FnOk P w K mg base CX k f fd ps sp := ⟨F.len, fun A outer s H args us vs Q E hr => F.run A outer s H args us vs Q E (hr.mono h)⟩
theorem FnOk.imp {P : Program} {w : World} {K : PySem.W.Frag} {mg : Str → Option Value} {base : Heap} {CX : CXT} {k : Nat} {f : Addr} {fd : FuncData} {ps : List Str} {sp sp' : Sp} (F : FnOk P w K mg base CX k f fd ps sp)
    (h : ∀ vs H Q E, sp' vs H Q E → sp vs H Q E) : FnOk P w K mg base CX k f fd ps sp' :=
  ⟨fun vs H Q E q => F.len vs H Q E (h _ _ _ _ q), fun A outer s H args us vs Q E hr he hb hv hs => F.run A outer s H args us vs Q E hr he hb hv (h _ _ _ _ hs)⟩
theorem Env0.make {P : Program} {w : World} {K : PySem.W.Frag} {mg : Str → Option Value} {base : Heap} {A : Around} {outer : List Env} {s : Shared} {H : Hp} (e : Env0 P w K mg base A outer s H) (C : Addr) (us : List Value) (kw : List (Str × Value)) :
    Env0 P w K mg base (A.under (.builtin "type.__call__" ⟨.ref C :: us, kw⟩)) outer s H := ⟨by first | exact e.frames | (simpa [Around.under, Code.envs, Code.isFrame, pushEnvs] using e.frames), e.mod, e.bs, e.bsz, e.funs, e.frf, e.hok, e.bare⟩
theorem Env0.in1 {P : Program} {w : World} {K : PySem.W.Frag} {mg : Str → Option Value} {base : Heap} {A : Around} {outer : List Env} {s : Shared} {H : Hp} (e : Env0 P w K mg base A outer s H) :
    Env0 P w K mg base A.in1 outer s H := ⟨e.frames, e.mod, e.bs, e.bsz, e.funs, e.frf, e.hok, e.bare⟩
section
variable {X : Cx} {pins : List (Addr × Obj)} {σ : St} {H : Hp} {s s' : Shared}
theorem Inv.env0 (I : Inv X pins σ H s) : Env0 X.prog X.w X.K X.mg X.base X.A X.stack s H :=
  ⟨I.ok.frames, I.ok.mod, I.bs, Nat.le_trans I.ok.bsz I.sz, I.stack, I.stkFree, I.hok, I.bare⟩
theorem Inv.after {Q : VK} {u : Value} (I : Inv X pins σ H s) (h : CE X.stack X.prog X.w H s Q u s') : EP X pins σ Q u s' := by
  obtain ⟨v, H', os, bare, un, hok, r, q⟩ := h
  obtain ⟨hh, g, d, t, os'⟩ := s'
  obtain rfl : os' = s.os := os
  exact ⟨v, H', I.call (h' := hh) (g' := g) (d' := d) (t' := t) (ch := []) un hok bare (fun b z => absurd z (by simp)), r, q⟩
end
def tCall (sp : Sp) (dvs : List V) (E : XK) (t : TA) : TE := fun σ H Q => t σ H fun vs H1 => sp (vs ++ dvs) H1 Q E
def Binds (K : PySem.W.Frag) (fd : FuncData) (ps : List Str) (ds : List Value) : Prop :=
  ∀ (s : Shared) (us : List Value), K.In s.heap → (us ++ ds).length = ps.length → BindsTo s fd ⟨us, []⟩ (ps.zip (us ++ ds))
theorem Binds.all {K : PySem.W.Frag} {fd : FuncData} {ps : List Str} (h : ∀ us : List Value, us.length = ps.length → bindArgs fd ⟨us, []⟩ = pure (ps.zip us)) : Binds K fd ps [] := fun s us _ hl => by
  rw [List.append_nil] at hl ⊢
  exact .of_eq (h us hl)
def Passes (CX : CXT) (X : Cx) (E : XK) : Prop := ∀ (pins : List (Addr × Obj)) (σ : St) (H : Hp) (s : Shared) (e : Value) (s' : Shared), Inv X pins σ H s → CX X.stack H s E e s' → X.xe e s'
section
variable {X : Cx} {CX : CXT} {k : Nat} {f C : Addr} {fd : FuncData} {ps : List Str} {sp : Sp} {dvs : List V} {ds : List Value} {E : XK} {x m : Str} {p pos apos : Pos} {e o : Expr} {es : List Expr} {ta : TE} {t : TA}
theorem run_fn {pins : List (Addr × Obj)} {σ : St} {H : Hp} {s : Shared} {Q : VK} {us : List Value} {vs : List V} (F : FnOk X.prog X.w X.K X.mg X.base CX k f fd ps sp) (hr : Room k X.A) (hb : Binds X.K fd ps ds) (hd : Vals dvs ds) (hx : Passes CX X E)
    (I : Inv X pins σ H s) (r : Vals vs us) (h : sp (vs ++ dvs) H Q E) : wpAny (model X.prog X.w) X.A (call (.ref f) us) (EP X pins σ Q) X.xe s := by
  have r2 : Vals (vs ++ dvs) (us ++ ds) := r.append hd
  have hl : (us ++ ds).length = ps.length := by rw [← r2.length]; exact F.len _ _ _ _ h
  refine wpAny_call (codeAny_mono (F.run X.A X.stack s H ⟨us, []⟩ (us ++ ds) (vs ++ dvs) Q E hr I.env0 (hb s us I.kIn hl) r2 h) fun r s' hq => ?_)
  cases r with
  | error e => exact hx pins σ H s e s' I hq
  | ok fl =>
    cases fl with
    | ret u => exact I.after hq
    | next => exact False.elim hq
    | brk => exact False.elim hq
    | cont => exact False.elim hq
theorem pe_call (F : FnOk X.prog X.w X.K X.mg X.base CX k f fd ps sp) (hr : Room k X.A) (hg : Gl X x) (hm : X.mg x = some (.ref f)) (hk : PySem.W.keepIn X.K (.ref f) = true) (hb : Binds X.K fd ps ds) (hd : Vals dvs ds) (hx : Passes CX X E)
    (ha : PA X (e :: es) t) (hdb : (x == ("__debug__" : Str)) = false := by decide) (he : starEach (e :: es) X.env = (false, eval e X.env) :: starEach es X.env := by rfl) (hpl : (backTo pos (starEach es X.env)).any (·.1) = false := by rfl) :
    PE X (.Call (.Name x p) (e :: es) [] pos) (tCall sp dvs E t) := by
  intro pins s σ H Q I h
  refine wpAny_Call_Name_kw (ld_glob I hg hm ?_ hdb)
  refine PySem.W.callWith_K (h₀ := X.base) I.ok.mod.kin hk (thn (ha pos pins s σ H _ I h) fun us s1 ⟨vs, H1, I1, r, q⟩ => ⟨I1.kIn, ?_⟩) he hpl
  exact run_fn F hr hb hd hx I1 r q
end
structure FnScope (N P : List Str) (sc : Scope) : Prop where
  kind : sc.kind = .function
  co : sc.isCoroutine = false
  gen : sc.isGenerator = false
  nd : N.Nodup
  pre : N.take P.length = P
  par : ∀ x ∈ P, sc.names.lookup x = some .local ∨ sc.names.lookup x = some .cell
  nofree : ∀ y ∈ sc.names, y.2 ≠ .free
theorem bindL_out {kindOf : Str → Option NameKind} {x : Str} : ∀ {binds : List (Str × Value)} {m : Str → Option Value}, (∀ v, (x, v) ∉ binds) → bindL kindOf binds m x = m x
  | [], _, _ => rfl
  | (n, v) :: r, m, h => by
    unfold bindL
    rw [bindL_out fun w hw => h w (List.mem_cons_of_mem _ hw)]
    split
    · have : x ≠ n := by rintro rfl; exact h v List.mem_cons_self
      simp [this]
    · rfl
theorem bindC_out {kindOf : Str → Option NameKind} {x : Str} : ∀ {binds : List (Str × Value)} {m : Str → Option Value}, (∀ v, (x, v) ∉ binds) → bindC kindOf binds m x = m x
  | [], _, _ => rfl
  | (n, v) :: r, m, h => by
    unfold bindC
    rw [bindC_out fun w hw => h w (List.mem_cons_of_mem _ hw)]
    split
    · rfl
    · have : x ≠ n := by rintro rfl; exact h v List.mem_cons_self
      simp [this]
theorem bindL_get {kindOf : Str → Option NameKind} {x : Str} {v : Value} : ∀ {P : List Str} {vs : List Value} {i : Nat} {m : Str → Option Value}, P.Nodup → P[i]? = some x → vs[i]? = some v → kindOf x = some .local →
    bindL kindOf (P.zip vs) m x = some v
  | [], _, _, _, _, h, _, _ => by simp at h
  | _ :: _, [], _, _, _, _, h, _ => by simp at h
  | p :: P, w :: vs, 0, m, nd, h1, h2, hk => by
    simp at h1 h2; subst h1; subst h2
    show bindL kindOf ((p, w) :: P.zip vs) m p = _
    unfold bindL
    rw [bindL_out fun v hv => (List.nodup_cons.mp nd).1 (List.of_mem_zip hv).1, if_pos hk]
    simp
  | p :: P, w :: vs, i + 1, m, nd, h1, h2, hk => by
    show bindL kindOf ((p, w) :: P.zip vs) m x = _
    unfold bindL
    exact bindL_get (i := i) (List.nodup_cons.mp nd).2 (by simpa using h1) (by simpa using h2) hk
theorem bindC_get {kindOf : Str → Option NameKind} {x : Str} {v : Value} : ∀ {P : List Str} {vs : List Value} {i : Nat} {m : Str → Option Value}, P.Nodup → P[i]? = some x → vs[i]? = some v → kindOf x ≠ some .local →
    bindC kindOf (P.zip vs) m x = some v
  | [], _, _, _, _, h, _, _ => by simp at h
  | _ :: _, [], _, _, _, _, h, _ => by simp at h
  | p :: P, w :: vs, 0, m, nd, h1, h2, hk => by
    simp at h1 h2; subst h1; subst h2
    show bindC kindOf ((p, w) :: P.zip vs) m p = _
    unfold bindC
    rw [bindC_out fun v hv => (List.nodup_cons.mp nd).1 (List.of_mem_zip hv).1, if_neg hk]
    simp
  | p :: P, w :: vs, i + 1, m, nd, h1, h2, hk => by
    show bindC kindOf ((p, w) :: P.zip vs) m x = _
    unfold bindC
    exact bindC_get (i := i) (List.nodup_cons.mp nd).2 (by simpa using h1) (by simpa using h2) hk
def start (N : List Str) (vs : List V) : St := vs.map some ++ List.replicate (N.length - vs.length) none
def cxOf (CX : CXT) (P : Program) (w : World) (K : PySem.W.Frag) (mg : Str → Option Value) (base : Heap) (N : List Str) (qual : Str) (scope : Scope) (f : Addr) (cd : Value) (A : Around) (outer : List Env) (s : Shared) (H : Hp) (E : XK) : Cx where
  prog := P
  w := w
  K := K
  mg := mg
  base := base
  A := A.deeper (envOfC qual scope s.heap.objs.size f cd)
  N := N
  s₀ := s
  H₀ := H
  env := envOfC qual scope s.heap.objs.size f cd
  outer := outer
  stack := envOfC qual scope s.heap.objs.size f cd :: outer
  ex := []
  calm := true
  fn := fun _ => true
  pn := []
  xe := fun e s' => wpAny (model P w) (A.deeper (envOfC qual scope s.heap.objs.size f cd)) (leaving (envOfC qual scope s.heap.objs.size f cd) e) (fun _ s'' => CX outer H s E e s'') (fun e' s'' => CX outer H s E e' s'') s'
theorem cell_has {sc : Scope} {n : Nat} {x : Str} (h : sc.names.lookup x = some .cell) : ∃ c, (cellsFrom n sc.names []).lookup x = some c := by
  have q := PySem.W.cellsFrom_some sc.names n [] (.inl h)
  exact Option.isSome_iff_exists.mp q
theorem inv_start {CX : CXT} {P : Program} {w : World} {K : PySem.W.Frag} {mg : Str → Option Value} {base : Heap} {N ps : List Str} {qual : Str} {scope : Scope} {f : Addr} {cd : Value} {A : Around} {outer : List Env} {s s1 : Shared} {H : Hp} {E : XK} {us : List Value} {vs : List V}
    (S : FnScope N ps scope) (hd : A.handled = none) (e0 : Env0 P w K mg base A outer s H) (hl : vs.length = ps.length) (r : Vals vs us)
    (x : InCallC s s.heap.objs.size (bindL (envOfC qual scope s.heap.objs.size f cd).kindOf (ps.zip us) fun _ => none) (cellsFrom (s.heap.objs.size + 1) scope.names []) (bindC (envOfC qual scope s.heap.objs.size f cd).kindOf (ps.zip us) fun _ => none) s1) :
    Inv (cxOf CX P w K mg base N qual scope f cd A outer s H E) [] (start N vs) H s1 := by
  have hpl : ps.length ≤ N.length := by have := congrArg List.length S.pre; rw [List.length_take] at this; omega
  obtain ⟨h1, tk, rfl, hk⟩ := x.done
  have noA : ∀ b : Addr, b ∉ (cxOf CX P w K mg base N qual scope f cd A outer s H E).ex := fun b z => absurd (show b ∈ ([] : List Addr) from z) (by simp)
  refine ⟨⟨e0.mod, S.kind, rfl, rfl, Nat.le_refl _, fun y z c h1 h2 => ?_, fun y hy => ?_, fun y c _ h => ?_, fun _ => hd, Around.frames_deeper e0.frames, .inr ⟨rfl, rfl⟩, fun b z => absurd z (noA b), e0.bs, e0.bsz, fun b _ _ => noA b, fun b z => absurd z (noA b), e0.funs, e0.frf⟩,
    rfl, e0.bare, Un.kept hk, ⟨_, x.toInCall.ns, fun i y v h1 h2 h3 => ?_⟩, fun y c h => ⟨_, x.cell y c h⟩, e0.hok.fresh (Nat.le_refl _), fun y c h => ?_, fun p hp => absurd (show p ∈ ([] : List (Addr × Obj)) from hp) (by simp), e0.hok.kept hk, ?_⟩
  · exact name_of_addr x.apart (PySem.mem_of_lookup h1) (PySem.mem_of_lookup h2)
  · have hy : scope.names.lookup y = some .cell ∨ scope.names.lookup y = some .free := hy
    rcases hy with hy | hy
    · exact cell_has hy
    · exact absurd rfl (S.nofree _ (PySem.mem_of_lookup hy))
  · exact Nat.le_of_lt (x.above y c (PySem.mem_of_lookup h))
  · have hi : i < vs.length := by
      unfold start at h2
      by_cases hi : i < vs.length
      · exact hi
      · rw [List.getElem?_append_right (by simpa using hi)] at h2
        rw [List.getElem?_replicate] at h2
        split at h2 <;> cases h2
    have ha : vs[i]? = some v := by
      unfold start at h2
      rw [List.getElem?_append_left (by simpa using hi), List.getElem?_map] at h2
      cases e : vs[i]? with
      | none => rw [e] at h2; cases h2
      | some a => rw [e] at h2; cases h2; rfl
    obtain ⟨u, hu, rv⟩ := r.get ha
    have hp : ps[i]? = some y := by
      rw [← S.pre, List.getElem?_take_of_lt (by omega)]; exact h1
    have ndP : ps.Nodup := by rw [← S.pre]; exact S.nd.sublist (List.take_sublist _ _)
    refine ⟨u, rv, ?_⟩
    rcases S.par y (List.mem_of_getElem? hp) with k | k
    · exact .inl ⟨k, bindL_get ndP hp hu k⟩
    · obtain ⟨c, e⟩ := cell_has (n := s.heap.objs.size + 1) k
      refine .inr ⟨.inl k, c, e, ?_⟩
      have q := x.cell y c e
      rw [bindC_get ndP hp hu (by show scope.names.lookup y ≠ _; rw [k]; decide)] at q
      exact q
  · exact e0.hok.fresh (Nat.le_of_lt (x.above y c (PySem.mem_of_lookup h)))
  · unfold start
    show _ = N.length
    rw [List.length_append, List.length_map, List.length_replicate]
    omega
theorem fn_of {CX : CXT} {P : Program} {w : World} {K : PySem.W.Frag} {mg : Str → Option Value} {base : Heap} {k : Nat} {f : Addr} {name qual : Str} {params : Arguments} {body : List Stmt} {scope : Scope} {dV kV doc pm cdv ct oc : Value} {an od : Option Addr}
    {osl : Array (Option Value)} {N ps : List Str} {sp : Sp} (lk : K.lookup f = some ⟨oc, od, .func (PySem.W.fnOf name qual params body scope dV kV doc pm an cdv ct), osl⟩) (hcd : PySem.W.codeIn K cdv qual = true) (S : FnScope N ps scope)
    (len : ∀ vs H Q E, sp vs H Q E → vs.length = ps.length)
    (hbody : ∀ (A : Around) (outer : List Env) (s : Shared) (H : Hp) (vs : List V) (Q : VK) (E : XK), Room k (A.deeper (envOfC qual scope s.heap.objs.size f cdv)) → sp vs H Q E →
      ∃ t, PSs (cxOf CX P w K mg base N qual scope f cdv A outer s H E) body t ∧ t { nx := fun _ H' => Q .non H', rt := Q } (start N vs) H) :
    FnOk P w K mg base CX (k + 1) f (PySem.W.fnOf name qual params body scope dV kV doc pm an cdv ct) ps sp := by
  refine ⟨len, fun A outer s H args us vs Q E hr e0 hb r hsp => ?_⟩
  have hl := len _ _ _ _ hsp
  have KX : K.In s.heap := e0.mod.kin.keeps fun b o e => (e0.bs b o e).1
  have lim : s.heap.NoLimit := e0.mod.nolimit.keeps fun b o e => (e0.bs b o e).1
  have hkind : ∀ y ∈ ps.zip us, scope.names.lookup y.1 = some .local ∨ (scope.names.lookup y.1 = some .cell ∧ ((cellsFrom (s.heap.objs.size + 1) scope.names []).lookup y.1).isSome = true) := fun ⟨n, v⟩ hy => by
    rcases S.par n (List.of_mem_zip hy).1 with q | q
    · exact .inl q
    · exact .inr ⟨q, PySem.W.cellsFrom_some _ _ _ (.inl q)⟩
  refine codeAny_call_function hr.depth (KX _ _ lk) rfl S.co S.gen rfl (PySem.W.codeRec_of KX hcd) (hb _ _ _ _ ?_)
  refine wpAny_newFunctionEnv_cells S.kind hkind fun env he s1 x => ?_
  subst he
  refine ⟨lim.keeps x.toInCall.keep, codeAny_func ?_⟩
  obtain ⟨t, ht, hq⟩ := hbody A outer s H vs Q E (hr.deeper _) hsp
  have I : Inv (cxOf CX P w K mg base N qual scope f cdv A outer s H E) [] (start N vs) H s1 := inv_start S hr.hd e0 hl r x
  refine wpAny_mono (ht [] s1 (start N vs) H _ I hq) (fun fl s' hs => ?_) fun e s' hs => hs
  have fin : ∀ {σ' : St} {H' : Hp} {v : V} {u : Value}, Inv (cxOf CX P w K mg base N qual scope f cdv A outer s H E) [] σ' H' s' → RelV v u → Q v H' → CE outer P w H s Q u s' :=
    fun {σ' H' v u} J rv q => ⟨v, H', J.os, J.bare, J.base, J.hok, rv, q⟩
  cases fl with
  | ret u =>
    obtain ⟨v, σ', H', J, rv, q⟩ := hs
    exact fin J rv q
  | next =>
    obtain ⟨σ', H', J, q⟩ := hs
    exact fin (v := V.non) (u := Value.none) J rfl q
  | brk =>
    obtain ⟨_, _, _, q⟩ := hs
    exact False.elim q
  | cont =>
    obtain ⟨_, _, _, q⟩ := hs
    exact False.elim q
end L2
namespace L2
open PySem PySem.Spec PyProof.Rows
section
variable {X : Cx} {x : Str} {p pos : Pos} {e : Expr} {es : List Expr} {t : TA} {id T : String} {r : List V → Hp → VK → Prop}
def tCB (r : List V → Hp → VK → Prop) (t : TA) : TE := fun σ H Q => t σ H fun vs H1 => r vs H1 Q
theorem pe_callB (hc : CallR X (.builtin id) r) (hg : Gl X x) (hm : X.mg x = none) (hv : bootBuiltins x = some (.builtin id)) (ha : PA X (e :: es) t) (hn : x ≠ "__name__" := by decide) (hdb : (x == ("__debug__" : Str)) = false := by decide)
    (he : starEach (e :: es) X.env = (false, eval e X.env) :: starEach es X.env := by rfl) (hpl : (backTo pos (starEach es X.env)).any (·.1) = false := by rfl) : PE X (.Call (.Name x p) (e :: es) [] pos) (tCB r t) := by
  intro pins s σ H Q I h
  refine wpAny_Call_Name_kw (ld_blt I hg hm hv ?_ hn hdb)
  exact PyProof.Rows.callWith_builtin1 (thn (ha pos pins s σ H _ I h) fun us s1 ⟨vs, H1, I1, r1, q1⟩ => hc pins s1 σ H1 vs us Q I1 r1 q1) he hpl
theorem pe_callTy (hc : CallR X (.type T) r) (hg : Gl X x) (hm : X.mg x = none) (hv : bootBuiltins x = some (.type T)) (ha : PA X (e :: es) t) (hn : x ≠ "__name__" := by decide) (hdb : (x == ("__debug__" : Str)) = false := by decide)
    (he : starEach (e :: es) X.env = (false, eval e X.env) :: starEach es X.env := by rfl) (hpl : (backTo pos (starEach es X.env)).any (·.1) = false := by rfl) : PE X (.Call (.Name x p) (e :: es) [] pos) (tCB r t) := by
  intro pins s σ H Q I h
  refine wpAny_Call_Name_kw (ld_blt I hg hm hv ?_ hn hdb)
  exact PyProof.Rows.callWith_type1 (thn (ha pos pins s σ H _ I h) fun us s1 ⟨vs, H1, I1, r1, q1⟩ => hc pins s1 σ H1 vs us Q I1 r1 q1) he hpl
end
end L2
namespace HT
open PySem PyProof.Rows
section
variable {prog : Program} {w : World} {A : Around} {E : Value → Shared → Prop} {s : Shared}
theorem cat_tup {t b : Addr} {vs ws : List Value} {Q : Value → Shared → Prop} (ht : IsTup s.heap t vs.toArray) (hb : IsTup s.heap b ws.toArray) (hv : vs ≠ [])
    (h1 : ws = [] → Q (.ref t) s) (h2 : ws ≠ [] → Q (.ref s.heap.objs.size) { s with heap := s.heap.push { cls := .type "tuple", data := .seq (vs ++ ws).toArray } })
    (hsz : vs.length + ws.length ≤ sizeLine) : wpAny (model prog w) A (binaryOp .Add (.ref t) (.ref b)) Q E s := by
  obtain ⟨⟨cls, dd, data, sl⟩, ho, hc, n, hd⟩ := id ht
  obtain ⟨⟨cls2, dd2, data2, sl2⟩, ho2, hc2, n2, hd2⟩ := id hb
  simp only at hc hd hc2 hd2
  subst hc hd hc2 hd2
  have e : vs.toArray ++ ws.toArray = (vs ++ ws).toArray := by simp
  by_cases hw : ws = []
  · exact concat_meets ⟨_, ho, rfl⟩ ⟨_, ho2, rfl⟩ noFill_tuple_add seq_tuple_add PySem.F.slot_tuple_add PySem.F.entry_tuple_add (PySem.F.args_tuple_add_2 _ _)
      (tuple_addW1 t b vs.toArray ws.toArray n n2 dd dd2 sl sl2 (by simpa using hv) (by simp [hw])) ⟨ho, ho2, h1 hw⟩
  · refine concat_meets ⟨_, ho, rfl⟩ ⟨_, ho2, rfl⟩ noFill_tuple_add seq_tuple_add PySem.F.slot_tuple_add PySem.F.entry_tuple_add (PySem.F.args_tuple_add_2 _ _)
      (tuple_addW2 t b vs.toArray ws.toArray n n2 dd dd2 sl sl2 (by simpa using hv) (by simpa using hw) (by rw [List.size_toArray, List.size_toArray]; exact hsz)) ⟨ho, ho2, ?_⟩
    rw [e]
    exact h2 hw
def sIx (n d : Nat) : Option Int → Nat
  | none => d
  | some v => if v < 0 then (v + (n : Int)).toNat else min v.toNat n
theorem sIx_le (n d : Nat) (hd : d ≤ n) (o : Option Int) : sIx n d o ≤ n := by
  cases o with
  | none => exact hd
  | some v =>
    show (if v < 0 then (v + (n : Int)).toNat else min v.toNat n) ≤ n
    by_cases hv : v < 0
    · rw [if_pos hv]; omega
    · rw [if_neg hv]; exact Nat.min_le_right _ _
theorem clip_eq (v : Int) (n d : Nat) : (if v < 0 then max (v + (n : Int)) 0 else min v (n : Int)) = ((sIx n d (some v) : Nat) : Int) := by
  show (if v < 0 then max (v + (n : Int)) 0 else min v (n : Int)) = (((if v < 0 then (v + (n : Int)).toNat else min v.toNat n) : Nat) : Int)
  by_cases hv : v < 0
  · simp only [if_pos hv]; omega
  · simp only [if_neg hv]; omega
theorem adjust_gen (lo hi : Option Int) (n : Nat) : Builtin.Slice.sliceAdjust lo hi 1 (n : Int) = (((sIx n 0 lo : Nat) : Int), ((sIx n n hi : Nat) : Int)) := by
  have h1 : ¬ ((1 : Int) < 0) := by omega
  unfold Builtin.Slice.sliceAdjust
  simp only [h1, if_false]
  refine Prod.ext ?_ ?_
  · cases lo with
    | none => rfl
    | some v => exact clip_eq v n 0
  · cases hi with
    | none => rfl
    | some v => exact clip_eq v n n
theorem places_gen (i j : Nat) : Builtin.Slice.slicePlaces (i : Int) (j : Int) 1 = j - i := by
  unfold Builtin.Slice.slicePlaces
  have h1 : (1 : Int) > 0 := by omega
  simp only [h1, if_true, Int.ediv_one]
  split <;> omega
theorem slicePart_ {v : Value} {o : Option Int} {Q : Option Int → Shared → Prop} (p : IsPart v o) (h : Q o s) : wpAny (model prog w) A (Builtin.Slice.slicePartIndex v) Q E s := by
  cases p with
  | none => exact slicePart_none h
  | int i t => exact slicePart_int h
theorem sliceApplied_gen {sl : Addr} {vl vu : Value} {lo hi : Option Int} {n : Nat} {Q : Int × Int × Nat → Shared → Prop} (hs : s.heap.IsSliceOf sl vl vu .none) (pl : IsPart vl lo) (pu : IsPart vu hi)
    (h : Q (((sIx n 0 lo : Nat) : Int), 1, sIx n n hi - sIx n 0 lo) s) : wpAny (model prog w) A (Builtin.Slice.sliceApplied (.ref sl) (pure (n : Int))) Q E s := by
  obtain ⟨os, hos, hcs, hds⟩ := id hs
  unfold Builtin.Slice.sliceApplied Builtin.Slice.sliceFields
  refine wpAny_bind (wpAny_bind (wpAny_field hos hds (x := vl) rfl (wpAny_bind (wpAny_field hos hds (x := vu) rfl (wpAny_bind (wpAny_field hos hds (x := .none) rfl (wpAny_pure ?_)))))))
  refine wpAny_bind (slicePart_none ?_)
  show wpAny _ _ (if ((1 : Int) == 0) = true then _ else _) _ _ s
  rw [if_neg (by decide)]
  refine wpAny_bind (slicePart_ pl (wpAny_bind (slicePart_ pu (wpAny_bind (wpAny_pure ?_)))))
  show wpAny _ _ (match Builtin.Slice.sliceAdjust lo hi 1 (n : Int) with | (lo, hi) => pure (lo, (1 : Int), Builtin.Slice.slicePlaces lo hi 1)) _ _ s
  rw [adjust_gen lo hi n]
  show wpAny _ _ (pure (((sIx n 0 lo : Nat) : Int), (1 : Int), Builtin.Slice.slicePlaces ((sIx n 0 lo : Nat) : Int) ((sIx n n hi : Nat) : Int) 1)) _ _ s
  rw [places_gen]
  exact wpAny_pure h
theorem pick_gen (xs : Array Value) (i k : Nat) : ((List.range k).filterMap fun (m : Nat) => xs[((i : Int) + (m : Int) * 1).toNat]?).toArray = ((xs.toList.drop i).take k).toArray := by
  have e : (fun (m : Nat) => xs[((i : Int) + (m : Int) * 1).toNat]?) = fun m => xs[i + m]? := by
    funext m
    have : ((i : Int) + (m : Int) * 1).toNat = i + m := by omega
    rw [this]
  rw [e]
  have := pick_run xs i k
  rw [List.filterMap_map] at this
  have e2 : ((fun x => xs[x]?) ∘ fun x => i + x) = fun m => xs[i + m]? := rfl
  rw [e2] at this
  rw [this]
theorem getItem_tuple_cut {t sl : Addr} {items : Array Value} {vl vu : Value} {lo hi : Option Int} {Q : Value → Shared → Prop} (ht : IsTup s.heap t items) (hs : s.heap.IsSliceOf sl vl vu .none) (pl : IsPart vl lo) (pu : IsPart vu hi)
    (hw : ¬ (sIx items.size 0 lo = 0 ∧ sIx items.size items.size hi = items.size))
    (h : Q (.ref s.heap.objs.size) { s with heap := s.heap.push { cls := .type "tuple", data := .seq ((items.toList.drop (sIx items.size 0 lo)).take (sIx items.size items.size hi - sIx items.size 0 lo)).toArray } })
    (hsz : items.size ≤ sizeLine) : wpAny (model prog w) A (getItem (.ref t) (.ref sl)) Q E s := by
  have htake : sizeOk (.seq ((items.toList.drop (sIx items.size 0 lo)).take (sIx items.size items.size hi - sIx items.size 0 lo)).toArray) := by
    show ((items.toList.drop (sIx items.size 0 lo)).take (sIx items.size items.size hi - sIx items.size 0 lo)).toArray.size ≤ sizeLine
    rw [List.size_toArray, List.length_take, List.length_drop, Array.length_toList]
    omega
  have hj : sIx items.size items.size hi ≤ items.size := sIx_le _ _ (Nat.le_refl _) hi
  obtain ⟨os, hos, hcs, hds⟩ := id hs
  have hTs : s.TypeIs (.ref sl) "slice" := ⟨os, hos, hcs⟩
  unfold getItem
  try with_reducible refine wpAny_holding ?_
  first | refine wpAny_bind (wpAny_pure ?_) | skip
  refine wpAny_bind (wpAny_sequenceKey ht.typeIs (by decide) ?_)
  refine wpAny_bind (wpAny_callSpecial?_slot (name := Str.ofString "__getitem__") ht.typeIs PyProof.Rows.slot_tuple_getitem
    (wpAny_call_entry PyProof.Rows.slot_tuple_getitem ht.typeIs entry_tuple_getitem ?_ (args_tuple_getitem _ _)))
  show wpAny _ _ (Builtin.Tuple.tupleItemsOf (.ref t) >>= _) _ _ s
  refine wpAny_bind (tupleItemsOf_ ht ?_)
  refine wpAny_bind (wpAny_typeOf hTs ?_)
  rw [if_pos (by decide)]
  refine wpAny_bind (sliceApplied_gen hs pl pu ?_)
  have hno : ¬ ((((sIx items.size 0 lo : Nat) : Int) == 0 && (1 : Int) == 1 && (sIx items.size items.size hi - sIx items.size 0 lo) == items.size) = true) := by
    intro q
    rw [Bool.and_eq_true, Bool.and_eq_true] at q
    have q1 : ((sIx items.size 0 lo : Nat) : Int) = 0 := eq_of_beq q.1.1
    have q2 : sIx items.size items.size hi - sIx items.size 0 lo = items.size := eq_of_beq q.2
    exact hw ⟨by omega, by omega⟩
  show wpAny _ _ (if (((sIx items.size 0 lo : Nat) : Int) == 0 && (1 : Int) == 1 && (sIx items.size items.size hi - sIx items.size 0 lo) == items.size) = true then _ else _) _ _ s
  rw [if_neg hno, pick_gen]
  first
    | exact wpAny_bind (m := Builtin.Tuple.tupleExact _) (wpAny_newObj_type (wpAny_pure ⟨_, rfl, wpAny_pure h⟩) htake)
    | exact wpAny_bind (m := Builtin.Tuple.tupleExact _) (wpAny_newObj_type (wpAny_bind (wpAny_pure (wpAny_pure ⟨_, rfl, wpAny_pure h⟩))) htake)
    | exact wpAny_bind (wpAny_bind (m := Builtin.Tuple.tupleExact _) (wpAny_newObj_type (wpAny_pure (wpAny_pure ⟨_, rfl, wpAny_pure h⟩)) htake))
    | exact wpAny_bind (wpAny_bind (m := Builtin.Tuple.tupleExact _) (wpAny_newObj_type (wpAny_pure ⟨_, rfl, wpAny_pure h⟩) htake))
end
end HT
namespace L2
open PySem PySem.Spec PyProof.Rows
abbrev TO := St → Hp → (Option Int → Hp → Prop) → Prop
def PO (X : Cx) (e : Option Expr) (t : TO) : Prop :=
  ∀ (pins : List (Addr × Obj)) (s : Shared) (σ : St) (H : Hp) (Q : Option Int → Hp → Prop), Inv X pins σ H s → t σ H Q →
    wpAny (model X.prog X.w) X.A (evalPart e X.env) (fun u s' => ∃ o H', Inv X pins σ H' s' ∧ IsPart u o ∧ Q o H') X.xe s
def tNoPart : TO := fun _ H Q => Q none H
def tPart (t : TE) : TO := fun σ H Q => t σ H fun x H1 => ∃ i, x = .int i ∧ Q (some i) H1
section
variable {X : Cx} {e : Expr} {te : TE} {lo hi : Option Expr} {tl th : TO} {pos p2 : Pos}
theorem po_none : PO X none tNoPart := by
  intro pins s σ H Q I h
  rw [evalPart_none]
  exact wpAny_pure ⟨none, H, I, .none, h⟩
theorem po_some (h : PE X e te) : PO X (some e) (tPart te) := by
  intro pins s σ H Q I hw
  rw [evalPart_some]
  refine thn (h pins s σ H _ I hw) fun u s1 ⟨x, H1, I1, r1, q1⟩ => ?_
  obtain ⟨i, rfl, q⟩ := q1
  obtain ⟨t, rfl⟩ := r1
  exact ⟨some i, H1, I1, .int i t, q⟩
def SlR (X : Cx) (r : V → Option Int → Option Int → Hp → VK → Prop) : Prop :=
  ∀ (pins : List (Addr × Obj)) (s : Shared) (σ : St) (H : Hp) (x : V) (v vl vu : Value) (lo hi : Option Int) (sl : Addr) (Q : VK), Inv X pins σ H s → RelV x v → s.heap.IsSliceOf sl vl vu .none → IsPart vl lo → IsPart vu hi → r x lo hi H Q →
    ∃ T id, typeLookup (.type T) "__getitem__" = pure (some (.builtin id)) ∧ s.TypeIs v T ∧ wpAny (model X.prog X.w) X.A (getItem v (.ref sl)) (EP X pins σ Q) X.xe s
theorem SlR.or {r r' : V → Option Int → Option Int → Hp → VK → Prop} (h : SlR X r) (h' : SlR X r') : SlR X (fun x lo hi H Q => r x lo hi H Q ∨ r' x lo hi H Q) := by
  intro pins s σ H x v vl vu lo hi sl Q I rx hs pl pu q
  rcases q with q | q
  · exact h pins s σ H x v vl vu lo hi sl Q I rx hs pl pu q
  · exact h' pins s σ H x v vl vu lo hi sl Q I rx hs pl pu q
def tSl (r : V → Option Int → Option Int → Hp → VK → Prop) (te : TE) (tl th : TO) : TE := fun σ H Q => te σ H fun x H1 => tl σ H1 fun l H2 => th σ H2 fun u H3 => r x l u H3 Q
theorem pe_slice {r : V → Option Int → Option Int → Hp → VK → Prop} (hr : SlR X r) (he : PE X e te) (hl : PO X lo tl) (hu : PO X hi th) : PE X (.Subscript e (.Slice lo hi none p2) pos) (tSl r te tl th) := by
  intro pins s σ H Q I h
  refine Subscript_ (thn (he pins s σ H _ I h) fun v s1 ⟨x, H1, I1, r1, q1⟩ => ?_)
  refine wpAny_Slice (thn (hl pins s1 σ H1 _ I1 q1) fun vl s2 ⟨l, H2, I2, pl, q2⟩ => thn (hu pins s2 σ H2 _ I2 q2) fun vu s3 ⟨u, H3, I3, pu, q3⟩ => ?_)
  rw [evalPart_none]
  refine wpAny_pure ?_
  have I4 : Inv X pins σ H3 { s3 with heap := s3.heap.push { cls := .type "slice", data := .fields #[vl, vu, .none] } } := I3.kept (t' := s3.toks) fun b ob q => Heap.get?_push_of_some _ q
  obtain ⟨T, id, hT, ht, hg⟩ := hr pins { s3 with heap := s3.heap.push { cls := .type "slice", data := .fields #[vl, vu, .none] } } σ H3 x v vl vu l u s3.heap.objs.size Q I4 r1 (Heap.IsSliceOf.new ..) pl pu q3
  show wpAny (model X.prog X.w) X.A (subscriptTail e (.Slice lo hi none p2) v (.ref s3.heap.objs.size)) (EP X pins σ Q) X.xe { s3 with heap := s3.heap.push { cls := .type "slice", data := .fields #[vl, vu, .none] } }
  exact tail_any (ops := [.ref s3.heap.objs.size, v]) ht hT hg (by with_unfolding_all rfl)
def cutV (xs : List V) (lo hi : Option Int) : List V := (xs.drop (HT.sIx xs.length 0 lo)).take (HT.sIx xs.length xs.length hi - HT.sIx xs.length 0 lo)
theorem cutV_length (xs : List V) (lo hi : Option Int) : (cutV xs lo hi).length ≤ xs.length := by
  unfold cutV
  rw [List.length_take, List.length_drop]
  omega
def rSlT (K : PySem.W.Frag) : V → Option Int → Option Int → Hp → VK → Prop := fun x lo hi H Q => ∃ a xs, x = .ref a ∧ SqT K H a xs ∧
  ¬ (HT.sIx xs.length 0 lo = 0 ∧ HT.sIx xs.length xs.length hi = xs.length) ∧ ∀ p, H p = none → Q (.ref p) (upd H p (.tup (cutV xs lo hi)))
theorem sl_tup : SlR X (rSlT X.K) := by
  intro pins s σ H x v vl vu lo hi sl Q I rx hs pl pu h
  obtain ⟨a, xs, rfl, hx, hw, q⟩ := h
  cases rx
  obtain ⟨its, r, ht, hz⟩ := I.tuple hx
  have hlen : its.toArray.size = xs.length := by rw [List.size_toArray]; exact r.length.symm
  refine ⟨"tuple", _, PyProof.Rows.slot_tuple_getitem.lookup, ht.typeIs, ?_⟩
  refine HT.getItem_tuple_cut ht hs pl pu (by rw [hlen]; exact hw) ?_ (by rw [hlen]; exact hz)
  rw [hlen]
  refine ⟨.ref s.heap.objs.size, _, I.laid (t' := s.toks) (o := .tup (cutV xs lo hi)) (fun b ob q => Heap.get?_push_of_some _ q) (Nat.le_refl _) ?_, rfl, q _ (I.hok.fresh (Nat.le_refl _))⟩
  exact ⟨Nat.le_trans (cutV_length xs lo hi) hz, _, (r.drop (HT.sIx xs.length 0 lo)).take (HT.sIx xs.length xs.length hi - HT.sIx xs.length 0 lo), IsTup.new _ _⟩
def rCatT (K : PySem.W.Frag) : R2 := fun x y H Q => ∃ a b xs ys, x = .ref a ∧ y = .ref b ∧ SqT K H a xs ∧ SqT K H b ys ∧ xs ≠ [] ∧ xs.length + ys.length ≤ sizeLine ∧
  (ys = [] → Q (.ref a) H) ∧ (ys ≠ [] → ∀ p, H p = none → Q (.ref p) (upd H p (.tup (xs ++ ys))))
theorem Vals.nil_iff {xs : List V} {us : List Value} (r : Vals xs us) : us = [] ↔ xs = [] := by
  cases r with
  | nil => simp
  | cons _ _ => simp
theorem op_catT : OpR X (binaryOp .Add) (rCatT X.K) := by
  intro pins s σ H x y v u Q I rx ry h
  obtain ⟨a, b, xs, ys, rfl, rfl, ha, hb, hx, hz, q1, q2⟩ := h
  cases rx
  cases ry
  obtain ⟨its, r1, p1, _⟩ := I.tuple ha
  obtain ⟨its2, r2, p2, _⟩ := I.tuple hb
  refine HT.cat_tup p1 p2 (fun z => hx (r1.nil_iff.mp z)) (fun z => ⟨.ref a, H, I, rfl, q1 (r2.nil_iff.mp z)⟩) (fun z => ?_) (by rw [← r1.length, ← r2.length]; exact hz)
  refine ⟨.ref s.heap.objs.size, _, I.laid (t' := s.toks) (o := .tup (xs ++ ys)) (fun b ob q => Heap.get?_push_of_some _ q) (Nat.le_refl _) ?_, rfl, q2 (fun w => z (r2.nil_iff.mpr w)) _ (I.hok.fresh (Nat.le_refl _))⟩
  exact ⟨by rw [List.length_append]; exact hz, _, r1.append r2, IsTup.new _ _⟩
end
end L2
namespace L2
open PySem PySem.Spec PyProof.Rows
def ixN (n : Nat) (i : Int) : Option Nat := if 0 ≤ i then (if i < n then some i.toNat else none) else if -(n : Int) ≤ i then some (i + n).toNat else none
def atI {α : Type} (xs : List α) (i : Int) : Option α := (ixN xs.length i).bind fun j => xs[j]?
theorem ixN_seq {n : Nat} {i : Int} {j : Nat} (h : ixN n i = some j) : seqIndex? i n = some j ∧ j < n ∧ -(n : Int) ≤ i ∧ i < n := by
  unfold ixN at h
  by_cases h0 : 0 ≤ i
  · rw [if_pos h0] at h
    by_cases h1 : i < n
    · rw [if_pos h1] at h
      have e : i.toNat = j := Option.some.inj h
      exact ⟨by rw [seqIndex_of h0 h1, e], by omega, by omega, h1⟩
    · rw [if_neg h1] at h; cases h
  · rw [if_neg h0] at h
    by_cases h1 : -(n : Int) ≤ i
    · rw [if_pos h1] at h
      have e : (i + n).toNat = j := Option.some.inj h
      exact ⟨by rw [seqIndex_neg (by omega) h1, e], by omega, h1, by omega⟩
    · rw [if_neg h1] at h; cases h
theorem atI_get {α : Type} {xs : List α} {i : Int} {v : α} (h : atI xs i = some v) : ∃ j, seqIndex? i xs.length = some j ∧ xs[j]? = some v ∧ j < xs.length ∧ -(xs.length : Int) ≤ i ∧ i < xs.length := by
  unfold atI at h
  cases e : ixN xs.length i with
  | none => rw [e] at h; cases h
  | some j =>
    rw [e] at h
    obtain ⟨h1, h2, h3, h4⟩ := ixN_seq e
    exact ⟨j, h1, h, h2, h3, h4⟩
theorem atI_nat {α : Type} {xs : List α} {j : Nat} {v : α} (h : xs[j]? = some v) : atI xs (j : Int) = some v := by
  have hj : j < xs.length := (List.getElem?_eq_some_iff.mp h).1
  have e : ixN xs.length (j : Int) = some j := by
    unfold ixN
    rw [if_pos (by omega), if_pos (by omega)]; simp
  unfold atI; rw [e]; exact h
def PlainIx (b : Expr) : Prop := ∀ o i, subscripted b false o i = operate [o, i] (getItem o i)
def IxR (X : Cx) (r : R2) : Prop :=
  ∀ (value slice : Expr) (pins : List (Addr × Obj)) (s : Shared) (σ : St) (H : Hp) (x y : V) (v u : Value) (Q : VK), Inv X pins σ H s → RelV x v → RelV y u → r x y H Q →
    subscripted slice false v u = operate [v, u] (getItem v u) → wpAny (model X.prog X.w) X.A (subscriptTail value slice v u) (EP X pins σ Q) X.xe s
def MtR (X : Cx) (id : String) (r : V → List V → Hp → VK → Prop) : Prop :=
  ∀ (pins : List (Addr × Obj)) (s : Shared) (σ : St) (H : Hp) (x : V) (xs : List V) (v : Value) (us : List Value) (Q : VK), Inv X pins σ H s → RelV x v → Vals xs us → r x xs H Q →
    wpAny (model X.prog X.w) X.A (call (.builtin id) (v :: us)) (EP X pins σ Q) X.xe s
section
variable {X : Cx} {a b : Expr} {ta tb : TE} {pos : Pos}
theorem IxR.or {r r' : R2} (h : IxR X r) (h' : IxR X r') : IxR X (fun x y H Q => r x y H Q ∨ r' x y H Q) := by
  intro value slice pins s σ H x y v u Q I rx ry q hs
  rcases q with q | q
  · exact h value slice pins s σ H x y v u Q I rx ry q hs
  · exact h' value slice pins s σ H x y v u Q I rx ry q hs
theorem MtR.or {id : String} {r r' : V → List V → Hp → VK → Prop} (h : MtR X id r) (h' : MtR X id r') : MtR X id (fun x xs H Q => r x xs H Q ∨ r' x xs H Q) := by
  intro pins s σ H x xs v us Q I rx rs q
  rcases q with q | q
  · exact h pins s σ H x xs v us Q I rx rs q
  · exact h' pins s σ H x xs v us Q I rx rs q
theorem pe_ix {r : R2} (hr : IxR X r) (ha : PE X a ta) (hb : PE X b tb) (hs : PlainIx b) : PE X (.Subscript a b pos) (tOp r ta tb) := by
  intro pins s σ H Q I h
  exact Subscript_ (binT ha hb I h fun v u s2 x y H2 I2 rx ry q => hr a b pins s2 σ H2 x y v u Q I2 rx ry q (hs _ _))
def rIxL (K : PySem.W.Frag) : R2 := fun x y H Q => ∃ p xs i v, x = .ref p ∧ y = .int i ∧ SqL K H p xs ∧ atI xs i = some v ∧ Q v H
def rIxT (K : PySem.W.Frag) : R2 := fun x y H Q => ∃ p xs i v, x = .ref p ∧ y = .int i ∧ SqT K H p xs ∧ atI xs i = some v ∧ Q v H
def rIxS : R2 := fun x y H Q => ∃ z i c, x = .str z ∧ y = .int i ∧ z.length ≤ sizeLine ∧ atI z.cps.toList i = some c ∧ Q (.str ⟨#[c]⟩) H
theorem ix_list : IxR X (rIxL X.K) := by
  intro value slice pins s σ H x y v u Q I rx ry h hs
  obtain ⟨p, xs, i, z, rfl, rfl, hq, he, q⟩ := h
  cases rx
  obtain ⟨t, rfl⟩ := ry
  obtain ⟨its, r, pl, hz⟩ := I.list hq
  obtain ⟨j, h1, h2, h3, h4, h5⟩ := atI_get he
  obtain ⟨w, ew, rw'⟩ := r.get h2
  have hl := r.length
  have hn := line63
  have fin : EP X pins σ Q w s := ⟨z, H, I, rw', q⟩
  by_cases h0 : 0 ≤ i
  · have hj : i.toNat = j := by
      rw [seqIndex_of h0 h5] at h1
      exact Option.some.inj h1
    exact item_listR pl.isList h0 (by omega) (by rw [hj]; simpa using ew) fin hs
  · have hj : (i + (its.toArray.size : Int)).toNat = j := by
      rw [seqIndex_neg (by omega) h4] at h1
      rw [List.size_toArray, ← hl]
      exact Option.some.inj h1
    exact subscriptTail_builtinR (x := w) pl.isList.typeIs slot_list_getitem.lookup
      (wpAny_getItem_list_neg (Q := fun r s' => r = w ∧ EP X pins σ Q r s') pl.isList (by omega) (by rw [List.size_toArray] <;> omega) (by omega) (by rw [hj]; simpa using ew) ⟨rfl, fin⟩) hs
theorem ix_tup : IxR X (rIxT X.K) := by
  intro value slice pins s σ H x y v u Q I rx ry h hs
  obtain ⟨p, xs, i, z, rfl, rfl, hq, he, q⟩ := h
  cases rx
  obtain ⟨t, rfl⟩ := ry
  obtain ⟨its, r, pl, hz⟩ := I.tuple hq
  obtain ⟨j, h1, h2, h3, h4, h5⟩ := atI_get he
  obtain ⟨w, ew, rw'⟩ := r.get h2
  have hl := r.length
  have hn := line63
  have fin : EP X pins σ Q w s := ⟨z, H, I, rw', q⟩
  exact subscriptTail_builtinR (x := w) pl.typeIs slot_tuple_getitem.lookup
    (getItem_tuple (j := j) (Q := fun r s' => r = w ∧ EP X pins σ Q r s') pl (by omega) (by omega) (by rw [List.size_toArray, ← hl]; exact h1) (by simpa using ew) ⟨rfl, fin⟩) hs
theorem ix_str : IxR X rIxS := by
  intro value slice pins s σ H x y v u Q I rx ry h hs
  obtain ⟨z, i, c, rfl, rfl, hz, he, q⟩ := h
  obtain ⟨t, rfl⟩ := rx
  obtain ⟨t', rfl⟩ := ry
  obtain ⟨j, h1, h2, h3, h4, h5⟩ := atI_get he
  have hl : z.cps.toList.length = z.length := by simp [Str.length]
  rw [hl] at h1 h4 h5
  have hn := line63
  exact tail_any (typeIs_str s z t) slot_str_getitem.lookup (getItem_str (c := c) (by
    have e1 : decide (i < -(2 ^ 63 : Int)) = false := decide_eq_false (by omega)
    have e2 : decide (i ≥ 2 ^ 63) = false := decide_eq_false (by omega)
    rw [e1, e2, Bool.or_false]) (by rw [h1]; simpa using h2) ⟨.str ⟨#[c]⟩, H, I.tok _, ⟨_, rfl⟩, q⟩) hs
def rIx (K : PySem.W.Frag) : R2 := fun x y H Q => rIxL K x y H Q ∨ rIxT K x y H Q ∨ rIxS x y H Q
theorem ix_seq : IxR X (rIx X.K) := ix_list.or (ix_tup.or ix_str)
theorem mapSeq_set (its : List Value) (n j : Nat) (u : Value) : Obj.mapSeq (·.setIfInBounds j u) { cls := .type "list", data := .seq its.toArray n } = { cls := .type "list", data := .seq (its.set j u).toArray n } := by
  simp [Obj.mapSeq]
theorem Inv.lst {pins : List (Addr × Obj)} {σ : St} {H : Hp} {s : Shared} {p : Addr} {xs : List V} (I : Inv X pins σ H s) (h : H p = some (.lst xs)) :
    ∃ (its : List Value) (n : Nat), Vals xs its ∧ s.heap.get? p = some { cls := .type "list", data := .seq its.toArray n } ∧ xs.length ≤ sizeLine := by
  obtain ⟨z, its, n, r, e⟩ := I.hok p _ h
  exact ⟨its, n, r, e, z⟩
theorem Inv.lstUpd {pins : List (Addr × Obj)} {σ : St} {H : Hp} {s : Shared} {p : Addr} {xs ys : List V} {its its' : List Value} {n n' : Nat} {f : Obj → Obj} (I : Inv X pins σ H s) (h : H p = some (.lst xs))
    (ho : s.heap.get? p = some { cls := .type "list", data := .seq its.toArray n }) (hf : f { cls := .type "list", data := .seq its.toArray n } = { cls := .type "list", data := .seq its'.toArray n' }) (r : Vals ys its') (hz : ys.length ≤ sizeLine) (t : Nat) :
    Inv X pins σ (upd H p (.lst ys)) { s with heap := s.heap.update p f, toks := t } := by
  have e : (s.heap.update p f).get? p = some { cls := .type "list", data := .seq its'.toArray n' } := by
    rw [Heap.get?_update_self f ho (by rw [hf] <;> rfl), hf]
  refine I.write (x := p) (e := p) (by rw [h]; trivial) (.inl rfl) (fun b u hb q => (Heap.get?_update_other _ _ (Ne.symm hb)).trans q) ⟨_, e⟩ ?_
  exact ⟨hz, its', n', r, e⟩
def rSetL : V → V → V → Hp → (Hp → Prop) → Prop := fun o i v H Q => ∃ p xs k j, o = .ref p ∧ i = .int k ∧ H p = some (.lst xs) ∧ ixN xs.length k = some j ∧ Q (upd H p (.lst (xs.set j v)))
theorem set_list : PSet X rSetL := by
  intro pins s σ H o i v ov iv u Q I ro ri rv h
  obtain ⟨p, xs, k, j, rfl, rfl, hp, hj, q⟩ := h
  cases ro
  obtain ⟨t, rfl⟩ := ri
  obtain ⟨its, n, r, ho, hz⟩ := I.lst hp
  obtain ⟨h1, h2, h3, h4⟩ := ixN_seq hj
  have hl := r.length
  have hn := line63
  have I' : Inv X pins σ (upd H p (.lst (xs.set j v))) { s with heap := s.heap.update p (Obj.mapSeq (·.setIfInBounds j u)) } :=
    I.lstUpd hp ho (mapSeq_set its n j u) (r.set rv j) (by rw [List.length_set]; exact hz) s.toks
  by_cases h0 : 0 ≤ k
  · have hk : k.toNat = j := by
      rw [seqIndex_of h0 h4] at h1
      exact Option.some.inj h1
    exact PySem.W.ki_setAt ho h0 (by omega) (by rw [List.size_toArray, ← hl]; exact h4) (by rw [hk]; exact ⟨_, I', q⟩)
  · have hk : (k + (its.toArray.size : Int)).toNat = j := by
      rw [seqIndex_neg (by omega) h3] at h1
      rw [List.size_toArray, ← hl]
      exact Option.some.inj h1
    exact PySem.W.ki_setBack ho (by omega) (by rw [List.size_toArray, ← hl]; exact h3) (by omega) (by rw [hk]; exact ⟨_, I', q⟩)
theorem slice_bounds (lo hi : Option Int) (n : Nat) : (sliceBounds lo hi none n).1 = ((HT.sIx n 0 lo : Nat) : Int) ∧ (sliceBounds lo hi none n).2.1 = ((HT.sIx n n hi : Nat) : Int) ∧ (sliceBounds lo hi none n).2.2 = 1 := by
  refine ⟨?_, ?_, rfl⟩
  · cases lo with
    | none => simp [sliceBounds, HT.sIx]
    | some i =>
      simp only [sliceBounds, HT.sIx, Option.getD_none, show (1 : Int) > 0 by decide, if_true]
      by_cases h : i < 0
      · simp only [h, if_true] <;> omega
      · simp only [h, if_false] <;> omega
  · cases hi with
    | none => simp [sliceBounds, HT.sIx]
    | some i =>
      simp only [sliceBounds, HT.sIx, Option.getD_none, show (1 : Int) > 0 by decide, if_true]
      by_cases h : i < 0
      · simp only [h, if_true] <;> omega
      · simp only [h, if_false] <;> omega
theorem slicePick_cut (its : List Value) (lo hi : Option Int) : slicePick its.toArray lo hi none = ((its.drop (HT.sIx its.length 0 lo)).take (HT.sIx its.length its.length hi - HT.sIx its.length 0 lo)).toArray := by
  obtain ⟨h1, h2, h3⟩ := slice_bounds lo hi its.toArray.size
  unfold slicePick
  rw [h1, h2, h3]
  simp only [sliceRange_one, pick_run, List.size_toArray] <;> rfl
def rSlL (K : PySem.W.Frag) : V → Option Int → Option Int → Hp → VK → Prop := fun x lo hi H Q => ∃ a xs, x = .ref a ∧ SqL K H a xs ∧ ∀ p, H p = none → Q (.ref p) (upd H p (.lst (cutV xs lo hi)))
theorem sl_list : SlR X (rSlL X.K) := by
  intro pins s σ H x v vl vu lo hi sl Q I rx hs pl pu h
  obtain ⟨a, xs, rfl, hx, q⟩ := h
  cases rx
  obtain ⟨its, r, ht, hz⟩ := I.list hx
  have hlen := r.length
  refine ⟨"list", _, slot_list_getitem.lookup, ht.isList.typeIs, ?_⟩
  refine wpAny_getItem_list_slice ht.isList hs pl pu .none (by simp) ?_ (by rw [List.size_toArray] <;> omega)
  rw [slicePick_cut, ← hlen]
  refine ⟨.ref s.heap.objs.size, _, I.laid (t' := s.toks) (o := .lst (cutV xs lo hi)) (fun b ob q => Heap.get?_push_of_some _ q) (Nat.le_refl _) ?_, rfl, q _ (I.hok.fresh (Nat.le_refl _))⟩
  exact ⟨Nat.le_trans (cutV_length xs lo hi) hz, _, 0, (r.drop (HT.sIx xs.length 0 lo)).take (HT.sIx xs.length xs.length hi - HT.sIx xs.length 0 lo), Heap.get?_push_size _ rfl⟩
def flatV : V → Bool
  | .non => true
  | .bl _ => true
  | .int _ => true
  | .str _ => true
  | _ => false
def eqV : V → V → Bool
  | .non, .non => true
  | .bl a, .bl b => a == b
  | .bl a, .int b => (if a then 1 else 0) == b
  | .int a, .bl b => a == (if b then 1 else 0)
  | .int a, .int b => a == b
  | .str a, .str b => a == b
  | _, _ => false
theorem eqAt_V {A : Around} {s : Shared} {y x : V} {u v : Value} (ry : RelV y u) (rx : RelV x v) (fy : flatV y = true) (fx : flatV x = true) : SeqAt.EqAt A s u v (eqV y x) := by
  cases y with
  | non =>
    cases ry
    cases x with
    | non => cases rx; exact SeqAt.EqAt.same _
    | bl b => cases rx; exact SeqAt.EqAt.none_bool b
    | int b => obtain ⟨t, rfl⟩ := rx; exact SeqAt.EqAt.none_int b t
    | str b => obtain ⟨t, rfl⟩ := rx; exact SeqAt.EqAt.none_str b t
    | _ => exact absurd (show false = true from fx) Bool.false_ne_true
  | bl a =>
    cases ry
    cases x with
    | non => cases rx; exact SeqAt.EqAt.bool_none a
    | bl b => cases rx; exact SeqAt.EqAt.bool_bool a b
    | int b => obtain ⟨t, rfl⟩ := rx; exact SeqAt.EqAt.bool_int a b t
    | str b => obtain ⟨t, rfl⟩ := rx; exact SeqAt.EqAt.bool_str a b t
    | _ => exact absurd (show false = true from fx) Bool.false_ne_true
  | int a =>
    obtain ⟨t', rfl⟩ := ry
    cases x with
    | non => cases rx; exact SeqAt.EqAt.int_none a t'
    | bl b => cases rx; exact SeqAt.EqAt.int_bool a t' b
    | int b => obtain ⟨t, rfl⟩ := rx; exact SeqAt.EqAt.int_int a t' b t
    | str b => obtain ⟨t, rfl⟩ := rx; exact SeqAt.EqAt.int_str a t' b t
    | _ => exact absurd (show false = true from fx) Bool.false_ne_true
  | str a =>
    obtain ⟨t', rfl⟩ := ry
    cases x with
    | non => cases rx; exact SeqAt.EqAt.str_none a t'
    | bl b => cases rx; exact SeqAt.EqAt.str_bool a t' b
    | int b => obtain ⟨t, rfl⟩ := rx; exact SeqAt.EqAt.str_int a t' b t
    | str b => obtain ⟨t, rfl⟩ := rx; exact SeqAt.EqAt.str_str a t' b t
    | _ => exact absurd (show false = true from fx) Bool.false_ne_true
  | _ => exact absurd (show false = true from fy) Bool.false_ne_true
def eqU (x : V) (u : Value) : Bool := match u with
  | .none => eqV .non x
  | .bool b => eqV (.bl b) x
  | .int i _ => eqV (.int i) x
  | .str z _ => eqV (.str z) x
  | _ => false
theorem eqU_of {x y : V} {u : Value} (r : RelV y u) (f : flatV y = true) : eqU x u = eqV y x := by
  cases y with
  | non => cases r; rfl
  | bl b => cases r; rfl
  | int i => obtain ⟨t, rfl⟩ := r; rfl
  | str z => obtain ⟨t, rfl⟩ := r; rfl
  | _ => exact absurd (show false = true from f) Bool.false_ne_true
theorem any_eqU {x : V} : ∀ {xs : List V} {us : List Value}, Vals xs us → xs.all flatV = true → us.any (eqU x) = xs.any fun y => eqV y x
  | _, _, .nil, _ => rfl
  | y :: xs, u :: us, .cons r t, f => by
    rw [List.all_cons, Bool.and_eq_true] at f
    rw [List.any_cons, List.any_cons, eqU_of r f.1, any_eqU t f.2]
theorem mem_eqAt {A : Around} {s : Shared} {x : V} {v : Value} (rx : RelV x v) (fx : flatV x = true) : ∀ {xs : List V} {us : List Value}, Vals xs us → xs.all flatV = true → ∀ u ∈ us, SeqAt.EqAt A s u v (eqU x u)
  | _, _, .nil, _ => fun u hu => by cases hu
  | y :: xs, u :: us, .cons r t, f => fun u' hu => by
    rw [List.all_cons, Bool.and_eq_true] at f
    rcases List.mem_cons.mp hu with rfl | hu
    · rw [eqU_of r f.1]; exact eqAt_V r rx f.1 fx
    · exact mem_eqAt rx fx t f.2 u' hu
def inV (x : V) (xs : List V) : Bool := xs.any fun y => eqV y x
def rIn (K : PySem.W.Frag) (neg : Bool) : R2 := fun x y H Q => ∃ p xs, y = .ref p ∧ (SqL K H p xs ∨ SqT K H p xs) ∧ flatV x = true ∧ xs.all flatV = true ∧ Q (.bl (if neg then !inV x xs else inV x xs)) H
theorem op_in_seq : OpR X (compareOp .In) (rIn X.K false) := by
  intro pins s σ H x y v u Q I rx ry h
  obtain ⟨p, xs, rfl, hq, fx, fs, q⟩ := h
  cases ry
  rcases hq with hq | hq
  · obtain ⟨its, r, pl, hz⟩ := I.list hq
    refine SeqAt.in_listAt (eqU x) pl.isList (fun w hw => mem_eqAt rx fx r fs w (by simpa using hw)) ⟨.bl _, H, I, rfl, ?_⟩
    rw [show its.toArray.any (eqU x) = its.any (eqU x) by simp, any_eqU r fs]
    exact q
  · obtain ⟨its, r, pl, hz⟩ := I.tuple hq
    refine SeqAt.in_tupleAt (eqU x) pl (fun w hw => mem_eqAt rx fx r fs w (by simpa using hw)) ⟨.bl _, H, I, rfl, ?_⟩
    rw [show its.toArray.any (eqU x) = its.any (eqU x) by simp, any_eqU r fs]
    exact q
theorem CallR.or {f : Value} {r r' : List V → Hp → VK → Prop} (h : CallR X f r) (h' : CallR X f r') : CallR X f (fun xs H Q => r xs H Q ∨ r' xs H Q) := by
  intro pins s σ H xs us Q I rs q
  rcases q with q | q
  · exact h pins s σ H xs us Q I rs q
  · exact h' pins s σ H xs us Q I rs q
def tyV (K : PySem.W.Frag) (T : String) (x : V) (H : Hp) : Prop := match x with
  | .str _ => T = "str"
  | .int _ => T = "int"
  | .ref p => (T = "list" ∧ ∃ xs, SqL K H p xs) ∨ (T = "tuple" ∧ ∃ o, K.lookup p = some o ∧ o.cls = .type "tuple" ∧ o.dict = none) ∨
      (T = "dict" ∧ ((∃ kvs, H p = some (.dK kvs)) ∨ ∃ kvs, H p = some (.dT kvs))) ∨ (T = "set" ∧ ∃ S n, H p = some (.set S n))
  | _ => False
theorem tyV_is {pins : List (Addr × Obj)} {σ : St} {H : Hp} {s : Shared} {T : String} {x : V} {v : Value} (I : Inv X pins σ H s) (r : RelV x v) (ty : tyV X.K T x H) :
    s.TypeIs v T ∧ ∀ a, v = .ref a → ∃ ob, s.heap.get? a = some ob ∧ ob.dict = none := by
  cases x with
  | str z =>
    obtain ⟨t, rfl⟩ := r
    cases (show T = "str" from ty)
    exact ⟨typeIs_str s z t, fun _ e => nomatch e⟩
  | int i =>
    obtain ⟨t, rfl⟩ := r
    cases (show T = "int" from ty)
    exact ⟨typeIs_int s i t, fun _ e => nomatch e⟩
  | ref p =>
    cases r
    rcases ty with ⟨rfl, xs, hq⟩ | ⟨rfl, o, hk, hc, hd⟩ | ⟨rfl, hk⟩ | ⟨rfl, S, n, hk⟩
    · obtain ⟨its, _, pl, _⟩ := I.list hq
      refine ⟨pl.isList.typeIs, fun a e => ?_⟩
      cases e
      obtain ⟨o, n, e, c, hd, _⟩ := pl
      exact ⟨o, e, hd⟩
    · refine ⟨⟨o, I.kIn p o hk, hc⟩, fun a e => ?_⟩
      cases e
      exact ⟨o, I.kIn _ o hk, hd⟩
    · have z : ∃ o, s.heap.get? p = some o ∧ o.ExactDict := by
        rcases hk with ⟨kvs, hk⟩ | ⟨kvs, hk⟩
        · obtain ⟨_, _, _, _, o, _, _, e, ex, _⟩ := I.hok p _ hk
          exact ⟨o, e, ex⟩
        · obtain ⟨_, _, _, _, o, _, _, e, ex, _⟩ := I.hok p _ hk
          exact ⟨o, e, ex⟩
      obtain ⟨o, e, ex⟩ := z
      refine ⟨⟨o, e, ex.1⟩, fun a e2 => ?_⟩
      cases e2
      exact ⟨o, e, ex.2.1⟩
    · obtain ⟨o, _, _, _, e, ex, _⟩ := I.hok p _ hk
      refine ⟨⟨o, e, ex.1⟩, fun a e2 => ?_⟩
      cases e2
      exact ⟨o, e, ex.2.1⟩
  | _ => exact False.elim ty
def tBM (K : PySem.W.Frag) (T : String) (r : V → List V → Hp → VK → Prop) (to : TE) (t : TA) : TE := fun σ H Q => to σ H fun x H1 => tyV K T x H1 ∧ t σ H1 fun xs H2 => r x xs H2 Q
variable {o e : Expr} {es : List Expr} {to : TE} {t : TA} {name : Str} {apos cpos : Pos} {T id : String} {r : V → List V → Hp → VK → Prop}
theorem pe_bm (pa : PlainAttrs T) (slot : Slot T name id) (hty : typeOf (.builtin id) = pure (.type "method_descriptor")) (hm : MtR X id r) (ho : PE X o to) (ha : PA X (e :: es) t)
    (hbase : attributeBase o name X.env (eval o X.env) = eval o X.env := by rfl)
    (hfew : ((backTo cpos (starEach (e :: es) X.env)).all (fun x => !x.1) && (backToKw cpos (keywordEach [] X.env)).all (fun x => x.1.isSome)
      && decide ((e :: es).length + ([] : List Keyword).length + (if ([] : List Keyword).isEmpty then 0 else 1) < 30)) = true := by rfl)
    (hline : (apos.endLine == cpos.line) = true := by rfl) (hs : starEach (e :: es) X.env = (false, eval e X.env) :: starEach es X.env := by rfl) (hplain : (backTo cpos (starEach es X.env)).any (·.1) = false := by rfl) :
    PE X (.Call (.Attribute o name apos) (e :: es) [] cpos) (tBM X.K T r to t) := by
  intro pins s σ H Q I h
  refine wpAny_Call_method_late hbase hfew hline rfl (thn (ho pins s σ H _ I h) fun v s1 ⟨x, H1, I1, r1, ty, q1⟩ => ?_)
  obtain ⟨h1, h2⟩ := tyV_is I1 r1 ty
  refine ⟨T, id, pa, slot, hty, h1, h2, ?_⟩
  have hA := ha cpos pins s1 σ H1 _ I1 q1
  rw [hs] at hA ⊢
  refine Calls.callWith_builtin (by show (false || (backTo cpos (starEach es X.env)).any (·.1)) = false; rw [hplain] <;> rfl) (Calls.evalArgs_plain ?_)
  exact thn hA fun us s2 ⟨vs, H2, I2, r2, q2⟩ => hm pins s2 σ H2 x vs v us Q I2 r1 r2 q2
end
end L2
namespace L2
open PySem PySem.Spec PyProof.Rows
def MtM (X : Cx) (id : String) (r : V → List V → Hp → VK → Prop) : Prop :=
  ∀ (pins : List (Addr × Obj)) (s : Shared) (σ : St) (H : Hp) (x : V) (xs : List V) (v : Value) (us : List Value) (Q : VK), Inv X pins σ H s → RelV x v → Vals xs us → r x xs H Q →
    wpAny (model X.prog X.w) X.A (call (.builtin id) (v :: us)) (EP X pins σ Q) X.xe s
theorem Vals.one : ∀ {x : V} {us : List Value}, Vals [x] us → ∃ u, us = [u] ∧ RelV x u
  | _, _, .cons r .nil => ⟨_, rfl, r⟩
section
variable {X : Cx} {pins : List (Addr × Obj)} {σ : St} {H : Hp} {s : Shared} {l b : Addr} {xs ys zs : List V}
theorem Inv.lset {its its' : List Value} {n : Nat} {f : Array Value → Array Value} {t' : Nat} (I : Inv X pins σ H s) (hH : H l = some (.lst xs))
    (e : s.heap.get? l = some { cls := .type "list", data := .seq its.toArray n }) (hf : f its.toArray = its'.toArray) (hv : Vals ys its') (hz : ys.length ≤ sizeLine) :
    Inv X pins σ (upd H l (.lst ys)) { s with heap := s.heap.update l (Obj.mapSeq f), toks := t' } := by
  have q := PySem.IsL.update e f
  rw [hf] at q
  refine I.write (x := l) (e := l) (by rw [hH]; exact trivial) (.inl rfl) (fun b' u hb hu => (Heap.get?_update_other s.heap (Obj.mapSeq f) (Ne.symm hb)).trans hu) ⟨_, q⟩ ?_
  exact ⟨hz, its', _, hv, q⟩
theorem Inv.lnew {its : List Value} {t' : Nat} (I : Inv X pins σ H s) (hv : Vals ys its) (hz : ys.length ≤ sizeLine) :
    Inv X pins σ (upd H s.heap.objs.size (.lst ys)) { s with heap := s.heap.push { cls := .type "list", data := .seq its.toArray }, toks := t' } :=
  I.laid (fun _ _ q => Heap.get?_push_of_some _ q) (Nat.le_refl _) ⟨hz, its, 0, hv, Heap.get?_push_size _ rfl⟩
theorem Inv.fresh (I : Inv X pins σ H s) : H s.heap.objs.size = none := I.hok.fresh (Nat.le_refl _)
theorem Inv.lstM (I : Inv X pins σ H s) (hH : H l = some (.lst xs)) : xs.length ≤ sizeLine ∧ ∃ (its : List Value) (n : Nat), Vals xs its ∧ xs.length = its.length ∧ s.heap.get? l = some { cls := .type "list", data := .seq its.toArray n } := by
  obtain ⟨z, its, n, r, e⟩ := I.hok l _ hH
  exact ⟨z, its, n, r, r.length, e⟩
end
section
variable {X : Cx}
def rAppend : V → List V → Hp → VK → Prop := fun x vs H Q => ∃ l xs y, x = .ref l ∧ vs = [y] ∧ H l = some (.lst xs) ∧ xs.length < sizeLine ∧ Q .non (upd H l (.lst (xs ++ [y])))
theorem mt_append : MtM X "list.append" rAppend := by
  intro pins s σ H x vs v us Q I rx rv h
  obtain ⟨l, xs, y, rfl, rfl, hH, hz, q⟩ := h
  cases rx
  obtain ⟨u, rfl, ru⟩ := rv.one
  obtain ⟨z, its, n, r, hl, e⟩ := I.lstM hH
  refine call_meets F.slot_list_append ⟨_, e, rfl⟩ F.entry_list_append (F.args_list_append_2 _ _) (PySem.list_append l its.toArray n u (by rw [List.size_toArray]; omega)) ⟨e, ?_⟩
  refine ⟨.non, _, I.lset (its' := its ++ [u]) hH e (by simp) (r.append (.cons ru .nil)) ?_, rfl, q⟩
  rw [List.length_append, List.length_singleton]
  omega
def rCat : R2 := fun x y H Q => ∃ l b xs zs, x = .ref l ∧ y = .ref b ∧ H l = some (.lst xs) ∧ H b = some (.lst zs) ∧ xs.length + zs.length ≤ sizeLine ∧ ∀ p, H p = none → Q (.ref p) (upd H p (.lst (xs ++ zs)))
theorem op_cat : OpR X (binaryOp .Add) rCat := by
  intro pins s σ H x y v u Q I rx ry h
  obtain ⟨l, b, xs, zs, rfl, rfl, hH, hB, hz, q⟩ := h
  cases rx
  cases ry
  obtain ⟨z, its, n, r, hl, e⟩ := I.lstM hH
  obtain ⟨z2, its2, n2, r2, hl2, e2⟩ := I.lstM hB
  refine PySem.P.add_list e e2 ?_ (by rw [List.size_toArray, List.size_toArray]; omega)
  have ea : its.toArray ++ its2.toArray = (its ++ its2).toArray := by simp
  rw [ea]
  exact ⟨.ref _, _, I.lnew (t' := s.toks) (r.append r2) (by rw [List.length_append]; omega), rfl, q _ I.fresh⟩
end
section
variable {prog : Program} {w : World} {A : Around} {E : Value → Shared → Prop} {s : Shared}
set_option maxRecDepth 100000 in
end
end L2
namespace L2
open PySem PySem.Spec PyProof.Rows
section
variable {κ : Type} [DecidableEq κ]
def valV (kvs : List (κ × V)) (k : κ) : Option V := (kvs.find? fun kv => decide (kv.1 = k)).map (·.2)
def dropK (kvs : List (κ × V)) (k : κ) : List (κ × V) := kvs.filter fun kv => decide (kv.1 ≠ k)
theorem valV_pos {p : κ × V} {r : List (κ × V)} {k : κ} (e : p.1 = k) : valV (p :: r) k = some p.2 := by simp [valV, List.find?_cons, e]
theorem valV_neg {p : κ × V} {r : List (κ × V)} {k : κ} (e : ¬ p.1 = k) : valV (p :: r) k = valV r k := by simp [valV, List.find?_cons, e]
theorem RelO.getD {o : Option V} {u : Option Value} {d : V} {d' : Value} (r : RelO o u) (rd : RelV d d') : RelV (o.getD d) (u.getD d') := by
  cases o with
  | none => cases u with
    | none => exact rd
    | some _ => exact (show False from r).elim
  | some _ => cases u with
    | none => exact (show False from r).elim
    | some _ => exact r
theorem KV.val {kvs : List (κ × V)} {vs : List (κ × Value)} (r : KV kvs vs) (k : κ) : RelO (valV kvs k) (valueAt vs k) := by
  unfold KV at r
  induction r with
  | nil => exact True.intro
  | @cons p q ps qs h t ih =>
    obtain ⟨h1, h2⟩ := h
    by_cases e : p.1 = k
    · have e' : q.1 = k := h1.symm.trans e
      have b : valueAt (q :: qs) k = some q.2 := by simp [valueAt, List.find?_cons, e']
      rw [valV_pos e, b]; exact h2
    · have e' : ¬ q.1 = k := fun z => e (h1.trans z)
      have b : valueAt (q :: qs) k = valueAt qs k := by simp [valueAt, List.find?_cons, e']
      rw [valV_neg e, b]; exact ih
theorem KV.any {kvs : List (κ × V)} {vs : List (κ × Value)} (r : KV kvs vs) (k : κ) : (kvs.any fun kv => decide (kv.1 = k)) = vs.any fun kv => decide (kv.1 = k) := by
  unfold KV at r
  induction r with
  | nil => rfl
  | cons h t ih => rw [List.any_cons, List.any_cons, ih, h.1]
theorem KV.drop {kvs : List (κ × V)} {vs : List (κ × Value)} (r : KV kvs vs) (k : κ) : KV (dropK kvs k) (without vs k) := by
  unfold KV at r ⊢
  unfold dropK without
  induction r with
  | nil => exact .nil
  | @cons p q ps qs h t ih =>
    obtain ⟨h1, h2⟩ := h
    rw [List.filter_cons, List.filter_cons]
    by_cases e : p.1 = k
    · have a : ¬ decide (p.1 ≠ k) = true := by simp [e]
      have b : ¬ decide (q.1 ≠ k) = true := by simp [h1.symm.trans e]
      rw [if_neg a, if_neg b]; exact ih
    · have e' : ¬ q.1 = k := fun z => e (h1.trans z)
      have a : decide (p.1 ≠ k) = true := by simp [e]
      have b : decide (q.1 ≠ k) = true := by simp [e']
      rw [if_pos a, if_pos b]; exact .cons ⟨h1, h2⟩ ih
theorem KV.length {kvs : List (κ × V)} {vs : List (κ × Value)} (r : KV kvs vs) : kvs.length = vs.length := Paired.length r
end
abbrev KT (H : Hp) : List (List Key × V) → List (List Key × Addr × Value) → Prop := Paired fun p q => p.1 = q.1 ∧ H q.2.1 = some (.tup (p.1.map kV)) ∧ RelV p.2 q.2.2
theorem KT.val {H : Hp} {kvs : List (List Key × V)} {xs : List (List Key × Addr × Value)} (r : KT H kvs xs) (k : List Key) : RelO (valV kvs k) ((atKey xs k).map (·.2)) := by
  induction r with
  | nil => exact True.intro
  | @cons p q ps qs h t ih =>
    obtain ⟨h1, _, h2⟩ := h
    by_cases e : p.1 = k
    · have e' : q.1 = k := h1.symm.trans e
      have b : atKey (q :: qs) k = some q.2 := by simp [atKey, List.find?_cons, e']
      rw [valV_pos e, b]; exact h2
    · have e' : ¬ q.1 = k := fun z => e (h1.trans z)
      have b : atKey (q :: qs) k = atKey qs k := by simp [atKey, List.find?_cons, e']
      rw [valV_neg e, b]; exact ih
theorem KT.keeps {H H' : Hp} {kvs : List (List Key × V)} {xs : List (List Key × Addr × Value)} (r : KT H kvs xs) (ht : ∀ b ys, H b = some (.tup ys) → H' b = some (.tup ys)) : KT H' kvs xs :=
  Paired.mapP r fun _ _ z => ⟨z.1, ht _ _ z.2.1, z.2.2⟩
section
variable {P : Program} {w : World} {H : Hp} {h : Heap} {a : Addr}
theorem rd_of {u : HO} (ok : HOk P w H h) (e : Rd H a u) : ObjOk P w H h a u := e.ok ok
theorem dk_rd {kvs : List (Key × V)} (ok : HOk P w H h) (e : Rd H a (.dK kvs)) : kvs.length ≤ sizeLine ∧ (a == sysModules) = false ∧ ∃ vs, KV kvs vs ∧ h.DictOf (mixKind P w) a vs :=
  show ObjOk P w H h a (.dK kvs) from rd_of ok e
end
section
variable {X : Cx} {pins : List (Addr × Obj)} {σ : St} {H : Hp} {s : Shared} {a : Addr} {kvs : List (Key × V)} {k : Key} {u : Value} {A : Around} {E : Value → Shared → Prop}
theorem d_len {Q : Value → Shared → Prop} (I : Inv X pins σ H s) (e : Rd H a (.dK kvs)) (h : ∀ t s', Inv X pins σ H s' → Q (.int kvs.length t) s') : wpAny (model X.prog X.w) A (call (.builtin "len") [.ref a]) Q E s := by
  obtain ⟨z, hd, vs, rel, dd⟩ := dk_rd I.hok e
  refine call_len_dict hd dd (by rw [← rel.length]; rw [sizeLine_eq] at z; omega) ?_
  rw [← rel.length]
  exact h _ _ (I.tok _)
end
end L2
namespace Att
open PySem PySem.W PySem.Calls PyProof.Rows
theorem ints_of_wellAll {P : Params} {h : Heap} : ∀ (ns : List Int) (vs : List Value), WellAll P h vs (ns.map WData.int) → IntsAre vs ns := by
  intro ns
  induction ns with
  | nil =>
    intro vs w
    rw [List.map_nil] at w
    cases w
    exact .nil
  | cons n ns ih =>
    intro vs w
    rw [List.map_cons] at w
    cases w with
    | cons a b =>
      cases a
      exact .cons _ _ (ih _ b)
theorem script_of {l : OpenLaw} {n : Nat} (hn : l.most = some n) {P : Params} {h : Heap} {args : List WData} {vals : List Value}
    (hpre : l.row.toRowW.claim.pre args = true) (hwl : WellAll P h vals args) :
    ∃ a vs ns, vals = [Value.ref a] ∧ args = [WData.list (ns.map WData.int)] ∧ h.get? a = some { cls := .type "list", data := .seq vs.toArray } ∧ IntsAre vs ns ∧ ns.length ≤ n := by
  have hsh : WShape.hasAll [] args [.list .int] = true := (pre_splitW hpre).1
  have hc : l.pre.holds [] { args := args } = true := (pre_splitW hpre).2
  obtain ⟨d, r, rfl, h1, h2⟩ := hasAllW_cons hsh
  obtain rfl := hasAllW_nil h2
  obtain ⟨xs, rfl, h3⟩ := hasW_list h1
  obtain ⟨ns, rfl⟩ := items_int h3
  have hlen : ns.length ≤ n := by
    unfold OpenLaw.pre at hc
    have h4 : (WTm.not (.lt (.lit (.int (n : Int))) (.len (.arg 0)))).holds [] { args := [.list (ns.map .int)] } = true := by
      have h4 := (holds_andW hc).1
      rw [hn] at h4
      exact h4
    have h5 := condW_of h4 (w_not (w_lt w_lit (w_len_list (w_arg rfl))))
    rw [List.length_map] at h5
    refine Nat.le_of_not_lt fun q => ?_
    have q' : (n : Int) < ((ns.length : Nat) : Int) := by omega
    first
      | (rw [decide_eq_true q'] at h5; exact absurd h5 (by decide))
      | (simp at h5; omega)
  cases hwl with
  | cons w1 w2 =>
    cases w2
    cases w1 with
    | list ho hall => exact ⟨_, _, ns, rfl, rfl, ho, ints_of_wellAll ns _ hall, hlen⟩
theorem post_true (l : OpenLaw) (args : List WData) : l.row.toRowW.claim.post args (.bool true) args = true :=
  postW_of (r := l.row.toRowW) (X := (true == true))
    (show WShape.has [] (.bool true) .bool = true by first | rfl | decide | simp [WShape.has, WShape.arms, WShape.armsAll])
    (show (WTm.eq .res (.lit (.bool true))).value [] { args := args, res := some (.bool true), after := args } = some (.bool (true == true)) from w_eq_bool (w_res rfl) w_lit) rfl
theorem attach_call {l : OpenLaw} {n : Nat} {q : Program} {loose : List Str} {XP : (Str → Option Value) → Heap → Prop} {YP : World → Heap → Prop} {d : DefRec}
    (hn : l.most = some n) (hdf : d.params.defaults = [])
    (call : ∀ (w : World) (s₀ s₁ : Shared) (mg mb : Str → Option Value) (fa : Addr) (o : Obj) (pm cd doc : Value) (a : Addr) (vs : List Value) (ns : List Int),
      Ground q loose [] XP w s₀ mg mb s₁.heap → YP w s₁.heap →
      s₁.heap.get? fa = some o → o.data = .func (docDef d.name d.params d.body d.scope pm cd doc) → s₁.heap.CodeRec cd d.name → mg d.name = some (.ref fa) →
      s₁.heap.get? a = some { cls := .type "list", data := .seq vs.toArray } → IntsAre vs ns → ns.length ≤ n → s₁.gens = #[] →
      codeAny (model l.prog w) callerA (.call (.ref fa) ⟨[.ref a], []⟩) (fun r s' => r = .ok (.ret (.bool true)) ∧ OldK s₁.heap s'.heap ∧ s'.os = s₁.os ∧ AllBare s'.gens) s₁) :
    WalkO q loose XP YP l.row.toRowW d [] (fun f vs => PySem.call f vs) := by
  intro w s₀ s₁ mg mb G Y fa o pm cd doc dV kV ho hd hcd hD hmg hg args vals as hpre hlay hrd hwl hlo
  obtain rfl : dV = .none := Dflts.none hD hdf
  obtain rfl : kV = .none := Dflts.noKw hD
  obtain ⟨a, vs, ns, rfl, rfl, hobj, hints, hlen⟩ := script_of hn hpre hwl
  refine enter_call (codeAny_mono (call w s₀ s₁ mg mb fa o pm cd doc a vs ns G Y ho (fd_plain hd) hcd hmg hobj hints hlen hg) fun r s' hq => ?_)
  obtain ⟨rfl, h2, h3, h4⟩ := hq
  exact ⟨.inl ⟨.bool true, .bool true, [], rfl, fun _ => rfl, .bool true, post_true l _, fun _ => ⟨List.Pairwise.nil, fun _ hm => (nomatch hm)⟩⟩, h2, h3, h4⟩
end Att
namespace L2
open PySem PySem.Spec PyProof.Rows
theorem vals_ints : ∀ {vs : List Value} {ns : List Int}, IntsAre vs ns → Vals (ns.map V.int) vs
  | _, _, .nil => .nil
  | _, _, .cons n t h => .cons ⟨t, rfl⟩ (vals_ints h)
def Only (H : Hp) : Prop := ∀ b, H b = none ∨ ∃ o xs, H b = some (.frz o (.lst xs))
theorem law_call {P : Program} {w : World} {K : PySem.W.Frag} {mg mb : Str → Option Value} {CX : CXT} {k : Nat} {fa a : Addr} {fd : FuncData} {x : Str} {sp : Sp} {s₁ : Shared} {vs : List Value} {ns : List Int}
    (KX : K.In s₁.heap) (hns : s₁.heap.Ns mainGlobals mg) (hb : s₁.heap.Ns builtinsNs mb) (hbb : ∀ x : Str, x ≠ "__name__" → mb x = bootBuiltins x) (hlim : s₁.heap.NoLimit) (hg : s₁.gens = #[])
    (ha : s₁.heap.get? a = some { cls := .type "list", data := .seq vs.toArray }) (hi : IntsAre vs ns) (hl : ns.length ≤ sizeLine) (hr : Room k callerA)
    (F : ∀ base : Heap, K.In base → base.Ns mainGlobals mg → FnOk P w K mg base CX k fa fd [x] sp) (hbind : ∀ (s : Shared) (u : Value), BindsTo s fd ⟨[u], []⟩ [(x, u)])
    (hsp : ∀ H : Hp, Only H → SqL K H a (ns.map V.int) → sp [.ref a] H (fun v _ => v = .bl true) fun _ _ _ => False)
    (hCX : ∀ H e s', CX [] H s₁ (fun _ _ _ => False) e s' → False) :
    codeAny (model P w) callerA (.call (.ref fa) ⟨[.ref a], []⟩) (fun r s' => r = .ok (.ret (.bool true)) ∧ OldK s₁.heap s'.heap ∧ s'.os = s₁.os ∧ AllBare s'.gens) s₁ := by
  have rv := vals_ints hi
  have lenV := hi.length
  have core : ∀ H : Hp, Only H → SqL K H a (ns.map V.int) → HOk P w H s₁.heap → (∀ b, H b ≠ none → b = a) → (H a ≠ none → K.lookup a = none) →
      codeAny (model P w) callerA (.call (.ref fa) ⟨[.ref a], []⟩) (fun r s' => r = .ok (.ret (.bool true)) ∧ OldK s₁.heap s'.heap ∧ s'.os = s₁.os ∧ AllBare s'.gens) s₁ := by
    intro H hO hS hok hA hK
    have base_of : ∀ {b : Addr} {o : Obj}, s₁.heap.get? b = some o → H b = none → (hidT s₁.heap H).get? b = some o := fun e n => hidT_get e n
    have noA : ∀ {b : Addr} {o : Obj} {es : Array DictEntry} {ep : Nat}, s₁.heap.get? b = some o → o.data = .dict es ep → H b = none := fun {b o es ep} e d => by
      cases q : H b with
      | none => rfl
      | some u =>
        have e' : b = a := hA b (by rw [q]; simp)
        subst e'
        rw [ha] at e; cases e
        have d' : Data.seq vs.toArray _ = Data.dict es ep := d
        cases d'
    have nsK : ∀ {b : Addr} {m : Str → Option Value}, s₁.heap.Ns b m → (hidT s₁.heap H).Ns b m := fun {b m} ⟨o, es, ep, e, d, r⟩ => ⟨o, es, ep, base_of e (noA e d), d, r⟩
    have hKb : K.In (hidT s₁.heap H) := fun b o e => base_of (KX b o e) (by
      cases q : H b with
      | none => rfl
      | some u =>
        have e' : b = a := hA b (by rw [q]; simp)
        subst e'
        rw [hK (by rw [q]; simp)] at e; cases e)
    have hM : Mod K mg (hidT s₁.heap H) := ⟨hKb, nsK hns, ⟨mb, nsK hb, hbb⟩, let ⟨mc, h1, h2⟩ := hlim; ⟨mc, nsK h1, h2⟩⟩
    have e0 : Env0 P w K mg (hidT s₁.heap H) callerA [] s₁ H := ⟨rfl, hM, fun b o e => of_hidT e, Nat.le_of_eq (hidT_size _ _), trivial, fun b hb => absurd (show b ∈ ([] : List Addr) from hb) (by simp), hok, .of_eq hg⟩
    refine codeAny_mono ((F _ hKb (nsK hns)).run callerA [] s₁ H ⟨[.ref a], []⟩ [.ref a] [.ref a] _ _ hr e0 (hbind s₁ (.ref a)) (.cons rfl .nil) (hsp H hO hS)) fun r s' h => ?_
    cases r with
    | error e => exact (hCX H e s' h).elim
    | ok fl =>
      cases fl with
      | next => exact False.elim h
      | brk => exact False.elim h
      | cont => exact False.elim h
      | ret u =>
        obtain ⟨v, H', os, bare, un, hok', r', q⟩ := h
        have q' : v = .bl true := q
        subst q'
        obtain rfl : u = Value.bool true := r'
        refine ⟨rfl, OldK.of_keep fun b o e => ?_, os, bare⟩
        cases q : H b with
        | none => exact un.keep b o e q (by intro z; exact absurd (show b ∈ ([] : List Addr) from z) (by simp)) (by simp)
        | some u =>
          rcases hO b with z | ⟨ob, xs, z⟩
          · rw [q] at z; cases z
          · have z2 := un.frzs b ob _ z
            obtain ⟨e1, _⟩ := hok b _ z
            obtain ⟨e2, _⟩ := hok' b _ z2
            rw [e] at e1; cases e1
            exact e2
  cases hk : K.lookup a with
  | some o =>
    have e := KX a o hk
    rw [ha] at e
    cases e
    refine core (fun _ => none) (fun _ => .inl rfl) (.inr ⟨_, vs.toArray, _, hk, rfl, rfl, rfl, by rw [List.size_toArray, lenV]; exact hl, by simpa using rv⟩) (fun b u z => by have z' : (none : Option HO) = some u := z; cases z') (fun b z => absurd rfl z) fun z => absurd rfl z
  | none =>
    refine core (fun b => if b = a then some (.frz { cls := .type "list", data := .seq vs.toArray } (.lst (ns.map V.int))) else none) (fun b => ?_) (.inl (.inr ⟨{ cls := .type "list", data := .seq vs.toArray }, if_pos rfl⟩)) (fun b u z => ?_) (fun b z => ?_) fun _ => hk
    · by_cases hb : b = a
      · exact .inr ⟨_, _, if_pos hb⟩
      · exact .inl (if_neg hb)
    · by_cases hb : b = a
      · have z' := (if_pos hb).symm.trans z
        cases z'
        subst hb
        exact ⟨ha, by rw [List.length_map]; exact hl, vs, _, rv, ha⟩
      · have z' := (if_neg hb).symm.trans z
        cases z'
    · by_cases hb : b = a
      · exact hb
      · exact absurd (if_neg hb) z
end L2
namespace L2
open PySem PySem.Spec PyProof.Rows
abbrev KOf {K : PySem.W.Frag} {h : Heap} (_ : K.In h) : PySem.W.Frag := K
theorem walk_of {l : PySem.W.OpenLaw} {n k : Nat} {q : Program} {loose : List Str} {XP : (Str → Option Value) → Heap → Prop} {YP : World → Heap → Prop} {d : DefRec} {K : Params → PySem.W.Frag} {CX : World → CXT} {sp : World → Sp} {x : Str}
    (hn : l.most = some n) (hn2 : n ≤ sizeLine) (hdf : d.params.defaults = []) (hr : Room k callerA)
    (hY : ∀ (w : World) (h : Heap), YP w h → (K w.params).In h)
    (F : ∀ (w : World) (mg : Str → Option Value) (fa : Addr) (h : Heap), (K w.params).In h → h.Ns mainGlobals mg → mg d.name = some (.ref fa) →
      ∃ fd : FuncData, (∀ (s : Shared) (u : Value), BindsTo s fd ⟨[u], []⟩ [(x, u)]) ∧
        ∀ base : Heap, (K w.params).In base → base.Ns mainGlobals mg → FnOk l.prog w (K w.params) mg base (CX w) k fa fd [x] (sp w))
    (hsp : ∀ (w : World) (H : Hp) (a : Addr) (ns : List Int), ns.length ≤ n → Only H → SqL (K w.params) H a (ns.map V.int) → sp w [.ref a] H (fun v _ => v = .bl true) fun _ _ _ => False)
    (hCX : ∀ (w : World) (H : Hp) (s : Shared) (e : Value) (s' : Shared), CX w [] H s (fun _ _ _ => False) e s' → False) :
    PySem.W.WalkO q loose XP YP l.row.toRowW d [] (fun f vs => PySem.call f vs) := by
  refine Att.attach_call hn hdf fun w s₀ s₁ mg mb fa o pm cd doc a vs ns G Y ho hd hcd hmg hobj hints hlen hg => ?_
  have KX := hY w _ Y
  obtain ⟨fd, hb, hF⟩ := F w mg fa _ KX G.T.g hmg
  exact law_call KX G.T.g G.T.b G.T.builtins G.T.nolimit hg hobj hints (Nat.le_trans hlen hn2) hr hF hb (fun H hO hS => hsp w H a ns hlen hO hS) fun H e s' => hCX w H s₁ e s'
theorem walk_ofK {l : PySem.W.OpenLaw} {n k : Nat} {q : Program} {loose : List Str} {XP : (Str → Option Value) → Heap → Prop} {YP : World → Heap → Prop} {d : DefRec} {K : Params → PySem.W.Frag} {CX : CXT} {sp : PySem.W.Frag → Sp} {x : Str}
    (hn : l.most = some n) (hn2 : n ≤ sizeLine) (hdf : d.params.defaults = []) (hr : Room k callerA)
    (hY : ∀ (w : World) (h : Heap), YP w h → (K w.params).In h)
    (F : ∀ (w : World) (mg : Str → Option Value) (fa : Addr) (h : Heap), (K w.params).In h → h.Ns mainGlobals mg → mg d.name = some (.ref fa) →
      ∃ fd : FuncData, (∀ (s : Shared) (u : Value), BindsTo s fd ⟨[u], []⟩ [(x, u)]) ∧
        ∀ base : Heap, (K w.params).In base → base.Ns mainGlobals mg → FnOk l.prog w (K w.params) mg base CX k fa fd [x] (sp (K w.params)))
    (hsp : ∀ (K : PySem.W.Frag) (H : Hp) (a : Addr) (ns : List Int), ns.length ≤ n → Only H → SqL K H a (ns.map V.int) → sp K [.ref a] H (fun v _ => v = .bl true) fun _ _ _ => False)
    (hCX : ∀ (H : Hp) (s : Shared) (e : Value) (s' : Shared), CX [] H s (fun _ _ _ => False) e s' → False) :
    PySem.W.WalkO q loose XP YP l.row.toRowW d [] (fun f vs => PySem.call f vs) :=
  walk_of (K := K) (CX := fun _ => CX) (sp := fun w => sp (K w.params)) hn hn2 hdf hr hY F (fun w H a ns h1 h2 h3 => hsp (K w.params) H a ns h1 h2 h3) fun _ H s e s' => hCX H s e s'
end L2
namespace L2
open PySem PySem.Spec PyProof.Rows
def inClass (s : Stmt) (j : Nat) : Stmt := match s with
  | .ClassDef _ _ _ body _ _ _ _ _ _ _ => body.getD j (.Pass ⟨0, 0, 0, 0⟩)
  | _ => .Pass ⟨0, 0, 0, 0⟩
def defArgs (s : Stmt) : Arguments := match s with
  | .FunctionDef _ a _ _ _ _ _ _ _ _ => a
  | _ => { posonlyargs := [], args := [], vararg := none, kwonlyargs := [], kw_defaults := [], kwarg := none, defaults := [] }
def defBody (s : Stmt) : List Stmt := match s with
  | .FunctionDef _ _ b _ _ _ _ _ _ _ => b
  | _ => []
def defScope (s : Stmt) : Scope := match s with
  | .FunctionDef _ _ _ _ _ _ sc _ _ _ => sc
  | _ => { kind := .function, names := [], isGenerator := false, isCoroutine := false }
abbrev CX0 : CXT := fun _ _ _ _ _ _ => False
abbrev E0 : XK := fun _ _ _ => False
theorem pass0 {X : Cx} : Passes CX0 X E0 := fun _ _ _ _ _ _ _ h => h.elim
structure Fun (K : PySem.W.Frag) (x qual : Str) (st : Stmt) (f : Addr) (fd : FuncData) : Prop where
  ex : ∃ (oc : Value) (od : Option Addr) (kV doc pm : Value) (an : Option Addr) (cdv ct : Value) (osl : Array (Option Value)),
    fd = PySem.W.fnOf x qual (defArgs st) (defBody st) (defScope st) .none kV doc pm an cdv ct ∧ K.lookup f = some ⟨oc, od, .func fd, osl⟩ ∧ PySem.W.codeIn K cdv qual = true
  kp : PySem.W.keepIn K (.ref f) = true
section
variable {P : Program} {w : World} {K : PySem.W.Frag} {mg : Str → Option Value} {base : Heap}
theorem Fun.ok {x qual : Str} {st : Stmt} {f : Addr} {fd : FuncData} {N ps : List Str} {k : Nat} {sp : Sp} (F : Fun K x qual st f fd) (S : FnScope N ps (defScope st)) (len : ∀ vs H Q E, sp vs H Q E → vs.length = ps.length)
    (hbody : ∀ (cdv : Value) (A : Around) (outer : List Env) (s : Shared) (H : Hp) (vs : List V) (Q : VK) (E : XK), Room k (A.deeper (envOfC qual (defScope st) s.heap.objs.size f cdv)) → sp vs H Q E →
      ∃ t, PSs (cxOf CX0 P w K mg base N qual (defScope st) f cdv A outer s H E).nox (defBody st) t ∧ t { nx := fun _ H' => Q .non H', rt := Q } (start N vs) H) : FnOk P w K mg base CX0 (k + 1) f fd ps sp := by
  obtain ⟨oc, od, kV, doc, pm, an, cdv, ct, osl, rfl, lk, hcd⟩ := F.ex
  refine fn_of lk hcd S len fun A outer s H vs Q E hr hsp => ?_
  obtain ⟨t, h, q⟩ := hbody cdv A outer s H vs Q E hr hsp
  exact ⟨t, h.nox, q⟩
theorem Fun.binds {x qual : Str} {st : Stmt} {f : Addr} {fd : FuncData} {ps : List Str} (F : Fun K x qual st f fd)
    (h : ∀ (kV doc pm : Value) (an : Option Addr) (cdv ct : Value) (us : List Value), us.length = ps.length → bindArgs (PySem.W.fnOf x qual (defArgs st) (defBody st) (defScope st) .none kV doc pm an cdv ct) ⟨us, []⟩ = pure (ps.zip us)) : Binds K fd ps [] := by
  obtain ⟨oc, od, kV, doc, pm, an, cdv, ct, osl, rfl, lk, hcd⟩ := F.ex
  exact .all (h kV doc pm an cdv ct)
theorem fun_mk {x qual : Str} {st : Stmt} {f : Addr} {oc : Value} {od an : Option Addr} {osl : Array (Option Value)} {kV doc pm cdv ct : Value} (l : K.lookup f = some ⟨oc, od, .func (PySem.W.fnOf x qual (defArgs st) (defBody st) (defScope st) .none kV doc pm an cdv ct), osl⟩)
    (c : PySem.W.codeIn K cdv qual = true) (k : PySem.W.keepIn K (.ref f) = true) : Fun K x qual st f (PySem.W.fnOf x qual (defArgs st) (defBody st) (defScope st) .none kV doc pm an cdv ct) := ⟨⟨oc, od, kV, doc, pm, an, cdv, ct, osl, rfl, l, c⟩, k⟩
end
section
variable {X : Cx}
theorem pv (i : Nat) {x : Str} {pos : Pos} (hN : X.N[i]? = some x := by rfl) (hv : Vis X.env.scope x := by first | exact Or.inl rfl | exact Or.inr (Or.inl rfl) | exact Or.inr (Or.inr rfl)) (hd : (x == ("__debug__" : Str)) = false := by decide)
    (hcd : (x == ("__classdict__" : Str)) = false := by decide) : PE X (.Name x pos) (tVar i) := pe_var hN hv hd hcd
end
theorem ite2 {c A B : Prop} [Decidable c] (h1 : c → A) (h2 : ¬ c → B) : if c then A else B := by
  by_cases h : c
  · rw [if_pos h]
    exact h1 h
  · rw [if_neg h]
    exact h2 h
def Same (H H' : Hp) : Prop := ∀ b o, H b = some o → H' b = some o
theorem Same.refl (H : Hp) : Same H H := fun _ _ h => h
theorem Same.trans {H H1 H2 : Hp} (a : Same H H1) (b : Same H1 H2) : Same H H2 := fun c o h => b c o (a c o h)
theorem Same.free {H H' : Hp} (e : Same H H') {l : Addr} (h : H' l = Option.none) : H l = Option.none := by
  cases q : H l with
  | none => rfl
  | some o =>
    rw [e l o q] at h
    cases h
theorem Same.seq {K : PySem.W.Frag} {H H' : Hp} {a : Addr} {xs : List V} (e : Same H H') (h : SqL K H a xs) : SqL K H' a xs := by
  rcases h with (h | ⟨o, h⟩) | h
  · exact .inl (.inl (e _ _ h))
  · exact .inl (.inr ⟨o, e _ _ h⟩)
  · exact .inr h
section
variable {X : Cx}
theorem call_lenD : CallR X (.builtin "len") (fun xs H Q => ∃ a kvs, xs = [V.ref a] ∧ H a = some (.dK kvs) ∧ Q (.int kvs.length) H) := by
  intro pins s σ H xs us Q I r h
  obtain ⟨a, kvs, rfl, ha, q⟩ := h
  obtain ⟨u, rfl, ru⟩ := vals1 r
  cases ru
  exact d_len I (.inl ha) fun t s' I' => ⟨.int kvs.length, H, I', ⟨t, rfl⟩, q⟩
end
end L2
namespace Tx
open PySem PySem.Builtin PySem.Builtin.Str PySem.StrLaws PyProof.Rows
abbrev mk (l : List Nat) : Str := ⟨l.toArray⟩
theorem mk_eta (x : Str) : mk x.cps.toList = x := by obtain ⟨⟨l⟩⟩ := x; rfl
theorem mk_len (l : List Nat) : (mk l).length = l.length := by show l.toArray.size = _; simp
theorem mk_app (a b : List Nat) : mk a ++ mk b = mk (a ++ b) := by
  show (⟨a.toArray ++ b.toArray⟩ : Str) = _
  simp
theorem mk_inj {a b : List Nat} (h : mk a = mk b) : a = b := by simpa [mk] using h
theorem subAt_one (l : List Nat) (c i : Nat) : subAt (mk l) (mk [c]) i = decide (l[i]? = some c) := by
  rw [subAt_eq]
  show ((l.drop i).take 1 == [c]) = _
  cases e : l[i]? with
  | none =>
    have : l.drop i = [] := List.drop_eq_nil_of_le (by simpa using e)
    rw [this]; simp
  | some d =>
    have hi := (List.getElem?_eq_some_iff.mp e)
    obtain ⟨h1, h2⟩ := hi
    rw [List.drop_eq_getElem_cons h1, h2]
    show (d == c && true) = decide (some d = some c)
    by_cases z : d = c
    · subst z; simp
    · simp [z]
def idx (l : List Nat) (c : Nat) (is : List Nat) : List Nat := is.filter fun i => decide (l[i]? = some c)
theorem occ_run (l : List Nat) (c limit : Nat) : ∀ (is : List Nat) (st : Array Nat × Nat), is.Pairwise (· < ·) → (∀ i ∈ is, st.2 ≤ i) → st.1.size ≤ limit →
    (forIn is st (occBody (mk l) (mk [c]) (mk l).length limit)).run.1.toList = st.1.toList ++ (idx l c is).take (limit - st.1.size)
  | [], st, _, _, _ => by
    show st.1.toList = _
    simp [idx]
  | i :: is, st, hp, hf, hs => by
    have hp' := (List.pairwise_cons.mp hp)
    by_cases hc : ((st.fst.size < limit ∧ st.snd ≤ i) ∧ i + (mk [c]).length ≤ (mk l).length) ∧ subAt (mk l) (mk [c]) i = true
    · have hb : occBody (mk l) (mk [c]) (mk l).length limit i st = pure (ForInStep.yield (st.fst.push i, i + (mk [c]).length)) := if_pos hc
      have hd : decide (l[i]? = some c) = true := by rw [← subAt_one]; exact hc.2
      have ih := occ_run l c limit is (st.1.push i, i + (mk [c]).length) hp'.2 (fun j hj => by rw [mk_len]; exact hp'.1 j hj) (by simp; omega)
      rw [List.forIn_cons, hb]
      refine Eq.trans ih ?_
      unfold idx
      rw [List.filter_cons, if_pos hd]
      have e : limit - st.1.size = (limit - (st.1.push i).size) + 1 := by simp; omega
      rw [e, List.take_succ_cons]
      simp
    · have hb : occBody (mk l) (mk [c]) (mk l).length limit i st = pure (ForInStep.yield (st.fst, st.snd)) := if_neg hc
      have ih := occ_run l c limit is st hp'.2 (fun j hj => hf j (List.mem_cons_of_mem _ hj)) hs
      rw [List.forIn_cons, hb]
      refine Eq.trans ih ?_
      by_cases hd : decide (l[i]? = some c) = true
      · have hi : i < l.length := (List.getElem?_eq_some_iff.mp (by simpa using hd)).1
        have hsz : ¬ st.1.size < limit := fun z => hc ⟨⟨⟨z, hf i List.mem_cons_self⟩, by rw [mk_len, mk_len]; exact hi⟩, by rw [subAt_one]; exact hd⟩
        have e : limit - st.1.size = 0 := by omega
        rw [e]; simp
      · unfold idx
        rw [List.filter_cons, if_neg hd]
theorem range_lt (n : Nat) : (List.range' 0 n).Pairwise (· < ·) := by
  rw [← List.range_eq_range']; exact List.pairwise_lt_range
theorem occ_sign (l : List Nat) (c limit : Nat) : occurrences (mk l) (mk [c]) 0 (mk l).length limit = (idx l c (List.range (l.length + 1))).take limit := by
  rw [occ_eq, occ_run l c limit _ _ (range_lt _) (fun _ _ => Nat.zero_le _) (Nat.zero_le _)]
  rw [mk_len, List.range_eq_range']
  simp
theorem idx_no {l : List Nat} {c : Nat} (h : c ∉ l) (is : List Nat) : idx l c is = [] := by
  unfold idx
  rw [List.filter_eq_nil_iff]
  intro i _ z
  exact h (List.mem_of_getElem? (by simpa using z))
theorem idx_app {a b : List Nat} {c : Nat} (h : c ∉ a) : idx (a ++ c :: b) c (List.range ((a ++ c :: b).length + 1)) = a.length :: (idx b c (List.range (b.length + 1))).map (· + (a.length + 1)) := by
  have e : (a ++ c :: b).length + 1 = a.length + (1 + (b.length + 1)) := by simp; omega
  unfold idx
  rw [e, List.range_add, List.filter_append, List.filter_eq_nil_iff.mpr, List.nil_append]
  · have e2 : List.range (1 + (b.length + 1)) = 0 :: (List.range (b.length + 1)).map (· + 1) := by rw [Nat.add_comm 1, List.range_succ_eq_map]
    rw [e2, List.map_cons, List.map_map, List.filter_cons, if_pos (by simp), List.filter_map]
    congr 1
    have e3 : ((fun x => a.length + x) ∘ (fun x => x + 1)) = (fun x => x + (a.length + 1)) := by funext x; simp; omega
    rw [e3]
    congr 1
    refine List.filter_congr fun i _ => ?_
    simp only [Function.comp]
    rw [List.getElem?_append_right (by omega), show i + (a.length + 1) - a.length = i + 1 by omega, List.getElem?_cons_succ]
  · intro i hi z
    have hi' := List.mem_range.mp hi
    have z' : (a ++ c :: b)[i]? = some c := by simpa using z
    rw [List.getElem?_append_left hi'] at z'
    exact h (List.mem_of_getElem? z')
theorem sub_mk (l : List Nat) (i j : Nat) : strSub (mk l) i j = mk ((l.drop i).take (j - i)) := by
  rw [← mk_eta (strSub (mk l) i j), strSub_toList]
theorem sub_shift (p b : List Nat) (i j : Nat) : strSub (mk (p ++ b)) (i + p.length) (j + p.length) = strSub (mk b) i j := by
  rw [sub_mk, sub_mk, List.drop_append, List.drop_eq_nil_of_le (by omega), List.nil_append, show i + p.length - p.length = i by omega, show j + p.length - (i + p.length) = j - i by omega]
theorem parts_shift (p b : List Nat) (w : Nat) : ∀ (cuts : List Nat) (a : Nat), partsFrom (mk (p ++ b)) w (a + p.length) (cuts.map (· + p.length)) = partsFrom (mk b) w a cuts
  | [], a => by
    show [strSub (mk (p ++ b)) (a + p.length) (mk (p ++ b)).length] = [strSub (mk b) a (mk b).length]
    rw [mk_len, mk_len, List.length_append, Nat.add_comm p.length, sub_shift]
  | k :: ks, a => by
    show strSub (mk (p ++ b)) (a + p.length) (k + p.length) :: partsFrom (mk (p ++ b)) w (k + p.length + w) (ks.map (· + p.length)) = strSub (mk b) a k :: partsFrom (mk b) w (k + w) ks
    rw [sub_shift, show k + p.length + w = (k + w) + p.length by omega, parts_shift p b w ks]
def splitL (c : Nat) : List Nat → List (List Nat)
  | [] => [[]]
  | d :: r => if d = c then [] :: splitL c r else match splitL c r with
    | [] => [[d]]
    | p :: ps => (d :: p) :: ps
theorem splitL_ne (c : Nat) (l : List Nat) : splitL c l ≠ [] := by
  cases l with
  | nil => simp [splitL]
  | cons d r =>
    unfold splitL
    split
    · simp
    · split <;> simp
theorem splitL_no {c : Nat} : ∀ {l : List Nat}, c ∉ l → splitL c l = [l]
  | [], _ => rfl
  | d :: r, h => by
    have h1 : d ≠ c := fun e => h (by simp [e])
    have h2 : c ∉ r := fun e => h (List.mem_cons_of_mem _ e)
    unfold splitL
    rw [if_neg h1, splitL_no h2]
theorem splitL_at {c : Nat} {b : List Nat} : ∀ {a : List Nat}, c ∉ a → splitL c (a ++ c :: b) = a :: splitL c b
  | [], _ => by show (if c = c then _ else _) = _; rw [if_pos rfl]
  | d :: r, h => by
    have h1 : d ≠ c := fun e => h (by simp [e])
    have h2 : c ∉ r := fun e => h (List.mem_cons_of_mem _ e)
    show (if d = c then _ else _) = _
    rw [if_neg h1]
    show (match splitL c (r ++ c :: b) with | [] => [[d]] | p :: ps => (d :: p) :: ps) = _
    rw [splitL_at h2]
theorem cut_at {c : Nat} : ∀ {l : List Nat}, c ∈ l → ∃ a b, l = a ++ c :: b ∧ c ∉ a
  | d :: r, h => by
    by_cases e : d = c
    · exact ⟨[], r, by rw [e]; rfl, by simp⟩
    · obtain ⟨a, b, e1, h1⟩ := cut_at (l := r) (by
        rcases List.mem_cons.mp h with z | z
        · exact absurd z.symm e
        · exact z)
      exact ⟨d :: a, b, by rw [e1]; rfl, by simp [h1, Ne.symm e]⟩
theorem idx_parts (c : Nat) : ∀ (n : Nat) (l : List Nat), l.length ≤ n → partsFrom (mk l) 1 0 (idx l c (List.range (l.length + 1))) = (splitL c l).map mk := by
  intro n
  induction n with
  | zero =>
    intro l h
    have : l = [] := List.length_eq_zero_iff.mp (by omega)
    subst this
    rw [idx_no (by simp)]
    rfl
  | succ n ih =>
    intro l h
    by_cases hc : c ∈ l
    · obtain ⟨a, b, rfl, ha⟩ := cut_at hc
      rw [idx_app ha, splitL_at ha, List.map_cons]
      show strSub (mk (a ++ c :: b)) 0 a.length :: partsFrom (mk (a ++ c :: b)) 1 (a.length + 1) _ = _
      have e : a ++ c :: b = (a ++ [c]) ++ b := by simp
      have hl : (a ++ [c]).length = a.length + 1 := by simp
      rw [sub_mk]
      refine congr (congrArg List.cons (by simp)) ?_
      rw [e, ← hl]
      have := parts_shift (a ++ [c]) b 1 (idx b c (List.range (b.length + 1))) 0
      rw [Nat.zero_add] at this
      rw [this]
      exact ih b (by simp at h; omega)
    · rw [idx_no hc, splitL_no hc]
      show [strSub (mk l) 0 (mk l).length] = [mk l]
      rw [sub_whole]
theorem kind_small {c : Nat} (h : c < 256) (x : Str) : decide (PySem.Builtin.Str.strKind x < PySem.Builtin.Str.strKind (mk [c])) = false := by
  have e : PySem.Builtin.Str.strKind (mk [c]) = 1 := by
    unfold PySem.Builtin.Str.strKind
    rw [if_pos (by simp [h])]
  rw [e, decide_eq_false_iff_not]
  unfold PySem.Builtin.Str.strKind
  split
  · omega
  · split <;> omega
theorem split_sign {c : Nat} (h : c < 256) (l : List Nat) : Txt.split (mk l) (mk [c]) = (splitL c l).map mk := by
  unfold Txt.split
  rw [kind_small h, Bool.or_false, mk_len, mk_len]
  by_cases h0 : l.length < 1
  · have : l = [] := List.length_eq_zero_iff.mp (by omega)
    subst this
    rfl
  · rw [if_neg (by simp only [List.length_singleton, decide_eq_true_eq]; exact h0)]
    have e : occurrences (mk l) (mk [c]) 0 l.length (l.length + 1) = idx l c (List.range (l.length + 1)) := by
      have := occ_sign l c (l.length + 1)
      rw [mk_len] at this
      rw [this, List.take_of_length_le]
      unfold idx
      exact Nat.le_trans (List.length_filter_le _ _) (by simp)
    rw [e, partsBetween_eq]
    by_cases hc : c ∈ l
    · rw [if_neg, List.length_singleton]
      · exact idx_parts c l.length l (Nat.le_refl _)
      · obtain ⟨a, b, rfl, ha⟩ := cut_at hc
        rw [idx_app ha]; simp
    · rw [idx_no hc, splitL_no hc]; rfl
theorem in_one (c : Nat) (x : Str) : (!(occurrences x (mk [c]) 0 x.length 1).isEmpty) = decide (c ∈ x.cps.toList) := found_one x c
end Tx
namespace L2
open PySem PySem.Spec PyProof.Rows
abbrev NoE : Value → Shared → Prop := fun _ _ => False
section
variable {prog : Program} {w : World} {A : Around} {R : Result → Shared → Prop} {s : Shared}
theorem compLoop_any {elt target iter : Expr} {ifs : List Expr} {scope : Scope} {pos : Pos} {it acc : Value} {env : Env} (I : Nat → Shared → Prop)
    (turn : ∀ n s, I n s → wpAny (model prog w) A (pyNext it) (fun r s₁ => match r with
      | none => R (.ok .next) s₁
      | some v => wpAny (model prog w) A (letOwnedTupleGo target it v) (fun _ s₂ => wpAny (model prog w) A (assign target env v) (fun _ s₃ =>
          wpAny (model prog w) A (forIn ifs true fun c r => if r = true then do let ok ← isTrue c env (eval c env); pure (ForInStep.yield ok) else pure (ForInStep.yield r)) (fun ok s₄ =>
            if ok = true then wpAny (model prog w) A (eval elt env) (fun x s₅ => wpAny (model prog w) A (call (.builtin "list.append") [acc, x]) (fun _ s₆ => ∃ m, m < n ∧ I m s₆) NoE s₅) NoE s₄
            else ∃ m, m < n ∧ I m s₄) NoE s₃) NoE s₂) NoE s₁) NoE s)
    (n : Nat) (h : I n s) : codeAny (model prog w) A (.compLoop (.ListComp elt [⟨target, iter, ifs, 0⟩] scope pos) 0 it acc env) R s := by
  refine codeAny_loop rfl I (fun n s hI => ?_) n h
  show wpAny _ A ((compTurn (.ListComp elt [⟨target, iter, ifs, 0⟩] scope pos) 0 it acc env).onRaise (fun x => do noteFrame x env; theTreesLotGoes x)) _ _ s
  refine wpAny_noted ?_
  rw [compTurn_list]
  refine wpAny_noRaise ?_
  refine wpAny_bind (wpAny_standAt (wpAny_bind (wpAny_mono (turn n s hI) (fun r s₁ h₁ => ?_) fun _ _ h' => h')))
  cases r with
  | none => exact wpAny_pure h₁
  | some v =>
    refine wpAny_bind (wpAny_mono h₁ (fun _ s₂ h₂ => wpAny_bind (wpAny_mono h₂ (fun _ s₃ h₃ => wpAny_bind (wpAny_mono h₃ (fun ok s₄ h₄ => ?_) fun _ _ h' => h')) fun _ _ h' => h')) fun _ _ h' => h')
    cases ok with
    | false => exact wpAny_pure ⟨rfl, h₄⟩
    | true => exact wpAny_bind (wpAny_bind (wpAny_mono h₄ (fun x s₅ h₅ => wpAny_bind (wpAny_mono h₅ (fun _ s₆ h₆ => wpAny_pure (wpAny_pure ⟨rfl, h₆⟩)) fun _ _ h' => h')) fun _ _ h' => h'))
end
def clos (env : Env) : List (Str × NameKind) → List (Str × Addr) → List (Str × Addr)
  | [], cs => cs
  | (n, k) :: r, cs => clos env r (if (k == NameKind.free) = true then (n, (env.cells.lookup n).getD 0) :: cs else cs)
theorem closureFor_clos {scope : Scope} {env : Env} (h : ∀ y ∈ scope.names, y.2 = NameKind.free → ∃ c, env.cells.lookup y.1 = some c) : closureFor scope env = pure (clos env scope.names []) := by
  have all : ∀ (l : List (Str × NameKind)) (cs : List (Str × Addr)), (∀ y ∈ l, y.2 = NameKind.free → ∃ c, env.cells.lookup y.1 = some c) →
      (forIn l cs fun (x : Str × NameKind) (cs : List (Str × Addr)) => (if (x.2 == NameKind.free) = true then do let a ← cellOf env x.1; pure (ForInStep.yield ((x.1, a) :: cs)) else pure (ForInStep.yield cs) : Sem (ForInStep (List (Str × Addr))))) = pure (clos env l cs) := by
    intro l
    induction l with
    | nil => intro cs _; rfl
    | cons y l ih =>
      intro cs hy
      obtain ⟨n, k⟩ := y
      rw [List.forIn_cons]
      by_cases hk : (k == NameKind.free) = true
      · obtain ⟨c, hc⟩ := hy (n, k) List.mem_cons_self (by simpa using hk)
        have e1 : cellOf env n = pure c := by unfold cellOf; rw [hc]
        have e2 : clos env ((n, k) :: l) cs = clos env l ((n, c) :: cs) := by
          show clos env l (if (k == NameKind.free) = true then (n, (env.cells.lookup n).getD 0) :: cs else cs) = _
          rw [if_pos hk, hc]; rfl
        rw [e2, ← ih ((n, c) :: cs) fun z hz => hy z (List.mem_cons_of_mem _ hz)]
        simp only [hk, if_true, e1, pure_bind]
      · have e2 : clos env ((n, k) :: l) cs = clos env l cs := by
          show clos env l (if (k == NameKind.free) = true then (n, (env.cells.lookup n).getD 0) :: cs else cs) = _
          rw [if_neg hk]
        rw [e2, ← ih cs fun z hz => hy z (List.mem_cons_of_mem _ hz)]
        have hk' : (k == NameKind.free) = false := by simpa using hk
        simp only [hk', Bool.false_eq_true, if_false, pure_bind]
  have e := all scope.names [] h
  unfold closureFor
  first
    | (rw [show (pure (clos env scope.names []) : Sem (List (Str × Addr))) = (pure (clos env scope.names []) >>= fun cs => pure cs) from rfl, ← e]; rfl)
    | (simp only [bind_pure]; exact e)
    | (simpa using e)
theorem clos_look {env : Env} {x : Str} {c : Addr} : ∀ {l : List (Str × NameKind)} {cs : List (Str × Addr)}, (∀ y ∈ l, y.2 = NameKind.free → ∃ c, env.cells.lookup y.1 = some c) →
    (∀ y d, cs.lookup y = some d → env.cells.lookup y = some d) → (clos env l cs).lookup x = some c → env.cells.lookup x = some c
  | [], _, _, hc, h => hc x c h
  | (n, k) :: r, cs, hy, hc, h => by
    refine clos_look (l := r) (cs := if (k == NameKind.free) = true then (n, (env.cells.lookup n).getD 0) :: cs else cs) (fun z hz => hy z (List.mem_cons_of_mem _ hz)) (fun y d q => ?_) h
    by_cases hk : (k == NameKind.free) = true
    · rw [if_pos hk] at q
      obtain ⟨c', hc'⟩ := hy (n, k) List.mem_cons_self (by simpa using hk)
      rw [hc', List.lookup_cons] at q
      by_cases e : (y == n) = true
      · rw [e] at q
        have e' : y = n := by simpa using e
        rw [e', hc']; exact q
      · have e' : (y == n) = false := by simpa using e
        rw [e'] at q
        exact hc y d q
    · rw [if_neg hk] at q
      exact hc y d q
theorem clos_has {env : Env} {x : Str} : ∀ {l : List (Str × NameKind)} {cs : List (Str × Addr)}, ((x, NameKind.free) ∈ l ∨ ∃ c, cs.lookup x = some c) → ∃ c, (clos env l cs).lookup x = some c
  | [], _, h => by
    rcases h with h | h
    · cases h
    · exact h
  | (n, k) :: r, cs, h => by
    refine clos_has (l := r) (cs := if (k == NameKind.free) = true then (n, (env.cells.lookup n).getD 0) :: cs else cs) ?_
    rcases h with h | ⟨c, h⟩
    · rcases List.mem_cons.mp h with e | e
      · cases e
        refine .inr ?_
        rw [if_pos (by rfl), List.lookup_cons, beq_self_eq_true]
        exact ⟨_, rfl⟩
      · exact .inl e
    · refine .inr ?_
      by_cases hk : (k == NameKind.free) = true
      · rw [if_pos hk, List.lookup_cons]
        by_cases e : (x == n) = true
        · rw [e]; exact ⟨_, rfl⟩
        · have e' : (x == n) = false := by simpa using e
          rw [e']; exact ⟨c, h⟩
      · rw [if_neg hk]; exact ⟨c, h⟩
theorem lookup_relabel_free {env : Env} : ∀ {names : List (Str × NameKind)} {x : Str}, names.lookup x = some .free →
    (names.map fun (n, k) => if (k == NameKind.free && env.scope.kind == .function && env.kindOf n == some .cell) then (n, NameKind.cell) else (n, k)).lookup x = some .cell ∨
    (names.map fun (n, k) => if (k == NameKind.free && env.scope.kind == .function && env.kindOf n == some .cell) then (n, NameKind.cell) else (n, k)).lookup x = some .free
  | [], _, h => by simp at h
  | (n, k) :: r, x, h => by
    have ih := @lookup_relabel_free env r x
    rw [List.map_cons]
    show List.lookup x ((if (k == NameKind.free && env.scope.kind == .function && env.kindOf n == some .cell) = true then (n, NameKind.cell) else (n, k)) :: _) = _ ∨ List.lookup x ((if (k == NameKind.free && env.scope.kind == .function && env.kindOf n == some .cell) = true then (n, NameKind.cell) else (n, k)) :: _) = _
    cases hx : x == n with
    | true =>
      simp only [List.lookup_cons, hx] at h
      cases h
      by_cases hc : (NameKind.free == NameKind.free && env.scope.kind == .function && env.kindOf n == some .cell) = true
      · rw [if_pos hc]; exact .inl (by simp only [List.lookup_cons, hx])
      · rw [if_neg hc]; exact .inr (by simp only [List.lookup_cons, hx])
    | false =>
      simp only [List.lookup_cons, hx] at h
      by_cases hc : (k == NameKind.free && env.scope.kind == .function && env.kindOf n == some .cell) = true
      · rw [if_pos hc]; simp only [List.lookup_cons, hx]; exact ih h
      · rw [if_neg hc]; simp only [List.lookup_cons, hx]; exact ih h
theorem relabel_cf {env : Env} : ∀ {names : List (Str × NameKind)} {x : Str}, (∀ y ∈ names, y.2 ≠ NameKind.cell) →
    ((names.map fun (n, k) => if (k == NameKind.free && env.scope.kind == .function && env.kindOf n == some .cell) then (n, NameKind.cell) else (n, k)).lookup x = some .cell ∨
    (names.map fun (n, k) => if (k == NameKind.free && env.scope.kind == .function && env.kindOf n == some .cell) then (n, NameKind.cell) else (n, k)).lookup x = some .free) → (x, NameKind.free) ∈ names
  | [], _, _, h => by rcases h with h | h <;> simp at h
  | (n, k) :: r, x, hn, h => by
    have ih := @relabel_cf env r x fun y hy => hn y (List.mem_cons_of_mem _ hy)
    have hk := hn (n, k) List.mem_cons_self
    rw [List.map_cons] at h
    by_cases hc : (k == NameKind.free && env.scope.kind == .function && env.kindOf n == some .cell) = true
    · have hk1 : k = NameKind.free := by
        rw [Bool.and_eq_true, Bool.and_eq_true] at hc
        simpa using hc.1.1
      simp only [hc, if_true, List.lookup_cons] at h
      cases hx : x == n with
      | true => have e : x = n := by simpa using hx
                rw [e, hk1]; exact List.mem_cons_self
      | false => rw [hx] at h; exact List.mem_cons_of_mem _ (ih h)
    · have hc' : (k == NameKind.free && env.scope.kind == .function && env.kindOf n == some .cell) = false := by simpa using hc
      simp only [hc', Bool.false_eq_true, if_false, List.lookup_cons] at h
      cases hx : x == n with
      | true =>
        rw [hx] at h
        have e : x = n := by simpa using hx
        rcases h with h | h
        · exact absurd (Option.some.inj h) hk
        · rw [e, Option.some.inj h]; exact List.mem_cons_self
      | false => rw [hx] at h; exact List.mem_cons_of_mem _ (ih h)
def cxComp (X : Cx) (Nc : List Str) (scope : Scope) (cl : List (Str × Addr)) (C : Addr) (s : Shared) (H : Hp) (ex : List Addr) : Cx where
  prog := X.prog
  w := X.w
  K := X.K
  mg := X.mg
  base := X.base
  A := X.A
  N := Nc
  s₀ := s
  H₀ := H
  env := compEnvC scope cl C X.env
  outer := X.stack
  stack := X.stack
  ex := ex
  fn := fun _ => false
  calm := X.calm
  pn := []
  xe := NoE
def pickS (js : List (Option Nat)) (σ : St) : St := js.map fun o => match o with
  | none => none
  | some j => (σ[j]?).getD none
structure CompOk (X : Cx) (Nc : List Str) (js : List (Option Nat)) (scope : Scope) : Prop where
  kind : scope.kind = .function
  nocell : ∀ y ∈ scope.names, y.2 ≠ NameKind.cell
  names : ∀ y ∈ scope.names, y.2 = NameKind.local → scope.names.lookup y.1 = some NameKind.local
  free : ∀ y ∈ scope.names, y.2 = NameKind.free → X.env.kindOf y.1 = some NameKind.cell ∨ X.env.kindOf y.1 = some NameKind.free
  len : js.length = Nc.length
  map : ∀ (i : Nat) (y : Str) (j : Nat), Nc[i]? = some y → js[i]? = some (some j) → X.N[j]? = some y ∧ scope.names.lookup y = some NameKind.free
def compB (sc : Scope) (N Nc : List Str) (js : List (Option Nat)) (scope : Scope) : Bool :=
  scope.kind == .function && scope.names.all (fun y => y.2 != NameKind.cell) && scope.names.all (fun y => y.2 != NameKind.local || scope.names.lookup y.1 == some NameKind.local) &&
  scope.names.all (fun y => y.2 != NameKind.free || sc.names.lookup y.1 == some NameKind.cell || sc.names.lookup y.1 == some NameKind.free) && js.length == Nc.length &&
  (Nc.zip js).all (fun p => match p.2 with | none => true | some j => N[j]? == some p.1 && scope.names.lookup p.1 == some NameKind.free)
theorem compOk_of {X : Cx} {sc : Scope} {N Nc : List Str} {js : List (Option Nat)} {scope : Scope} (hsc : X.env.scope = sc) (hN : X.N = N) (h : compB sc N Nc js scope = true) : CompOk X Nc js scope := by
  unfold compB at h
  rw [Bool.and_eq_true, Bool.and_eq_true, Bool.and_eq_true, Bool.and_eq_true, Bool.and_eq_true] at h
  obtain ⟨⟨⟨⟨⟨h1, h2⟩, h3⟩, h4⟩, h5⟩, h6⟩ := h
  rw [List.all_eq_true] at h2 h3 h4 h6
  have h5' : js.length = Nc.length := by simpa using h5
  refine ⟨by simpa using h1, fun y hy => by simpa using h2 y hy, fun y hy e => ?_, fun y hy e => ?_, h5', fun i y j e1 e2 => ?_⟩
  · have q := h3 y hy
    rw [e] at q
    simpa using q
  · have q := h4 y hy
    rw [e] at q
    show X.env.scope.names.lookup y.1 = _ ∨ X.env.scope.names.lookup y.1 = _
    rw [hsc]
    simpa using q
  · have hm : (y, some j) ∈ Nc.zip js := by
      refine List.mem_of_getElem? (i := i) ?_
      rw [List.getElem?_zip_eq_some]
      exact ⟨e1, e2⟩
    have q := h6 _ hm
    simp only [Bool.and_eq_true, beq_iff_eq] at q
    rw [hN]
    exact q
def PTs (X : Cx) (ifs : List Expr) (t : TT) : Prop :=
  ∀ (pins : List (Addr × Obj)) (s : Shared) (σ : St) (H : Hp) (Q : Bool → Hp → Prop), Inv X pins σ H s → t σ H Q →
    wpAny (model X.prog X.w) X.A (forIn ifs true fun c r => if r = true then do let ok ← isTrue c X.env (eval c X.env); pure (ForInStep.yield ok) else pure (ForInStep.yield r)) (TP X pins σ Q) X.xe s
def tYes : TT := fun _ H Q => Q true H
theorem pts_nil {X : Cx} : PTs X [] tYes := fun pins s σ H Q I h => wpAny_tests_nil ⟨H, I, h⟩
theorem pts_one {X : Cx} {c : Expr} {t : TT} (hc : PT X c t) : PTs X [c] t := fun pins s σ H Q I h => wpAny_tests_one (hc pins s σ H Q I h)
def tComp (js : List (Option Nat)) (wi : TI) (g : TG) (tt : TT) (te : TE) : TE := fun σ H Q => wi σ H fun J H1 => ∀ D, H1 D = none → ∃ W : Nat → Nat → St → Hp → List V → Prop, (∃ m, W 0 m (pickS js σ) (upd H1 D (.lst [])) []) ∧
  ∀ i m σ' H' ys, W i m σ' H' ys → H' D = some (.lst ys) ∧ ((J.stop i H' ∧ Q (.ref D) H') ∨ (J.go i H' ∧ ys.length < sizeLine ∧ ∀ x H2, J.yld i H' x H2 → g x σ' H2 fun σ2 H3 => tt σ2 H3 fun b H4 =>
    if b = true then te σ2 H4 fun v H5 => H5 D = some (.lst ys) ∧ ∃ m', m' < m ∧ W (i + 1) m' σ2 (upd H5 D (.lst (ys ++ [v]))) (ys ++ [v]) else ∃ m', m' < m ∧ W (i + 1) m' σ2 H4 ys))
section
variable {X : Cx} {elt target iter : Expr} {ifs : List Expr} {scope : Scope} {pos : Pos} {Nc : List Str} {js : List (Option Nat)} {wi : TI} {g : TG} {tt : TT} {te : TE}
theorem comp_block {pins : List (Addr × Obj)} {σ : St} {H2 : Hp} {s₂ : Shared} {E : Value → Shared → Prop} {it : Addr} {fp : List Addr} {tn : Nat → Heap → Prop} {J : It} {Q : VK} {RR : Value → Addr → Result → Shared → Prop} (ok : CompOk X Nc js scope) (hc : X.calm = true)
    (hg : ∀ C cl s H ex, PG (cxComp X Nc scope cl C s H ex) target g) (ht : ∀ C cl s H ex, PTs (cxComp X Nc scope cl C s H ex) ifs tt) (he : ∀ C cl s H ex, PE (cxComp X Nc scope cl C s H ex) elt te)
    (I2 : Inv X pins σ H2 s₂) (T : Turn X.prog X.w X.K target J fp it tn) (st2 : tn 0 s₂.heap) (f2 : ∀ b ∈ fp, FpOk X pins H2 b)
    (h : ∀ D, H2 D = none → ∃ W : Nat → Nat → St → Hp → List V → Prop, (∃ m, W 0 m (pickS js σ) (upd H2 D (.lst [])) []) ∧
      ∀ i m σ' H' ys, W i m σ' H' ys → H' D = some (.lst ys) ∧ ((J.stop i H' ∧ Q (.ref D) H') ∨ (J.go i H' ∧ ys.length < sizeLine ∧ ∀ x H2, J.yld i H' x H2 → g x σ' H2 fun σ2 H3 => tt σ2 H3 fun b H4 =>
        if b = true then te σ2 H4 fun v H5 => H5 D = some (.lst ys) ∧ ∃ m', m' < m ∧ W (i + 1) m' σ2 (upd H5 D (.lst (ys ++ [v]))) (ys ++ [v]) else ∃ m', m' < m ∧ W (i + 1) m' σ2 H4 ys)))
    (hRR : ∀ (D C : Addr) (s' : Shared) (H' : Hp) (m : Str → Option Value), Inv X pins σ H' s' → s'.heap.Ns C m → FpOk X pins H' C → Q (.ref D) H' → RR (.ref D) C (.ok .next) s') :
    wpAny (model X.prog X.w) X.A (newList []) (fun acc s₃ => wpAny (model X.prog X.w) X.A (newFunctionEnv scope X.env.globals (clos X.env scope.names []) [] X.env.qual none .none (some X.env)) (fun cenv s₄ =>
      codeAny (model X.prog X.w) X.A (.compStart (.ListComp elt [⟨target, iter, ifs, 0⟩] scope pos) 0 (.ref it) acc { cenv with scope := relabel scope X.env }) (RR acc cenv.locals) s₄) E s₃) E s₂ := by
  have hfr : ∀ y ∈ scope.names, y.2 = NameKind.free → ∃ c, X.env.cells.lookup y.1 = some c := fun y hy e => I2.ok.has y.1 (ok.free y hy e)
  refine wpAny_newObj_type (wpAny_newFunctionEnv ok.nocell (by intro y hy; simp at hy) (fun h₁ hns₁ hsb₁ => ?_) ok.kind)
  dsimp only at hns₁ hsb₁ ⊢
  generalize hHL : s₂.heap.push { cls := .type "list", dict := none, data := .seq ([] : List Value).toArray } = HL at hns₁ hsb₁ ⊢
  have hC : HL.objs.size = s₂.heap.objs.size + 1 := by rw [← hHL, Heap.size_push]
  have hCle : s₂.heap.objs.size ≤ HL.objs.size := by rw [hC]; exact Nat.le_succ _
  have hDC : s₂.heap.objs.size ≠ HL.objs.size := by rw [hC]; exact Nat.ne_of_lt (Nat.lt_succ_self _)
  have old : ∀ b o, s₂.heap.get? b = some o → h₁.get? b = some o := fun b o e => hsb₁.extBut b o (Nat.ne_of_lt (Nat.lt_of_lt_of_le (Heap.lt_size e) hCle)) (Heap.get?_push_of_some _ (hHL ▸ Heap.get?_push_of_some _ e))
  have hacc : h₁.get? s₂.heap.objs.size = some { cls := .type "list", dict := none, data := .seq ([] : List Value).toArray } := hsb₁.extBut _ _ hDC (Heap.get?_push_of_some _ (hHL ▸ Heap.get?_push_size _ rfl))
  have hD0 : H2 s₂.heap.objs.size = none := I2.hok.fresh (Nat.le_refl _)
  have hC0 : H2 HL.objs.size = none := I2.hok.fresh hCle
  obtain ⟨W, ⟨m0, w0⟩, turn⟩ := h _ hD0
  have hlook : ∀ x c, (clos X.env scope.names []).lookup x = some c → X.env.cells.lookup x = some c := fun x c e => clos_look hfr (fun y d q => by simp at q) e
  have hlt : ∀ b ∈ fp, b < s₂.heap.objs.size := fun b hb => let ⟨o, e, _⟩ := T.obj 0 _ st2 b hb; Heap.lt_size e
  have okc : (cxComp X Nc scope (clos X.env scope.names []) HL.objs.size s₂ H2 fp).Ok := by
    refine ⟨I2.ok.mod, by show scope.kind = _; exact ok.kind, I2.ok.glob, I2.ok.blt, hCle, fun x y c e1 e2 => I2.ok.inj x y c (hlook x c e1) (hlook y c e2), fun x hx => ?_, fun x c z _ => absurd z Bool.false_ne_true, I2.ok.hd, I2.ok.frames, .inl rfl, fun b hb => ⟨?_, fun x c e => (f2 b hb).2.2.2.2.1 x c (hlook x c e)⟩,
      I2.bs, Nat.le_trans I2.ok.bsz I2.sz, fun b o e hb => ?_, fun b hb z => ?_, I2.stack, I2.stkFree⟩
    · exact clos_has (.inl (relabel_cf ok.nocell hx))
    · exact Nat.ne_of_lt (Nat.lt_of_lt_of_le (hlt b hb) hCle)
    · rcases (f2 b hb).2.2.2.1 with z | z
      · exact I2.ok.noex b o e z
      · exact absurd (Nat.lt_of_lt_of_le (Heap.lt_size e) (Nat.le_trans I2.ok.bsz z)) (Nat.lt_irrefl _)
    · rcases List.mem_cons.mp (I2.stkSub b z) with e | e
      · exact (f2 b hb).2.1 e
      · exact (f2 b hb).2.2.1 e
  have fpc : ∀ {H' : Hp}, (∀ b ∈ fp, H' b = none) → ∀ b ∈ fp, FpOk (cxComp X Nc scope (clos X.env scope.names []) HL.objs.size s₂ H2 fp) [] H' b := fun {H'} hn b hb =>
    ⟨hn b hb, (okc.exf b hb).1, okc.exfs b hb, .inl hb, (okc.exf b hb).2, fun p hp => absurd (show p ∈ ([] : List (Addr × Obj)) from hp) (by simp)⟩
  have Ic : Inv (cxComp X Nc scope (clos X.env scope.names []) HL.objs.size s₂ H2 fp) [] (pickS js σ) (upd H2 s₂.heap.objs.size (.lst [])) { s₂ with heap := h₁, toks := s₂.toks + ([] : List (Str × Value)).length } := by
    refine ⟨okc, rfl, I2.bare, Un.laid old (Nat.le_refl _) hD0, ⟨_, hns₁, fun i x v e1 e2 e3 => ?_⟩, fun x c e => ?_, ?_, fun x c e => ?_, fun p hp => absurd (show p ∈ ([] : List (Addr × Obj)) from hp) (by simp), ?_, ?_⟩
    · have e1' : Nc[i]? = some x := e1
      unfold pickS at e2
      rw [List.getElem?_map] at e2
      cases ej : js[i]? with
      | none => rw [ej] at e2; simp at e2
      | some oj =>
        rw [ej] at e2
        cases oj with
        | none => simp at e2
        | some j =>
          have e2' : (σ[j]?).getD none = some v := by simpa using e2
          have e2'' : σ[j]? = some (some v) := by
            cases q : σ[j]? with
            | none => rw [q] at e2'; simp at e2'
            | some z => rw [q] at e2'; simp at e2'; rw [e2']
          obtain ⟨hN, hF⟩ := ok.map i x j e1' ej
          have hmem : (x, NameKind.free) ∈ scope.names := PySem.mem_of_lookup hF
          have hkX := ok.free _ hmem rfl
          obtain ⟨m, hn, hl⟩ := I2.loc
          have hvis : Vis X.env.scope x := by
            rcases hkX with z | z
            · exact .inr (.inl z)
            · exact .inr (.inr z)
          obtain ⟨u, ru, lk⟩ := hl j x v hN e2'' hvis
          refine ⟨u, ru, .inr ?_⟩
          rcases lk with ⟨k1, _⟩ | ⟨_, c, ec, ic⟩
          · have k1' : X.env.kindOf x = some NameKind.local := k1
            rcases hkX with z | z
            · rw [z] at k1'; cases k1'
            · rw [z] at k1'; cases k1'
          · obtain ⟨c', hc'⟩ := clos_has (env := X.env) (l := scope.names) (cs := []) (x := x) (.inl hmem)
            have e' := hlook x c' hc'
            rw [ec] at e'
            cases e'
            exact ⟨lookup_relabel_free hF, c, hc', ic.keeps old⟩
    · obtain ⟨v, q⟩ := I2.cell x c (hlook x c e)
      exact ⟨v, q.keeps old⟩
    · show upd H2 s₂.heap.objs.size (.lst []) HL.objs.size = none
      rw [upd_ne (Ne.symm hDC)]; exact hC0
    · obtain ⟨v, q⟩ := I2.cell x c (hlook x c e)
      rw [upd_ne (Nat.ne_of_lt q.lt)]
      exact I2.freeC x c (hlook x c e)
    · exact I2.hok.laid old (Nat.le_refl _) ⟨Nat.zero_le _, [], _, .nil, hacc⟩
    · show (pickS js σ).length = Nc.length
      unfold pickS
      rw [List.length_map]; exact ok.len
  have back : ∀ {σ' : St} {H' : Hp} {s' : Shared}, Inv (cxComp X Nc scope (clos X.env scope.names []) HL.objs.size s₂ H2 fp) [] σ' H' s' → Inv X pins σ H' s' := fun {σ' H' s'} I4 =>
    I2.call' (ch := fp) I4.os I4.base I4.hok I4.bare fun b hb => ⟨(f2 b hb).2.2.2.1, (f2 b hb).2.1, (f2 b hb).2.2.2.2.1, (f2 b hb).2.2.2.2.2⟩
  have st1 : tn 0 h₁ := T.keep 0 _ _ st2 fun b _ o e => old b o e
  have loop : ∀ s₃ : Shared, s₃ = { s₂ with heap := h₁, toks := s₂.toks + ([] : List (Str × Value)).length } →
      codeAny (model X.prog X.w) X.A (.compLoop (.ListComp elt [⟨target, iter, ifs, 0⟩] scope pos) 0 (.ref it) (.ref s₂.heap.objs.size) (compEnvC scope (clos X.env scope.names []) HL.objs.size X.env))
        (RR (.ref s₂.heap.objs.size) HL.objs.size) s₃ := by
    rintro s₃ rfl
    refine compLoop_any (fun n s' => ∃ i σ' H' ys, Inv (cxComp X Nc scope (clos X.env scope.names []) HL.objs.size s₂ H2 fp) [] σ' H' s' ∧ tn i s'.heap ∧ (∀ b ∈ fp, H' b = none) ∧ W i n σ' H' ys) ?_ m0
      ⟨0, pickS js σ, _, [], Ic, st1, fun b hb => by rw [upd_ne (Nat.ne_of_lt (hlt b hb))]; exact (f2 b hb).1, w0⟩
    rintro n s3 ⟨i, σ3, H3, ys, I3, st3, fr3, w3⟩
    obtain ⟨hD3, tn3⟩ := turn i n σ3 H3 ys w3
    rcases tn3 with ⟨stop, q⟩ | ⟨go, hys, step⟩
    · refine thn (T.done (cxComp X Nc scope (clos X.env scope.names []) HL.objs.size s₂ H2 fp) rfl rfl rfl hc i [] s3 σ3 H3 NoE I3 (fpc fr3) st3 stop) fun r s4 ⟨hr, I4⟩ => ?_
      subst hr
      obtain ⟨m4, n4, _⟩ := I4.loc
      exact hRR _ _ s4 H3 m4 (back I4) n4 (I2.fpOk hCle I4.free) q
    · refine thn (T.item (cxComp X Nc scope (clos X.env scope.names []) HL.objs.size s₂ H2 fp) rfl rfl rfl hc i [] s3 σ3 H3 NoE I3 (fpc fr3) st3 go) fun r s4 ⟨u, hr, h4⟩ => ?_
      subst hr
      refine thn h4 fun _ s5 ⟨x, H5, I5, r5, y5, st5, fr5⟩ => ?_
      have I5' := I5.pinned (fpc fr5) (T.obj _ _ st5)
      have fin : ∀ {σ7 : St} {H7 : Hp} {s7 : Shared} {zs : List V} {m' : Nat}, Inv (cxComp X Nc scope (clos X.env scope.names []) HL.objs.size s₂ H2 fp) ([] ++ pinsAt fp s5.heap) σ7 H7 s7 → m' < n → W (i + 1) m' σ7 H7 zs →
          ∃ m, m < n ∧ ∃ i σ' H' ys, Inv (cxComp X Nc scope (clos X.env scope.names []) HL.objs.size s₂ H2 fp) [] σ' H' s7 ∧ tn i s7.heap ∧ (∀ b ∈ fp, H' b = none) ∧ W i m σ' H' ys := fun {σ7 H7 s7 zs m'} I7 hm w7 => by
        refine ⟨m', hm, i + 1, σ7, H7, zs, I7.unpinned, T.keep _ _ _ st5 fun b hb o e => (I7.pin (b, o) (List.mem_append_right _ (List.mem_append_right _ (mem_pinsAt hb e)))).1, fun b hb => ?_, w7⟩
        obtain ⟨o, e, d⟩ := T.obj _ _ st5 b hb
        exact (I7.pin (b, o) (List.mem_append_right _ (List.mem_append_right _ (mem_pinsAt hb e)))).2.1
      refine thn (hg _ _ _ _ _ _ s5 σ3 H5 x u _ I5' r5 (step x H5 y5)) fun _ s6 ⟨σ6, H6, I6, q6⟩ => ?_
      refine thn (ht _ _ _ _ _ _ s6 σ6 H6 _ I6 q6) fun b s7 ⟨H7, I7, q7⟩ => ?_
      cases b with
      | false =>
        obtain ⟨m', hm, w7⟩ := q7
        exact fin I7 hm w7
      | true =>
        refine thn (he _ _ _ _ _ _ s7 σ6 H7 _ I7 q7) fun v s8 ⟨y, H8, I8, r8, hD8, m', hm, w8⟩ => ?_
        refine thn (mt_append _ s8 σ6 H8 (.ref s₂.heap.objs.size) [y] (.ref s₂.heap.objs.size) [v] (fun _ H9 => H9 = upd H8 s₂.heap.objs.size (.lst (ys ++ [y]))) I8 rfl (.cons r8 .nil) ⟨_, ys, y, rfl, rfl, hD8, hys, rfl⟩) fun v9 s9 ⟨_, H9, I9, _, e9⟩ => ?_
        subst e9
        exact fin I9 hm w8
  exact codeAny_compStart_list (loop _ rfl) (T.self X.A 0 _ _ _ st1 (loop _ rfl))
theorem pe_comp (ok : CompOk X Nc js scope) (hc : X.calm = true) (hi : PI X target iter wi)
    (hg : ∀ C cl s H ex, PG (cxComp X Nc scope cl C s H ex) target g) (ht : ∀ C cl s H ex, PTs (cxComp X Nc scope cl C s H ex) ifs tt) (he : ∀ C cl s H ex, PE (cxComp X Nc scope cl C s H ex) elt te)
    (hs : ∀ x, foldedSetIterable iter X.env x = pure x := by intro _; rfl) : PE X (.ListComp elt [⟨target, iter, ifs, 0⟩] scope pos) (tComp js wi g tt te) := by
  intro pins s σ H Q I h
  have hfr : ∀ y ∈ scope.names, y.2 = NameKind.free → ∃ c, X.env.cells.lookup y.1 = some c := fun y hy e => I.ok.has y.1 (ok.free y hy e)
  rw [eval_ListComp]
  refine wpAny_comprehension_free (use := none) rfl hs (closureFor_clos hfr) ok.kind ok.names (thn (hi pins s σ H _ I h) fun v s1 h1 => thn h1 fun itv s2 h2 => ?_)
  obtain ⟨it, fp, tn, J, H2, e, I2, T, st2, f2, h⟩ := h2
  subst e
  refine comp_block (RR := fun acc C => compPost (model X.prog X.w) X.A X.xe none (EP X pins σ Q) acc C) (Q := Q) ok hc hg ht he I2 T st2 f2 h ?_
  intro D C s' H' m I' n' fC q
  refine ⟨m, n', fun h' sb => ⟨.ref D, H', ?_, rfl, q⟩⟩
  exact I'.turned (t' := s'.toks) (fun b o hb e => (sb.2 b hb).trans e) fC.1 fC.2.1 fC.2.2.2.1 fC.2.2.2.2.1 fC.2.2.2.2.2
theorem ps_setComp {i : Nat} {y : Str} {py spos : Pos} (ok : CompOk X Nc js scope) (hc : X.calm = true) (hi : PI X target iter wi)
    (hg : ∀ C cl s H ex, PG (cxComp X Nc scope cl C s H ex) target g) (ht : ∀ C cl s H ex, PTs (cxComp X Nc scope cl C s H ex) ifs tt) (he : ∀ C cl s H ex, PE (cxComp X Nc scope cl C s H ex) elt te)
    (hN : X.N.Nodup) (hy : X.N[i]? = some y) (hx : Loc X.env.scope y) (hsw : swapsWith (.ListComp elt [⟨target, iter, ifs, 0⟩] scope pos) (some (.Name y py)) spos.line X.env = pure true)
    (hs : ∀ x, foldedSetIterable iter X.env x = pure x := by intro _; rfl) (hf : X.fn y = true ∨ X.env.scope.names.lookup y = some .local := by first | exact .inl rfl | exact .inr rfl | assumption) :
    PS X (.Assign [.Name y py] (.ListComp elt [⟨target, iter, ifs, 0⟩] scope pos) spos) (fun D σ H => tComp js wi g tt te σ H fun v H' => D.nx (σ.set i (some v)) H') := by
  intro pins s σ H D I h
  have hfr : ∀ y ∈ scope.names, y.2 = NameKind.free → ∃ c, X.env.cells.lookup y.1 = some c := fun y hy e => I.ok.has y.1 (ok.free y hy e)
  rw [exec_Assign_Name_used _ _ _ _ hsw]
  refine wpAny_bind (wpAny_standAt (wpAny_bind ?_))
  show wpAny _ X.A (do let _ ← comprehension (.ListComp elt [⟨target, iter, ifs, 0⟩] scope pos) scope X.env _ (newList []) false (eval iter X.env) (some (assign (.Name y py) X.env))) _ _ s
  refine wpAny_bind (thn (wpAny_comprehension_free (use := some (assign (.Name y py) X.env)) (Q := fun _ s' => SP X pins D .next s') rfl hs (closureFor_clos hfr) ok.kind ok.names
    (thn (hi pins s σ H _ I h) fun v s1 h1 => thn h1 fun itv s2 h2 => ?_)) fun _ s' hq => wpAny_pure (wpAny_pure hq))
  obtain ⟨it, fp, tn, J, H2, e, I2, T, st2, f2, h⟩ := h2
  subst e
  refine comp_block (RR := fun acc C => compPost (model X.prog X.w) X.A X.xe (some (assign (.Name y py) X.env)) (fun _ s' => SP X pins D .next s') acc C) (Q := fun v H' => D.nx (σ.set i (some v)) H') ok hc hg ht he I2 T st2 f2 h ?_
  intro Da C s' H' m I' n' fC q
  show wpAny _ X.A (assign (.Name y py) X.env (.ref Da)) _ _ _
  refine wpAny_assign_Name (store_ok2 I' hN hy hx (show RelV (.ref Da) (.ref Da) from rfl) (fun s'' I'' hsb => ?_) hf)
  obtain ⟨a, sb, ha⟩ := hsb
  have hCa : C ≠ a := by
    rcases ha with e | e
    · rw [e]; exact fC.2.1
    · exact fun z => fC.2.2.2.2.1 y a e z.symm
  refine ⟨m, n'.sameBut sb hCa, fun h' sb' => ⟨σ.set i (some (.ref Da)), H', ?_, q⟩⟩
  exact I''.turned (t' := s''.toks) (fun b o hb e => (sb'.2 b hb).trans e) fC.1 fC.2.1 fC.2.2.2.1 fC.2.2.2.2.1 fC.2.2.2.2.2
end
section
variable {js : List (Option Nat)} {g : TG} {tt : TT} {te : TE} {σ : St} {H : Hp} {Q : VK}
def CompW (J : It) (js : List (Option Nat)) (g : TG) (tt : TT) (te : TE) (σ : St) (H : Hp) (Q : VK) : Prop :=
  ∀ D, H D = none → ∃ W : Nat → Nat → St → Hp → List V → Prop, (∃ m, W 0 m (pickS js σ) (upd H D (.lst [])) []) ∧
  ∀ i m σ' H' ys, W i m σ' H' ys → H' D = some (.lst ys) ∧ ((J.stop i H' ∧ Q (.ref D) H') ∨ (J.go i H' ∧ ys.length < sizeLine ∧ ∀ x H2, J.yld i H' x H2 → g x σ' H2 fun σ2 H3 => tt σ2 H3 fun b H4 =>
    if b = true then te σ2 H4 fun v H5 => H5 D = some (.lst ys) ∧ ∃ m', m' < m ∧ W (i + 1) m' σ2 (upd H5 D (.lst (ys ++ [v]))) (ys ++ [v]) else ∃ m', m' < m ∧ W (i + 1) m' σ2 H4 ys))
structure Src (J : It) (n : Nat) (f : Nat → V) (Ok : Hp → Prop) : Prop where
  go : ∀ i H, i < n → Ok H → J.go i H
  yld : ∀ i H x H', i < n → Ok H → J.yld i H x H' → H' = H ∧ x = f i
  stop : ∀ H, Ok H → J.stop n H
theorem src_list {K : PySem.W.Frag} {a : Addr} {xs : List V} : Src (Itl K a) xs.length (fun i => (xs[i]?).getD .non) (fun H => SqL K H a xs) :=
  ⟨fun i H hi h => ⟨xs, xs[i], h, by simp [hi]⟩, fun i H x H' hi h y => ⟨y.1, by rw [y.2 xs h]; rfl⟩, fun H h => ⟨xs, h, Nat.le_refl _⟩⟩
theorem src_range {lo : Int} {n : Nat} : Src (Itr lo n) n (fun i => .int (lo + i)) (fun _ => True) :=
  ⟨fun i H hi _ => hi, fun i H x H' hi _ y => y, fun H _ => Nat.le_refl _⟩
theorem comp_by {J : It} {n : Nat} {f : Nat → V} {Ok : Hp → Prop} (S : Src J n f Ok) (hn : n ≤ sizeLine) (Pv : Addr → Nat → St → Hp → List V → Prop) (h0 : ∀ D, H D = none → Pv D 0 (pickS js σ) (upd H D (.lst [])) [])
    (hk : ∀ D i σ' H' ys, H D = none → i ≤ n → Pv D i σ' H' ys → Ok H' ∧ H' D = some (.lst ys) ∧ ys.length ≤ i)
    (hs : ∀ D i σ' H' ys (R : St → Hp → List V → Prop), H D = none → i < n → Pv D i σ' H' ys → (∀ a b c, Pv D (i + 1) a b c → R a b c) → g (f i) σ' H' fun σ2 H3 => tt σ2 H3 fun b H4 =>
      if b = true then te σ2 H4 fun v H5 => H5 D = some (.lst ys) ∧ R σ2 (upd H5 D (.lst (ys ++ [v]))) (ys ++ [v]) else R σ2 H4 ys)
    (hd : ∀ D σ' H' ys, H D = none → Pv D n σ' H' ys → Q (.ref D) H') : CompW J js g tt te σ H Q := by
  intro D hD
  refine ⟨fun i m σ' H' ys => m = n - i ∧ i ≤ n ∧ Pv D i σ' H' ys, ⟨n, by simp, Nat.zero_le _, h0 D hD⟩, ?_⟩
  rintro i m σ' H' ys ⟨rfl, hi, p⟩
  obtain ⟨q1, q2, q3⟩ := hk D i σ' H' ys hD hi p
  refine ⟨q2, ?_⟩
  by_cases hlt : i < n
  · refine .inr ⟨S.go i H' hlt q1, by omega, fun x H2 y => ?_⟩
    obtain ⟨rfl, rfl⟩ := S.yld i H' x H2 hlt q1 y
    exact hs D i σ' _ ys (fun σ2 H3 ys' => ∃ m', m' < n - i ∧ (m' = n - (i + 1) ∧ i + 1 ≤ n ∧ Pv D (i + 1) σ2 H3 ys')) hD hlt p fun a b c r => ⟨n - (i + 1), by omega, rfl, hlt, r⟩
  · have e : i = n := by omega
    subst e
    exact .inl ⟨S.stop H' q1, hd D σ' H' ys hD p⟩
end
end L2
namespace L2
open PySem PySem.Spec PyProof.Rows
def Itf (n : Nat) (f : Nat → V) : It := ⟨fun i _ => i < n, fun i H x H' => H' = H ∧ x = f i, fun i _ => i = n⟩
theorem src_f {n : Nat} {f : Nat → V} : Src (Itf n f) n f (fun _ => True) := ⟨fun _ _ hi _ => hi, fun _ _ _ _ _ _ y => y, fun _ _ => rfl⟩
theorem turn_of {P : Program} {w : World} {K : PySem.W.Frag} {tg : Expr} {it : Addr} {n : Nat} {Pv : Nat → Value → Prop} {St' : Nat → Heap → Prop} {f : Nat → V}
    (W : ∀ A : Around, A.handled = none → Walks P w A it [it] [it] n Pv St') (hP : ∀ i v, Pv i v → RelV (f i) v)
    (ho : ∀ i h, St' i h → ∃ o ty vs, h.get? it = some o ∧ o.cls = .type ty ∧ o.data = .fields vs ∧ ["enumerate", "zip", "dict_itemiterator", "dict_reverseitemiterator", "odict_iterator", "itertools.zip_longest", "itertools.pairwise"].contains ty = false)
    (hself : ∀ (A : Around) (i : Nat) (s : Shared) (Q : Value → Shared → Prop) (E : Value → Shared → Prop), St' i s.heap → Q (.ref it) s → wpAny (model P w) A (pyIter (.ref it)) Q E s) : Turn P w K tg (Itf n f) [it] it St' where
  mem := by simp
  obj := fun i h st b hb => by
    have e : b = it := by simpa using hb
    subst e
    obtain ⟨o, ty, vs, h1, h2, h3, _⟩ := ho i h st
    exact ⟨o, h1, fun v z => by rw [h3] at z; cases z⟩
  keep := fun i h h' st k => by
    exact (W { depth := 0, units := 0, frames := none, handled := none } rfl).frame i h h' st k
  item := by
    intro X hPr hw hK hc i pins s σ H E I hf st hg
    subst hPr hw hK
    obtain ⟨f0, f1, f2, f3, f4, f5⟩ := hf it (by simp)
    refine (W X.A (I.ok.hd hc)).item i s _ E hg st fun v h' tk pv st' kp => ?_
    have I1 : Inv X pins σ H { s with heap := h', toks := tk } := I.turned (t' := tk) (fun b o hb e => kp b o (by simpa using hb) e) f0 f1 f3 f4 f5
    obtain ⟨o, ty, vs, h1, h2, h3, h4⟩ := ho (i + 1) h' st'
    exact ⟨v, rfl, go_of (s := { s with heap := h', toks := tk }) h1 h2 h3 h4 ⟨f i, H, I1, hP i v pv, ⟨rfl, rfl⟩, st', fun b hb => (hf b hb).1⟩⟩
  done := by
    intro X hPr hw hK hc i pins s σ H E I hf st hg
    subst hPr hw hK
    obtain ⟨f0, f1, f2, f3, f4, f5⟩ := hf it (by simp)
    have hg' : i = n := hg
    subst hg'
    exact (W X.A (I.ok.hd hc)).done s _ E st fun h' tk kp => ⟨rfl, I.turned (t' := tk) (fun b o hb e => kp b o (by simpa using hb) e) f0 f1 f3 f4 f5⟩
  self := hself
def signV (z : Str) (i : Nat) : V := .str ⟨#[(z.cps[i]?).getD 0]⟩
section
variable {X : Cx} {tg : Expr}
def iStr (tl : TE) : TI := fun σ H R => tl σ H fun x H1 => ∃ z, x = .str z ∧ R (Itf z.cps.size (signV z)) H1
theorem sign_rel {z : Str} (i : Nat) (v : Value) (h : SignAt z i v) : RelV (signV z i) v := by
  obtain ⟨c, u, e, rfl⟩ := h
  exact ⟨u, by rw [e]; rfl⟩
theorem pi_str {l : Expr} {tl : TE} (hl : PE X l tl) : PI X tg l (iStr tl) := by
  intro pins s σ H R I h
  refine thn (hl pins s σ H _ I h) fun v s1 ⟨x, H1, I1, r1, q1⟩ => ?_
  obtain ⟨z, e, q⟩ := q1
  subst e
  obtain ⟨t, rfl⟩ := r1
  cases ha : z.cps.all (· < 128) with
  | false =>
    refine wpAny_pyIter_wide ha ?_
    refine ⟨s1.heap.objs.size, [s1.heap.objs.size], _, _, H1, rfl, I1.kept (t' := s1.toks) fun b o e => Heap.get?_push_of_some _ e,
      turn_of (fun A hA => Walks.strWide hA _ z t) sign_rel (fun i h ⟨o, h1, h2, h3⟩ => ⟨o, _, _, h1, h2, h3, by decide⟩) (fun A i s Q E st q => wpAny_pyIter_striter_wide st q), ⟨_, Heap.get?_push_size _ rfl, rfl, rfl⟩, fun b hb => ?_, q⟩
    have e : b = s1.heap.objs.size := by simpa using hb
    subst e
    exact I1.fpOk (Nat.le_refl _) (I1.hok.fresh (Nat.le_refl _))
  | true =>
    refine wpAny_pyIter_ascii ha ?_
    refine ⟨s1.heap.objs.size, [s1.heap.objs.size], _, _, H1, rfl, I1.kept (t' := s1.toks) fun b o e => Heap.get?_push_of_some _ e,
      turn_of (fun A hA => Walks.strAscii hA _ z t) sign_rel (fun i h ⟨o, h1, h2, h3⟩ => ⟨o, _, _, h1, h2, h3, by decide⟩) (fun A i s Q E st q => wpAny_pyIter_striter_ascii st q), ⟨_, Heap.get?_push_size _ rfl, rfl, rfl⟩, fun b hb => ?_, q⟩
    have e : b = s1.heap.objs.size := by simpa using hb
    subst e
    exact I1.fpOk (Nat.le_refl _) (I1.hok.fresh (Nat.le_refl _))
end
section
variable {X : Cx}
def clsV : V → Option Value
  | .ty n => some (.type n)
  | .ref a => some (.ref a)
  | _ => none
theorem clsV_rel {c : V} {u v : Value} (h : clsV c = some u) (r : RelV c v) : v = u := by
  cases c with
  | ty n => cases h; exact r
  | ref a => cases h; exact r
  | _ => cases h
def rIsi (K : PySem.W.Frag) : List V → Hp → VK → Prop := fun xs H Q => ∃ x c u t b, xs = [x, c] ∧ clsV c = some u ∧ TyOf K H x t ∧ PySem.W.kitOne K t u = some b ∧ Q (.bl b) H
theorem call_isinst : CallR X (.builtin "isinstance") (rIsi X.K) := by
  intro pins s σ H xs us Q I r h
  obtain ⟨x, c, u, t, b, rfl, hu, ty, e, q⟩ := h
  obtain ⟨v, u', rfl, rv, ru'⟩ := vals2 r
  cases clsV_rel hu ru'
  exact isinst_ok I rv ty e fun tk => ⟨.bl b, H, I.tok _, rfl, q⟩
theorem bools_at {bs : List Bool} {its : List Value} (r : Vals (bs.map V.bl) its) {i : Nat} {v : Value} (h : its[i]? = some v) : ∃ b, bs[i]? = some b ∧ v = .bool b := by
  have hi : i < its.length := (List.getElem?_eq_some_iff.mp h).1
  have hl := r.length
  rw [List.length_map] at hl
  have hb : bs[i]? = some bs[i] := List.getElem?_eq_getElem (by omega)
  obtain ⟨u, hu, ru⟩ := r.get (i := i) (x := V.bl bs[i]) (by rw [List.getElem?_map, hb]; rfl)
  rw [h] at hu; cases hu
  exact ⟨_, hb, ru⟩
theorem call_all_bools (hc : X.calm = true) : CallR X (.builtin "all") (fun xs H Q => ∃ (p : Addr) (bs : List Bool), xs = [.ref p] ∧ SqL X.K H p (bs.map V.bl) ∧ Q (.bl (bs.all id)) H) := by
  intro pins s σ H xs us Q I r h
  obtain ⟨p, bs, rfl, hq, q⟩ := h
  obtain ⟨u, rfl, ru⟩ := vals1 r
  cases ru
  obtain ⟨its, rv, pl, hz⟩ := I.list hq
  have hl := pl.isList
  have hlt : p < s.heap.objs.size := by obtain ⟨_, e, _⟩ := hl; exact Heap.lt_size e
  refine call_all_walk (wpAny_pyIter_list hl ?_)
  refine ⟨s.heap.objs.size, [s.heap.objs.size, p], [s.heap.objs.size], its.toArray.size, _, _, fun i => (bs[i]?).getD true, rfl, Walks.list (A := X.A.in1) (I.ok.hd hc) _ p (Nat.ne_of_lt hlt) its.toArray,
    ⟨⟨_, Heap.get?_push_size _ rfl, rfl, rfl⟩, hl.push _⟩, fun i v s' Q' E' hP hQ => ?_, fun h' tk hk => ?_⟩
  · obtain ⟨b, e, rfl⟩ := bools_at rv (i := i) (v := v) (by simpa using hP)
    simp only [e, Option.getD_some] at hQ
    exact wpAny_truthy_bool hQ
  · have e : ((List.range its.toArray.size).all fun i => (bs[i]?).getD true) = bs.all id := by
      have hb := rv.length
      rw [List.length_map] at hb
      rw [List.size_toArray, ← hb]; exact LSm.range_all bs
    rw [e]
    exact ⟨.bl (bs.all id), H, I.kept (t' := tk) (LSm.kept_iter hk), rfl, q⟩
def rSlS : V → Option Int → Option Int → Hp → VK → Prop := fun x lo hi H Q => ∃ z, x = .str z ∧ z.length ≤ sizeLine ∧ Q (.str (Txt.slice z lo hi)) H
theorem sl_str : SlR X rSlS := by
  intro pins s σ H x v vl vu lo hi sl Q I rx hs pl pu h
  obtain ⟨z, rfl, hz, q⟩ := h
  obtain ⟨t, rfl⟩ := rx
  obtain ⟨o, ho, hc, hd⟩ := hs
  refine ⟨"str", _, PySem.F.slot_str_getitem.lookup, typeIs_str _ _ _, ?_⟩
  have fin : ∀ (l u : Option Int) (t' : Tok) (k : Nat), Q (.str (Txt.slice z l u)) H → EP X pins σ Q (.str (Txt.slice z l u) t') { s with toks := k } := fun l u t' k q => ⟨.str _, H, I.tok _, ⟨_, rfl⟩, q⟩
  cases pl with
  | none =>
    cases pu with
    | none => exact wpAny_getItem_str_slice (l := none) (u := none) (st := none) ⟨o, ho, hc, hd⟩ rfl (post_val_or_str ⟨Nat.le_trans (Txt.slice_le z _ _) hz, fun t' k => fin _ _ t' k q⟩)
    | int j uj => exact wpAny_getItem_str_slice (l := none) (u := some (j, uj)) (st := none) ⟨o, ho, hc, hd⟩ rfl (post_val_or_str ⟨Nat.le_trans (Txt.slice_le z _ _) hz, fun t' k => fin _ _ t' k q⟩)
  | int i ui =>
    cases pu with
    | none => exact wpAny_getItem_str_slice (l := some (i, ui)) (u := none) (st := none) ⟨o, ho, hc, hd⟩ rfl (post_val_or_str ⟨Nat.le_trans (Txt.slice_le z _ _) hz, fun t' k => fin _ _ t' k q⟩)
    | int j uj => exact wpAny_getItem_str_slice (l := some (i, ui)) (u := some (j, uj)) (st := none) ⟨o, ho, hc, hd⟩ rfl (post_val_or_str ⟨Nat.le_trans (Txt.slice_le z _ _) hz, fun t' k => fin _ _ t' k q⟩)
end
end L2
namespace L2
open PySem PySem.Spec PyProof.Rows
theorem boot_lenT : bootBuiltins "len" = some (.builtin "len") := by decide +kernel
theorem boot_isinstanceT : bootBuiltins "isinstance" = some (.builtin "isinstance") := by decide +kernel
theorem boot_allT : bootBuiltins "all" = some (.builtin "all") := by decide +kernel
theorem boot_strT : bootBuiltins "str" = some (.type "str") := by decide +kernel
theorem boot_listT : bootBuiltins "list" = some (.type "list") := by decide +kernel
theorem boot_tupleT : bootBuiltins "tuple" = some (.type "tuple") := by decide +kernel
theorem boot_ValueErrorT : bootBuiltins "ValueError" = some (.type "ValueError") := by decide +kernel
section
variable {X : Cx}
def rAddS : R2 := fun x y H Q => ∃ i j, x = .str i ∧ y = .str j ∧ i.length + j.length ≤ sizeLine ∧ Q (.str (i ++ j)) H
def rAddI : R2 := rI0 fun i j => .int (i + j)
def rAddA (K : PySem.W.Frag) : R2 := fun x y H Q => rAddI x y H Q ∨ rAddS x y H Q ∨ rCat x y H Q ∨ rCatT K x y H Q
theorem op_addA : OpR X (binaryOp .Add) (rAddA X.K) := op_add.or (op_add_str.or (op_cat.or op_catT))
theorem rAddA_int {K : PySem.W.Frag} {i j : Int} {H : Hp} {Q : VK} : rAddA K (.int i) (.int j) H Q ↔ Q (.int (i + j)) H := by
  constructor
  · rintro (⟨a, b, e1, e2, q⟩ | ⟨a, b, e1, _⟩ | ⟨a, b, _, _, e1, _⟩ | ⟨a, b, _, _, e1, _⟩)
    · cases e1; cases e2; exact q
    · cases e1
    · cases e1
    · cases e1
  · exact fun q => .inl ⟨i, j, rfl, rfl, q⟩
theorem rAddA_str {K : PySem.W.Frag} {i j : Str} {H : Hp} {Q : VK} : rAddA K (.str i) (.str j) H Q ↔ (i.length + j.length ≤ sizeLine ∧ Q (.str (i ++ j)) H) := by
  constructor
  · rintro (⟨a, b, e1, _⟩ | ⟨a, b, e1, e2, q⟩ | ⟨a, b, _, _, e1, _⟩ | ⟨a, b, _, _, e1, _⟩)
    · cases e1
    · cases e1; cases e2; exact q
    · cases e1
    · cases e1
  · exact fun q => .inr (.inl ⟨i, j, rfl, rfl, q⟩)
theorem rEq_int {i j : Int} {H : Hp} {Q : VK} : rEq (.int i) (.int j) H Q ↔ Q (.bl (decide (i = j))) H := by
  unfold rEq
  have e : decide (V.int i = V.int j) = decide (i = j) := by
    by_cases h : i = j
    · subst h; simp
    · simp [h]
  rw [e]
  exact ⟨fun h => h.2, fun h => ⟨rfl, h⟩⟩
theorem rEq_str {i j : Str} {H : Hp} {Q : VK} : rEq (.str i) (.str j) H Q ↔ Q (.bl (decide (i = j))) H := by
  unfold rEq
  have e : decide (V.str i = V.str j) = decide (i = j) := by
    by_cases h : i = j
    · subst h; simp
    · simp [h]
  rw [e]
  exact ⟨fun h => h.2, fun h => ⟨rfl, h⟩⟩
def inS (c s : Str) : Bool := !(Builtin.Str.occurrences s c 0 s.length 1).isEmpty
def rInS : R2 := fun x y H Q => ∃ i j, x = .str i ∧ y = .str j ∧ Q (.bl (inS i j)) H
def rInA (K : PySem.W.Frag) : R2 := fun x y H Q => rInS x y H Q ∨ rIn K false x y H Q
theorem op_inS : OpR X (compareOp .In) rInS := op_in_str
theorem op_inA : OpR X (compareOp .In) (rInA X.K) := op_inS.or op_in_seq
theorem rInA_str {K : PySem.W.Frag} {i j : Str} {H : Hp} {Q : VK} : rInA K (.str i) (.str j) H Q ↔ Q (.bl (inS i j)) H := by
  constructor
  · rintro (⟨a, b, e1, e2, q⟩ | ⟨a, b, e1, _⟩)
    · cases e1; cases e2; exact q
    · cases e1
  · exact fun q => .inl ⟨i, j, rfl, rfl, q⟩
def rLenA (K : PySem.W.Frag) : List V → Hp → VK → Prop := fun xs H Q => (∃ x n, xs = [x] ∧ LenV K x H n ∧ Q (.int n) H) ∨ ∃ a kvs, xs = [V.ref a] ∧ H a = some (.dK kvs) ∧ Q (.int kvs.length) H
theorem call_lenA : CallR X (.builtin "len") (rLenA X.K) := call_len.or call_lenD
theorem rLenA_str {K : PySem.W.Frag} {z : Str} {H : Hp} {Q : VK} : rLenA K [.str z] H Q ↔ (z.length ≤ sizeLine ∧ Q (.int z.length) H) := by
  constructor
  · rintro (⟨x, n, e1, e2, q⟩ | ⟨a, kvs, e1, _⟩)
    · cases e1
      obtain ⟨h1, rfl⟩ : z.length ≤ sizeLine ∧ n = z.length := e2
      exact ⟨h1, q⟩
    · cases e1
  · exact fun q => .inl ⟨.str z, z.length, rfl, ⟨q.1, rfl⟩, q.2⟩
theorem rLenA_lst {K : PySem.W.Frag} {a : Addr} {xs : List V} {H : Hp} {Q : VK} (h : SqL K H a xs) (q : Q (.int xs.length) H) : rLenA K [.ref a] H Q := .inl ⟨.ref a, xs.length, rfl, .inl ⟨xs, h, rfl⟩, q⟩
def rSlA (K : PySem.W.Frag) : V → Option Int → Option Int → Hp → VK → Prop := fun x lo hi H Q => rSlS x lo hi H Q ∨ rSlL K x lo hi H Q ∨ rSlT K x lo hi H Q
theorem sl_any : SlR X (rSlA X.K) := sl_str.or (sl_list.or sl_tup)
theorem rSlA_str {K : PySem.W.Frag} {z : Str} {lo hi : Option Int} {H : Hp} {Q : VK} : rSlA K (.str z) lo hi H Q ↔ (z.length ≤ sizeLine ∧ Q (.str (Txt.slice z lo hi)) H) := by
  constructor
  · rintro (⟨x, e1, q⟩ | ⟨a, xs, e1, _⟩ | ⟨a, xs, e1, _⟩)
    · cases e1; exact q
    · cases e1
    · cases e1
  · exact fun q => .inl ⟨z, rfl, q⟩
theorem rIx_str {K : PySem.W.Frag} {z : Str} {i : Int} {H : Hp} {Q : VK} : rIx K (.str z) (.int i) H Q ↔ (z.length ≤ sizeLine ∧ ∃ c, atI z.cps.toList i = some c ∧ Q (.str ⟨#[c]⟩) H) := by
  constructor
  · rintro (⟨p, xs, j, v, e1, _⟩ | ⟨p, xs, j, v, e1, _⟩ | ⟨y, j, c, e1, e2, h1, h2, q⟩)
    · cases e1
    · cases e1
    · cases e1; cases e2; exact ⟨h1, c, h2, q⟩
  · rintro ⟨h1, c, h2, q⟩
    exact .inr (.inr ⟨z, i, c, rfl, rfl, h1, h2, q⟩)
theorem rIx_lst {K : PySem.W.Frag} {a : Addr} {xs : List V} {i : Int} {v : V} {H : Hp} {Q : VK} (h : SqL K H a xs) (e : atI xs i = some v) (q : Q v H) : rIx K (.ref a) (.int i) H Q := .inl ⟨a, xs, i, v, rfl, rfl, h, e, q⟩
theorem rI_int {C : Int → Int → Prop} {g : Int → Int → V} {i j : Int} {H : Hp} {Q : VK} : rI C g (.int i) (.int j) H Q ↔ (C i j ∧ Q (g i j) H) := by
  constructor
  · rintro ⟨a, b, e1, e2, q⟩; cases e1; cases e2; exact q
  · exact fun q => ⟨i, j, rfl, rfl, q⟩
theorem rI0_int {g : Int → Int → V} {i j : Int} {H : Hp} {Q : VK} : rI0 g (.int i) (.int j) H Q ↔ Q (g i j) H := by
  constructor
  · rintro ⟨a, b, e1, e2, q⟩; cases e1; cases e2; exact q
  · exact fun q => ⟨i, j, rfl, rfl, q⟩
theorem exBl {k : Bool} {P : Bool → Prop} : (∃ c, V.bl k = V.bl c ∧ P c) ↔ P k := by
  constructor
  · rintro ⟨c, e, q⟩; cases e; exact q
  · exact fun q => ⟨k, rfl, q⟩
theorem exInt {k : Int} {P : Int → Prop} : (∃ c, V.int k = V.int c ∧ P c) ↔ P k := by
  constructor
  · rintro ⟨c, e, q⟩; cases e; exact q
  · exact fun q => ⟨k, rfl, q⟩
theorem exStr {k : Str} {P : Str → Prop} : (∃ c, V.str k = V.str c ∧ P c) ↔ P k := by
  constructor
  · rintro ⟨c, e, q⟩; cases e; exact q
  · exact fun q => ⟨k, rfl, q⟩
theorem exSlot {v : V} {P : V → Prop} : (∃ x, some (some v) = some (some x) ∧ P x) ↔ P v := by
  constructor
  · rintro ⟨c, e, q⟩; cases e; exact q
  · exact fun q => ⟨v, rfl, q⟩
end
theorem Same.upd {H : Hp} {a : Addr} {o : HO} (h : H a = none) : Same H (upd H a o) := fun b u e => by rw [upd_ne (ne_of_none e h)]; exact e
theorem Same.tup {K : PySem.W.Frag} {H H' : Hp} {a : Addr} {xs : List V} (e : Same H H') (h : SqT K H a xs) : SqT K H' a xs := by
  rcases h with (h | ⟨o, h⟩) | h
  · exact .inl (.inl (e _ _ h))
  · exact .inl (.inr ⟨o, e _ _ h⟩)
  · exact .inr h
theorem TyOf.same {K : PySem.W.Frag} {H H' : Hp} {x : V} {t : Value} (s : Same H H') (h : TyOf K H x t) : TyOf K H' x t := by
  cases h with
  | non => exact .non
  | bl b => exact .bl b
  | int i => exact .int i
  | str z => exact .str z
  | flt z => exact .flt z
  | lst e => exact .lst (s _ _ e)
  | frz e => exact .frz (s _ _ e)
  | tup e => exact .tup (s _ _ e)
  | dK e => exact .dK (s _ _ e)
  | dT e => exact .dT (s _ _ e)
  | ins e cl ha hn htk hm => exact .ins (s _ _ e) cl ha hn htk hm
section
variable {X : Cx} {st : Stmt} {rest : List Stmt} {t u : TS}
def tMid (t u : TS) : TS := fun D σ H => ∃ M : St → Hp → Prop, t { D with nx := M } σ H ∧ ∀ σ' H', M σ' H' → u D σ' H'
theorem pss_mid (h1 : PS X st t) (h2 : PSs X rest u) : PSs X (st :: rest) (tMid t u) := by
  intro pins s σ H D I h
  obtain ⟨M, q1, q2⟩ := h
  refine wpAny_execs_cons (thn (h1 pins s σ H { D with nx := M } I q1) fun f s1 q => ?_)
  cases f with
  | next =>
    obtain ⟨σ', H', I', q⟩ := q
    exact h2 pins s1 σ' H' D I' (q2 σ' H' q)
  | ret v => exact q
  | brk => exact q
  | cont => exact q
end
theorem kit_int_str {K : PySem.W.Frag} : PySem.W.kitOne K (.type "int") (.type "str") = some false := by kernel_rfl
theorem kit_none_str {K : PySem.W.Frag} : PySem.W.kitOne K (.type "NoneType") (.type "str") = some false := by kernel_rfl
theorem kit_list_str {K : PySem.W.Frag} : PySem.W.kitOne K (.type "list") (.type "str") = some false := by kernel_rfl
theorem kit_str_str {K : PySem.W.Frag} : PySem.W.kitOne K (.type "str") (.type "str") = some true := by kernel_rfl
end L2
namespace L2
open PySem PySem.Spec PyProof.Rows
theorem exRef {k : Addr} {P : Addr → Prop} : (∃ c, V.ref k = V.ref c ∧ P c) ↔ P k := by
  constructor
  · rintro ⟨c, e, q⟩; cases e; exact q
  · exact fun q => ⟨k, rfl, q⟩
theorem rNe_int {i j : Int} {H : Hp} {Q : VK} : rNe (.int i) (.int j) H Q ↔ Q (.bl (!decide (i = j))) H := by
  unfold rNe
  have e : decide (V.int i = V.int j) = decide (i = j) := by
    by_cases h : i = j
    · subst h; simp
    · simp [h]
  rw [e]
  exact ⟨fun h => h.2, fun h => ⟨rfl, h⟩⟩
theorem rNe_str {i j : Str} {H : Hp} {Q : VK} : rNe (.str i) (.str j) H Q ↔ Q (.bl (!decide (i = j))) H := by
  unfold rNe
  have e : decide (V.str i = V.str j) = decide (i = j) := by
    by_cases h : i = j
    · subst h; simp
    · simp [h]
  rw [e]
  exact ⟨fun h => h.2, fun h => ⟨rfl, h⟩⟩
theorem atI_in {α : Type} {xs : List α} {i : Int} (h0 : 0 ≤ i) (h1 : i < xs.length) : ∃ v, atI xs i = some v ∧ v ∈ xs ∧ xs[i.toNat]? = some v := by
  have hk : i.toNat < xs.length := by omega
  refine ⟨xs[i.toNat], ?_, List.getElem_mem hk, List.getElem?_eq_getElem hk⟩
  unfold atI ixN
  rw [if_pos h0, if_pos h1]
  exact List.getElem?_eq_getElem hk
theorem mod_lt' {i j : Int} (h : 0 < j) : 0 ≤ i % j ∧ i % j < j := ⟨Int.emod_nonneg _ (by omega), Int.emod_lt_of_pos _ h⟩
theorem ite_tt {A B : Prop} : (if true = true then A else B) = A := if_pos rfl
theorem ite_ft {A B : Prop} : (if false = true then A else B) = B := if_neg Bool.false_ne_true
theorem ite_tf {A B : Prop} : (if true = false then A else B) = B := if_neg (by decide)
theorem ite_ff {A B : Prop} : (if false = false then A else B) = A := if_pos rfl
theorem newO {H : Hp} {p : Addr} (hp : H p = none) (o : HO) : ∃ H', upd H p o = H' ∧ Same H H' ∧ H' p = some o := ⟨_, rfl, Same.upd hp, upd_same⟩
def ForW (J : It) (g : TG) (tb : TS) (D : Ends) (σ : St) (H : Hp) : Prop := ∃ W : Nat → Nat → St → Hp → Prop, (∃ m, W 0 m σ H) ∧ ∀ i m σ H, W i m σ H →
  (J.stop i H ∧ D.nx σ H) ∨ (J.go i H ∧ ∃ N : St → Hp → Prop, (∀ σ' H', N σ' H' → ∃ m', m' < m ∧ W (i + 1) m' σ' H') ∧ ∀ x H', J.yld i H x H' → g x σ H' fun σ2 H2 => tb { D with nx := N, ct := N, bk := D.nx } σ2 H2)
theorem tFor_eq {wi : TI} {g : TG} {tb : TS} {D : Ends} {σ : St} {H : Hp} : tFor wi g tb D σ H = wi σ H fun J H1 => ForW J g tb D σ H1 := rfl
theorem tComp_eq {js : List (Option Nat)} {wi : TI} {g : TG} {tt : TT} {te : TE} {σ : St} {H : Hp} {Q : VK} : tComp js wi g tt te σ H Q = wi σ H fun J H1 => CompW J js g tt te σ H1 Q := rfl
theorem comp_1 {J : It} {n : Nat} {f : Nat → V} {Ok : Hp → Prop} {js : List (Option Nat)} {te : TE} {σ : St} {H : Hp} {Q : VK} (S : Src J n f Ok) (hn : n ≤ sizeLine) (σr : St) (hσ : pickS js σ = none :: σr) (Pr : Nat → V → Prop)
    (hOk : ∀ H', Same H H' → Ok H') (hs : ∀ i H' (R : V → Hp → Prop), i < n → Same H H' → (∀ v H'', Same H' H'' → Pr i v → R v H'') → te (some (f i) :: σr) H' R)
    (hd : ∀ D H' ys, H D = none → Same H H' → H' D = some (.lst ys) → ys.length = n → (∀ i v, ys[i]? = some v → Pr i v) → Q (.ref D) H') : CompW J js (gName 0) tYes te σ H Q := by
  refine comp_by S hn (fun D i σ' H' ys => (∃ a, σ' = a :: σr) ∧ Same H H' ∧ H' D = some (.lst ys) ∧ ys.length = i ∧ ∀ j v, ys[j]? = some v → Pr j v) ?_ ?_ ?_ ?_
  · intro D hD
    exact ⟨⟨none, hσ⟩, Same.upd hD, upd_same, rfl, fun j v e => by simp at e⟩
  · rintro D i σ' H' ys hD hi ⟨_, s, h, hl, _⟩
    exact ⟨hOk _ s, h, Nat.le_of_eq hl⟩
  · rintro D i σ' H' ys R hD hi ⟨⟨a, rfl⟩, s, h, hl, hp⟩ hR
    show te (some (f i) :: σr) H' _
    refine hs i H' _ hi s fun v H'' s2 pv => ⟨s2 _ _ h, hR _ _ _ ⟨⟨_, rfl⟩, ?_, upd_same, by simp [hl], fun j v' e => ?_⟩⟩
    · intro b o e
      rw [upd_ne (ne_of_none e hD)]
      exact s2 b o (s b o e)
    · rw [List.getElem?_append] at e
      split at e
      · exact hp j v' e
      · rename_i hj
        have e1 : j = ys.length := by
          have := (List.getElem?_eq_some_iff.mp e).1
          simp at this; omega
        subst e1
        simp at e
        subst e
        rw [hl]; exact pv
  · rintro D σ' H' ys hD ⟨_, s, h, hl, hp⟩
    exact hd D H' ys hD s h hl hp
section
variable {K : PySem.W.Frag} {H : Hp} {Q : VK}
theorem rIsi_str_str {z : Str} : rIsi K [.str z, .ty "str"] H Q ↔ Q (.bl true) H := by
  constructor
  · rintro ⟨x, c, u, t, b, e1, hu, ty, e, q⟩
    cases e1; cases hu; cases ty
    rw [kit_str_str] at e; cases e; exact q
  · exact fun q => ⟨_, _, _, _, _, rfl, rfl, .str z, kit_str_str, q⟩
def NotStr (K : PySem.W.Frag) (H : Hp) (x : V) : Prop := ∃ t, TyOf K H x t ∧ PySem.W.kitOne K t (.type "str") = some false
theorem NotStr.same {H' : Hp} {x : V} (s : Same H H') (h : NotStr K H x) : NotStr K H' x := let ⟨t, a, b⟩ := h; ⟨t, a.same s, b⟩
theorem rIsi_not {x : V} (h : NotStr K H x) (q : Q (.bl false) H) : rIsi K [x, .ty "str"] H Q := let ⟨t, a, b⟩ := h; ⟨_, _, _, _, _, rfl, rfl, a, b, q⟩
end
end L2
namespace L2
open PySem PySem.Spec PyProof.Rows
theorem kit_tuple_tuple {K : PySem.W.Frag} : PySem.W.kitOne K (.type "tuple") (.type "tuple") = some true := by kernel_rfl
theorem kit_list_list {K : PySem.W.Frag} : PySem.W.kitOne K (.type "list") (.type "list") = some true := by kernel_rfl
section
variable {K : PySem.W.Frag} {H : Hp} {Q : VK}
def rSplit : V → List V → Hp → VK → Prop := fun x xs H Q => ∃ a b, x = .str a ∧ xs = [.str b] ∧ (b.length == 0) = false ∧ a.length + 2 ≤ sizeLine ∧ ∀ p, H p = none → Q (.ref p) (upd H p (.lst ((Txt.split a b).map V.str)))
def rJoin (K : PySem.W.Frag) : V → List V → Hp → VK → Prop := fun x xs H Q => ∃ z p ys, x = .str z ∧ xs = [.ref p] ∧ (SqL K H p (ys.map V.str) ∨ SqT K H p (ys.map V.str)) ∧ (ys.map (·.length)).sum + ys.length * z.length ≤ 16777216 ∧ Q (.str (Txt.join z ys)) H
theorem rSplit_at {a b : Str} : rSplit (.str a) [.str b] H Q ↔ ((b.length == 0) = false ∧ a.length + 2 ≤ sizeLine ∧ ∀ p, H p = none → Q (.ref p) (upd H p (.lst ((Txt.split a b).map V.str)))) :=
  ⟨by rintro ⟨_, _, e1, e2, q⟩; cases e1; cases e2; exact q, fun q => ⟨_, _, rfl, rfl, q⟩⟩
theorem rJoin_of {z : Str} {p : Addr} {ys : List Str} (h : SqL K H p (ys.map V.str) ∨ SqT K H p (ys.map V.str)) (hl : (ys.map (·.length)).sum + ys.length * z.length ≤ 16777216) (q : Q (.str (Txt.join z ys)) H) : rJoin K (.str z) [.ref p] H Q := ⟨z, p, ys, rfl, rfl, h, hl, q⟩
theorem tyV_str {z : Str} {P : Prop} : (tyV K "str" (.str z) H ∧ P) ↔ P := ⟨fun h => h.2, fun h => ⟨rfl, h⟩⟩
end
def rIsN : R2 := fun x y H Q => y = .non ∧ Q (.bl (decide (x = .non))) H
section
variable {H : Hp} {Q : VK}
theorem rIsN_ref {a : Addr} : rIsN (.ref a) .non H Q ↔ Q (.bl false) H := ⟨fun h => h.2, fun h => ⟨rfl, h⟩⟩
theorem rIsN_non : rIsN .non .non H Q ↔ Q (.bl true) H := ⟨fun h => h.2, fun h => ⟨rfl, h⟩⟩
end
mutual
inductive Den (K : PySem.W.Frag) (H : Hp) : V → PyData → Prop
  | non : Den K H .non .none
  | bl (b : Bool) : Den K H (.bl b) (.bool b)
  | int (i : Int) : Den K H (.int i) (.int i)
  | str (x : Str) : Den K H (.str x) (.str x)
  | lst {a : Addr} {xs : List V} {ds : List PyData} : SqL K H a xs → DenAll K H xs ds → Den K H (.ref a) (.list ds)
  | tup {a : Addr} {xs : List V} {ds : List PyData} : SqT K H a xs → DenAll K H xs ds → Den K H (.ref a) (.tuple ds)
inductive DenAll (K : PySem.W.Frag) (H : Hp) : List V → List PyData → Prop
  | nil : DenAll K H [] []
  | cons {x : V} {xs : List V} {d : PyData} {ds : List PyData} : Den K H x d → DenAll K H xs ds → DenAll K H (x :: xs) (d :: ds)
end
theorem denStrs {K : PySem.W.Frag} {H : Hp} : ∀ ys : List Str, DenAll K H (ys.map V.str) (ys.map PyData.str)
  | [] => .nil
  | y :: ys => .cons (.str y) (denStrs ys)
def rEqD (K : PySem.W.Frag) : R2 := fun x y H Q => ∃ d e, Den K H x d ∧ Den K H y e ∧ SeqAt.shaped d = true ∧ SeqAt.shaped e = true ∧ Q (.bl (PyData.eqv d e)) H
def rNeD (K : PySem.W.Frag) : R2 := fun x y H Q => ∃ d e, Den K H x d ∧ Den K H y e ∧ SeqAt.shaped d = true ∧ SeqAt.shaped e = true ∧ Q (.bl (!PyData.eqv d e)) H
def rEqH (K : PySem.W.Frag) : R2 := fun x y H Q => rEq x y H Q ∨ rEqD K x y H Q
def rNeH (K : PySem.W.Frag) : R2 := fun x y H Q => rNe x y H Q ∨ rNeD K x y H Q
section
variable {K : PySem.W.Frag} {H : Hp} {Q : VK}
theorem rEqH_str {i j : Str} : rEqH K (.str i) (.str j) H Q ↔ Q (.bl (decide (i = j))) H := by
  constructor
  · rintro (h | ⟨d, e, h1, h2, _, _, q⟩)
    · exact rEq_str.mp h
    · cases h1; cases h2
      rw [show decide (i = j) = PyData.eqv (.str i) (.str j) from by simp only [PyData.eqv]; by_cases z : i = j <;> simp [z]]; exact q
  · exact fun q => .inl (rEq_str.mpr q)
theorem rEqH_int {i j : Int} : rEqH K (.int i) (.int j) H Q ↔ Q (.bl (decide (i = j))) H := by
  constructor
  · rintro (h | ⟨d, e, h1, h2, _, _, q⟩)
    · exact rEq_int.mp h
    · cases h1; cases h2
      rw [show decide (i = j) = PyData.eqv (.int i) (.int j) from by simp only [PyData.eqv]; by_cases z : i = j <;> simp [z]]; exact q
  · exact fun q => .inl (rEq_int.mpr q)
theorem rNeH_str {i j : Str} : rNeH K (.str i) (.str j) H Q ↔ Q (.bl (!decide (i = j))) H := by
  constructor
  · rintro (h | ⟨d, e, h1, h2, _, _, q⟩)
    · exact rNe_str.mp h
    · cases h1; cases h2
      rw [show decide (i = j) = PyData.eqv (.str i) (.str j) from by simp only [PyData.eqv]; by_cases z : i = j <;> simp [z]]; exact q
  · exact fun q => .inl (rNe_str.mpr q)
theorem rNeH_int {i j : Int} : rNeH K (.int i) (.int j) H Q ↔ Q (.bl (!decide (i = j))) H := by
  constructor
  · rintro (h | ⟨d, e, h1, h2, _, _, q⟩)
    · exact rNe_int.mp h
    · cases h1; cases h2
      rw [show decide (i = j) = PyData.eqv (.int i) (.int j) from by simp only [PyData.eqv]; by_cases z : i = j <;> simp [z]]; exact q
  · exact fun q => .inl (rNe_int.mpr q)
mutual
theorem eqv_self : ∀ d : PyData, SeqAt.shaped d = true → PyData.eqv d d = true
  | .none, _ => rfl
  | .bool b, _ => by simp [PyData.eqv]
  | .int i, _ => by simp [PyData.eqv]
  | .str x, _ => by simp [PyData.eqv]
  | .list xs, h => by
    simp only [PyData.eqv]
    exact eqvAll_self xs (by unfold SeqAt.shaped at h; simpa [PyData.canLay0] using (Bool.and_eq_true_iff.mp h).1)
  | .tuple xs, h => by
    simp only [PyData.eqv]
    exact eqvAll_self xs (by unfold SeqAt.shaped at h; simpa [PyData.canLay0] using (Bool.and_eq_true_iff.mp h).1)
  | .dict _, h => by unfold SeqAt.shaped at h; simp [PyData.canLay0] at h
theorem eqvAll_self : ∀ ds : List PyData, PyData.canLayAll0 ds = true → PyData.eqvAll ds ds = true
  | [], _ => rfl
  | d :: ds, h => by
    simp only [PyData.canLayAll0, Bool.and_eq_true] at h
    simp only [PyData.eqvAll, Bool.and_eq_true]
    exact ⟨eqv_self' d h.1, eqvAll_self ds h.2⟩
theorem eqv_self' : ∀ d : PyData, PyData.canLay0 d = true → PyData.eqv d d = true
  | .none, _ => rfl
  | .bool b, _ => by simp [PyData.eqv]
  | .int i, _ => by simp [PyData.eqv]
  | .str x, _ => by simp [PyData.eqv]
  | .list xs, h => by
    simp only [PyData.eqv]
    exact eqvAll_self xs (by simpa [PyData.canLay0] using h)
  | .tuple xs, h => by
    simp only [PyData.eqv]
    exact eqvAll_self xs (by simpa [PyData.canLay0] using h)
  | .dict _, h => by simp [PyData.canLay0] at h
end
theorem rEqD_same {x y : V} {d : PyData} (h1 : Den K H x d) (h2 : Den K H y d) (hs : SeqAt.shaped d = true) (q : Q (.bl true) H) : rEqH K x y H Q := .inr ⟨d, d, h1, h2, hs, hs, by rw [eqv_self d hs]; exact q⟩
theorem rNeD_same {x y : V} {d : PyData} (h1 : Den K H x d) (h2 : Den K H y d) (hs : SeqAt.shaped d = true) (q : Q (.bl false) H) : rNeH K x y H Q := .inr ⟨d, d, h1, h2, hs, hs, by rw [eqv_self d hs]; exact q⟩
theorem rIsi_tup {a : Addr} {xs : List V} (h : H a = some (.tup xs)) (q : Q (.bl true) H) : rIsi K [.ref a, .ty "tuple"] H Q := ⟨_, _, _, _, _, rfl, rfl, .tup h, kit_tuple_tuple, q⟩
theorem rIsi_lst {a : Addr} {xs : List V} (h : H a = some (.lst xs)) (q : Q (.bl true) H) : rIsi K [.ref a, .ty "list"] H Q := ⟨_, _, _, _, _, rfl, rfl, .lst h, kit_list_list, q⟩
end
section
variable {X : Cx}
theorem op_isX : OpR X (compareOp .Is) rIsN := op_isN
theorem vals_strs : ∀ l : List (Str × Tok), Vals ((l.map (·.1)).map V.str) (strValues l)
  | [] => .nil
  | p :: r => .cons ⟨p.2, rfl⟩ (vals_strs r)
theorem mt_split : MtR X "str.split" rSplit := by
  intro pins s σ H x xs v us Q I rx rs h
  obtain ⟨z, y, rfl, rfl, hy, hz, q⟩ := h
  obtain ⟨t, rfl⟩ := rx
  obtain ⟨u, rfl, t', rfl⟩ := vals1 rs
  have fin : ∀ (l : List (Str × Tok)) (k : Nat), l.map (·.1) = Txt.split z y → l.length ≤ sizeLine →
      EP X pins σ Q (.ref s.heap.objs.size) { s with heap := s.heap.push { cls := .type "list", data := .seq (strValues l).toArray }, toks := k } := fun l k e hl =>
    ⟨.ref s.heap.objs.size, _, I.laid (t' := k) (fun _ _ q => Heap.get?_push_of_some _ q) (Nat.le_refl _) (show ObjOk X.prog X.w _ _ _ (.lst ((Txt.split z y).map V.str)) from
      ⟨by rw [List.length_map, ← e, List.length_map]; exact hl, strValues l, _, by rw [← e]; exact vals_strs l, Heap.get?_push_size _ rfl⟩), rfl, q _ (I.hok.fresh (Nat.le_refl _))⟩
  have hn : (Builtin.Str.partsBetween z (Builtin.Str.occurrences z y 0 z.length (z.length + 1)) y.length).length ≤ sizeLine := by
    have e1 := StrLaws.occ_length_le z y 0 z.length (z.length + 1)
    rw [length_partsBetween]; omega
  cases h1 : (decide (z.length < y.length) || decide (Builtin.Str.strKind z < Builtin.Str.strKind y))
  · cases hf : (Builtin.Str.occurrences z y 0 z.length (z.length + 1)).isEmpty
    · refine call_meets F.slot_str_split (typeIs_str _ _ _) F.entry_str_split (F.args_str_split_2 _ _) (meets_str_split_sep z y t t' h1 hy hf (by omega) hn) ?_
      show wants (EP X pins σ Q) X.xe _ { s with toks := _, heap := s.heap.push { cls := .type "list", data := .seq (strsFrom s.toks (Builtin.Str.partsBetween z (Builtin.Str.occurrences z y 0 z.length (z.length + 1)) y.length)).toArray } }
      rw [strsFrom_eq]
      refine fin (numbered s.toks _) _ ((numbered_texts _ _).trans ((if_neg (ne_true_of_eq_false h1)).trans (if_neg (ne_true_of_eq_false hf))).symm) ?_
      have := congrArg List.length (numbered_texts s.toks (Builtin.Str.partsBetween z (Builtin.Str.occurrences z y 0 z.length (z.length + 1)) y.length))
      rw [List.length_map] at this
      rw [this]; exact hn
    · exact call_meets F.slot_str_split (typeIs_str _ _ _) F.entry_str_split (F.args_str_split_2 _ _) (meets_str_split_not_found z y t t' h1 hy hf)
        (fin [(z, t)] s.toks ((if_neg (ne_true_of_eq_false h1)).trans (if_pos hf)).symm (by show 1 ≤ sizeLine; decide))
  · exact call_meets F.slot_str_split (typeIs_str _ _ _) F.entry_str_split (F.args_str_split_2 _ _) (meets_str_split_cannot_occur z y t t' h1)
      (fin [(z, t)] s.toks (if_pos h1).symm (by show 1 ≤ sizeLine; decide))
theorem strs_are : ∀ {ys : List Str} {us : List Value}, Vals (ys.map V.str) us → StrsAre us ys
  | [], _, r => by rw [List.map_nil] at r; cases r; exact .nil
  | y :: ys, _, r => by
    rw [List.map_cons] at r
    cases r with
    | cons h t => obtain ⟨tk, rfl⟩ := h; exact .cons y tk (strs_are t)
theorem mt_join : MtR X "str.join" (rJoin X.K) := by
  intro pins s σ H x xs v us Q I rx rs h
  obtain ⟨z, p, ys, rfl, rfl, hq, hl, q⟩ := h
  obtain ⟨t, rfl⟩ := rx
  obtain ⟨u, rfl, ru⟩ := vals1 rs
  cases ru
  rcases hq with hq | hq
  · obtain ⟨its, r, pl, _⟩ := I.list hq
    exact join_list pl.isList (by simpa using strs_are r) hl fun t' k => ⟨.str _, H, I.tok _, ⟨_, rfl⟩, q⟩
  · obtain ⟨its, r, pl, _⟩ := I.tuple hq
    exact join_tuple pl (by simpa using strs_are r) hl fun t' k => ⟨.str _, H, I.tok _, ⟨_, rfl⟩, q⟩
mutual
theorem Den.reads {pins : List (Addr × Obj)} {σ : St} {H : Hp} {s : Shared} (I : Inv X pins σ H s) : ∀ {x : V} {d : PyData} {u : Value}, Den X.K H x d → RelV x u → ∃ as, Reads s.heap u d as
  | _, _, _, .non, r => by cases r; exact ⟨_, .none⟩
  | _, _, _, .bl b, r => by cases r; exact ⟨_, .bool b⟩
  | _, _, _, .int i, r => by obtain ⟨t, rfl⟩ := r; exact ⟨_, .int i t⟩
  | _, _, _, .str x, r => by obtain ⟨t, rfl⟩ := r; exact ⟨_, .str x t⟩
  | _, _, _, .lst h hs, r => by
    cases r
    obtain ⟨its, rv, pl, _⟩ := I.list h
    obtain ⟨o, ho, hc, n, hd⟩ := pl.isList
    obtain ⟨as, ra⟩ := DenAll.reads I hs rv
    exact ⟨_, .list ho hc hd (by simpa using ra)⟩
  | _, _, _, .tup h hs, r => by
    cases r
    obtain ⟨its, rv, pl, _⟩ := I.tuple h
    obtain ⟨o, ho, hc, n, hd⟩ := pl
    obtain ⟨as, ra⟩ := DenAll.reads I hs rv
    exact ⟨_, .tuple ho hc hd (by simpa using ra)⟩
theorem DenAll.reads {pins : List (Addr × Obj)} {σ : St} {H : Hp} {s : Shared} (I : Inv X pins σ H s) : ∀ {xs : List V} {ds : List PyData} {us : List Value}, DenAll X.K H xs ds → Vals xs us → ∃ as, ReadsAll s.heap us ds as
  | _, _, _, .nil, r => by cases r; exact ⟨_, .nil⟩
  | _, _, _, .cons h hs, r => by
    cases r with
    | cons r1 r2 =>
      obtain ⟨as, ra⟩ := Den.reads I h r1
      obtain ⟨bs, rb⟩ := DenAll.reads I hs r2
      exact ⟨_, .cons ra rb⟩
end
theorem op_eqD (hu : X.A.units + 64 < cLine) : OpR X (compareOp .Eq) (rEqD X.K) := by
  intro pins s σ H x y v u Q I rx ry h
  obtain ⟨d, e, h1, h2, s1, s2, q⟩ := h
  obtain ⟨as, ra⟩ := h1.reads I rx
  obtain ⟨bs, rb⟩ := h2.reads I ry
  exact eq_dataH ra rb s1 s2 hu ⟨.bl _, H, I, rfl, q⟩
theorem op_neD (hu : X.A.units + 64 < cLine) : OpR X (compareOp .NotEq) (rNeD X.K) := by
  intro pins s σ H x y v u Q I rx ry h
  obtain ⟨d, e, h1, h2, s1, s2, q⟩ := h
  obtain ⟨as, ra⟩ := h1.reads I rx
  obtain ⟨bs, rb⟩ := h2.reads I ry
  exact ne_dataH ra rb s1 s2 hu ⟨.bl _, H, I, rfl, q⟩
theorem op_eqH (hu : X.A.units + 64 < cLine) : OpR X (compareOp .Eq) (rEqH X.K) := op_eq.or (op_eqD hu)
theorem op_neH (hu : X.A.units + 64 < cLine) : OpR X (compareOp .NotEq) (rNeH X.K) := op_ne.or (op_neD hu)
variable {K : PySem.W.Frag}
theorem op_addK (h : X.K = K) : OpR X (binaryOp .Add) (rAddA K) := h ▸ op_addA
theorem op_inK (h : X.K = K) : OpR X (compareOp .In) (rInA K) := h ▸ op_inA
end
end L2
namespace L2
open PySem PySem.Spec PyProof.Rows PySem.W
end L2
namespace L2
open PySem PySem.Spec PyProof.Rows
theorem comp_f {J : It} {n : Nat} {f : Nat → V} {Ok : Hp → Prop} {js : List (Option Nat)} {tt : TT} {te : TE} {σ : St} {H : Hp} {Q : VK} (S : Src J n f Ok) (hn : n ≤ sizeLine) (σr : St) (hσ : pickS js σ = none :: σr) (keep : Nat → Bool) (val : Nat → V)
    (hOk : ∀ H', Same H H' → Ok H') (hs : ∀ i H' (R : Bool → Hp → Prop), i < n → Same H H' → (∀ H'', Same H' H'' → R (keep i) H'') → tt (some (f i) :: σr) H' R)
    (he : ∀ i H' (R : V → Hp → Prop), i < n → Same H H' → (∀ H'', Same H' H'' → R (val i) H'') → te (some (f i) :: σr) H' R)
    (hd : ∀ D H', H D = none → Same H H' → H' D = some (.lst (((List.range n).filter keep).map val)) → Q (.ref D) H') : CompW J js (gName 0) tt te σ H Q := by
  refine comp_by S hn (fun D i σ' H' ys => (∃ a, σ' = a :: σr) ∧ Same H H' ∧ H' D = some (.lst ys) ∧ ys = ((List.range i).filter keep).map val) ?_ ?_ ?_ ?_
  · intro D hD
    exact ⟨⟨none, hσ⟩, Same.upd hD, upd_same, rfl⟩
  · rintro D i σ' H' ys hD hi ⟨_, s, h, rfl⟩
    refine ⟨hOk _ s, h, ?_⟩
    rw [List.length_map]
    exact Nat.le_trans (List.length_filter_le _ _) (by simp)
  · rintro D i σ' H' ys R hD hi ⟨⟨a, rfl⟩, s, h, rfl⟩ hR
    show tt (some (f i) :: σr) H' _
    refine hs i H' _ hi s fun H2 s2 => ?_
    cases hk : keep i with
    | false =>
      rw [if_neg Bool.false_ne_true]
      refine hR _ _ _ ⟨⟨_, rfl⟩, s.trans s2, s2 _ _ h, ?_⟩
      rw [List.range_succ, List.filter_append, List.filter_cons, hk]; simp
    | true =>
      rw [if_pos rfl]
      refine he i H2 _ hi (s.trans s2) fun H3 s3 => ⟨s3 _ _ (s2 _ _ h), hR _ _ _ ⟨⟨_, rfl⟩, ?_, upd_same, ?_⟩⟩
      · intro b o e
        rw [upd_ne (ne_of_none e hD)]
        exact s3 b o (s2 b o (s b o e))
      · rw [List.range_succ, List.filter_append, List.filter_cons, hk]; simp
  · rintro D σ' H' ys hD ⟨_, s, h, rfl⟩
    exact hd D H' hD s h
section
variable {X : Cx}
def rLtS : R2 := fun x y H Q => ∃ i j, x = .str i ∧ y = .str j ∧ Q (.bl (decide (i.cps.toList < j.cps.toList))) H
def rLtA : R2 := fun x y H Q => rI0 (fun i j => .bl (decide (i < j))) x y H Q ∨ rLtS x y H Q
theorem op_ltA : OpR X (compareOp .Lt) rLtA := op_lt.or op_lt_str
theorem rLtA_int {i j : Int} {H : Hp} {Q : VK} : rLtA (.int i) (.int j) H Q ↔ Q (.bl (decide (i < j))) H := by
  constructor
  · rintro (⟨a, b, e1, e2, q⟩ | ⟨a, b, e1, _⟩)
    · cases e1; cases e2; exact q
    · cases e1
  · exact fun q => .inl ⟨i, j, rfl, rfl, q⟩
end
end L2
namespace L2
open PySem PySem.Spec PyProof.Rows
end L2
namespace L2
open PySem PySem.Spec PyProof.Rows PySem.W
end L2
namespace L2
open PySem PySem.Spec PyProof.Rows PySem.W
structure FunD (K : PySem.W.Frag) (x qual : Str) (st : Stmt) (f : Addr) (fd : FuncData) (T : Addr) (ds : List Value) : Prop where
  ex : ∃ (oc : Value) (od : Option Addr) (kV doc pm : Value) (an : Option Addr) (cdv ct : Value) (osl : Array (Option Value)) (oT : Obj) (nT : Nat),
    fd = PySem.W.fnOf x qual (defArgs st) (defBody st) (defScope st) (.ref T) kV doc pm an cdv ct ∧ K.lookup f = some ⟨oc, od, .func fd, osl⟩ ∧ PySem.W.codeIn K cdv qual = true ∧ K.lookup T = some oT ∧ oT.data = .seq ds.toArray nT
  kp : PySem.W.keepIn K (.ref f) = true
section
variable {P : Program} {w : World} {K : PySem.W.Frag} {mg : Str → Option Value} {base : Heap}
theorem FunD.ok {x qual : Str} {st : Stmt} {f : Addr} {fd : FuncData} {T : Addr} {ds : List Value} {N ps : List Str} {k : Nat} {sp : Sp} (F : FunD K x qual st f fd T ds) (S : FnScope N ps (defScope st)) (len : ∀ vs H Q E, sp vs H Q E → vs.length = ps.length)
    (hbody : ∀ (cdv : Value) (A : Around) (outer : List Env) (s : Shared) (H : Hp) (vs : List V) (Q : VK) (E : XK), Room k (A.deeper (envOfC qual (defScope st) s.heap.objs.size f cdv)) → sp vs H Q E →
      ∃ t, PSs (cxOf CX0 P w K mg base N qual (defScope st) f cdv A outer s H E).nox (defBody st) t ∧ t { nx := fun _ H' => Q .non H', rt := Q } (start N vs) H) : FnOk P w K mg base CX0 (k + 1) f fd ps sp := by
  obtain ⟨oc, od, kV, doc, pm, an, cdv, ct, osl, oT, nT, rfl, lk, hcd, _⟩ := F.ex
  refine fn_of lk hcd S len fun A outer s H vs Q E hr hsp => ?_
  obtain ⟨t, h, q⟩ := hbody cdv A outer s H vs Q E hr hsp
  exact ⟨t, h.nox, q⟩
theorem FunD.binds {x qual : Str} {st : Stmt} {f : Addr} {fd : FuncData} {T : Addr} {ds : List Value} {ps : List Str} (es : List Value) (F : FunD K x qual st f fd T ds)
    (h : ∀ (kV doc pm : Value) (an : Option Addr) (cdv ct : Value) (us : List Value), (us ++ es).length = ps.length → ∃ k, bindArgs (PySem.W.fnOf x qual (defArgs st) (defBody st) (defScope st) (.ref T) kV doc pm an cdv ct) ⟨us, []⟩ = seqItems? (.ref T) >>= k ∧ k (some ds.toArray) = pure (ps.zip (us ++ es))) : Binds K fd ps es := by
  obtain ⟨oc, od, kV, doc, pm, an, cdv, ct, osl, oT, nT, rfl, lk, hcd, lT, hT⟩ := F.ex
  intro s us X hl
  obtain ⟨k, h1, h2⟩ := h kV doc pm an cdv ct us hl
  exact PySem.W.binds_K X rfl lT hT h1 h2
end
end L2
namespace L2
open PySem PySem.Spec PyProof.Rows PySem.W
end L2
namespace L2
open PySem PySem.Spec PyProof.Rows PySem.W
section
variable {α β : Type}
def TOk (n : Nat) (P : α → Prop) : KasT α → Prop
  | .ret a => P a
  | .ask i j k => i < n ∧ j < n ∧ ∀ b, TOk n P (k b)
def kRun (lt : Nat → Nat → Bool) : KasT α → α
  | .ret a => a
  | .ask i j k => kRun lt (k (lt i j))
theorem TOk.run {n : Nat} {P : α → Prop} {lt : Nat → Nat → Bool} : ∀ {t : KasT α}, TOk n P t → P (kRun lt t)
  | .ret _, h => h
  | .ask i j k, h => show P (kRun lt (k (lt i j))) from TOk.run (h.2.2 (lt i j))
theorem TOk.bind {n : Nat} {P : α → Prop} {R : β → Prop} {f : α → KasT β} (hf : ∀ a, P a → TOk n R (f a)) : ∀ {t : KasT α}, TOk n P t → TOk n R (t.bind f)
  | .ret _, h => hf _ h
  | .ask i j k, h => ⟨h.1, h.2.1, fun b => TOk.bind hf (h.2.2 b)⟩
end
def PermN (n : Nat) (p : Array Nat) : Prop := p.Perm (List.toArray (List.range n))
theorem PermN.list {n : Nat} {p : Array Nat} (h : PermN n p) : p.toList.Perm (List.range n) := Array.perm_iff_toList_perm.mp h
theorem PermN.lt {n : Nat} {p : Array Nat} (h : PermN n p) (hn : 0 < n) (i : Nat) : p.getD i 0 < n := by
  by_cases hi : i < p.size
  · have h1 : p[i] ∈ List.range n := h.list.mem_iff.mp (by simp)
    have e : p.getD i 0 = p[i] := by simp [Array.getD, hi]
    rw [e]; exact List.mem_range.mp h1
  · have e : p.getD i 0 = 0 := by simp [Array.getD, hi]
    rw [e]; exact hn
end L2
namespace L2
open PySem PySem.Spec PyProof.Rows PySem.W
end L2
namespace L2
open PySem PySem.Spec PyProof.Rows PySem.W
end L2
namespace L2
open PySem PySem.Spec PySem.W PyProof.Rows
theorem PermN.size {n : Nat} {p : Array Nat} (h : PermN n p) : p.size = n := by
  have := Array.Perm.size_eq h; simpa using this
theorem PermN.inj {n : Nat} {p : Array Nat} (h : PermN n p) {i j : Nat} (hi : i < n) (hj : j < n) (e : i ≠ j) : p.getD i 0 ≠ p.getD j 0 := by
  have nd : p.toList.Nodup := (h.list.nodup_iff).mpr List.nodup_range
  have hs := h.size
  rw [List.nodup_iff_pairwise_ne, List.pairwise_iff_getElem] at nd
  have e1 : p.getD i 0 = p[i]'(by omega) := by simp [Array.getD, show i < p.size by omega]
  have e2 : p.getD j 0 = p[j]'(by omega) := by simp [Array.getD, show j < p.size by omega]
  rw [e1, e2]
  rcases Nat.lt_or_gt_of_ne e with q | q
  · exact nd i j (by simpa using (by omega : i < p.size)) (by simpa using (by omega : j < p.size)) q
  · exact Ne.symm (nd j i (by simpa using (by omega : j < p.size)) (by simpa using (by omega : i < p.size)) q)
def CodeAtH (H : Hp) (q : Str) (cv : Value) : Prop := ∃ c' o vs t, cv = .ref c' ∧ H c' = some (.frz o (.own c')) ∧ o.data = .fields vs ∧ vs[1]? = some (.str q t)
def LamT (T : Addr) (q : Str) (H : Hp) : Prop := ∃ ps, H T = some (.tbl ps) ∧ TriplesOk ps.toList ∧ ∀ pos cv, codeAmong pos ps.toList = some cv → CodeAtH H q cv
abbrev Ex (H H' : Hp) : Prop := ∀ a o, H a = some o → H' a = some o
theorem CodeAtH.mono {q : Str} {cv : Value} {H H' : Hp} (h : CodeAtH H q cv) (k : Ex H H') : CodeAtH H' q cv := let ⟨c', o, vs, t, a, b, r⟩ := h; ⟨c', o, vs, t, a, k _ _ b, r⟩
theorem LamT.mono {T : Addr} {q : Str} {H H' : Hp} (h : LamT T q H) (k : Ex H H') : LamT T q H' := let ⟨ps, a, b, c⟩ := h; ⟨ps, k _ _ a, b, fun pos cv e => (c pos cv e).mono k⟩
section
variable {X : Cx} {pins : List (Addr × Obj)} {σ : St} {H : Hp} {s : Shared}
structure Mine (X : Cx) (pins : List (Addr × Obj)) (a : Addr) : Prop where
  s0 : X.s₀.heap.objs.size ≤ a
  loc : a ≠ X.env.locals
  cell : ∀ x c, X.env.cells.lookup x = some c → c ≠ a
  pin : ∀ p ∈ X.pn ++ pins, p.1 ≠ a
  fs : a ∉ X.fs
theorem Inv.mine (I : Inv X pins σ H s) {a : Addr} (h : s.heap.objs.size ≤ a) : Mine X pins a :=
  ⟨Nat.le_trans I.sz h, Nat.ne_of_gt (Nat.lt_of_lt_of_le I.lt h), fun x c e z => by
    obtain ⟨v, q⟩ := I.cell x c e
    exact absurd (Nat.lt_of_lt_of_le q.lt h) (by rw [z]; exact Nat.lt_irrefl _), fun p hp z => by
    obtain ⟨e, _⟩ := I.pin p hp
    exact absurd (Nat.lt_of_lt_of_le (Heap.lt_size e) h) (by rw [z]; exact Nat.lt_irrefl _), I.nofs h⟩
theorem Inv.adopt {t' : Nat} {a : Addr} {o : HO} {h' : Heap} (I : Inv X pins σ H s) (hn : H a = none) (hm : Mine X pins a) (k : ∀ b u, b ≠ a → s.heap.get? b = some u → h'.get? b = some u)
    (new : ObjOk X.prog X.w (upd H a o) h' a o) : Inv X pins σ (upd H a o) { s with heap := h', toks := t' } := by
  have na : ∀ b u, H b = some u → b ≠ a := fun b u e z => by rw [z, hn] at e; cases e
  refine I.step (g' := s.gens) (d' := s.drawn) (ch := [a]) (fun b hb => ?_) (fun b o _ _ hc e _ => k b o (fun z => hc (by simp [z])) e) (fun b o _ _ hc e _ => ⟨o.slots, k b o (fun z => hc (by simp [z])) e⟩)
    (fun b _ hc _ n => by rw [upd_ne (fun z => hc (by simp [z]))]; exact n) (fun b o hc e => ⟨o, k b o (fun z => hc (by simp [z])) e⟩) (fun b _ e => by rw [upd_ne (na b _ e)]; exact e) (fun b _ _ e => by rw [upd_ne (na b _ e)]; exact e)
    (fun b ps e => ⟨#[], by rw [upd_ne (na b _ e), e]; simp⟩) (fun m hm' => ?_) (fun b u e => ?_) I.bare
  · have e : b = a := by simpa using hb
    subst e
    exact ⟨.inr hm.s0, hm.loc, hm.cell, hm.pin⟩
  · obtain ⟨ob, es, ep, ho, r⟩ := hm'
    exact ⟨ob, es, ep, k _ ob (Ne.symm hm.loc) ho, r⟩
  · by_cases hb : b = a
    · subst hb; rw [upd_same] at e; cases e; exact new
    · rw [upd_ne hb] at e
      refine (I.hok b u e).stay (fun c v hc q => k c v ?_ q) (fun c q => by rw [upd_ne (na c _ q)]; exact q) fun c xs q => by rw [upd_ne (na c _ q)]; exact q
      rcases hc with z | z
      · rw [z]; exact hb
      · exact na c _ z
end
end L2
namespace L2
open PySem PySem.Spec PySem.W PyProof.Rows
section
variable {prog : Program} {w : World} {A : Around} {E : Value → Shared → Prop} {s : Shared} {K : PySem.W.Frag} {x C : Addr} {ox : Obj} {od : Option Obj} {name : Str} {expr : Bool} {Q : Value → Shared → Prop}
theorem bga_bind (self : Value) : bindSpecial (.builtin "BaseException.__getattribute__") self = pure (.builtin "BaseException.__getattribute__", [self]) := by kernel_rfl
theorem bga_plain : plainId "BaseException.__getattribute__" = true := by decide +kernel
theorem bga_kind : builtinKind "BaseException.__getattribute__" = some .slot := by decide +kernel
theorem bga_split : splitId "BaseException.__getattribute__" = some ("BaseException", "__getattribute__") := by decide +kernel
theorem bga_ne : (Value.builtin "BaseException.__getattribute__" == Value.builtin "object.__getattribute__") = false := by decide +kernel
theorem xget_open {fill : Bool} {tk : Tok} {Q : Value → Shared → Prop} (X : K.In s.heap) (I : InstAt s.heap x ox C od) (hga : findIn K (.ref C) "__getattribute__" = some (some (.builtin "BaseException.__getattribute__"))) (hgt : findIn K (.ref C) "__getattr__" = some none) (hb : mroIn K C (.type "BaseException") = some true)
    (h : wpAny (model prog w) A.in1 (Builtin.«object.__getattribute__» ⟨[.ref x, .str name tk], []⟩) (fun fin s' => ∃ v, fin = .done (.ret v) ∧ wpAny (model prog w) A (handedOut v) Q E s') (fun _ _ => False) s) :
    wpAny (model prog w) A (getAttrBy (.ref x) (.str name tk) fill expr) Q E s := by
  obtain ⟨hp, g, d, t, os⟩ := s
  have L0 := I.type (M := model prog w)
  have L1 := looks_findIn (M := model prog w) X hga
  have L2 := looks_findIn (M := model prog w) X hgt
  have L3 : Looks (model prog w) hp (isInstance (.ref x) (.type "BaseException")) true := L0.andThen (looks_mroIn X hb)
  unfold getAttrBy
  refine wpAny_holding (wpAny_bind (L0.at (wpAny_bind (L1.at ?_))))
  show wpAny _ _ (if (onTheHeap (.ref C) && (Value.builtin "BaseException.__getattribute__" == Value.builtin "object.__getattribute__")) = true then _ else getAttrByItsOwn (.ref x) (.str name tk) (.ref C) (.builtin "BaseException.__getattribute__") fill expr) _ _ _
  rw [bga_ne, Bool.and_false, if_neg Bool.false_ne_true]
  unfold getAttrByItsOwn
  refine wpAny_bind (L2.at ?_)
  refine wpAny_bind (wpAny_attempt (wpAny_holding ?_))
  have e0 : callGetattribute (.ref x) (.str name tk) (.builtin "BaseException.__getattribute__") expr = boundAndCalled (.builtin "BaseException.__getattribute__") (.ref x) (.str name tk) := by
    unfold callGetattribute
    rw [show (expr && onTheHeap (.builtin "BaseException.__getattribute__")) = false from by cases expr <;> rfl, if_neg Bool.false_ne_true]
  rw [e0]
  unfold boundAndCalled
  rw [bga_bind]
  refine wpAny_bind (wpAny_pure ?_)
  show wpAny (model prog w) A (call (.builtin "BaseException.__getattribute__") [.ref x, .str name tk]) _ _ _
  refine wpAny_call ?_
  refine codeAny_call_builtin bga_plain PySem.F.entry_bexc_ga ?_
  refine check_slot (M := model prog w) (s := ⟨hp, g, d, t, os⟩) (i := "BaseException.__getattribute__") (owner := "BaseException") (n := "__getattribute__") (self := .ref x) (rest := [.str name tk]) (kw := []) bga_kind bga_split L3 (PySem.F.args_bexc_ga _ _) ?_
  refine wpAny_mono h (fun fin s' hv => ?_) fun _ _ z => z.elim
  obtain ⟨v, rfl, hv⟩ := hv
  exact hv
theorem xget_value {v : Value} (X : K.In s.heap) (I : InstAt s.heap x ox C od) (hga : findIn K (.ref C) "__getattribute__" = some (some (.builtin "BaseException.__getattribute__"))) (hgt : findIn K (.ref C) "__getattr__" = some none) (hb : mroIn K C (.type "BaseException") = some true)
    (hf : findObj K C od name = some (.value v)) (hh : handedIn v = true) (h : Q v { s with toks := s.toks + 1 }) : wpAny (model prog w) A (getAttr (.ref x) name expr) Q E s := by
  unfold getAttr
  refine wpAny_bind (wpAny_mkText (xget_open (s := { s with toks := s.toks + 1 }) X I hga hgt hb ?_))
  obtain ⟨hp, g, d, t, os⟩ := s
  have L0 := I.type (M := model prog w)
  have L3 := looks_find (M := model prog w) X I hf
  unfold Builtin.«object.__getattribute__»
  refine wpAny_bind (wpAny_pure (wpAny_bind (wpAny_pure (wpAny_bind (L0.at (wpAny_bind (L3.at ?_)))))))
  refine wpAny_pure ⟨v, rfl, ?_⟩
  rw [handedOut_of hh]; exact wpAny_pure h
end
end L2
namespace L2
open PySem PySem.Spec PySem.W PyProof.Rows PySem.Builtin PySem.Builtin.ObjectAttr
theorem co_V : classOwn (.type "ValueError") "__setattr__" = pure none := by kernel_rfl
theorem co_E : classOwn (.type "Exception") "__setattr__" = pure none := by kernel_rfl
theorem co_B : classOwn (.type "BaseException") "__setattr__" = pure none := by kernel_rfl
theorem rl_V (self : Value) (l : List Value) : refuseLoop self "__setattr__" (.type "ValueError" :: l) = refuseLoop self "__setattr__" l := by
  unfold refuseLoop
  simp only [List.forIn_cons]
  rw [co_V]
  rfl
theorem rl_E (self : Value) (l : List Value) : refuseLoop self "__setattr__" (.type "Exception" :: l) = refuseLoop self "__setattr__" l := by
  unfold refuseLoop
  simp only [List.forIn_cons]
  rw [co_E]
  rfl
theorem rl_B (self : Value) (l : List Value) : refuseLoop self "__setattr__" (.type "BaseException" :: l) = refuseLoop self "__setattr__" l := by
  unfold refuseLoop
  simp only [List.forIn_cons]
  rw [co_B]
  rfl
def exOnly : List Value → Bool
  | .ref _ :: r => exOnly r
  | [.type a, .type b, .type c, .type d] => a == "ValueError" && b == "Exception" && c == "BaseException" && d == "object"
  | _ => false
theorem refuse_ex (self : Value) : ∀ {l : List Value}, exOnly l = true → refuseLoop self "__setattr__" l = pure ()
  | .ref c :: r, e => by rw [refuseLoop_ref]; exact refuse_ex self (by cases r <;> first | exact e | cases e)
  | [.type a, .type b, .type c, .type d], e => by
    have e' : (a == "ValueError" && b == "Exception" && c == "BaseException" && d == "object") = true := e
    rw [Bool.and_eq_true, Bool.and_eq_true, Bool.and_eq_true] at e'
    obtain ⟨⟨⟨h1, h2⟩, h3⟩, h4⟩ := e'
    rw [beq_iff_eq.mp h1, beq_iff_eq.mp h2, beq_iff_eq.mp h3, beq_iff_eq.mp h4, rl_V, rl_E, rl_B]
    exact PySem.F.store_object.passes self
theorem ex_has : ∀ {l : List Value}, exOnly l = true → l.contains (.type "object") = true ∧ l.isEmpty = false
  | .ref c :: r, e => ⟨by rw [List.contains_cons, (ex_has (l := r) (by cases r <;> first | exact e | cases e)).1, Bool.or_true], rfl⟩
  | [.type a, .type b, .type c, .type d], e => by
    have e' : (a == "ValueError" && b == "Exception" && c == "BaseException" && d == "object") = true := e
    rw [Bool.and_eq_true] at e'
    refine ⟨?_, rfl⟩
    rw [beq_iff_eq.mp e'.2]; simp
def exOver (K : PySem.W.Frag) (C : Addr) : Bool := (clsIn K C).any fun cd => exOnly cd.mro
section
variable {prog : Program} {w : World} {A : Around} {E : Value → Shared → Prop} {s : Shared} {K : PySem.W.Frag} {x C : Addr} {R : Result → Shared → Prop}
theorem osa_openX {ox : Obj} {od : Option Obj} {name : Str} {tk : Tok} {v : Value} {r : Option Value} (X : K.In s.heap) (I : InstAt s.heap x ox C od) (hp : exOver K C = true) (ht : takerIn K C name = some r)
    (h : ∀ b, wpAny (model prog w) A.in1 (match r with | some a => setByDescriptor a (.ref x) v | none => storeInOwnDict (.ref x) (.ref C) (.str name tk) name v b)
      (fun fin s' => match fin with | .done f => R (.ok f) s' | .again c' => c'.quiet = true ∧ codeAny (model prog w) A c' R s') (fun e s' => R (.error e) s') s) :
    codeAny (model prog w) A (.call (.builtin "object.__setattr__") ⟨[.ref x, .str name tk, v], []⟩) R s := by
  have SF := PySem.F.store_object
  obtain ⟨cd, hc, ho⟩ := any_some hp
  have ne : cd.mro.isEmpty = false := (ex_has ho).2
  have sub : Looks (model prog w) s.heap (isInstance (.ref x) (.type "object")) true := I.type.andThen (looks_mroIn X (by unfold mroIn; rw [hc, Option.bind_some, if_neg (by rw [ne]; decide), (ex_has ho).1]))
  refine codeAny_call_builtin SF.slot.plain SF.entry (@check_slot (model prog w) _ _ s "object.__setattr__" "object" "__setattr__" (.ref x) [.str name tk, v] [] _ SF.kind SF.split sub (SF.args (.ref x) (.str name tk) v) ?_)
  obtain ⟨attr, ha, hr⟩ := Option.bind_eq_some_iff.mp ht
  have hm : Looks (model prog w) s.heap (mroOf (.ref C)) cd.mro := (looks_clsIn X hc).andThen .now
  have L3 : Looks (model prog w) s.heap (storeTaker? attr) r := by
    cases attr with
    | none => cases hr; exact .now
    | some a =>
      obtain ⟨b, hb, rfl⟩ := Option.map_eq_some_iff.mp hr
      refine (looks_takesIn X hb).andThen ?_
      cases b <;> exact .now
  rw [osa_eq, refuse_eq]
  refine wpAny_bind (wpAny_bind (I.type.here (wpAny_bind (hm.here ?_))))
  rw [refuse_ex _ ho]
  refine wpAny_pure (wpAny_bind (I.type.here (wpAny_bind ((looks_findIn X ha).here (wpAny_bind (L3.here ?_))))))
  exact h _
end
end L2
namespace L2
open PySem PySem.Spec PySem.W PyProof.Rows PySem.Builtin PySem.Builtin.ObjectAttr
section
variable {prog : Program} {w : World} {A : Around} {E : Value → Shared → Prop} {s : Shared} {K : PySem.W.Frag} {x C : Addr} {name : Str} {v : Value}
theorem xset_first {vs : Array Value} {sl : Array (Option Value)} {Q : Unit → Shared → Prop} (X : K.In s.heap) (hx : s.heap.get? x = some ⟨.ref C, none, .fields vs, sl⟩)
    (hs : PySem.W.findIn K (.ref C) "__setattr__" = some (some (.builtin "object.__setattr__"))) (hp : exOver K C = true) (ht : PySem.W.takerIn K C name = some none) (hh : PySem.W.hasDictIn K C = true)
    (h : ∀ h', h'.get? x = some ⟨.ref C, some s.heap.objs.size, .fields vs, sl⟩ → h'.Ns1 s.heap.objs.size (fun y => if y = name then some v else none) → (∀ b o, b ≠ x → s.heap.get? b = some o → h'.get? b = some o) → Q () { s with heap := h', toks := s.toks + 2 }) :
    wpAny (model prog w) A (setAttr (.ref x) name v) Q E s := by
  have J : InstAt s.heap x ⟨.ref C, none, .fields vs, sl⟩ C none := ⟨hx, rfl, rfl, True.intro⟩
  have hxs : x < s.heap.objs.size := Heap.lt_size hx
  refine PySem.W.set_plain X J hs (osa_openX (s := { s with toks := s.toks + 1 }) (r := none) X J hp ht fun b => ?_)
  obtain ⟨cd, hc, hd'⟩ := PySem.W.any_some hh
  refine wpAny_bind (wpAny_pure (wpAny_bind (wpAny_bind (wpAny_loadPart hx (wpAny_bind (PySem.W.Looks.here (s := { s with toks := s.toks + 1 }) (PySem.W.looks_clsIn X hc) ?_))))))
  rw [hd']
  show wpAny (model prog w) A.in1 (alloc { cls := .type "dict", data := .dict #[] } >>= fun d => update x (fun o => { o with dict := some d }) >>= fun _ => dictMade (.ref C) x d) _ _ _
  have hne : x ≠ s.heap.objs.size := Nat.ne_of_lt hxs
  have hx1 : (s.heap.push { cls := .type "dict", data := .dict #[] }).get? x = some ⟨.ref C, none, .fields vs, sl⟩ := Heap.get?_push_of_some _ hx
  have hx2 : ((s.heap.push { cls := .type "dict", data := .dict #[] }).update x (fun o => { o with dict := some s.heap.objs.size })).get? x = some ⟨.ref C, some s.heap.objs.size, .fields vs, sl⟩ := Heap.get?_update_self (fun o : Obj => { o with dict := some s.heap.objs.size }) hx1 rfl
  have e1 : ((s.heap.push { cls := .type "dict", data := .dict #[] }).update x (fun o => { o with dict := some s.heap.objs.size })).get? s.heap.objs.size = some { cls := .type "dict", data := .dict #[] } := by
    rw [Heap.get?_update_ne _ _ _ _ (Ne.symm hne)]; exact Heap.get?_push_size s.heap rfl
  have e3 : ((s.heap.push { cls := .type "dict", data := .dict #[] }).update x (fun o => { o with dict := some s.heap.objs.size })).Ns s.heap.objs.size (fun _ => none) := ⟨_, #[], _, e1, rfl, (fun e he => absurd he (by simp)), fun _ => rfl⟩
  refine wpAny_bind (wpAny_alloc (wpAny_bind (wpAny_update hx1 ?_)))
  refine wpAny_pure (a := some s.heap.objs.size) ?_
  show wpAny (model prog w) A.in1 (storeInDict s.heap.objs.size (.str name s.toks) name v) _ _ _
  refine wpAny_bind (wpAny_pure (wpAny_bind ?_))
  refine wpAny_nsSet1 (Heap.Ns1.of_empty e3) fun h' hn2 hs2 => ?_
  obtain ⟨oD, esD, epD, hoD, hdD, hcD⟩ := hn2.count (PySem.Within.cons (ns := []) name v fun y hy => absurd rfl hy)
  refine wpAny_bind (wpAny_lookBehind hoD (by rw [hdD]; exact pastItsLine_dict (Nat.le_trans hcD (by rw [List.length_cons]; exact Nat.succ_le_succ (Nat.zero_le _)))) ?_)
  refine wpAny_pure (h h' ((hs2.2 _ hne).trans hx2) hn2 fun b o hb e => ?_)
  rw [hs2.2 _ (Nat.ne_of_lt (Heap.lt_size e)), Heap.get?_update_ne _ _ _ _ hb]
  exact Heap.get?_push_of_some _ e
end
end L2
namespace L2
open PySem PySem.Spec PySem.W PySem.Calls PyProof.Rows PySem.Builtin PySem.Builtin.ObjectAttr
abbrev bmV : List Value := [.type "ValueError", .type "Exception", .type "BaseException", .type "object"]
def xcIn (K : PySem.W.Frag) (C : Addr) : Bool := match K.lookup C with
  | some ⟨.type "type", _, .cls cd, sl⟩ => (match cd.mro, sl.toList with
    | .ref C' :: bm, [_, _, _, _, some (.builtin n), _] => C' == C && n == "ValueError.__new__" && !cd.hasDel && !cd.abstract && tailIn K bmV bm && specialIn K (.ref C) "__call__" == some (some (.builtin "type.__call__")) && instIn K (.ref C) (.type "type") == some true
    | _, _ => false)
  | _ => false
structure XMakes (M : Model) (h : Heap) (C : Addr) : Prop where
  cls : ∃ (nm q : Str) (N : Addr) (bs bm : List Value) (hdct : Bool) (sn : List Str) (sub : List Value) (col : Option Bool) (dd : Option Addr) (k0 k1 k2 k3 k5 : Option Value), h.get? C = some (excClassObj nm q C N bs bm hdct sn sub false col dd k0 k1 k2 k3 k5 "ValueError.__new__") ∧ OwnTail h bmV bm
  call : Looks M h (specialOf (.ref C) "__call__") (some (.builtin "type.__call__"))
  typ : Looks M h (isInstance (.ref C) (.type "type")) true
theorem xmakes_of {K : PySem.W.Frag} {M : Model} {h : Heap} (X : K.In h) {C : Addr} (q : xcIn K C = true) : XMakes M h C := by
  unfold xcIn at q
  split at q
  · rename_i dd cd sl ho
    split at q
    · rename_i C' bm k0 k1 k2 k3 n k5 hm hs
      simp only [Bool.and_eq_true, beq_iff_eq, Bool.not_eq_true'] at q
      obtain ⟨⟨⟨⟨⟨⟨rfl, rfl⟩, hdel⟩, hab⟩, ht⟩, hcall⟩, hins⟩ := q
      obtain ⟨nm, bs, mro, ns, qn, hd, sn, sub, ab, col, del⟩ := cd
      dsimp only at hm hdel hab
      subst hm hdel hab
      have hsl : sl = #[k0, k1, k2, k3, some (.builtin "ValueError.__new__"), k5] := by
        obtain ⟨l⟩ := sl
        simp only at hs
        rw [hs]
      subst hsl
      exact ⟨⟨nm, qn, ns, bs, bm, hd, sn, sub, col, dd, k0, k1, k2, k3, k5, X _ _ ho, tail_of_in X ht⟩, looks_specialIn X hcall, looks_instIn X hins⟩
    · cases q
  · cases q
abbrev tupO (rest : List Value) : Obj := { cls := .type "tuple", data := .seq rest.toArray }
abbrev excO (C T : Addr) : Obj := { cls := .ref C, data := .fields #[.ref T, .none, .none, .none, .bool false, .none] }
section
variable {prog : Program} {w : World} {A : Around} {K : PySem.W.Frag} {C : Addr} {R : Result → Shared → Prop} {h : Heap} {g : Array GenState} {d : Drawn} {t : Nat} {os : OsState}
theorem make_exc {rest : List Value} {fI : Addr} (X : K.In h) (Y : XMakes (model prog w) h C) (hi : findIn K (.ref C) "__init__" = some (some (.ref fI))) (hf : typeIn K (.ref fI) = some (.type "function")) (hrest : rest.length ≤ sizeLine)
    (hq : codeAny (model prog w) (A.under (.builtin "type.__call__" ⟨.ref C :: rest, []⟩)) (.call (.ref fI) ⟨.ref (h.objs.size + 1) :: rest, []⟩) (InitBack (h.objs.size + 1) R) ⟨(h.push (tupO rest)).push (excO C h.objs.size), g, d, t, os⟩) :
    codeAny (model prog w) A (.call (.ref C) ⟨rest, []⟩) R ⟨h, g, d, t, os⟩ := by
  obtain ⟨⟨nm, qn, N, bs, bm, hdct, sn, sub, col, dd, k0, k1, k2, k3, k5, hC, T⟩, call, typ⟩ := Y
  have Fn := PySem.F.excBase_ValueError
  have hBn : bmV.contains (.type "ValueError") = true := by decide +kernel
  refine codeAny_of_tree ?_
  show wpAny _ _ (callAny (.ref C) _) _ _ _
  refine nd_load hC ?_
  show wpAny _ _ (callAny.viaDunder (.ref C) _) _ _ _
  unfold callAny.viaDunder
  refine wpAny_bind (call.at ?_)
  dsimp only
  rw [tc_bind]
  refine wpAny_bind (wpAny_pure (wpAny_bind (wpAny_pure ?_)))
  refine wpAny_pure (a := Fin.again (.call (.builtin "type.__call__") ⟨.ref C :: rest, []⟩)) (And.intro rfl ?_)
  refine codeAny_call_builtin_at (Code.quiet_builtin _ (by decide +kernel)) entry_typeCall (check_slot tc_kind tc_split typ (tc_args _ _ _) ?_)
  repeat (first | with_reducible refine wpAny_loadPart_at hC ?_ | with_reducible refine wpAny_madeBy_exc hC ?_ | wp_step)
  refine codeAny_call_builtin_code (Code.quiet_builtin _ Fn.quiet) (wpAny_check_new_subU Fn hBn T hC ?_)
  refine codeAny_exc_new_subU Fn hBn Fn T hC ?_ hrest
  show wpAny _ _ _ _ _ _
  have k : ∀ b o, h.get? b = some o → ((h.push (tupO rest)).push (excO C h.objs.size)).get? b = some o := fun b o e => Heap.get?_push_of_some _ (Heap.get?_push_of_some _ e)
  have hC₁ := k _ _ hC
  have hget : ((h.push (tupO rest)).push (excO C h.objs.size)).get? (h.objs.size + 1) = some (excO C h.objs.size) := by heap_get
  have hcC : (Value.ref C :: bm).contains (.ref C) = true := by simp
  have t1 : Looks (model prog w) ((h.push (tupO rest)).push (excO C h.objs.size)) (typeOf (.ref (h.objs.size + 1))) (.ref C) := (Looks.ld hget).andThen .now
  have i1 := (looks_findIn (M := model prog w) X hi).keeps k
  have b1 := (bind_fn (M := model prog w) X (.ref (h.objs.size + 1)) hf).keeps k
  unfold isInstance callSpecial? specialOf
  refine wpAny_bind (wpAny_bind (t1.at (wpAny_isSubtype_exc hC₁ ?_)))
  rw [hcC]
  simp only [Bool.not_true, Bool.false_eq_true, if_false]
  refine wpAny_bind (wpAny_holding (wpAny_bind (wpAny_bind (t1.at (i1.at ?_)))))
  refine wpAny_holding (wpAny_bind (b1.at ?_))
  refine wpAny_bind (wpAny_call (codeAny_mono hq fun r s' z => ?_))
  rcases r with e | (v | _ | _ | _) <;> first | exact z | exact z.elim | skip
  obtain ⟨rfl, z⟩ := z
  exact wpAny_pure (wpAny_pure z)
end
end L2
namespace L2
open PySem PySem.Spec PySem.W PySem.Calls PyProof.Rows PySem.Builtin PySem.Builtin.ObjectAttr
structure XCls (K : PySem.W.Frag) (C : Addr) : Prop where
  ga : findIn K (.ref C) "__getattribute__" = some (some (.builtin "BaseException.__getattribute__"))
  gt : findIn K (.ref C) "__getattr__" = some none
  bx : mroIn K C (.type "BaseException") = some true
  hd : hasDictIn K C = true
  cc : findIn K (.ref C) "__class__" = some (some (.builtin "object.__class__"))
  cg : specialIn K (.builtin "object.__class__") "__get__" = some (some (.builtin "getset_descriptor.__get__"))
  ct : takesIn K (.builtin "object.__class__") = some true
  mo : mroIn K C (.type "object") = some true
  sa : findIn K (.ref C) "__setattr__" = some (some (.builtin "object.__setattr__"))
  ov : exOver K C = true
  xc : xcIn K C = true
theorem findObj_dataX {K : PySem.W.Frag} {C : Addr} {od : Option Obj} {name : Str} {a g : Value} (hc : (clsIn K C).isSome = true) (ha : findIn K (.ref C) name = some (some a)) (hg : specialIn K a "__get__" = some (some g)) (ht : takesIn K a = some true) : findObj K C od name = some (.bind g a) := by
  obtain ⟨cd, hc⟩ := Option.isSome_iff_exists.mp hc
  unfold findObj
  rw [hc, Option.bind_some, ha, Option.bind_some]
  simp [hg, ht]
section
variable {prog : Program} {w : World} {A : Around} {E : Value → Shared → Prop} {s : Shared} {K : PySem.W.Frag} {x C : Addr} {ox : Obj} {od : Option Obj}
theorem xclass {Q : Option Value → Shared → Prop} (Y : XCls K C) (X : K.In s.heap) (I : InstAt s.heap x ox C od) (h : Q (some (.ref C)) { s with toks := s.toks + 1 }) : wpAny (model prog w) A (getAttr? (.ref x) "__class__") Q E s := by
  have hf : findObj K C od "__class__" = some (.bind (.builtin "getset_descriptor.__get__") (.builtin "object.__class__")) := findObj_dataX (by obtain ⟨cd, hc, _⟩ := any_some Y.hd; rw [hc]; rfl) Y.cc Y.cg Y.ct
  unfold getAttr? getAttrBy?
  refine wpAny_bind (wpAny_mkText (wpAny_bind (wpAny_attempt (xget_open (s := { s with toks := s.toks + 1 }) X I Y.ga Y.gt Y.bx ?_))))
  obtain ⟨hp, g, d, t, os⟩ := s
  have L0 := I.type (M := model prog w)
  have L3 := looks_find (M := model prog w) X I hf
  unfold Builtin.«object.__getattribute__»
  refine wpAny_bind (wpAny_pure (wpAny_bind (wpAny_pure (wpAny_bind (L0.at (wpAny_bind (L3.at ?_)))))))
  show wpAny _ _ (holding [Value.builtin "object.__class__"] (call (.builtin "getset_descriptor.__get__") [.builtin "object.__class__", .ref x, .ref C]) >>= ret) _ _ _
  refine wpAny_bind (wpAny_holding (wpAny_call (class_get (s := ⟨hp, g, d, t + 1, os⟩) X I Y.mo ?_)))
  refine wpAny_pure ⟨_, rfl, ?_⟩
  rw [handedOut_of (v := .ref C) rfl]
  exact wpAny_pure (wpAny_pure h)
theorem kitx_exc (Y : XCls K C) : KitX K (.ref x) (.ref C) (fun h => InstAt h x ox C od) where
  ty := fun _ _ _ I => I.type
  it := fun _ _ X _ => by
    obtain ⟨cdD, hcD, _⟩ := any_some Y.hd
    unfold clsIn at hcD
    split at hcD
    · rename_i c' d' cd' sl' ho
      intro A' Q' E' s' k q
      unfold isType loadHead
      exact wpAny_bind (wpAny_loadPart (k _ _ (X _ _ ho)) (wpAny_pure q))
    · cases hcD
  ne := fun h tp dd its n sl X htp => by
    obtain ⟨cdD, hcD, _⟩ := any_some Y.hd
    refine Bool.eq_false_iff.mpr fun q => ?_
    have e : C = tp := Value.ref.inj (beq_iff_eq.mp q)
    subst e
    unfold clsIn at hcD
    split at hcD
    · rename_i c' d' cd' sl' ho
      have z := (X _ _ ho).symm.trans htp
      cases z
    · cases hcD
  ca := fun X I k => xclass Y X I k
end
end L2
namespace L2
open PySem PySem.Spec PySem.W PyProof.Rows
def ExcO (x C : Addr) (od : Option Addr) : HO := .ext fun h => ∃ vs sl, h.get? x = some ⟨.ref C, od, .fields vs, sl⟩ ∧ vs[1]? = some Value.none
def ExcR (x C : Addr) (od : Option Addr) (T : Addr) : HO := .ext fun h => ∃ vs sl, h.get? x = some ⟨.ref C, od, .fields vs, sl⟩ ∧ vs[1]? = some (Value.ref T)
theorem exc_ok {P : Program} {w : World} {H : Hp} {h : Heap} {x C : Addr} {od : Option Addr} {vs : Array Value} {sl : Array (Option Value)} (e : h.get? x = some ⟨.ref C, od, .fields vs, sl⟩) (e1 : vs[1]? = some Value.none) : ObjOk P w H h x (ExcO x C od) :=
  ⟨⟨vs, sl, e, e1⟩, ⟨_, e⟩, fun h1 h2 p k => let ⟨vs, sl, e, e1⟩ := p; ⟨vs, sl, k _ e, e1⟩⟩
theorem excR_ok {P : Program} {w : World} {H : Hp} {h : Heap} {x C T : Addr} {od : Option Addr} {vs : Array Value} {sl : Array (Option Value)} (e : h.get? x = some ⟨.ref C, od, .fields vs, sl⟩) (e1 : vs[1]? = some (Value.ref T)) : ObjOk P w H h x (ExcR x C od T) :=
  ⟨⟨vs, sl, e, e1⟩, ⟨_, e⟩, fun h1 h2 p k => let ⟨vs, sl, e, e1⟩ := p; ⟨vs, sl, k _ e, e1⟩⟩
def IsX (H : Hp) (x C : Addr) (od : Option Addr) : Prop := H x = some (ExcO x C od) ∨ ∃ T, H x = some (ExcR x C od T)
theorem exc_get1 {P : Program} {w : World} {H : Hp} {h : Heap} {x C : Addr} {od : Option Addr} (ok : HOk P w H h) (e : H x = some (ExcO x C od)) : ∃ vs sl, h.get? x = some ⟨.ref C, od, .fields vs, sl⟩ ∧ vs[1]? = some Value.none := (ok x _ e).1
theorem exc_getR {P : Program} {w : World} {H : Hp} {h : Heap} {x C T : Addr} {od : Option Addr} (ok : HOk P w H h) (e : H x = some (ExcR x C od T)) : ∃ vs sl, h.get? x = some ⟨.ref C, od, .fields vs, sl⟩ ∧ vs[1]? = some (Value.ref T) := (ok x _ e).1
theorem exc_get {P : Program} {w : World} {H : Hp} {h : Heap} {x C : Addr} {od : Option Addr} (ok : HOk P w H h) (e : IsX H x C od) : ∃ vs sl, h.get? x = some ⟨.ref C, od, .fields vs, sl⟩ := by
  rcases e with e | ⟨T, e⟩
  · obtain ⟨vs, sl, q, _⟩ := exc_get1 ok e; exact ⟨vs, sl, q⟩
  · obtain ⟨vs, sl, q, _⟩ := exc_getR ok e; exact ⟨vs, sl, q⟩
structure MkX (K : PySem.W.Frag) (C f : Addr) : Prop where
  xc : xcIn K C = true
  init : PySem.W.findIn K (.ref C) "__init__" = some (some (.ref f))
  fn : PySem.W.isFn K (.ref f) = true
  kp : PySem.W.keepIn K (.ref C) = true
def tMakeX (C : Addr) (sp : Sp) (dvs : List V) (E : XK) (t : TA) : TE := fun σ H Q => t σ H fun vs H1 => vs.length ≤ 1000 ∧ ∀ x, H1 x = none → sp (.ref x :: (vs ++ dvs)) (upd H1 x (ExcO x C none)) (fun v H2 => v = .non ∧ Q (.ref x) H2) E
section
variable {X : Cx} {CX : CXT} {k : Nat} {f C : Addr} {fd : FuncData} {ps : List Str} {sp : Sp} {dvs : List V} {ds : List Value} {E : XK} {x m : Str} {p pos apos : Pos} {e o : Expr} {es : List Expr} {ta tv : TE} {t : TA}
theorem run_makeX {pins : List (Addr × Obj)} {σ : St} {H : Hp} {s : Shared} {Q : VK} {us : List Value} {vs : List V} (M : MkX X.K C f) (F : FnOk X.prog X.w X.K X.mg X.base CX k f fd ps sp) (hr : Room (k + 1) X.A) (hb : Binds X.K fd ps ds) (hd : Vals dvs ds)
    (hx : Passes CX X E) (I : Inv X pins σ H s) (r : Vals vs us) (hvl : vs.length ≤ 1000)
    (h : ∀ x, H x = none → sp (.ref x :: (vs ++ dvs)) (upd H x (ExcO x C none)) (fun v H2 => v = .non ∧ Q (.ref x) H2) E) :
    wpAny (model X.prog X.w) X.A (call (.ref C) us) (EP X pins σ Q) X.xe s := by
  have hq := h (s.heap.objs.size + 1) (I.hok.fresh (Nat.le_succ _))
  have e2 : ((s.heap.push (tupO us)).push (excO C s.heap.objs.size)).get? (s.heap.objs.size + 1) = some (excO C s.heap.objs.size) := by
    have := Heap.get?_push_size (s.heap.push (tupO us)) (o := excO C s.heap.objs.size) rfl
    rwa [Heap.size_push] at this
  have I1 := I.kept (t' := s.toks) (h' := s.heap.push (tupO us)) fun b u q => Heap.get?_push_of_some _ q
  have I2 : Inv X pins σ (upd H (s.heap.objs.size + 1) (ExcO (s.heap.objs.size + 1) C none)) { s with heap := (s.heap.push (tupO us)).push (excO C s.heap.objs.size) } :=
    I1.laid (t' := s.toks) (a := s.heap.objs.size + 1) (o := ExcO (s.heap.objs.size + 1) C none) (fun b u q => Heap.get?_push_of_some _ q) (Nat.le_of_eq (Heap.size_push _ _)) (exc_ok e2 rfl)
  have r2 : Vals (V.ref (s.heap.objs.size + 1) :: (vs ++ dvs)) (Value.ref (s.heap.objs.size + 1) :: (us ++ ds)) := .cons rfl (r.append hd)
  have hl : (Value.ref (s.heap.objs.size + 1) :: us ++ ds).length = ps.length := by
    have e := r2.length
    rw [F.len _ _ _ _ hq] at e
    exact e.symm
  have hrest : us.length ≤ sizeLine := Nat.le_trans (by rw [← r.length]; exact hvl) (by decide)
  have main : codeAny (model X.prog X.w) X.A (.call (.ref C) ⟨us, []⟩) (fun r s' => match r with | .ok (.ret v) => EP X pins σ Q v s' | .ok _ => False | .error e => X.xe e s') s := by
    have kin := I.kIn
    obtain ⟨hh, g, d, tk, os⟩ := s
    refine make_exc (fI := f) kin (xmakes_of kin M.xc) M.init (beq_iff_eq.mp M.fn) hrest (codeAny_mono (F.run _ X.stack _ _ ⟨Value.ref (hh.objs.size + 1) :: us, []⟩ (Value.ref (hh.objs.size + 1) :: (us ++ ds)) _ _ E (hr.make C us [])
      (I2.env0.make C us []) (hb _ (Value.ref (hh.objs.size + 1) :: us) I2.kIn hl) r2 hq) fun r s' hq' => ?_)
    cases r with
    | error e => exact hx pins σ _ _ e s' I2 hq'
    | ok fl =>
      cases fl with
      | ret u =>
        obtain ⟨v, H', I3, rv, ev, q3⟩ := I2.after hq'
        subst ev
        exact ⟨rv, ⟨V.ref (hh.objs.size + 1), H', I3, rfl, q3⟩⟩
      | next => exact False.elim hq'
      | brk => exact False.elim hq'
      | cont => exact False.elim hq'
  exact wpAny_call main
theorem pe_makeX (M : MkX X.K C f) (F : FnOk X.prog X.w X.K X.mg X.base CX k f fd ps sp) (hr : Room (k + 1) X.A) (hg : Gl X x) (hm : X.mg x = some (.ref C)) (hb : Binds X.K fd ps ds) (hd : Vals dvs ds) (hx : Passes CX X E)
    (ha : PA X (e :: es) t) (hdb : (x == ("__debug__" : Str)) = false := by decide) (he : starEach (e :: es) X.env = (false, eval e X.env) :: starEach es X.env := by rfl) (hpl : (backTo pos (starEach es X.env)).any (·.1) = false := by rfl) :
    PE X (.Call (.Name x p) (e :: es) [] pos) (tMakeX C sp dvs E t) := by
  intro pins s σ H Q I h
  refine wpAny_Call_Name_kw (ld_glob I hg hm ?_ hdb)
  refine PySem.W.callWith_K (h₀ := X.base) I.ok.mod.kin M.kp (thn (ha pos pins s σ H _ I h) fun us s1 ⟨vs, H1, I1, r, hl, q⟩ => ⟨I1.kIn, ?_⟩) he hpl
  exact run_makeX M F hr hb hd hx I1 r hl q
def sFldX (K : PySem.W.Frag) (ta tv : TE) (f : Str) : TS := fun D σ H => tv σ H fun y H1 => ta σ H1 fun x H2 => ∃ a C, x = .ref a ∧ H2 a = some (ExcO a C none) ∧ XCls K C ∧ NoAttr K C f ∧
  ∀ d, H2 d = none → D.nx σ (upd (upd H2 a (ExcO a C (some d))) d (.xd [(f, y)]))
theorem ps_fldX {f : Str} {value : Expr} {pos' : Pos} (ha : PE X o ta) (hv : PE X value tv) (hs : swapsWith value (some (.Attribute o f pos')) pos.line X.env = pure false) : PS X (.Assign [.Attribute o f pos'] value pos) (sFldX X.K ta tv f) := by
  intro pins s σ H D I h
  refine plainObj_wpAny_Assign_Attribute (thn (hv pins s σ H _ I h) fun u s1 ⟨y, H1, I1, ry, q⟩ => thn (ha pins s1 σ H1 _ I1 q) fun ov s2 ⟨x, H2, I2, rx, a, C, ex, ea, c, n, q2⟩ => ?_) hs
  subst ex
  obtain rfl : ov = Value.ref a := rx
  obtain ⟨vs, sl, hx, h1n⟩ := exc_get1 I2.hok ea
  refine xset_first I2.kIn hx c.sa c.ov (by unfold takerIn; rw [show findIn X.K (.ref C) f = some none from n]; rfl) c.hd fun h' g1 g2 g3 => ?_
  have hda : s2.heap.objs.size ≠ a := Nat.ne_of_gt (Heap.lt_size hx)
  have I3 := I2.write (t' := s2.toks + 2) (x := a) (e := a) (o := ExcO a C (some s2.heap.objs.size)) (h' := h') (by rw [ea]; trivial) (.inl rfl) (fun b u hb e => g3 b u hb e) ⟨_, g1⟩ (exc_ok g1 h1n)
  have hn : upd H2 a (ExcO a C (some s2.heap.objs.size)) s2.heap.objs.size = none := by rw [upd_ne hda]; exact I2.hok.fresh (Nat.le_refl _)
  have I4 := I3.adopt (t' := s2.toks + 2) (a := s2.heap.objs.size) (o := .xd [(f, y)]) (h' := h') hn (I2.mine (Nat.le_refl _)) (fun b u _ e => e) ⟨_, g2, fun g => by
    by_cases z : g = f
    · rw [z]
      show RelO (List.lookup f [(f, y)]) (if f = f then some u else none)
      rw [if_pos rfl, List.lookup_cons, beq_self_eq_true]; exact ry
    · show RelO (List.lookup g [(f, y)]) (if g = f then some u else none)
      rw [if_neg z, List.lookup_cons, beq_eq_false_iff_ne.mpr z]; exact True.intro⟩
  exact ⟨σ, _, I4, q2 _ (I2.hok.fresh (Nat.le_refl _))⟩
def tFldX (K : PySem.W.Frag) (ta : TE) (f : Str) : TE := fun σ H Q => ta σ H fun x H1 => ∃ a C d fs v, x = .ref a ∧ IsX H1 a C (some d) ∧ H1 d = some (.xd fs) ∧ XCls K C ∧ NoAttr K C f ∧ fs.lookup f = some v ∧ Q v H1
theorem exc_inst {P : Program} {w : World} {H : Hp} {h : Heap} {x C d : Addr} {fs : List (Str × V)} (ok : HOk P w H h) (e : IsX H x C (some d)) (ed : H d = some (.xd fs)) : ∃ (ox od : Obj) (mA : Str → Option Value), InstAt h x ox C (some od) ∧ (∀ f, RelO (fs.lookup f) (mA f)) ∧ ∀ name, PySem.W.lookIn name od = some (mA name) := by
  obtain ⟨vs, sl, hx⟩ := exc_get ok e
  obtain ⟨mA, n, r⟩ := ok d _ ed
  obtain ⟨od, ho, hl⟩ := lookIn_ns n
  exact ⟨_, od, mA, ⟨hx, rfl, rfl, ho⟩, r, hl⟩
theorem pe_fldX {f : Str} (he : PE X e ta) (hb : attributeBase e f X.env (eval e X.env) = eval e X.env) : PE X (.Attribute e f pos) (tFldX X.K ta f) := by
  intro pins s σ H Q I h
  refine attr_of hb (thn (he pins s σ H _ I h) fun u s1 ⟨x, H1, I1, rx, a, C, d, fs, v, ex, ea, ed, c, n, l, q⟩ => ?_)
  subst ex
  obtain rfl : u = Value.ref a := rx
  obtain ⟨ox, od, mA, J, r, hl⟩ := exc_inst I1.hok ea ed
  obtain ⟨u, hu, ru⟩ := RelO.some_of (v := v) (o := mA f) (by rw [← l]; exact r f)
  exact xget_value I1.kIn J c.ga c.gt c.bx (PySem.W.findObj_own c.hd n rfl (by rw [hl, hu])) (handed_of ru) ⟨v, H1, I1.tok _, ru, q⟩
def rIsiX (K : PySem.W.Frag) : List V → Hp → VK → Prop := fun xs H Q => ∃ a C d fs c u b, xs = [.ref a, c] ∧ clsV c = some u ∧ IsX H a C (some d) ∧ H d = some (.xd fs) ∧ XCls K C ∧ PySem.W.kitOne K (.ref C) u = some b ∧ Q (.bl b) H
def rIsiN (K : PySem.W.Frag) : List V → Hp → VK → Prop := fun xs H Q => ∃ a C c u b, xs = [.ref a, c] ∧ clsV c = some u ∧ IsX H a C none ∧ XCls K C ∧ PySem.W.kitOne K (.ref C) u = some b ∧ Q (.bl b) H
def rIsiA (K : PySem.W.Frag) : List V → Hp → VK → Prop := fun xs H Q => rIsi K xs H Q ∨ (rIsiX K xs H Q ∨ rIsiN K xs H Q)
theorem call_isinstX : CallR X (.builtin "isinstance") (rIsiX X.K) := by
  intro pins s σ H xs us Q I r h
  obtain ⟨a, C, d, fs, c, u, b, rfl, hu, ea, ed, xc, e, q⟩ := h
  obtain ⟨v, u', rfl, rv, ru'⟩ := vals2 r
  cases clsV_rel hu ru'
  cases rv
  obtain ⟨ox, od, mA, J, _⟩ := exc_inst I.hok ea ed
  exact kia_one (kitx_exc xc) I.kIn J e (fun z => nomatch z) fun tk => ⟨.bl b, H, I.tok _, rfl, q⟩
theorem call_isinstN : CallR X (.builtin "isinstance") (rIsiN X.K) := by
  intro pins s σ H xs us Q I r h
  obtain ⟨a, C, c, u, b, rfl, hu, ea, xc, e, q⟩ := h
  obtain ⟨v, u', rfl, rv, ru'⟩ := vals2 r
  cases clsV_rel hu ru'
  cases rv
  obtain ⟨vs, sl, hx⟩ := exc_get I.hok ea
  have J : InstAt s.heap a ⟨.ref C, none, .fields vs, sl⟩ C none := ⟨hx, rfl, rfl, True.intro⟩
  exact kia_one (kitx_exc xc) I.kIn J e (fun z => nomatch z) fun tk => ⟨.bl b, H, I.tok _, rfl, q⟩
theorem call_isinstA : CallR X (.builtin "isinstance") (rIsiA X.K) := CallR.or call_isinst (CallR.or call_isinstX call_isinstN)
end
end L2
namespace L2
open PySem PySem.Spec PySem.W PySem.Calls PyProof.Rows
def xcIn0 (K : PySem.W.Frag) (C : Addr) : Bool := match K.lookup C with
  | some ⟨.type "type", _, .cls cd, sl⟩ => (match cd.mro, sl.toList with
    | .ref C' :: bm, [_, _, _, _, some (.builtin n), _] => C' == C && n == "ValueError.__new__" && !cd.hasDel && !cd.abstract && tailIn K bmV bm && specialIn K (.ref C) "__call__" == some (some (.builtin "type.__call__")) && instIn K (.ref C) (.type "type") == some true && nsOkIn K cd.ns && nsIn K cd.ns "__init__" == some none
    | _, _ => false)
  | _ => false
structure MkX0 (K : PySem.W.Frag) (C : Addr) : Prop where
  xc : xcIn0 K C = true
  kp : PySem.W.keepIn K (.ref C) = true
end L2
namespace L2
open PySem PySem.Spec PySem.W PySem.Calls PyProof.Rows
structure XOk (K : PySem.W.Frag) (C f : Addr) (m : Str) : Prop where
  c : XCls K C
  mx : MkX K C f
  no : NoAttr K C m
structure XOk0 (K : PySem.W.Frag) (C : Addr) : Prop where
  c : XCls K C
  mx : MkX0 K C
def xclsIn (K : PySem.W.Frag) (C : Addr) : Bool :=
  findIn K (.ref C) "__getattribute__" == some (some (.builtin "BaseException.__getattribute__")) && findIn K (.ref C) "__getattr__" == some none && mroIn K C (.type "BaseException") == some true && hasDictIn K C &&
  findIn K (.ref C) "__class__" == some (some (.builtin "object.__class__")) && specialIn K (.builtin "object.__class__") "__get__" == some (some (.builtin "getset_descriptor.__get__")) && takesIn K (.builtin "object.__class__") == some true &&
  mroIn K C (.type "object") == some true && findIn K (.ref C) "__setattr__" == some (some (.builtin "object.__setattr__")) && exOver K C && xcIn K C
theorem XCls.of_in {K : PySem.W.Frag} {C : Addr} (q : xclsIn K C = true) : XCls K C := by
  unfold xclsIn at q
  simp only [Bool.and_eq_true, beq_iff_eq] at q
  obtain ⟨⟨⟨⟨⟨⟨⟨⟨⟨⟨h1, h2⟩, h3⟩, h4⟩, h5⟩, h6⟩, h7⟩, h8⟩, h9⟩, h10⟩, h11⟩ := q
  exact ⟨h1, h2, h3, h4, h5, h6, h7, h8, h9, h10, h11⟩
def xokIn (K : PySem.W.Frag) (C f : Addr) (m : Str) : Bool := xclsIn K C && findIn K (.ref C) "__init__" == some (some (.ref f)) && isFn K (.ref f) && keepIn K (.ref C) && findIn K (.ref C) m == some none
theorem XOk.of_in {K : PySem.W.Frag} {C f : Addr} {m : Str} (q : xokIn K C f m = true) : XOk K C f m := by
  unfold xokIn at q
  simp only [Bool.and_eq_true, beq_iff_eq] at q
  obtain ⟨⟨⟨⟨h1, h2⟩, h3⟩, h4⟩, h5⟩ := q
  exact ⟨.of_in h1, ⟨(XCls.of_in h1).xc, h2, h3, h4⟩, h5⟩
def xok0In (K : PySem.W.Frag) (C : Addr) : Bool := xclsIn K C && xcIn0 K C && keepIn K (.ref C)
theorem XOk0.of_in {K : PySem.W.Frag} {C : Addr} (q : xok0In K C = true) : XOk0 K C := by
  unfold xok0In at q
  simp only [Bool.and_eq_true] at q
  obtain ⟨⟨h1, h2⟩, h3⟩ := q
  exact ⟨.of_in h1, h2, h3⟩
def kiTab (K : PySem.W.Frag) (cs : List Addr) (us : List Value) (b : Nat → Nat → Bool) : Prop := ∀ i j c u, cs[i]? = some c → us[j]? = some u → kitOne K (.ref c) u = some (b i j)
def kiTabIn (K : PySem.W.Frag) (cs : List Addr) (us : List Value) (b : Nat → Nat → Bool) : Bool :=
  (List.range cs.length).all fun i => (List.range us.length).all fun j => match cs[i]?, us[j]? with | some c, some u => kitOne K (.ref c) u == some (b i j) | _, _ => true
theorem kiTab_of {K : PySem.W.Frag} {cs : List Addr} {us : List Value} {b : Nat → Nat → Bool} (q : kiTabIn K cs us b = true) : kiTab K cs us b := by
  intro i j c u hc hu
  unfold kiTabIn at q
  have h1 := List.all_eq_true.mp q i (List.mem_range.mpr (List.getElem?_eq_some_iff.mp hc).1)
  have h2 := List.all_eq_true.mp h1 j (List.mem_range.mpr (List.getElem?_eq_some_iff.mp hu).1)
  rw [hc, hu] at h2
  simpa using h2
def ErrF (H : Hp) (x C : Addr) (m : Str) (v : V) : Prop := ∃ d, IsX H x C (some d) ∧ H d = some (.xd [(m, v)])
theorem IsX.same {H H' : Hp} {x C : Addr} {od : Option Addr} (s : Same H H') (h : IsX H x C od) : IsX H' x C od := h.imp (s _ _) fun ⟨T, e⟩ => ⟨T, s _ _ e⟩
theorem ErrF.same {H H' : Hp} {x C : Addr} {m : Str} {v : V} (s : Same H H') (h : ErrF H x C m v) : ErrF H' x C m v := let ⟨d, a, b⟩ := h; ⟨d, a.same s, s _ _ b⟩
def spXI (C : Addr) (m : Str) : Sp := fun vs H Q _ => ∃ x v, vs = [.ref x, v] ∧ H x = some (ExcO x C none) ∧ ∀ d, H d = none → Q .non (upd (upd H x (ExcO x C (some d))) d (.xd [(m, v)]))
theorem fldX_go {K : PySem.W.Frag} {ta : TE} {m : Str} {σ : St} {H : Hp} {Q : VK} {x C f : Addr} {v : V} (O : XOk K C f m) (e : ErrF H x C m v) (hta : ∀ R : VK, R (.ref x) H → ta σ H R) (q : Q v H) : tFldX K ta m σ H Q := by
  obtain ⟨d, h1, h2⟩ := e
  exact hta _ ⟨x, C, d, _, v, rfl, h1, h2, O.c, O.no, by rw [List.lookup_cons, beq_self_eq_true], q⟩
theorem isiX_go {K : PySem.W.Frag} {H : Hp} {Q : VK} {x C : Addr} {m : Str} {v c : V} {u : Value} {b : Bool} (O : XCls K C) (e : ErrF H x C m v) (hu : clsV c = some u) (hk : kitOne K (.ref C) u = some b) (q : Q (.bl b) H) : rIsiA K [.ref x, c] H Q := by
  obtain ⟨d, h1, h2⟩ := e
  exact .inr (.inl ⟨x, C, d, _, c, u, b, rfl, hu, h1, h2, O, hk, q⟩)
end L2
namespace L2
open PySem PySem.Spec PySem.W PySem.Calls PyProof.Rows
mutual
theorem Den.same {K : PySem.W.Frag} {H H' : Hp} (s : Same H H') : ∀ {x : V} {d : PyData}, Den K H x d → Den K H' x d
  | _, _, .non => .non
  | _, _, .bl b => .bl b
  | _, _, .int i => .int i
  | _, _, .str z => .str z
  | _, _, .lst h a => .lst (s.seq h) (DenAll.same s a)
  | _, _, .tup h a => .tup (s.tup h) (DenAll.same s a)
theorem DenAll.same {K : PySem.W.Frag} {H H' : Hp} (s : Same H H') : ∀ {xs : List V} {ds : List PyData}, DenAll K H xs ds → DenAll K H' xs ds
  | _, _, .nil => .nil
  | _, _, .cons a b => .cons (Den.same s a) (DenAll.same s b)
end
def ErrI (H : Hp) (x C : Addr) : Option (Str × V) → Prop
  | some (m, v) => ErrF H x C m v
  | none => IsX H x C none
theorem ErrI.same {H H' : Hp} {x C : Addr} (s : Same H H') : ∀ {o : Option (Str × V)}, ErrI H x C o → ErrI H' x C o
  | some (_, _), h => ErrF.same s h
  | none, h => IsX.same s h
def AllE (H : Hp) : List Addr → List (Addr × Option (Str × V)) → Prop
  | [], [] => True
  | x :: xs, e :: es => ErrI H x e.1 e.2 ∧ AllE H xs es
  | _, _ => False
theorem AllE.same {H H' : Hp} (s : Same H H') : ∀ {xs : List Addr} {es : List (Addr × Option (Str × V))}, AllE H xs es → AllE H' xs es
  | [], [], _ => trivial
  | _ :: _, _ :: _, ⟨a, b⟩ => ⟨a.same s, AllE.same s b⟩
  | [], _ :: _, h => h
  | _ :: _, [], h => h
theorem AllE.len {H : Hp} : ∀ {xs : List Addr} {es : List (Addr × Option (Str × V))}, AllE H xs es → xs.length = es.length
  | [], [], _ => rfl
  | _ :: _, _ :: _, ⟨_, b⟩ => congrArg (· + 1) b.len
  | [], _ :: _, h => h.elim
  | _ :: _, [], h => h.elim
theorem AllE.get {H : Hp} : ∀ {xs : List Addr} {es : List (Addr × Option (Str × V))} {i : Nat} {e : Addr × Option (Str × V)}, AllE H xs es → es[i]? = some e → ∃ x, xs[i]? = some x ∧ ErrI H x e.1 e.2
  | _ :: _, _ :: _, 0, _, ⟨a, _⟩, h => by cases h; exact ⟨_, rfl, a⟩
  | _ :: _, _ :: _, i + 1, _, ⟨_, b⟩, h => AllE.get (i := i) b (by simpa using h)
  | [], _ :: _, _, _, h, _ => h.elim
  | _ :: _, [], _, _, h, _ => h.elim
end L2
namespace L2
open PySem PySem.Spec PySem.W PySem.Calls PyProof.Rows
def TbO (T : Addr) (fl : Value) : HO := .ext fun h => ∃ ob ts, h.get? T = some ob ∧ ob.data = .fields ts ∧ ts[3]? = some fl
theorem tb_ok {P : Program} {w : World} {H : Hp} {h : Heap} {T : Addr} {fl : Value} {ob : Obj} {ts : Array Value} (e : h.get? T = some ob) (d : ob.data = .fields ts) (e1 : ts[3]? = some fl) : ObjOk P w H h T (TbO T fl) :=
  ⟨⟨ob, ts, e, d, e1⟩, ⟨_, e⟩, fun h1 h2 p k => let ⟨ob, ts, e, r⟩ := p; ⟨ob, ts, k _ e, r⟩⟩
theorem tb_get {P : Program} {w : World} {H : Hp} {h : Heap} {T : Addr} {fl : Value} (ok : HOk P w H h) (e : H T = some (TbO T fl)) : ∃ ob ts, h.get? T = some ob ∧ ob.data = .fields ts ∧ ts[3]? = some fl := (ok T _ e).1
def Fl (H : Hp) (x C : Addr) (od : Option Addr) (fl : Value) (T : Addr) : Prop := T ≠ x ∧ H x = some (ExcR x C od T) ∧ H T = some (TbO T fl)
def Arr (H : Hp) (x C : Addr) (od oT : Option Addr) : Prop := (oT = none ∧ H x = some (ExcO x C od)) ∨ ∃ T, oT = some T ∧ Fl H x C od .none T
def But (x : Addr) (oT : Option Addr) (H H' : Hp) (T' : Addr) : Prop := (∀ b o, b ≠ x → some b ≠ oT → H b = some o → H' b = some o) ∧ (H T' = none ∨ some T' = oT)
section
variable {X : Cx} {pins : List (Addr × Obj)} {σ : St} {H : Hp} {s : Shared}
theorem Inv.frames (I : Inv X pins σ H s) {h' : Heap} (hs : Heap.SlotsOnly (frs X.stack) s.heap h') : Inv X pins σ H { s with heap := h' } := by
  have k : ∀ b u o, H b = some o → s.heap.get? b = some u → h'.get? b = some u := fun b u o e q => by
    rw [hs.2.1 b fun z => by rw [I.stkFree b z] at e; cases e]; exact q
  refine I.call' (s' := { s with heap := h' }) (ch := []) rfl ⟨fun b o e _ n _ => by rw [hs.2.1 b n]; exact e, fun b o e _ _ _ => hs.2.2 b o e, fun b o _ n _ => n, fun b o e _ => let ⟨sl, q⟩ := hs.2.2 b o e; ⟨_, q⟩, fun _ _ e => e, fun _ _ _ e => e, fun _ ps e => ⟨#[], by simpa using e⟩⟩ (fun a o e => ?_) I.bare (fun b z => absurd z (by simp))
  exact (I.hok a o e).stay (fun b u hb q => by
    rcases hb with rfl | hb
    · exact k _ _ _ e q
    · exact k _ _ _ hb q) (fun _ q => q) fun _ _ q => q
theorem upd_again {H : Hp} {a : Addr} {o : HO} (e : H a = some o) : upd H a o = H := by
  funext b; unfold upd; split
  · rename_i q; rw [q, e]
  · rfl
theorem note_new {Q : Unit → Shared → Prop} {E : Value → Shared → Prop} {x C L : Addr} {od : Option Addr} {outer : List Env} {head : Value} {hadNext : Bool} (I : Inv X pins σ H s) (hst : X.stack = X.env :: outer) (hf : X.env.frame = some L) (e : IsX H x C od)
    (q : ∀ T s', H T = none → Inv X pins σ (upd (upd H T (TbO T (rawInt L))) x (ExcR x C od T)) s' → T ≠ x → Q () s') :
    wpAny (model X.prog X.w) X.A (do let a ← frameOf X.env; let pl ← entryPlaceOf L hadNext; let b ← EntryCells.newEntry head a .none (rawInt L) .none pl; setField (.ref x) 1 b) Q E s := by
  refine wpAny_bind (wpAny_frameOf_fun (base := X.base) (by rw [I.ok.frames, hst]) (by rw [← hst]; exact I.stack) hf fun h₁ hs₁ => ?_)
  have I1 : Inv X pins σ H { s with heap := h₁ } := I.frames (by rw [hst]; exact hs₁)
  refine wpAny_bind (wpAny_entryPlaceOf fun pl hpl => ?_)
  unfold EntryCells.newEntry newFields
  refine wpAny_bind (wpAny_newObj_type ?_ (hpl.sizeOk5 _ _ _ _ _))
  have hT := Heap.get?_push_size h₁ (o := { cls := .type "traceback", dict := none, data := .fields ([head, .ref L, .none, rawInt L, .none] ++ (if pl.isEmpty then List.replicate 6 Value.none else pl)).toArray }) rfl
  have I2 := I1.laid (t' := s.toks) (a := h₁.objs.size) (o := TbO h₁.objs.size (rawInt L)) (h' := h₁.push { cls := .type "traceback", dict := none, data := .fields ([head, .ref L, .none, rawInt L, .none] ++ (if pl.isEmpty then List.replicate 6 Value.none else pl)).toArray })
    (fun b u e => Heap.get?_push_of_some _ e) (Nat.le_refl _) (tb_ok hT rfl (by first | (simp; done) | (rcases hpl with rfl | ⟨_, _, _, _, _, _, _, rfl⟩ <;> simp)))
  have hn : H h₁.objs.size = none := I1.hok.fresh (Nat.le_refl _)
  have hxT : x ≠ h₁.objs.size := by
    rintro rfl
    rcases e with e | ⟨T, e⟩
    · rw [hn] at e; cases e
    · rw [hn] at e; cases e
  have e2 : IsX (upd H h₁.objs.size (TbO h₁.objs.size (rawInt L))) x C od := by
    unfold IsX; rw [upd_ne hxT]; exact e
  obtain ⟨vs, sl, hx, hsz⟩ : ∃ vs sl, (h₁.push { cls := .type "traceback", dict := none, data := .fields ([head, .ref L, .none, rawInt L, .none] ++ (if pl.isEmpty then List.replicate 6 Value.none else pl)).toArray }).get? x = some ⟨.ref C, od, .fields vs, sl⟩ ∧ 1 < vs.size := by
    rcases e2 with e2 | ⟨T, e2⟩
    · obtain ⟨vs, sl, a, b⟩ := exc_get1 I2.hok e2; exact ⟨vs, sl, a, (Array.getElem?_eq_some_iff.mp b).1⟩
    · obtain ⟨vs, sl, a, b⟩ := exc_getR I2.hok e2; exact ⟨vs, sl, a, (Array.getElem?_eq_some_iff.mp b).1⟩
  refine wpAny_setField hx rfl hsz ?_
  have hx3 := Heap.get?_update_self (Obj.mapFields (·.setIfInBounds 1 (Value.ref h₁.objs.size))) hx (Obj.isFreed_of_fields (Obj.data_mapFields (o := ⟨.ref C, od, .fields vs, sl⟩) rfl _))
  refine q h₁.objs.size _ hn (I2.write (t' := s.toks) (x := x) (e := x) (o := ExcR x C od h₁.objs.size) (h' := (h₁.push { cls := .type "traceback", dict := none, data := .fields ([head, .ref L, .none, rawInt L, .none] ++ (if pl.isEmpty then List.replicate 6 Value.none else pl)).toArray }).update x (Obj.mapFields (·.setIfInBounds 1 (Value.ref h₁.objs.size)))) ?_ (.inl rfl) (fun b u hb e => by rw [Heap.get?_update_other _ _ (Ne.symm hb)]; exact e) ⟨_, hx3⟩ (excR_ok hx3 (by simp [hsz]))) hxT.symm
  rcases e2 with e2 | ⟨T, e2⟩ <;> (rw [e2]; trivial)
end
end L2
namespace L2
open PySem PySem.Spec PySem.W PySem.Calls PyProof.Rows
section
variable {X : Cx} {pins : List (Addr × Obj)} {σ : St} {H : Hp} {s : Shared} {x C L : Addr} {od : Option Addr} {outer : List Env}
theorem Fl.isX {fl : Value} {T : Addr} (h : Fl H x C od fl T) : IsX H x C od := .inr ⟨T, h.2.1⟩
theorem note_ok {oT : Option Addr} {Q : Unit → Shared → Prop} {E : Value → Shared → Prop} (I : Inv X pins σ H s) (hst : X.stack = X.env :: outer) (hf : X.env.frame = some L) (ha : Arr H x C od oT)
    (q : ∀ H' s' T', Inv X pins σ H' s' → But x oT H H' T' → Fl H' x C od (rawInt L) T' → Q () s') : wpAny (model X.prog X.w) X.A (noteFrame (.ref x) X.env) Q E s := by
  have fin : ∀ T s', H T = none → Inv X pins σ (upd (upd H T (TbO T (rawInt L))) x (ExcR x C od T)) s' → T ≠ x → Q () s' := fun T s' hT J hTx =>
    q _ s' T J ⟨fun b o hb _ e => by rw [upd_ne hb, upd_ne (ne_of_none e hT)]; exact e, .inl hT⟩ ⟨hTx, upd_same, by rw [upd_ne hTx, upd_same]⟩
  unfold noteFrame
  simp only [hf]
  rcases ha with ⟨_, ha⟩ | ⟨T0, _, hT0x, ha, hT0⟩
  · obtain ⟨vs, sl, hx, h1⟩ := exc_get1 I.hok ha
    refine wpAny_bind (wpAny_field hx rfl h1 ?_)
    rw [if_neg (by decide)]
    exact note_new I hst hf (.inl ha) fin
  · obtain ⟨vs, sl, hx, h1⟩ := exc_getR I.hok ha
    obtain ⟨ob, ts, hT, hd, h3⟩ := tb_get I.hok hT0
    refine wpAny_bind (wpAny_field hx rfl h1 ?_)
    rw [if_pos (show (Value.ref T0 != Value.none) = true from by simp)]
    refine wpAny_bind (wpAny_field hT hd h3 ?_)
    rw [if_neg (show ¬ ((Value.none == rawInt L) = true) from by simp [rawInt])]
    refine wpAny_bind (wpAny_setField hT hd (Array.getElem?_eq_some_iff.mp h3).1 ?_)
    have hT3 := Heap.get?_update_self (Obj.mapFields (·.setIfInBounds 3 Value.none)) hT (Obj.isFreed_of_fields (Obj.data_mapFields hd _))
    have I1 := I.write (t' := s.toks) (x := T0) (e := T0) (o := TbO T0 .none) (h' := s.heap.update T0 (Obj.mapFields (·.setIfInBounds 3 Value.none))) (by rw [hT0]; trivial) (.inl rfl) (fun b u hb e => by rw [Heap.get?_update_other _ _ (Ne.symm hb)]; exact e) ⟨_, hT3⟩
      (tb_ok hT3 (Obj.data_mapFields hd _) (by simp [(Array.getElem?_eq_some_iff.mp h3).1]))
    rw [upd_again hT0] at I1
    exact note_new I1 hst hf (.inr ⟨T0, ha⟩) fin
theorem flight_none {fl : Value} {T : Addr} {Q : Unit → Shared → Prop} {E : Value → Shared → Prop} {A : Around} (I : Inv X pins σ H s) (ha : Fl H x C od fl T)
    (q : ∀ H' s', Inv X pins σ H' s' → But x (some T) H H' T → Fl H' x C od .none T → Q () s') : wpAny (model X.prog X.w) A (setFlight (.ref x) none) Q E s := by
  obtain ⟨hTx, ha, hT0⟩ := ha
  obtain ⟨vs, sl, hx, h1⟩ := exc_getR I.hok ha
  obtain ⟨ob, ts, hT, hd, h3⟩ := tb_get I.hok hT0
  unfold setFlight
  refine wpAny_bind (wpAny_field hx rfl h1 ?_)
  rw [if_pos (show (Value.ref T != Value.none) = true from by simp)]
  refine wpAny_setField hT hd (Array.getElem?_eq_some_iff.mp h3).1 ?_
  have hT3 := Heap.get?_update_self (Obj.mapFields (·.setIfInBounds 3 Value.none)) hT (Obj.isFreed_of_fields (Obj.data_mapFields hd _))
  have I1 := I.write (t' := s.toks) (x := T) (e := T) (o := TbO T .none) (h' := s.heap.update T (Obj.mapFields (·.setIfInBounds 3 Value.none))) (by rw [hT0]; trivial) (.inl rfl) (fun b u hb e => by rw [Heap.get?_update_other _ _ (Ne.symm hb)]; exact e) ⟨_, hT3⟩
    (tb_ok hT3 (Obj.data_mapFields hd _) (by simp [(Array.getElem?_eq_some_iff.mp h3).1]))
  refine q _ _ I1 ⟨fun b o hb hn e => ?_, .inr rfl⟩ ⟨hTx, by rw [upd_ne hTx.symm]; exact ha, upd_same⟩
  rw [upd_ne (fun z => hn (by rw [z]))]; exact e
theorem But.tr {oT : Option Addr} {H1 H2 : Hp} {T1 T2 : Addr} (a : But x oT H H1 T1) (b : But x (some T1) H1 H2 T2) (h2 : T2 ≠ x) : But x oT H H2 T2 := by
  refine ⟨fun c o hc hn e => b.1 c o hc (fun z => ?_) (a.1 c o hc hn e), ?_⟩
  · cases z
    rcases a.2 with q | q
    · rw [q] at e; cases e
    · exact hn q
  · rcases b.2 with q | q
    · cases e : H T2 with
      | none => exact .inl rfl
      | some o =>
        by_cases z : some T2 = oT
        · exact .inr z
        · have := a.1 T2 o h2 z e
          rw [q] at this; cases this
    · cases q; exact a.2
theorem leave_ok {oT : Option Addr} {Q : Unit → Shared → Prop} {E : Value → Shared → Prop} (I : Inv X pins σ H s) (hst : X.stack = X.env :: outer) (hf : X.env.frame = some L) (ha : Arr H x C od oT)
    (q : ∀ H' s' T', Inv X pins σ H' s' → But x oT H H' T' → Fl H' x C od .none T' → Q () s') : wpAny (model X.prog X.w) X.A (leaving X.env (.ref x)) Q E s := by
  unfold leaving
  exact wpAny_bind (note_ok I hst hf ha fun H1 s1 T1 I1 b1 f1 => flight_none I1 f1 fun H2 s2 I2 b2 f2 => q H2 s2 T1 I2 (b1.tr b2 f2.1) f2)
theorem Arr.uniq {P : Program} {w : World} {h : Heap} {C1 : Addr} {od1 oT oT1 : Option Addr} (ok : HOk P w H h) (a : Arr H x C od oT) (b : Arr H x C1 od1 oT1) : C = C1 ∧ od = od1 ∧ oT = oT1 := by
  rcases a with ⟨rfl, a⟩ | ⟨T, rfl, _, a, _⟩ <;> rcases b with ⟨rfl, b⟩ | ⟨T1, rfl, _, b, _⟩
  · obtain ⟨vs, sl, e, _⟩ := exc_get1 ok a
    obtain ⟨vs1, sl1, e1, _⟩ := exc_get1 ok b
    rw [e] at e1; cases e1; exact ⟨rfl, rfl, rfl⟩
  · obtain ⟨vs, sl, e, q⟩ := exc_get1 ok a
    obtain ⟨vs1, sl1, e1, q1⟩ := exc_getR ok b
    rw [e] at e1; cases e1; rw [q] at q1; cases q1
  · obtain ⟨vs, sl, e, q⟩ := exc_getR ok a
    obtain ⟨vs1, sl1, e1, q1⟩ := exc_get1 ok b
    rw [e] at e1; cases e1; rw [q] at q1; cases q1
  · obtain ⟨vs, sl, e, q⟩ := exc_getR ok a
    obtain ⟨vs1, sl1, e1, q1⟩ := exc_getR ok b
    rw [e] at e1; cases e1; rw [q] at q1; cases q1; exact ⟨rfl, rfl, rfl⟩
end
def CXE (P : Program) (w : World) (K : PySem.W.Frag) : CXT := fun outer H s E e s' => ∃ x C od H', e = .ref x ∧ s'.os = s.os ∧ AllBare s'.gens ∧ Un (frs outer) [] H H' s.heap s'.heap ∧ HOk P w H' s'.heap ∧ (∃ T, Fl H' x C od .none T) ∧ XCls K C ∧ E (.ref x) (some C) H'
def upE (E : XK) : XK := fun xv oc H => ∃ x C od oT, xv = .ref x ∧ oc = some C ∧ Arr H x C od oT ∧ ∀ H' T', But x oT H H' T' → Fl H' x C od .none T' → E xv oc H'
section
variable {P : Program} {w : World} {K : PySem.W.Frag} {mg : Str → Option Value} {base : Heap} {N : List Str} {qual : Str} {scope : Scope} {f : Addr} {cd : Value} {A : Around} {outer : List Env} {s0 : Shared} {H0 : Hp} {E : XK}
theorem xe_of {pins : List (Addr × Obj)} {σ : St} {H : Hp} {s : Shared} {x C : Addr} {od : Option Addr} (I : Inv (cxOf (CXE P w K) P w K mg base N qual scope f cd A outer s0 H0 E) pins σ H s) {oT : Option Addr} (ha : Arr H x C od oT) (xc : XCls K C) (q : upE E (.ref x) (some C) H) :
    (cxOf (CXE P w K) P w K mg base N qual scope f cd A outer s0 H0 E).xe (.ref x) s :=
  leave_ok I rfl rfl ha fun H' s' T' J b fl => by
    obtain ⟨x1, C1, od1, oT1, e1, e2, a1, q⟩ := q
    cases e1; cases e2
    obtain ⟨_, rfl, rfl⟩ := Arr.uniq I.hok ha a1
    exact ⟨x, C, od, H', rfl, J.os, J.bare, J.base, J.hok, ⟨T', fl⟩, xc, q H' T' b fl⟩
theorem CXE.inv {X : Cx} {pins : List (Addr × Obj)} {σ : St} {H : Hp} {s s' : Shared} {e : Value} {E : XK} (I : Inv X pins σ H s) (h : CXE X.prog X.w X.K X.stack H s E e s') : ∃ x C od H', e = .ref x ∧ Inv X pins σ H' s' ∧ (∃ T, Fl H' x C od .none T) ∧ XCls X.K C ∧ E (.ref x) (some C) H' := by
  obtain ⟨x, C, od, H', rfl, os, bare, un, hok, fl, xc, q⟩ := h
  exact ⟨x, C, od, H', rfl, I.call' os un hok bare (fun b z => absurd z (by simp)), fl, xc, q⟩
theorem pass_no {X : Cx} : Passes (CXE P w K) X E0 := by
  intro pins σ H s e s' I h
  obtain ⟨x, C, od, H', _, _, _, _, _, _, _, q⟩ := h
  exact q.elim
end
def sRaise (K : PySem.W.Frag) (te : TE) (E : XK) : TS := fun _ σ H => te σ H fun v H1 => ∃ x C od, v = .ref x ∧ H1 x = some (ExcO x C od) ∧ XCls K C ∧ ∀ H' T', But x none H1 H' T' → Fl H' x C od .none T' → E (.ref x) (some C) H'
def XOut (X : Cx) (E : XK) : Prop := ∀ (pins : List (Addr × Obj)) (σ : St) (H : Hp) (s : Shared) (x C : Addr) (od oT : Option Addr), Inv X pins σ H s → Arr H x C od oT → XCls X.K C → upE E (.ref x) (some C) H → X.xe (.ref x) s
theorem out_of {P : Program} {w : World} {K : PySem.W.Frag} {mg : Str → Option Value} {base : Heap} {N : List Str} {qual : Str} {scope : Scope} {f : Addr} {cd : Value} {A : Around} {outer : List Env} {s0 : Shared} {H0 : Hp} {E : XK} : XOut (cxOf (CXE P w K) P w K mg base N qual scope f cd A outer s0 H0 E) E :=
  fun _ _ _ _ _ _ _ _ I ha xc q => xe_of I ha xc q
theorem raise_made {M : Model} {A : Around} {E : Value → Shared → Prop} {s : Shared} {env : Env} {m : Sem Value} {Q : Flow → Shared → Prop} (hh : A.handled = none)
    (h : wpAny M A m (fun v s₁ => ∃ e C nm q N bs bm hdct sn sub ab col dd k0 k1 k2 k3 k5 newId od vs sl, v = .ref e ∧ s₁.heap.get? C = some (excClassObj nm q C N bs bm hdct sn sub ab col dd k0 k1 k2 k3 k5 newId) ∧ bm.contains (.type "BaseException") = true ∧
      s₁.heap.get? e = some ⟨.ref C, od, .fields vs, sl⟩ ∧ vs[1]? = some Value.none ∧ E (.ref e) s₁) E s) :
    wpAny M A (raiseStmt env (some m) none) Q E s := by
  unfold raiseStmt
  refine wpAny_bind (wpAny_mono h (fun v s₁ h₁ => ?_) fun _ _ x => x)
  obtain ⟨e, C, nm, q, N, bs, bm, hdct, sn, sub, ab, col, dd, k0, k1, k2, k3, k5, newId, od, vs, sl, rfl, hC, hbase, he, h1, hE⟩ := h₁
  have hcB : (Value.ref C :: bm).contains (.type "BaseException") = true := by rw [List.contains_cons, hbase, Bool.or_true]
  obtain ⟨hp, g, d, tk, os⟩ := s₁
  repeat (first | with_reducible refine wpAny_loadPart_at he ?_ | with_reducible refine wpAny_loadPart_at hC ?_ | (with_reducible refine wpAny_isSubtype_exc hC ?_; rw [hcB]) | wp_step)
  rw [h1]
  refine wpAny_pure ?_
  rw [if_neg (by decide)]
  exact wpAny_pure (wpAny_raiseNew_none hh hE)
theorem XCls.obj {K : PySem.W.Frag} {C : Addr} {h : Heap} (prog : Program) (w : World) (Y : XCls K C) (k : K.In h) : ∃ nm q N bs bm hdct sn sub ab col dd k0 k1 k2 k3 k5 newId, h.get? C = some (excClassObj nm q C N bs bm hdct sn sub ab col dd k0 k1 k2 k3 k5 newId) ∧ bm.contains (.type "BaseException") = true := by
  obtain ⟨nm, qn, N, bs, bm, hdct, sn, sub, col, dd, k0, k1, k2, k3, k5, hC, T⟩ := (xmakes_of (M := model prog w) k Y.xc).cls
  exact ⟨nm, qn, N, bs, bm, hdct, sn, sub, false, col, dd, k0, k1, k2, k3, k5, _, hC, T.hasType (by decide +kernel)⟩
theorem ps_raise {X : Cx} {E : XK} {e : Expr} {te : TE} {pos : Pos} (hX : XOut X E) (hc : X.calm = true) (he : PE X e te) : PS X (.Raise (some e) none pos) (sRaise X.K te E) := by
  intro pins s σ H D I h
  rw [arm_exec_Raise]
  refine wpAny_bind (wpAny_standAt (raise_made (I.ok.hd hc) ?_))
  refine wpAny_bind (thn (he pins s σ H _ I h) fun u s1 ⟨v, H1, I1, r1, x, C, od, ev, ex, xc, q⟩ => wpAny_bind (wpAny_standAt (wpAny_pure ?_)))
  subst ev
  obtain rfl : u = Value.ref x := r1
  obtain ⟨vs, sl, hx, h1⟩ := exc_get1 I1.hok ex
  obtain ⟨nm, qn, N, bs, bm, hdct, sn, sub, ab, col, dd, k0, k1, k2, k3, k5, newId, hC, hb⟩ := xc.obj X.prog X.w I1.kIn
  exact ⟨x, C, nm, qn, N, bs, bm, hdct, sn, sub, ab, col, dd, k0, k1, k2, k3, k5, newId, od, vs, sl, rfl, hC, hb, hx, h1, hX pins σ H1 s1 x C od none I1 (.inl ⟨rfl, ex⟩) xc ⟨x, C, od, none, rfl, rfl, .inl ⟨rfl, ex⟩, q⟩⟩
end L2
namespace L2
open PySem PySem.Spec PySem.W PySem.Calls PyProof.Rows
section
variable {X : Cx} {pins : List (Addr × Obj)} {σ : St} {H : Hp} {s : Shared}
abbrev Cx.on (X : Cx) (xe : Value → Shared → Prop) : Cx := { X with xe := xe }
theorem Inv.on {xe : Value → Shared → Prop} (I : Inv X pins σ H s) : Inv (X.on xe) pins σ H s :=
  ⟨⟨I.ok.mod, I.ok.kind, I.ok.glob, I.ok.blt, I.ok.above, I.ok.inj, I.ok.has, I.ok.cab, I.ok.hd, I.ok.frames, I.ok.stk, I.ok.exf, I.ok.bs, I.ok.bsz, I.ok.noex, I.ok.exfs, I.ok.funs, I.ok.frf⟩, I.os, I.bare, I.base, I.loc, I.cell, I.free, I.freeC, I.pin, I.hok, I.len⟩
theorem Inv.off {xe : Value → Shared → Prop} (I : Inv (X.on xe) pins σ H s) : Inv X pins σ H s :=
  ⟨⟨I.ok.mod, I.ok.kind, I.ok.glob, I.ok.blt, I.ok.above, I.ok.inj, I.ok.has, I.ok.cab, I.ok.hd, I.ok.frames, I.ok.stk, I.ok.exf, I.ok.bs, I.ok.bsz, I.ok.noex, I.ok.exfs, I.ok.funs, I.ok.frf⟩, I.os, I.bare, I.base, I.loc, I.cell, I.free, I.freeC, I.pin, I.hok, I.len⟩
abbrev Cx.held (X : Cx) (x : Addr) : Cx := { X with A := X.A.mark (some (.ref x)), calm := false, xe := fun _ _ => False }
theorem Inv.held {x : Addr} (I : Inv X pins σ H s) : Inv (X.held x) pins σ H s :=
  ⟨⟨I.ok.mod, I.ok.kind, I.ok.glob, I.ok.blt, I.ok.above, I.ok.inj, I.ok.has, I.ok.cab, fun z => (Bool.false_ne_true z).elim, I.ok.frames, I.ok.stk, I.ok.exf, I.ok.bs, I.ok.bsz, I.ok.noex, I.ok.exfs, I.ok.funs, I.ok.frf⟩, I.os, I.bare, I.base, I.loc, I.cell, I.free, I.freeC, I.pin, I.hok, I.len⟩
theorem Inv.unheld {x : Addr} (J : Inv (X.held x) pins σ H s) (hd : X.calm = true → X.A.handled = none) (fr : X.A.frames = some X.stack) : Inv X pins σ H s :=
  ⟨⟨J.ok.mod, J.ok.kind, J.ok.glob, J.ok.blt, J.ok.above, J.ok.inj, J.ok.has, J.ok.cab, hd, fr, J.ok.stk, J.ok.exf, J.ok.bs, J.ok.bsz, J.ok.noex, J.ok.exfs, J.ok.funs, J.ok.frf⟩, J.os, J.bare, J.base, J.loc, J.cell, J.free, J.freeC, J.pin, J.hok, J.len⟩
abbrev XW := St → Addr → Addr → Hp → Prop
def XP (X : Cx) (pins : List (Addr × Obj)) (W : XW) (e : Value) (s' : Shared) : Prop := ∃ σ H x C od oT, e = .ref x ∧ Inv X pins σ H s' ∧ Arr H x C od oT ∧ XCls X.K C ∧ W σ x C H
def PXE (X : Cx) (e : Expr) (t : VK → (Addr → Addr → Hp → Prop) → St → Hp → Prop) : Prop :=
  ∀ (pins : List (Addr × Obj)) (s : Shared) (σ : St) (H : Hp) (Q : VK) (W : Addr → Addr → Hp → Prop), Inv X pins σ H s → t Q W σ H → wpAny (model X.prog X.w) X.A (eval e X.env) (EP X pins σ Q) (XP X pins fun σ' x C H' => σ' = σ ∧ W x C H') s
abbrev TX := Ends → XW → St → Hp → Prop
def PXs (X : Cx) (st : List Stmt) (t : TX) : Prop :=
  ∀ (pins : List (Addr × Obj)) (s : Shared) (σ : St) (H : Hp) (D : Ends) (W : XW), Inv X pins σ H s → t D W σ H → wpAny (model X.prog X.w) X.A (execs st X.env) (SP X pins D) (XP X pins W) s
def xCall (sp : Sp) (dvs : List V) (t : TA) : VK → (Addr → Addr → Hp → Prop) → St → Hp → Prop := fun Q W σ H => t σ H fun vs H1 => sp (vs ++ dvs) H1 Q fun xv oc H2 => ∀ x C, xv = .ref x → oc = some C → W x C H2
theorem run_fnX {k : Nat} {f : Addr} {fd : FuncData} {ps : List Str} {sp : Sp} {dvs : List V} {ds : List Value} {Q : VK} {W : Addr → Addr → Hp → Prop} {us : List Value} {vs : List V} (F : FnOk X.prog X.w X.K X.mg X.base (CXE X.prog X.w X.K) k f fd ps sp) (hr : Room k X.A) (hb : Binds X.K fd ps ds) (hd : Vals dvs ds)
    (I : Inv X pins σ H s) (r : Vals vs us) (h : sp (vs ++ dvs) H Q fun xv oc H2 => ∀ x C, xv = .ref x → oc = some C → W x C H2) : wpAny (model X.prog X.w) X.A (call (.ref f) us) (EP X pins σ Q) (XP X pins fun σ' x C H' => σ' = σ ∧ W x C H') s := by
  have r2 : Vals (vs ++ dvs) (us ++ ds) := r.append hd
  have hl : (us ++ ds).length = ps.length := by rw [← r2.length]; exact F.len _ _ _ _ h
  refine wpAny_call (codeAny_mono (F.run X.A X.stack s H ⟨us, []⟩ (us ++ ds) (vs ++ dvs) Q _ hr I.env0 (hb s us I.kIn hl) r2 h) fun r s' hq => ?_)
  cases r with
  | error e =>
    have hq' : CXE X.prog X.w X.K X.stack H s (fun xv oc H2 => ∀ x C, xv = .ref x → oc = some C → W x C H2) e s' := hq
    obtain ⟨x, C, od, H', rfl, J, ⟨T, fl⟩, xc, q⟩ := CXE.inv I hq'
    exact ⟨σ, H', x, C, od, some T, rfl, J, .inr ⟨T, rfl, fl⟩, xc, rfl, q x C rfl rfl⟩
  | ok fl =>
    cases fl with
    | ret u => exact I.after hq
    | next => exact False.elim hq
    | brk => exact False.elim hq
    | cont => exact False.elim hq
theorem ap_off {xe : Value → Shared → Prop} {Q : List V → Hp → Prop} {us : List Value} {s : Shared} (h : AP (X.on xe) pins σ Q us s) : AP X pins σ Q us s := let ⟨vs, H', I, r⟩ := h; ⟨vs, H', I.off, r⟩
theorem pxe_call {k : Nat} {f : Addr} {fd : FuncData} {ps : List Str} {sp : Sp} {dvs : List V} {ds : List Value} {x : Str} {p pos : Pos} {e : Expr} {es : List Expr} {t : TA} (F : FnOk X.prog X.w X.K X.mg X.base (CXE X.prog X.w X.K) k f fd ps sp) (hr : Room k X.A) (hg : Gl X x) (hm : X.mg x = some (.ref f)) (hk : PySem.W.keepIn X.K (.ref f) = true) (hb : Binds X.K fd ps ds) (hd : Vals dvs ds)
    (ha : ∀ xe, PA (X.on xe) (e :: es) t) (hdb : (x == ("__debug__" : Str)) = false := by decide) (he : starEach (e :: es) X.env = (false, eval e X.env) :: starEach es X.env := by rfl) (hpl : (backTo pos (starEach es X.env)).any (·.1) = false := by rfl) :
    PXE X (.Call (.Name x p) (e :: es) [] pos) (xCall sp dvs t) := by
  intro pins s σ H Q W I h
  refine wpAny_Call_Name_kw (ld_glob I hg hm ?_ hdb)
  refine PySem.W.callWith_K (h₀ := X.base) I.ok.mod.kin hk (thn (ha (XP X pins fun σ' x C H' => σ' = σ ∧ W x C H') pos pins s σ H _ I.on h) fun us s1 z => ?_) he hpl
  obtain ⟨vs, H1, I1, r, q⟩ := ap_off z
  exact ⟨I1.kIn, run_fnX F hr hb hd I1 r q⟩
def xDrop (t : VK → (Addr → Addr → Hp → Prop) → St → Hp → Prop) : TX := fun D W σ H => t (fun _ H' => D.nx σ H') (W σ) σ H
def xIf (tc : TT) (t u : TX) : TX := fun D W σ H => tc σ H fun b H' => if b = true then t D W σ H' else u D W σ H'
theorem xp_of {σ : St} {W : XW} {e : Value} {s : Shared} (h : XP X pins (fun σ' x C H' => σ' = σ ∧ W σ x C H') e s) : XP X pins W e s := by
  obtain ⟨_, H, x, C, od, oT, a, b, c, d, rfl, w⟩ := h
  exact ⟨_, H, x, C, od, oT, a, b, c, d, w⟩
theorem execs_one {M : Model} {A : Around} {E : Value → Shared → Prop} {s : Shared} {env : Env} {st : Stmt} {Q : Flow → Shared → Prop} (h : wpAny M A (exec st env) Q E s) : wpAny M A (execs [st] env) Q E s := by
  unfold execs
  refine wpAny_bind (thn h fun f s' q => ?_)
  cases f with
  | next => unfold execs; exact wpAny_pure q
  | _ => exact wpAny_pure q
theorem px_expr {e : Expr} {t : VK → (Addr → Addr → Hp → Prop) → St → Hp → Prop} {pos : Pos} (he : PXE X e t) (hs : swapsWith e none pos.line X.env = pure false := by rfl) : PXs X [.Expr e pos] (xDrop t) := by
  intro pins s σ H D W I h
  refine execs_one (wpAny_Expr_any (wpAny_mono (he pins s σ H _ _ I h) (fun v s1 ⟨x, H1, I1, r1, q1⟩ => ⟨σ, H1, I1, q1⟩) fun e s' z => xp_of z) I.quiet hs)
theorem px_if {c : Expr} {a b : List Stmt} {tc : TT} {t u : TX} {pos : Pos} (hc : ∀ xe, PT (X.on xe) c tc) (ha : PXs X a t) (hb : PXs X b u) : PXs X [.If c a b pos] (xIf tc t u) := by
  intro pins s σ H D W I h
  refine execs_one (wpAny_If (thn (hc (XP X pins W) pins s σ H _ I.on h) fun d s1 ⟨H1, I1, q1⟩ => ?_))
  cases d with
  | true => exact ha pins s1 σ H1 D W I1.off q1
  | false => exact hb pins s1 σ H1 D W I1.off q1
theorem unbind_ok {M : Model} {A : Around} {E : Value → Shared → Prop} {i : Nat} {x : Str} {pos : Pos} {Q : Unit → Shared → Prop} (I : Inv X pins σ H s) (hN : X.N.Nodup) (hi : X.N[i]? = some x) (hk : X.env.scope.names.lookup x = some .local) (h : ∀ s', Inv X pins (σ.set i none) H s' → Q () s') :
    wpAny M A (do bindName X.env x .none; unbindBehindTheSuite X.env x pos) Q E s := by
  obtain ⟨m, hn, hl⟩ := id I.loc
  have hcls : (X.env.scope.kind == .class || (X.env.scope.kind == .module && X.env.locals != X.env.globals)) = false := by rw [I.ok.kind]; rfl
  have hiσ : i < σ.length := by rw [I.len]; exact (List.getElem?_eq_some_iff.mp hi).1
  have cne := I.cne
  refine wpAny_nameGoes_keeps hk hn hcls fun h' v hn' hs => ?_
  refine h _ ⟨I.ok, I.os, I.bare, ⟨fun b o e n hb hx => ?_, fun b o e n hb hx => ?_, I.base.free, fun b o e hx => ?_, I.base.tups, I.base.frzs, I.base.tbls⟩, ⟨_, hn', fun j y v' e1 e2 e3 => ?_⟩, fun y c e => ?_, I.free, I.freeC, fun p hp => ?_, fun b ob e => ?_, by simpa using I.len⟩
  · exact (hs.2 b (Nat.ne_of_lt (Nat.lt_of_lt_of_le (Heap.lt_size e) I.ok.above))).trans (I.base.keep b o e n hb hx)
  · obtain ⟨sl, e1⟩ := I.base.slot b o e n hb hx
    exact ⟨sl, (hs.2 b (Nat.ne_of_lt (Nat.lt_of_lt_of_le (Heap.lt_size e) I.ok.above))).trans e1⟩
  · obtain ⟨o', e1⟩ := I.base.there b o e hx
    exact ⟨o', (hs.2 b (Nat.ne_of_lt (Nat.lt_of_lt_of_le (Heap.lt_size e) I.ok.above))).trans e1⟩
  · by_cases hj : j = i
    · subst hj
      rw [List.getElem?_set_self hiσ] at e2
      cases e2
    · rw [List.getElem?_set_ne (Ne.symm hj)] at e2
      obtain ⟨u', r', q⟩ := hl j y v' e1 e2 e3
      refine ⟨u', r', ?_⟩
      rcases q with ⟨k, e⟩ | ⟨k, c, e, z⟩
      · refine .inl ⟨k, ?_⟩
        have : y ≠ x := fun e => hj (nodup_ix hN e1 (e ▸ hi))
        simp [this, e]
      · exact .inr ⟨k, c, e, z.sameBut hs (cne y c e)⟩
  · obtain ⟨w', z⟩ := I.cell y c e
    exact ⟨w', z.sameBut hs (cne y c e)⟩
  · obtain ⟨e, n, ne, nf, d⟩ := I.pin p hp
    exact ⟨(hs.2 p.1 ne).trans e, n, ne, nf, d⟩
  · refine (I.hok b ob e).stay (fun c w' hc q => (hs.2 c ?_).trans q) (fun _ q => q) fun _ _ q => q
    rintro rfl
    rcases hc with rfl | hc
    · rw [I.free] at e; cases e
    · rw [I.free] at hc; cases hc
end
end L2
namespace L2
open PySem PySem.Spec PySem.W PySem.Calls PyProof.Rows
theorem match_own {prog : Program} {w : World} {A : Around} {E : Value → Shared → Prop} {h : Heap} {g : Array GenState} {d : Drawn} {t : Nat} {os : OsState} {K : PySem.W.Frag} {x C D : Addr} {oe : Obj} {b : Bool} {Q : Bool → Shared → Prop} (k : K.In h) (Y : XCls K D) (he : h.get? x = some oe) (hc : oe.cls = .ref C) (hm : mroIn K C (.ref D) = some b)
    (hq : Q b ⟨h, g, d, t, os⟩) : wpAny (model prog w) A (excMatches (.ref x) (.ref D)) Q E ⟨h, g, d, t, os⟩ := by
  obtain ⟨nm, qn, N, bs, bm, hdct, sn, sub, ab, col, dd, k0, k1, k2, k3, k5, newId, hD, hbase⟩ := Y.obj prog w k
  have hcB : (Value.ref D :: bm).contains (.type "BaseException") = true := by rw [List.contains_cons, hbase, Bool.or_true]
  have f := tc_notTuple
  have lm : Looks (model prog w) h (isSubtype (.ref C) (.ref D)) b := looks_mroIn k hm
  unfold excMatches
  repeat (first | (with_reducible refine wpAny_loadPart_at he ?_; rw [hc]) | with_reducible refine wpAny_loadPart_at hD ?_ | (with_reducible refine wpAny_isSubtype_exc hD ?_; rw [hcB]) | (with_reducible refine wpAny_bind (lm.at ?_)) | wp_step)
  cases b
  · rw [if_neg (by decide)]
    repeat wp_step
    exact hq
  · rw [if_pos rfl]
    repeat wp_step
    exact hq
def sTry (K : PySem.W.Frag) (D : Addr) (i : Nat) (tb : TX) (ts : TS) : TS := fun E σ H => tb E (fun σ' x C H' => mroIn K C (.ref D) = some true ∧ ∃ od oT, Arr H' x C od oT ∧ ∀ H'' T', But x oT H' H'' T' → Fl H'' x C od .none T' →
  ts { nx := fun σ2 H3 => E.nx (σ2.set i none) H3, rt := E.rt, bk := fun σ2 H3 => E.bk (σ2.set i none) H3, ct := fun σ2 H3 => E.ct (σ2.set i none) H3 } (σ'.set i (some (.ref x))) H'') σ H
section
variable {X : Cx} {L D : Addr} {outer : List Env} {body suite : List Stmt} {b₀ : Stmt} {tb : TX} {ts : TS} {cn n : Str} {cp hp pos : Pos} {i : Nat}
theorem sp_held {x : Addr} {pins : List (Addr × Obj)} {E : Ends} {f : Flow} {s : Shared} (hd : X.calm = true → X.A.handled = none) (fr : X.A.frames = some X.stack) (h : SP (X.held x) pins E f s) : SP X pins E f s := by
  cases f with
  | next => obtain ⟨σ', H', J, q⟩ := h; exact ⟨σ', H', J.unheld hd fr, q⟩
  | brk => obtain ⟨σ', H', J, q⟩ := h; exact ⟨σ', H', J.unheld hd fr, q⟩
  | cont => obtain ⟨σ', H', J, q⟩ := h; exact ⟨σ', H', J.unheld hd fr, q⟩
  | ret u => obtain ⟨v, σ', H', J, r⟩ := h; exact ⟨v, σ', H', J.unheld hd fr, r⟩
theorem ps_try (hst : X.stack = X.env :: outer) (hf : X.env.frame = some L) (hb : PXs X body tb) (hg : Gl X cn) (hm : X.mg cn = some (.ref D)) (Y : XCls X.K D) (hN : X.N.Nodup) (hi : X.N[i]? = some n) (hk : X.env.scope.names.lookup n = some .local)
    (hsu : ∀ x, PSs (X.held x) (b₀ :: suite) ts) (hdb : (cn == ("__debug__" : Str)) = false := by decide) : PS X (.Try body [.ExceptHandler (some (.Name cn cp)) (some n) (b₀ :: suite) hp] [] [] pos) (sTry X.K D i tb ts) := by
  intro pins s σ H E I h
  refine wpAny_Try_except (wpAny_mono (hb pins s σ H _ _ I h) (fun f s1 q => ?_) fun e s1 q => ?_)
  · cases f with
    | next => show wpAny _ _ (execs [] X.env) _ _ _; unfold execs; exact wpAny_pure q
    | _ => exact q
  obtain ⟨σ1, H1, x, C, od, oT, rfl, I1, ha, xc, hmro, od1, oT1, ha1, q⟩ := q
  obtain ⟨_, rfl, rfl⟩ := Arr.uniq I1.hok ha ha1
  have hd := I1.ok.hd
  have fr := I1.ok.frames
  refine note_ok I1 hst hf ha fun H2 s2 T2 I2 b2 f2 => flight_none I2 f2 fun H3 s3 I3 b3 f3 => ?_
  refine wpAny_handleBy_cons (codeAny_handlers_test ?_) (by intro q; cases q)
  refine ld_glob (X := X.held x) I3.held hg hm ?_ hdb
  obtain ⟨vs, sl, hx⟩ := exc_get I3.hok f3.isX
  obtain ⟨hh, gg, dd, tt, oo⟩ := s3
  refine match_own I3.kIn Y hx rfl hmro ?_
  show codeAny _ _ _ _ _
  refine codeAny_handlers_suite_as ?_
  refine flight_none I3 f3 fun H4 s4 I4 b4 f4 => ?_
  refine store_ok I4 hN hi (.inl hk) (v := .ref x) rfl (fun s5 I5 => ?_) (.inr hk)
  refine wpAny_mono (hsu x pins s5 _ _ _ I5.held (q H4 T2 ((b2.tr b3 f3.1).tr b4 f4.1) f4)) (fun f s6 q6 => ?_) fun e s' z => z.elim
  have q7 := sp_held hd fr q6
  cases f with
  | next => obtain ⟨σ', H', J, q⟩ := q7; exact unbind_ok J hN hi hk fun s7 J7 => ⟨_, H', J7, q⟩
  | brk => obtain ⟨σ', H', J, q⟩ := q7; exact unbind_ok J hN hi hk fun s7 J7 => ⟨_, H', J7, q⟩
  | cont => obtain ⟨σ', H', J, q⟩ := q7; exact unbind_ok J hN hi hk fun s7 J7 => ⟨_, H', J7, q⟩
  | ret u => obtain ⟨v, σ', H', J, r⟩ := q7; exact unbind_ok J hN hi hk fun s7 J7 => ⟨v, _, H', J7, r⟩
end
end L2
namespace L2
open PySem PySem.Spec PySem.W PySem.Calls PyProof.Rows
section
variable {P : Program} {w : World} {K : PySem.W.Frag} {mg : Str → Option Value} {base : Heap}
theorem Fun.okX {CX : CXT} {x qual : Str} {st : Stmt} {f : Addr} {fd : FuncData} {N ps : List Str} {k : Nat} {sp : Sp} (F : Fun K x qual st f fd) (S : FnScope N ps (defScope st)) (len : ∀ vs H Q E, sp vs H Q E → vs.length = ps.length)
    (hbody : ∀ (cdv : Value) (A : Around) (outer : List Env) (s : Shared) (H : Hp) (vs : List V) (Q : VK) (E : XK), Room k (A.deeper (envOfC qual (defScope st) s.heap.objs.size f cdv)) → sp vs H Q E →
      ∃ t, PSs (cxOf CX P w K mg base N qual (defScope st) f cdv A outer s H E) (defBody st) t ∧ t { nx := fun _ H' => Q .non H', rt := Q } (start N vs) H) : FnOk P w K mg base CX (k + 1) f fd ps sp := by
  obtain ⟨oc, od, kV, doc, pm, an, cdv, ct, osl, rfl, lk, hcd⟩ := F.ex
  refine fn_of lk hcd S len fun A outer s H vs Q E hr hsp => ?_
  exact hbody cdv A outer s H vs Q E hr hsp
end
end L2
namespace L2
open PySem PySem.Spec PySem.W PySem.Calls PyProof.Rows
structure NS (H H' : Hp) (x d T C : Addr) (m : Str) (v : V) : Prop where
  same : Same H H'
  nx : H x = none
  nT : H T = none
  fl : Fl H' x C (some d) .none T
  di : H' d = some (.xd [(m, v)])
theorem none_of_same {H H1 : Hp} (s : Same H H1) {b : Addr} (h : H1 b = none) : H b = none := by
  cases e : H b with
  | none => rfl
  | some o => rw [s _ _ e] at h; cases h
theorem NS.mono {H H1 H' : Hp} {x d T C : Addr} {m : Str} {v : V} (s : Same H H1) (n : NS H1 H' x d T C m v) : NS H H' x d T C m v :=
  ⟨s.trans n.same, none_of_same s n.nx, none_of_same s n.nT, n.fl, n.di⟩
theorem NS.caught {H H' H'' : Hp} {x d T C T' : Addr} {m : Str} {v : V} (n : NS H H' x d T C m v) (b : But x (some T) H' H'' T') (f : Fl H'' x C (some d) .none T') : Same H H'' ∧ ErrF H'' x C m v := by
  have keep : ∀ a o, a ≠ x → a ≠ T → H' a = some o → H'' a = some o := fun a o h1 h2 e => b.1 a o h1 (fun z => h2 (Option.some.inj z)) e
  refine ⟨fun a o e => keep a o (fun z => by rw [z, n.nx] at e; cases e) (fun z => by rw [z, n.nT] at e; cases e) (n.same _ _ e), d, .inr ⟨T', f.2.1⟩, keep d _ (fun z => ?_) (fun z => ?_) n.di⟩
  · have := n.di; rw [z, n.fl.2.1] at this; cases this
  · have := n.di; rw [z, n.fl.2.2] at this; cases this
theorem raise_go {K : PySem.W.Frag} {C : Addr} {m : Str} {E0 E : XK} {t : TA} {σ : St} {H : Hp} {v : V} (O : XCls K C) (ht : ∀ R : List V → Hp → Prop, R [v] H → t σ H R)
    (h : ∀ x d T H', NS H H' x d T C m v → E (.ref x) (some C) H') : tMakeX C (spXI C m) [] E0 t σ H fun v H1 => ∃ x C od, v = .ref x ∧ H1 x = some (ExcO x C od) ∧ XCls K C ∧ ∀ H' T', But x none H1 H' T' → Fl H' x C od .none T' → E (.ref x) (some C) H' := by
  refine ht _ ⟨show 1 ≤ 1000 by decide, fun x hx => ⟨x, v, rfl, upd_same, fun d hd => ⟨rfl, x, C, some d, rfl, ?_, O, fun H' T' b f => ?_⟩⟩⟩
  · have hxd : d ≠ x := fun z => by rw [z, upd_same] at hd; cases hd
    rw [upd_ne hxd.symm, upd_same]
  have hxd : d ≠ x := fun z => by rw [z, upd_same] at hd; cases hd
  rw [upd_ne hxd] at hd
  have up : ∀ a o, H a = some o → upd (upd (upd H x (ExcO x C none)) x (ExcO x C (some d))) d (.xd [(m, v)]) a = some o := fun a o e => by
    have hax : a ≠ x := fun z => by rw [z, hx] at e; cases e
    have had : a ≠ d := fun z => by rw [z, hd] at e; cases e
    rw [upd_ne had, upd_ne hax, upd_ne hax]; exact e
  refine h x d T' H' ⟨fun a o e => b.1 a o (fun z => by rw [z, hx] at e; cases e) (fun z => nomatch z) (up a o e), hx, ?_, f, b.1 d _ hxd (fun z => nomatch z) upd_same⟩
  rcases b.2 with q | q
  · cases e : H T' with
    | none => rfl
    | some o => rw [up _ _ e] at q; cases q
  · cases q
end L2
namespace L2
open PySem PySem.Spec PySem.W PySem.Calls PyProof.Rows
section
variable {κ : Type} [DecidableEq κ]
def metK (val : Nat → κ) : Nat → List κ
  | 0 => []
  | i + 1 => if val i ∈ metK val i then metK val i else metK val i ++ [val i]
theorem metK_le (val : Nat → κ) : ∀ i, (metK val i).length ≤ i
  | 0 => Nat.le_refl _
  | i + 1 => by
    have := metK_le val i
    unfold metK
    split
    · omega
    · simp; omega
theorem metK_mem (val : Nat → κ) (i : Nat) (k : κ) : decide (k ∈ metK val (i + 1)) = (decide (k ∈ metK val i) || decide (k = val i)) := by
  show decide (k ∈ if val i ∈ metK val i then metK val i else metK val i ++ [val i]) = _
  by_cases h : val i ∈ metK val i
  · rw [if_pos h]
    by_cases e : k = val i
    · subst e; simp [h]
    · simp [e]
  · rw [if_neg h]; simp
theorem metK_len (val : Nat → κ) (i : Nat) : (metK val (i + 1)).length = if decide (val i ∈ metK val i) = true then (metK val i).length else (metK val i).length + 1 := by
  show (if val i ∈ metK val i then metK val i else metK val i ++ [val i]).length = _
  by_cases h : val i ∈ metK val i
  · rw [if_pos h, if_pos (by simpa using h)]
  · rw [if_neg h, if_neg (by simpa using h)]; simp
end
section
variable {prog : Program} {w : World} {A : Around} {κ : Type} [DecidableEq κ] {knd : PySem.KeyKind prog w κ}
theorem set_loop {R : Result → Shared → Prop} {J : Addr} {fp wr : List Addr} {G : Array GenState → Array GenState → Prop} {n : Nat} {Pv : Nat → Value → Prop} {St : Nat → Shared → Prop} (W : WalksS prog w A.in1 J fp wr G n Pv St) (S : Addr) (hSf : S ∉ fp)
    (val : Nat → κ) (hval : ∀ i v, Pv i v → knd.is (val i) v = true ∧ v.scannable = true) (hb : n + 1 < scanBound) :
    ∀ (m i : Nat) (s : Shared), n - i = m → i ≤ n → St i s → s.heap.SetOf knd S (fun k => decide (k ∈ metK val i)) (metK val i).length →
      (∀ s', Moved (S :: wr) G s s' → s'.heap.SetOf knd S (fun k => decide (k ∈ metK val n)) (metK val n).length → R (.ok (.ret .none)) s') →
      codeAny (model prog w) A (.builtin "set.update.loop" ⟨[.ref S, .ref J], []⟩) R s
  | 0, i, s, hm, hi, hst, hS, hR => by
    obtain rfl : i = n := by omega
    have hSw : S ∉ wr := fun z => hSf (W.sub _ z)
    refine codeAny_builtin F.entry_set_update_loop ?_
    rw [Around.under_plainId F.plain_set_update_loop _]
    refine wpAny_bind (W.done s _ _ hst fun s1 mv => ?_)
    refine wpAny_pure (hR s1 (mv.mono fun b z => List.mem_cons_of_mem _ z) ?_)
    obtain ⟨o, es, ep, tb, ho, more⟩ := hS
    exact ⟨o, es, ep, tb, mv.heap S _ hSw ho, more⟩
  | m + 1, i, s, hm, hi, hst, hS, hR => by
    have hSw : S ∉ wr := fun z => hSf (W.sub _ z)
    have hlt : i < n := by omega
    refine codeAny_builtin F.entry_set_update_loop ?_
    rw [Around.under_plainId F.plain_set_update_loop _]
    refine wpAny_bind (W.item i s _ _ hlt hst fun v s1 hP hst1 mv => ?_)
    obtain ⟨hk, hsc⟩ := hval i v hP
    have hS1 : s1.heap.SetOf knd S (fun k => decide (k ∈ metK val i)) (metK val i).length := by
      obtain ⟨o, es, ep, tb, ho, more⟩ := hS
      exact ⟨o, es, ep, tb, mv.heap S _ hSw ho, more⟩
    have room : (metK val i).length + 1 < scanBound := by have := metK_le val i; omega
    refine wpAny_bind (m := holding [v] (setAdd S v)) (wpAny_holding ?_)
    unfold setAdd
    refine wpAny_holding (wpAny_bind (knd.pyHash hk ?_))
    refine wpAny_setAddHashed_of (knd := knd) (s := { s1 with toks := s1.toks + 1 }) hk hsc hS1 room fun h' sb hS2 => ?_
    have hS3 : h'.SetOf knd S (fun k => decide (k ∈ metK val (i + 1))) (metK val (i + 1)).length := SetOf_congr hS2 (fun k => (metK_mem val i k).symm) (metK_len val i).symm
    refine wpAny_pure ⟨plainId_quiet F.plain_set_update_loop _, set_loop W S hSf val hval hb m (i + 1) _ (by omega) hlt (W.frame _ s1 _ _ hst1 (Nat.le_succ _) fun b z o e => ?_) hS3 fun s2 mv2 hS4 => ?_⟩
    · rw [sb.2 b fun (z2 : b = S) => hSf (by rw [← z2]; exact z)]; exact e
    · refine hR s2 (Moved.trans W.gtrans ((mv.mono fun b z => List.mem_cons_of_mem _ z).then_heap (Nat.le_succ _) fun b o z e => ?_) mv2) hS4
      rw [sb.2 b fun (z2 : b = S) => z (by rw [z2]; exact List.mem_cons_self)]; exact e
abbrev set0 (led : Bool) : Obj := { cls := .type "set", dict := none, data := .set #[] 0 (.fresh 0 0 led) }
theorem set_init {E : Value → Shared → Prop} {s : Shared} {l : Addr} {items : Array Value} {val : Nat → κ} {led : Bool} {Q : Value → Shared → Prop} (hh : A.handled = none) (hl : s.heap.IsList l items)
    (hv : ∀ (i : Nat) v, items[i]? = some v → knd.is (val i) v = true ∧ v.scannable = true) (hb : items.size + 1 < scanBound)
    (h : ∀ h' tk, h'.SetOf knd s.heap.objs.size (fun k => decide (k ∈ metK val items.size)) (metK val items.size).length → (∀ b o, s.heap.get? b = some o → h'.get? b = some o) → Q .none { s with heap := h', toks := tk }) :
    codeAny (model prog w) A (.call (.builtin "set.__init__") ⟨[.ref s.heap.objs.size, .ref l], []⟩) (wants Q E) { s with heap := s.heap.push (set0 led) } := by
  have hS : (s.heap.push (set0 led)).get? s.heap.objs.size = some (set0 led) := Heap.get?_push_size _ rfl
  have hT : Shared.TypeIs { s with heap := s.heap.push (set0 led) } (.ref s.heap.objs.size) "set" := ⟨_, hS, rfl⟩
  refine codeAny_call_builtin F.called_set.init.plain F.entry_set_init (check_set_init_1 hT ?_)
  obtain ⟨⟨oc, od, odt, osl⟩, hol, hcl, nl, hdl⟩ := hl
  dsimp only at hcl hdl
  subst hcl hdl
  have hol' := Heap.get?_push_of_some (set0 led) hol
  have hsls := F.sub_list_set
  have hslf := F.sub_list_frozenset
  have hne : (Value.type "list" == Value.type "dict") = false := by decide
  have hl1 : (s.heap.push (set0 led)).IsList l items := ⟨_, hol', rfl, nl, rfl⟩
  have hlt : l < s.heap.objs.size := Heap.lt_size hol
  unfold Builtin.«set.__init__» noKeywords Builtin.Frozenset.updateFrom
  generalize hPI : pyIter = PI
  wp_walk
  subst hPI
  refine wpAny_pyIter_list hl1 (wpAny_bind (wpAny_runValue ?_))
  have hz : (s.heap.push (set0 led)).objs.size = s.heap.objs.size + 1 := Heap.size_push _ _
  refine set_loop (knd := knd) (val := val) ((Walks.list (by simp [hh]) _ l (by rw [hz]; exact Nat.ne_of_lt (Nat.lt_succ_of_lt hlt)) items).toS) s.heap.objs.size ?_ hv hb (items.size - 0) 0 _ rfl (Nat.zero_le _) ⟨⟨_, Heap.get?_push_size _ rfl, rfl, rfl⟩, (hl1.push _)⟩ ?_ ?_
  · rw [hz]
    simp only [List.mem_cons, List.not_mem_nil, or_false, not_or]
    exact ⟨Nat.ne_of_lt (Nat.lt_succ_self _), Nat.ne_of_gt hlt⟩
  · exact SetOf_congr ((setObjOf_fresh (knd := knd) led).setOf (Heap.get?_push_of_some _ hS) (by unfold scanBound; omega)) (fun k => by simp [metK]) rfl
  · intro s1 mv hS1
    obtain ⟨h1, g1, d1, t1, o1⟩ := s1
    obtain rfl : g1 = s.gens := mv.gens
    obtain rfl : d1 = s.drawn := mv.drawn
    obtain rfl : o1 = s.os := mv.os
    show wpAny _ _ _ _ _ _
    refine wpAny_pure (wpAny_pure (h h1 t1 hS1 fun b o e => ?_))
    have hb := Heap.lt_size e
    exact mv.heap b o (by rw [hz]; simp only [List.mem_cons, List.not_mem_nil, or_false, not_or]; exact ⟨Nat.ne_of_lt hb, Nat.ne_of_lt (Nat.lt_succ_of_lt hb)⟩) (Heap.get?_push_of_some _ (Heap.get?_push_of_some _ e))
theorem call_setL {E : Value → Shared → Prop} {s : Shared} {l : Addr} {items : Array Value} {val : Nat → κ} {Q : Value → Shared → Prop} (hh : A.handled = none) (hl : s.heap.IsList l items)
    (hv : ∀ (i : Nat) v, items[i]? = some v → knd.is (val i) v = true ∧ v.scannable = true) (hb : items.size + 1 < scanBound)
    (h : ∀ h' tk, h'.SetOf knd s.heap.objs.size (fun k => decide (k ∈ metK val items.size)) (metK val items.size).length → (∀ b o, s.heap.get? b = some o → h'.get? b = some o) → Q (.ref s.heap.objs.size) { s with heap := h', toks := tk }) :
    wpAny (model prog w) A (call (.type "set") [.ref l]) Q E s := by
  obtain ⟨c, tl, hmro⟩ := F.called_set.mro
  have hmade := F.called_set.made
  have hsub := F.called_set.sub
  have h1 := F.called_set.notType
  have h2 := F.called_set.canCreate
  have hct := F.typeCall_set_1 (.ref l)
  have hli := F.called_set.init.lookup
  refine wpAny_call (codeAny_of_tree (wpAny_pure (a := Fin.again (.builtin "type.__call__" ⟨[.type "set", .ref l], []⟩)) ⟨Code.quiet_builtin _ (by decide +kernel), codeAny_builtin F.entry_type_call ?_⟩))
  rw [Around.under_plain (weight_type_call_type "set" [.ref l] []) rfl]
  repeat (any_goals (first | assumption | wp_step))
  refine codeAny_mono (code_set_new_1 (.ref l) (E := E) (Q₁ := fun v s₁ => ∃ led, v = .ref s.heap.objs.size ∧ s₁ = { s with heap := s.heap.push (set0 led) }) fun led => ⟨led, rfl, rfl⟩) fun r s₁ hr => ?_
  match r, hr with
  | .error e, hr => exact hr
  | .ok (.ret v), ⟨led, e1, e2⟩ =>
    subst e1 e2
    have hS : (s.heap.push (set0 led)).get? s.heap.objs.size = some (set0 led) := Heap.get?_push_size _ rfl
    have hT : Shared.TypeIs { s with heap := s.heap.push (set0 led) } (.ref s.heap.objs.size) "set" := ⟨_, hS, rfl⟩
    have hbi := F.called_set.init.bind (.ref s.heap.objs.size)
    repeat (any_goals (first | assumption | wp_step))
    refine codeAny_mono (set_init (knd := knd) (val := val) (led := led) (E := E) (Q := fun v s₂ => v = .none ∧ ∃ h' tk, s₂ = { s with heap := h', toks := tk } ∧ h'.SetOf knd s.heap.objs.size (fun k => decide (k ∈ metK val items.size)) (metK val items.size).length ∧ ∀ b o, s.heap.get? b = some o → h'.get? b = some o) (by simp [hh]) hl hv hb fun h' tk a b => ⟨rfl, h', tk, rfl, a, b⟩) fun r₂ s₂ hr₂ => ?_
    match r₂, hr₂ with
    | .error e, hr₂ => exact hr₂
    | .ok (.ret v), ⟨e1, h', tk, e2, a, b⟩ =>
      subst e1 e2
      repeat (any_goals (first | assumption | wp_step))
      exact h _ _ a b
    | .ok .next, hr₂ => exact hr₂.elim
    | .ok .brk, hr₂ => exact hr₂.elim
    | .ok .cont, hr₂ => exact hr₂.elim
  | .ok .next, hr => exact hr.elim
  | .ok .brk, hr => exact hr.elim
  | .ok .cont, hr => exact hr.elim
end
end L2
namespace L2
open PySem PySem.Spec PySem.W PySem.Calls PyProof.Rows
def SetO (p : Addr) (n : Nat) : HO := .ext fun h => ∃ o es ep t, h.get? p = some o ∧ o.ExactSet ∧ o.data = .set es ep t ∧ t.fits es.size = true ∧ es.size = n
def dist (zs : List Str) : Nat := (metK (fun i => (Sum.inr ((zs[i]?).getD Str.empty) : Key)) zs.length).length
theorem dist_le (zs : List Str) : dist zs ≤ zs.length := metK_le _ _
def rSetOf (K : PySem.W.Frag) : List V → Hp → VK → Prop := fun xs H Q => ∃ (a : Addr) (zs : List Str), xs = [.ref a] ∧ SqL K H a (zs.map V.str) ∧ zs.length ≤ 1000 ∧ ∀ p, H p = none → Q (.ref p) (upd H p (SetO p (dist zs)))
def rLenS : List V → Hp → VK → Prop := fun xs H Q => ∃ (p : Addr) (n : Nat), xs = [.ref p] ∧ H p = some (SetO p n) ∧ n ≤ 1000 ∧ Q (.int n) H
theorem boot_setT : bootBuiltins "set" = some (.type "set") := by decide +kernel
section
variable {X : Cx}
theorem call_setOf (hc : X.calm = true) : CallR X (.type "set") (rSetOf X.K) := by
  intro pins s σ H xs us Q I r h
  obtain ⟨a, zs, rfl, ha, hl, q⟩ := h
  obtain ⟨u, rfl, ru⟩ := vals1 r
  cases ru
  obtain ⟨its, rv, p, hz⟩ := I.list ha
  have hsz : its.toArray.size = zs.length := by have := rv.length; simp at this ⊢; omega
  refine call_setL (knd := mixKind X.prog X.w) (val := fun i => Sum.inr ((zs[i]?).getD Str.empty)) (I.ok.hd hc) p.isList (fun i v e => ?_) ?_ fun h' tk hS hk => ?_
  · have e' : its[i]? = some v := by simpa using e
    have hi := (List.getElem?_eq_some_iff.mp e').1
    have hi2 : i < zs.length := by rw [← hsz]; simpa using hi
    obtain ⟨u, eu, ru⟩ := rv.get (i := i) (x := V.str zs[i]) (by rw [List.getElem?_map, List.getElem?_eq_getElem hi2]; rfl)
    rw [e'] at eu
    cases eu
    obtain ⟨t, rfl⟩ := ru
    rw [List.getElem?_eq_getElem hi2]
    exact ⟨mixKind_str _ _ _ _, rfl⟩
  · rw [hsz]; unfold scanBound; omega
  · rw [hsz] at hS
    obtain ⟨o, es, ep, t, ho, hex, hd, _, _, _, hf, hn⟩ := hS
    have I2 := I.laid (t' := tk) (a := s.heap.objs.size) (o := SetO s.heap.objs.size (dist zs)) (h' := h') hk (Nat.le_refl _)
      ⟨⟨o, es, ep, t, ho, hex, hd, hf, hn⟩, ⟨_, ho⟩, fun h1 h2 z k => let ⟨o, es, ep, t, ho, r⟩ := z; ⟨o, es, ep, t, k _ ho, r⟩⟩
    exact ⟨.ref _, _, I2, rfl, q _ (I.hok.fresh (Nat.le_refl _))⟩
theorem call_lenS : CallR X (.builtin "len") rLenS := by
  intro pins s σ H xs us Q I r h
  obtain ⟨p, n, rfl, hp, hn, q⟩ := h
  obtain ⟨u, rfl, ru⟩ := vals1 r
  cases ru
  obtain ⟨o, es, ep, t, ho, hex, hd, hf, rfl⟩ := (I.hok p _ hp).1
  exact call_len_set ho hex hd hf (by omega) ⟨.int _, H, I.tok _, ⟨_, rfl⟩, q⟩
end
end L2
namespace L2
open PySem PySem.Spec PySem.W PySem.Calls PyProof.Rows
def rNeT (K : PySem.W.Frag) : R2 := fun x y H Q => ∃ (a b : Addr) (zs ys : List Str), x = .ref a ∧ y = .ref b ∧ SqL K H a (zs.map V.str) ∧ SqL K H b (ys.map V.str) ∧ Q (.bl (decide (zs ≠ ys))) H
def rNeTH (K : PySem.W.Frag) : R2 := fun x y H Q => rNeH K x y H Q ∨ rNeT K x y H Q
theorem all_same {zs ys : List Str} (h : zs.length = ys.length) : ((List.range zs.length).all fun j => (zs[j]?).getD Str.empty == (ys[j]?).getD Str.empty) = decide (zs = ys) := by
  rw [Bool.eq_iff_iff, List.all_eq_true, decide_eq_true_eq]
  constructor
  · intro q
    refine List.ext_getElem h fun j h1 h2 => ?_
    have := q j (List.mem_range.mpr h1)
    rw [List.getElem?_eq_getElem h1, List.getElem?_eq_getElem h2] at this
    simpa using this
  · rintro rfl j _
    simp
section
variable {X : Cx}
theorem op_neT (hu : X.A.units + 64 < cLine) : OpR X (compareOp .NotEq) (rNeT X.K) := by
  intro pins s σ H x y v u Q I rx ry h
  obtain ⟨a, b, zs, ys, rfl, rfl, ha, hb, q⟩ := h
  cases rx; cases ry
  obtain ⟨its, rv, p, hz⟩ := I.list ha
  obtain ⟨its', rv', p', hz'⟩ := I.list hb
  have e1 : its.toArray.size = zs.length := by have := rv.length; simp at this ⊢; omega
  have e2 : its'.toArray.size = ys.length := by have := rv'.length; simp at this ⊢; omega
  by_cases hl : zs.length = ys.length
  · refine SeqAt.RcNeAt.lists (e := fun j => (zs[j]?).getD Str.empty == (ys[j]?).getD Str.empty) p.isList p'.isList (by rw [e1, e2, hl]) (by omega) (fun j h1 h2 => ?_) X.prog X.w _ _ ?_
    · have k1 : j < zs.length := by rw [← e1]; exact h1
      have k2 : j < ys.length := by rw [← e2]; exact h2
      obtain ⟨u1, g1, r1⟩ := rv.get (i := j) (x := V.str zs[j]) (by rw [List.getElem?_map, List.getElem?_eq_getElem k1]; rfl)
      obtain ⟨u2, g2, r2⟩ := rv'.get (i := j) (x := V.str ys[j]) (by rw [List.getElem?_map, List.getElem?_eq_getElem k2]; rfl)
      have q1 : its.toArray[j] = u1 := by have := (List.getElem?_eq_some_iff.mp g1).2; simpa using this
      have q2 : its'.toArray[j] = u2 := by have := (List.getElem?_eq_some_iff.mp g2).2; simpa using this
      obtain ⟨t1, rfl⟩ := r1
      obtain ⟨t2, rfl⟩ := r2
      rw [q1, q2, List.getElem?_eq_getElem k1, List.getElem?_eq_getElem k2]
      exact SeqAt.EqAt.str_str (A := X.A.in1) (s := s) zs[j] t1 ys[j] t2
    · rw [e1, all_same hl, ← decide_not]
      exact ⟨.bl _, H, I, rfl, q⟩
  · refine SeqAt.RcNeAt.lists_lengths p.isList p'.isList (by rw [e1, e2]; simpa using hl) (by omega) X.prog X.w _ _ ?_
    rw [show decide (zs ≠ ys) = true from decide_eq_true fun z => hl (by rw [z])] at q
    exact ⟨.bl true, H, I, rfl, q⟩
theorem op_neTH (hu : X.A.units + 64 < cLine) : OpR X (compareOp .NotEq) (rNeTH X.K) := (op_neH hu).or (op_neT hu)
end
end L2
namespace L2
open PySem
theorem vis0 {a b c : Prop} (h : a) : a ∨ b ∨ c := Or.inl h
theorem vis1 {a b c : Prop} (h : b) : a ∨ b ∨ c := Or.inr (Or.inl h)
theorem vis2 {a b c : Prop} (h : c) : a ∨ b ∨ c := Or.inr (Or.inr h)
end L2
namespace K14
open PySem L2 Tx
def top (i : Nat) : Stmt := PySem.Challenge.pw_mostwise_k14_beats_and_things.main.body.getD i (.Pass ⟨0, 0, 0, 0⟩)
abbrev s_c_NoRow_init : Stmt := inClass (top 2) 0
abbrev n_c_NoRow_init : List Str := ["self", "found"]
theorem sc_c_NoRow_init : FnScope n_c_NoRow_init ["self", "found"] (defScope s_c_NoRow_init) := ⟨rfl, rfl, rfl, by decide +kernel, rfl, by decide +kernel, by decide +kernel⟩
abbrev s_d_is_made_of : Stmt := top 8
abbrev n_d_is_made_of : List Str := ["thing", "signs", "most"]
theorem sc_d_is_made_of : FnScope n_d_is_made_of ["thing", "signs", "most"] (defScope s_d_is_made_of) := ⟨rfl, rfl, rfl, by decide +kernel, rfl, by decide +kernel, by decide +kernel⟩
abbrev s_d_is_name : Stmt := top 9
abbrev n_d_is_name : List Str := ["thing"]
theorem sc_d_is_name : FnScope n_d_is_name ["thing"] (defScope s_d_is_name) := ⟨rfl, rfl, rfl, by decide +kernel, rfl, by decide +kernel, by decide +kernel⟩
abbrev s_d_is_label : Stmt := top 10
abbrev n_d_is_label : List Str := ["thing"]
theorem sc_d_is_label : FnScope n_d_is_label ["thing"] (defScope s_d_is_label) := ⟨rfl, rfl, rfl, by decide +kernel, rfl, by decide +kernel, by decide +kernel⟩
abbrev s_d_words_of : Stmt := top 13
abbrev n_d_words_of : List Str := ["row"]
theorem sc_d_words_of : FnScope n_d_words_of ["row"] (defScope s_d_words_of) := ⟨rfl, rfl, rfl, by decide +kernel, rfl, by decide +kernel, by decide +kernel⟩
abbrev s_d_pair_of : Stmt := top 14
abbrev n_d_pair_of : List Str := ["row", "words"]
theorem sc_d_pair_of : FnScope n_d_pair_of ["row"] (defScope s_d_pair_of) := ⟨rfl, rfl, rfl, by decide +kernel, rfl, by decide +kernel, by decide +kernel⟩
abbrev s_d_things_of : Stmt := top 15
abbrev n_d_things_of : List Str := ["row", "words", "things"]
theorem sc_d_things_of : FnScope n_d_things_of ["row"] (defScope s_d_things_of) := ⟨rfl, rfl, rfl, by decide +kernel, rfl, by decide +kernel, by decide +kernel⟩
abbrev s_d_l_mix : Stmt := top 18
abbrev n_d_l_mix : List Str := ["_law_cell", "_law_k", "_law_m"]
theorem sc_d_l_mix : FnScope n_d_l_mix ["_law_cell", "_law_k"] (defScope s_d_l_mix) := ⟨rfl, rfl, rfl, by decide +kernel, rfl, by decide +kernel, by decide +kernel⟩
abbrev s_d_l_text : Stmt := top 19
abbrev n_d_l_text : List Str := ["_law_cell", "_law_signs", "_law_most", "_law_number", "_law_found", "_law_k"]
theorem sc_d_l_text : FnScope n_d_l_text ["_law_cell", "_law_signs", "_law_most"] (defScope s_d_l_text) := ⟨rfl, rfl, rfl, by decide +kernel, rfl, by decide +kernel, by decide +kernel⟩
abbrev s_d_l_name : Stmt := top 20
abbrev n_d_l_name : List Str := ["_law_cell"]
theorem sc_d_l_name : FnScope n_d_l_name ["_law_cell"] (defScope s_d_l_name) := ⟨rfl, rfl, rfl, by decide +kernel, rfl, by decide +kernel, by decide +kernel⟩
abbrev s_d_l_label : Stmt := top 21
abbrev n_d_l_label : List Str := ["_law_cell"]
theorem sc_d_l_label : FnScope n_d_l_label ["_law_cell"] (defScope s_d_l_label) := ⟨rfl, rfl, rfl, by decide +kernel, rfl, by decide +kernel, by decide +kernel⟩
abbrev s_d_l_row : Stmt := top 26
abbrev n_d_l_row : List Str := ["_law_cell", "_law_number", "_law_one", "_law_other", "_law_things_here"]
theorem sc_d_l_row : FnScope n_d_l_row ["_law_cell"] (defScope s_d_l_row) := ⟨rfl, rfl, rfl, by decide +kernel, rfl, by decide +kernel, by decide +kernel⟩
abbrev s_d_l_spoilt : Stmt := top 27
abbrev n_d_l_spoilt : List Str := ["_law_row_here", "_law_cell", "_law_signs", "_law_sign", "_law_at", "_law_way"]
theorem sc_d_l_spoilt : FnScope n_d_l_spoilt ["_law_row_here", "_law_cell"] (defScope s_d_l_spoilt) := ⟨rfl, rfl, rfl, by decide +kernel, rfl, by decide +kernel, by decide +kernel⟩
abbrev s_d_l_name_is : Stmt := top 28
abbrev n_d_l_name_is : List Str := ["_law_text_here", "_law_signs"]
theorem sc_d_l_name_is : FnScope n_d_l_name_is ["_law_text_here", "_law_signs"] (defScope s_d_l_name_is) := ⟨rfl, rfl, rfl, by decide +kernel, rfl, by decide +kernel, by decide +kernel⟩
abbrev s_d_l_pair : Stmt := top 29
abbrev n_d_l_pair : List Str := ["_law_row_here", "_law_signs", "_law_words"]
theorem sc_d_l_pair : FnScope n_d_l_pair ["_law_row_here"] (defScope s_d_l_pair) := ⟨rfl, rfl, rfl, by decide +kernel, rfl, by decide +kernel, by decide +kernel⟩
abbrev s_d_l_things : Stmt := top 30
abbrev n_d_l_things : List Str := ["_law_row_here", "_law_words"]
theorem sc_d_l_things : FnScope n_d_l_things ["_law_row_here"] (defScope s_d_l_things) := ⟨rfl, rfl, rfl, by decide +kernel, rfl, by decide +kernel, by decide +kernel⟩
abbrev s_d_l_refused : Stmt := top 31
abbrev n_d_l_refused : List Str := ["_law_row_here", "_law_beats", "_law_caught", "e"]
theorem sc_d_l_refused : FnScope n_d_l_refused ["_law_row_here", "_law_beats"] (defScope s_d_l_refused) := ⟨rfl, rfl, rfl, by decide +kernel, rfl, by decide +kernel, by decide +kernel⟩
abbrev s_d_l_right : Stmt := top 32
abbrev n_d_l_right : List Str := ["_law_row_here", "_law_pair_here", "_law_found", "_law_things_here"]
theorem sc_d_l_right : FnScope n_d_l_right ["_law_row_here"] (defScope s_d_l_right) := ⟨rfl, rfl, rfl, by decide +kernel, rfl, by decide +kernel, by decide +kernel⟩
abbrev s_d_law : Stmt := top 33
abbrev n_d_law : List Str := ["_law_script", "_law_cell", "_law_row_here"]
theorem sc_d_law : FnScope n_d_law ["_law_script"] (defScope s_d_law) := ⟨rfl, rfl, rfl, by decide +kernel, rfl, by decide +kernel, by decide +kernel⟩
structure Adr where
  f_c_NoRow_init : Addr
  fd_c_NoRow_init : FuncData
  f_d_is_made_of : Addr
  fd_d_is_made_of : FuncData
  f_d_is_name : Addr
  fd_d_is_name : FuncData
  f_d_is_label : Addr
  fd_d_is_label : FuncData
  f_d_words_of : Addr
  fd_d_words_of : FuncData
  f_d_pair_of : Addr
  fd_d_pair_of : FuncData
  f_d_things_of : Addr
  fd_d_things_of : FuncData
  f_d_l_mix : Addr
  fd_d_l_mix : FuncData
  f_d_l_text : Addr
  fd_d_l_text : FuncData
  f_d_l_name : Addr
  fd_d_l_name : FuncData
  f_d_l_label : Addr
  fd_d_l_label : FuncData
  f_d_l_row : Addr
  fd_d_l_row : FuncData
  f_d_l_spoilt : Addr
  fd_d_l_spoilt : FuncData
  f_d_l_name_is : Addr
  fd_d_l_name_is : FuncData
  f_d_l_pair : Addr
  fd_d_l_pair : FuncData
  f_d_l_things : Addr
  fd_d_l_things : FuncData
  f_d_l_refused : Addr
  fd_d_l_refused : FuncData
  f_d_l_right : Addr
  fd_d_l_right : FuncData
  f_d_law : Addr
  fd_d_law : FuncData
  C_MostError : Addr
  C_NoRow : Addr
  C_NoThing : Addr
structure Txt (K : PySem.W.Frag) (mg : Str → Option Value) (t : Adr) : Prop where
  F_c_NoRow_init : Fun K "__init__" "NoRow.__init__" s_c_NoRow_init t.f_c_NoRow_init t.fd_c_NoRow_init
  b_c_NoRow_init : Binds K t.fd_c_NoRow_init ["self", "found"] []
  F_d_is_made_of : Fun K "is_made_of" "is_made_of" s_d_is_made_of t.f_d_is_made_of t.fd_d_is_made_of
  b_d_is_made_of : Binds K t.fd_d_is_made_of ["thing", "signs", "most"] []
  g_d_is_made_of : mg "is_made_of" = some (.ref t.f_d_is_made_of)
  F_d_is_name : Fun K "is_name" "is_name" s_d_is_name t.f_d_is_name t.fd_d_is_name
  b_d_is_name : Binds K t.fd_d_is_name ["thing"] []
  g_d_is_name : mg "is_name" = some (.ref t.f_d_is_name)
  F_d_is_label : Fun K "is_label" "is_label" s_d_is_label t.f_d_is_label t.fd_d_is_label
  b_d_is_label : Binds K t.fd_d_is_label ["thing"] []
  g_d_is_label : mg "is_label" = some (.ref t.f_d_is_label)
  F_d_words_of : Fun K "words_of" "words_of" s_d_words_of t.f_d_words_of t.fd_d_words_of
  b_d_words_of : Binds K t.fd_d_words_of ["row"] []
  g_d_words_of : mg "words_of" = some (.ref t.f_d_words_of)
  F_d_pair_of : Fun K "pair_of" "pair_of" s_d_pair_of t.f_d_pair_of t.fd_d_pair_of
  b_d_pair_of : Binds K t.fd_d_pair_of ["row"] []
  g_d_pair_of : mg "pair_of" = some (.ref t.f_d_pair_of)
  F_d_things_of : Fun K "things_of" "things_of" s_d_things_of t.f_d_things_of t.fd_d_things_of
  b_d_things_of : Binds K t.fd_d_things_of ["row"] []
  g_d_things_of : mg "things_of" = some (.ref t.f_d_things_of)
  F_d_l_mix : Fun K "_law_mix" "_law_mix" s_d_l_mix t.f_d_l_mix t.fd_d_l_mix
  b_d_l_mix : Binds K t.fd_d_l_mix ["_law_cell", "_law_k"] []
  g_d_l_mix : mg "_law_mix" = some (.ref t.f_d_l_mix)
  F_d_l_text : Fun K "_law_text" "_law_text" s_d_l_text t.f_d_l_text t.fd_d_l_text
  b_d_l_text : Binds K t.fd_d_l_text ["_law_cell", "_law_signs", "_law_most"] []
  g_d_l_text : mg "_law_text" = some (.ref t.f_d_l_text)
  F_d_l_name : Fun K "_law_name" "_law_name" s_d_l_name t.f_d_l_name t.fd_d_l_name
  b_d_l_name : Binds K t.fd_d_l_name ["_law_cell"] []
  g_d_l_name : mg "_law_name" = some (.ref t.f_d_l_name)
  F_d_l_label : Fun K "_law_label" "_law_label" s_d_l_label t.f_d_l_label t.fd_d_l_label
  b_d_l_label : Binds K t.fd_d_l_label ["_law_cell"] []
  g_d_l_label : mg "_law_label" = some (.ref t.f_d_l_label)
  F_d_l_row : Fun K "_law_row" "_law_row" s_d_l_row t.f_d_l_row t.fd_d_l_row
  b_d_l_row : Binds K t.fd_d_l_row ["_law_cell"] []
  g_d_l_row : mg "_law_row" = some (.ref t.f_d_l_row)
  F_d_l_spoilt : Fun K "_law_spoilt" "_law_spoilt" s_d_l_spoilt t.f_d_l_spoilt t.fd_d_l_spoilt
  b_d_l_spoilt : Binds K t.fd_d_l_spoilt ["_law_row_here", "_law_cell"] []
  g_d_l_spoilt : mg "_law_spoilt" = some (.ref t.f_d_l_spoilt)
  F_d_l_name_is : Fun K "_law_name_is" "_law_name_is" s_d_l_name_is t.f_d_l_name_is t.fd_d_l_name_is
  b_d_l_name_is : Binds K t.fd_d_l_name_is ["_law_text_here", "_law_signs"] []
  g_d_l_name_is : mg "_law_name_is" = some (.ref t.f_d_l_name_is)
  F_d_l_pair : Fun K "_law_pair" "_law_pair" s_d_l_pair t.f_d_l_pair t.fd_d_l_pair
  b_d_l_pair : Binds K t.fd_d_l_pair ["_law_row_here"] []
  g_d_l_pair : mg "_law_pair" = some (.ref t.f_d_l_pair)
  F_d_l_things : Fun K "_law_things" "_law_things" s_d_l_things t.f_d_l_things t.fd_d_l_things
  b_d_l_things : Binds K t.fd_d_l_things ["_law_row_here"] []
  g_d_l_things : mg "_law_things" = some (.ref t.f_d_l_things)
  F_d_l_refused : Fun K "_law_refused" "_law_refused" s_d_l_refused t.f_d_l_refused t.fd_d_l_refused
  b_d_l_refused : Binds K t.fd_d_l_refused ["_law_row_here", "_law_beats"] []
  g_d_l_refused : mg "_law_refused" = some (.ref t.f_d_l_refused)
  F_d_l_right : Fun K "_law_right" "_law_right" s_d_l_right t.f_d_l_right t.fd_d_l_right
  b_d_l_right : Binds K t.fd_d_l_right ["_law_row_here"] []
  g_d_l_right : mg "_law_right" = some (.ref t.f_d_l_right)
  F_d_law : Fun K "law" "law" s_d_law t.f_d_law t.fd_d_law
  b_d_law : Binds K t.fd_d_law ["_law_script"] []
  g_d_law : mg "law" = some (.ref t.f_d_law)
  k_SMALL : ∃ u, mg "SMALL" = some (.str "abcdefghijklmnopqrstuvwxyz" u)
  k_SMALL_OR_FIGURE : ∃ u, mg "SMALL_OR_FIGURE" = some (.str "abcdefghijklmnopqrstuvwxyz0123456789" u)
  k_LONGEST : ∃ u, mg "LONGEST" = some (.int 8 u)
  k_MOST_THINGS : ∃ u, mg "MOST_THINGS" = some (.int 8 u)
  g_MostError : mg "MostError" = some (.ref t.C_MostError)
  g_NoRow : mg "NoRow" = some (.ref t.C_NoRow)
  g_NoThing : mg "NoThing" = some (.ref t.C_NoThing)
  z_ValueError : mg "ValueError" = none
  z_all : mg "all" = none
  z_isinstance : mg "isinstance" = none
  z_len : mg "len" = none
  z_list : mg "list" = none
  z_range : mg "range" = none
  z_set : mg "set" = none
  z_str : mg "str" = none
  z_tuple : mg "tuple" = none
  x_NoRow : XOk K t.C_NoRow t.f_c_NoRow_init "found"
  xc_MostError : XCls K t.C_MostError
  xm_NoRow_MostError : PySem.W.mroIn K t.C_NoRow (.ref t.C_MostError) = some true
  xt_up : kiTab K [t.C_NoRow] [.ref t.C_NoRow, .type "ValueError"] (fun _ _ => true)
  xt_no : kiTab K [t.C_NoRow] [.ref t.C_NoThing] (fun _ _ => false)
theorem txt_mk {K : PySem.W.Frag} {h : Heap} {mg : Str → Option Value} (X : K.In h) (G : h.Ns mainGlobals mg)
 {f_c_NoRow_init : Addr} {od_c_NoRow_init an_c_NoRow_init : Option Addr} {sl_c_NoRow_init : Array (Option Value)} {oc_c_NoRow_init kV_c_NoRow_init dc_c_NoRow_init pm_c_NoRow_init cd_c_NoRow_init ct_c_NoRow_init : Value}
 {f_d_is_made_of : Addr} {od_d_is_made_of an_d_is_made_of : Option Addr} {sl_d_is_made_of : Array (Option Value)} {oc_d_is_made_of kV_d_is_made_of dc_d_is_made_of pm_d_is_made_of cd_d_is_made_of ct_d_is_made_of : Value}
 {f_d_is_name : Addr} {od_d_is_name an_d_is_name : Option Addr} {sl_d_is_name : Array (Option Value)} {oc_d_is_name kV_d_is_name dc_d_is_name pm_d_is_name cd_d_is_name ct_d_is_name : Value}
 {f_d_is_label : Addr} {od_d_is_label an_d_is_label : Option Addr} {sl_d_is_label : Array (Option Value)} {oc_d_is_label kV_d_is_label dc_d_is_label pm_d_is_label cd_d_is_label ct_d_is_label : Value}
 {f_d_words_of : Addr} {od_d_words_of an_d_words_of : Option Addr} {sl_d_words_of : Array (Option Value)} {oc_d_words_of kV_d_words_of dc_d_words_of pm_d_words_of cd_d_words_of ct_d_words_of : Value}
 {f_d_pair_of : Addr} {od_d_pair_of an_d_pair_of : Option Addr} {sl_d_pair_of : Array (Option Value)} {oc_d_pair_of kV_d_pair_of dc_d_pair_of pm_d_pair_of cd_d_pair_of ct_d_pair_of : Value}
 {f_d_things_of : Addr} {od_d_things_of an_d_things_of : Option Addr} {sl_d_things_of : Array (Option Value)} {oc_d_things_of kV_d_things_of dc_d_things_of pm_d_things_of cd_d_things_of ct_d_things_of : Value}
 {f_d_l_mix : Addr} {od_d_l_mix an_d_l_mix : Option Addr} {sl_d_l_mix : Array (Option Value)} {oc_d_l_mix kV_d_l_mix dc_d_l_mix pm_d_l_mix cd_d_l_mix ct_d_l_mix : Value}
 {f_d_l_text : Addr} {od_d_l_text an_d_l_text : Option Addr} {sl_d_l_text : Array (Option Value)} {oc_d_l_text kV_d_l_text dc_d_l_text pm_d_l_text cd_d_l_text ct_d_l_text : Value}
 {f_d_l_name : Addr} {od_d_l_name an_d_l_name : Option Addr} {sl_d_l_name : Array (Option Value)} {oc_d_l_name kV_d_l_name dc_d_l_name pm_d_l_name cd_d_l_name ct_d_l_name : Value}
 {f_d_l_label : Addr} {od_d_l_label an_d_l_label : Option Addr} {sl_d_l_label : Array (Option Value)} {oc_d_l_label kV_d_l_label dc_d_l_label pm_d_l_label cd_d_l_label ct_d_l_label : Value}
 {f_d_l_row : Addr} {od_d_l_row an_d_l_row : Option Addr} {sl_d_l_row : Array (Option Value)} {oc_d_l_row kV_d_l_row dc_d_l_row pm_d_l_row cd_d_l_row ct_d_l_row : Value}
 {f_d_l_spoilt : Addr} {od_d_l_spoilt an_d_l_spoilt : Option Addr} {sl_d_l_spoilt : Array (Option Value)} {oc_d_l_spoilt kV_d_l_spoilt dc_d_l_spoilt pm_d_l_spoilt cd_d_l_spoilt ct_d_l_spoilt : Value}
 {f_d_l_name_is : Addr} {od_d_l_name_is an_d_l_name_is : Option Addr} {sl_d_l_name_is : Array (Option Value)} {oc_d_l_name_is kV_d_l_name_is dc_d_l_name_is pm_d_l_name_is cd_d_l_name_is ct_d_l_name_is : Value}
 {f_d_l_pair : Addr} {od_d_l_pair an_d_l_pair : Option Addr} {sl_d_l_pair : Array (Option Value)} {oc_d_l_pair kV_d_l_pair dc_d_l_pair pm_d_l_pair cd_d_l_pair ct_d_l_pair : Value}
 {f_d_l_things : Addr} {od_d_l_things an_d_l_things : Option Addr} {sl_d_l_things : Array (Option Value)} {oc_d_l_things kV_d_l_things dc_d_l_things pm_d_l_things cd_d_l_things ct_d_l_things : Value}
 {f_d_l_refused : Addr} {od_d_l_refused an_d_l_refused : Option Addr} {sl_d_l_refused : Array (Option Value)} {oc_d_l_refused kV_d_l_refused dc_d_l_refused pm_d_l_refused cd_d_l_refused ct_d_l_refused : Value}
 {f_d_l_right : Addr} {od_d_l_right an_d_l_right : Option Addr} {sl_d_l_right : Array (Option Value)} {oc_d_l_right kV_d_l_right dc_d_l_right pm_d_l_right cd_d_l_right ct_d_l_right : Value}
 {f_d_law : Addr} {od_d_law an_d_law : Option Addr} {sl_d_law : Array (Option Value)} {oc_d_law kV_d_law dc_d_law pm_d_law cd_d_law ct_d_law : Value}
 {C_MostError : Addr}
 {C_NoRow : Addr}
 {C_NoThing : Addr}
 {u_SMALL : Tok}
 {u_SMALL_OR_FIGURE : Tok}
 {u_LONGEST : Tok}
 {u_MOST_THINGS : Tok}
 (a_MostError : PySem.W.nsIn K mainGlobals "MostError" = some (some (.ref C_MostError)))
 (a_NoRow : PySem.W.nsIn K mainGlobals "NoRow" = some (some (.ref C_NoRow)))
 (a_NoThing : PySem.W.nsIn K mainGlobals "NoThing" = some (some (.ref C_NoThing)))
 (a_c_NoRow_init : PySem.W.findIn K (.ref C_NoRow) "__init__" = some (some (.ref f_c_NoRow_init)))
 (l_c_NoRow_init : K.lookup f_c_NoRow_init = some ⟨oc_c_NoRow_init, od_c_NoRow_init, .func (PySem.W.fnOf "__init__" "NoRow.__init__" (defArgs s_c_NoRow_init) (defBody s_c_NoRow_init) (defScope s_c_NoRow_init) .none kV_c_NoRow_init dc_c_NoRow_init pm_c_NoRow_init an_c_NoRow_init cd_c_NoRow_init ct_c_NoRow_init), sl_c_NoRow_init⟩)
 (c_c_NoRow_init : PySem.W.codeIn K cd_c_NoRow_init "NoRow.__init__" = true) (p_c_NoRow_init : PySem.W.keepIn K (.ref f_c_NoRow_init) = true)
 (a_d_is_made_of : PySem.W.nsIn K mainGlobals "is_made_of" = some (some (.ref f_d_is_made_of)))
 (l_d_is_made_of : K.lookup f_d_is_made_of = some ⟨oc_d_is_made_of, od_d_is_made_of, .func (PySem.W.fnOf "is_made_of" "is_made_of" (defArgs s_d_is_made_of) (defBody s_d_is_made_of) (defScope s_d_is_made_of) .none kV_d_is_made_of dc_d_is_made_of pm_d_is_made_of an_d_is_made_of cd_d_is_made_of ct_d_is_made_of), sl_d_is_made_of⟩)
 (c_d_is_made_of : PySem.W.codeIn K cd_d_is_made_of "is_made_of" = true) (p_d_is_made_of : PySem.W.keepIn K (.ref f_d_is_made_of) = true)
 (a_d_is_name : PySem.W.nsIn K mainGlobals "is_name" = some (some (.ref f_d_is_name)))
 (l_d_is_name : K.lookup f_d_is_name = some ⟨oc_d_is_name, od_d_is_name, .func (PySem.W.fnOf "is_name" "is_name" (defArgs s_d_is_name) (defBody s_d_is_name) (defScope s_d_is_name) .none kV_d_is_name dc_d_is_name pm_d_is_name an_d_is_name cd_d_is_name ct_d_is_name), sl_d_is_name⟩)
 (c_d_is_name : PySem.W.codeIn K cd_d_is_name "is_name" = true) (p_d_is_name : PySem.W.keepIn K (.ref f_d_is_name) = true)
 (a_d_is_label : PySem.W.nsIn K mainGlobals "is_label" = some (some (.ref f_d_is_label)))
 (l_d_is_label : K.lookup f_d_is_label = some ⟨oc_d_is_label, od_d_is_label, .func (PySem.W.fnOf "is_label" "is_label" (defArgs s_d_is_label) (defBody s_d_is_label) (defScope s_d_is_label) .none kV_d_is_label dc_d_is_label pm_d_is_label an_d_is_label cd_d_is_label ct_d_is_label), sl_d_is_label⟩)
 (c_d_is_label : PySem.W.codeIn K cd_d_is_label "is_label" = true) (p_d_is_label : PySem.W.keepIn K (.ref f_d_is_label) = true)
 (a_d_words_of : PySem.W.nsIn K mainGlobals "words_of" = some (some (.ref f_d_words_of)))
 (l_d_words_of : K.lookup f_d_words_of = some ⟨oc_d_words_of, od_d_words_of, .func (PySem.W.fnOf "words_of" "words_of" (defArgs s_d_words_of) (defBody s_d_words_of) (defScope s_d_words_of) .none kV_d_words_of dc_d_words_of pm_d_words_of an_d_words_of cd_d_words_of ct_d_words_of), sl_d_words_of⟩)
 (c_d_words_of : PySem.W.codeIn K cd_d_words_of "words_of" = true) (p_d_words_of : PySem.W.keepIn K (.ref f_d_words_of) = true)
 (a_d_pair_of : PySem.W.nsIn K mainGlobals "pair_of" = some (some (.ref f_d_pair_of)))
 (l_d_pair_of : K.lookup f_d_pair_of = some ⟨oc_d_pair_of, od_d_pair_of, .func (PySem.W.fnOf "pair_of" "pair_of" (defArgs s_d_pair_of) (defBody s_d_pair_of) (defScope s_d_pair_of) .none kV_d_pair_of dc_d_pair_of pm_d_pair_of an_d_pair_of cd_d_pair_of ct_d_pair_of), sl_d_pair_of⟩)
 (c_d_pair_of : PySem.W.codeIn K cd_d_pair_of "pair_of" = true) (p_d_pair_of : PySem.W.keepIn K (.ref f_d_pair_of) = true)
 (a_d_things_of : PySem.W.nsIn K mainGlobals "things_of" = some (some (.ref f_d_things_of)))
 (l_d_things_of : K.lookup f_d_things_of = some ⟨oc_d_things_of, od_d_things_of, .func (PySem.W.fnOf "things_of" "things_of" (defArgs s_d_things_of) (defBody s_d_things_of) (defScope s_d_things_of) .none kV_d_things_of dc_d_things_of pm_d_things_of an_d_things_of cd_d_things_of ct_d_things_of), sl_d_things_of⟩)
 (c_d_things_of : PySem.W.codeIn K cd_d_things_of "things_of" = true) (p_d_things_of : PySem.W.keepIn K (.ref f_d_things_of) = true)
 (a_d_l_mix : PySem.W.nsIn K mainGlobals "_law_mix" = some (some (.ref f_d_l_mix)))
 (l_d_l_mix : K.lookup f_d_l_mix = some ⟨oc_d_l_mix, od_d_l_mix, .func (PySem.W.fnOf "_law_mix" "_law_mix" (defArgs s_d_l_mix) (defBody s_d_l_mix) (defScope s_d_l_mix) .none kV_d_l_mix dc_d_l_mix pm_d_l_mix an_d_l_mix cd_d_l_mix ct_d_l_mix), sl_d_l_mix⟩)
 (c_d_l_mix : PySem.W.codeIn K cd_d_l_mix "_law_mix" = true) (p_d_l_mix : PySem.W.keepIn K (.ref f_d_l_mix) = true)
 (a_d_l_text : PySem.W.nsIn K mainGlobals "_law_text" = some (some (.ref f_d_l_text)))
 (l_d_l_text : K.lookup f_d_l_text = some ⟨oc_d_l_text, od_d_l_text, .func (PySem.W.fnOf "_law_text" "_law_text" (defArgs s_d_l_text) (defBody s_d_l_text) (defScope s_d_l_text) .none kV_d_l_text dc_d_l_text pm_d_l_text an_d_l_text cd_d_l_text ct_d_l_text), sl_d_l_text⟩)
 (c_d_l_text : PySem.W.codeIn K cd_d_l_text "_law_text" = true) (p_d_l_text : PySem.W.keepIn K (.ref f_d_l_text) = true)
 (a_d_l_name : PySem.W.nsIn K mainGlobals "_law_name" = some (some (.ref f_d_l_name)))
 (l_d_l_name : K.lookup f_d_l_name = some ⟨oc_d_l_name, od_d_l_name, .func (PySem.W.fnOf "_law_name" "_law_name" (defArgs s_d_l_name) (defBody s_d_l_name) (defScope s_d_l_name) .none kV_d_l_name dc_d_l_name pm_d_l_name an_d_l_name cd_d_l_name ct_d_l_name), sl_d_l_name⟩)
 (c_d_l_name : PySem.W.codeIn K cd_d_l_name "_law_name" = true) (p_d_l_name : PySem.W.keepIn K (.ref f_d_l_name) = true)
 (a_d_l_label : PySem.W.nsIn K mainGlobals "_law_label" = some (some (.ref f_d_l_label)))
 (l_d_l_label : K.lookup f_d_l_label = some ⟨oc_d_l_label, od_d_l_label, .func (PySem.W.fnOf "_law_label" "_law_label" (defArgs s_d_l_label) (defBody s_d_l_label) (defScope s_d_l_label) .none kV_d_l_label dc_d_l_label pm_d_l_label an_d_l_label cd_d_l_label ct_d_l_label), sl_d_l_label⟩)
 (c_d_l_label : PySem.W.codeIn K cd_d_l_label "_law_label" = true) (p_d_l_label : PySem.W.keepIn K (.ref f_d_l_label) = true)
 (a_d_l_row : PySem.W.nsIn K mainGlobals "_law_row" = some (some (.ref f_d_l_row)))
 (l_d_l_row : K.lookup f_d_l_row = some ⟨oc_d_l_row, od_d_l_row, .func (PySem.W.fnOf "_law_row" "_law_row" (defArgs s_d_l_row) (defBody s_d_l_row) (defScope s_d_l_row) .none kV_d_l_row dc_d_l_row pm_d_l_row an_d_l_row cd_d_l_row ct_d_l_row), sl_d_l_row⟩)
 (c_d_l_row : PySem.W.codeIn K cd_d_l_row "_law_row" = true) (p_d_l_row : PySem.W.keepIn K (.ref f_d_l_row) = true)
 (a_d_l_spoilt : PySem.W.nsIn K mainGlobals "_law_spoilt" = some (some (.ref f_d_l_spoilt)))
 (l_d_l_spoilt : K.lookup f_d_l_spoilt = some ⟨oc_d_l_spoilt, od_d_l_spoilt, .func (PySem.W.fnOf "_law_spoilt" "_law_spoilt" (defArgs s_d_l_spoilt) (defBody s_d_l_spoilt) (defScope s_d_l_spoilt) .none kV_d_l_spoilt dc_d_l_spoilt pm_d_l_spoilt an_d_l_spoilt cd_d_l_spoilt ct_d_l_spoilt), sl_d_l_spoilt⟩)
 (c_d_l_spoilt : PySem.W.codeIn K cd_d_l_spoilt "_law_spoilt" = true) (p_d_l_spoilt : PySem.W.keepIn K (.ref f_d_l_spoilt) = true)
 (a_d_l_name_is : PySem.W.nsIn K mainGlobals "_law_name_is" = some (some (.ref f_d_l_name_is)))
 (l_d_l_name_is : K.lookup f_d_l_name_is = some ⟨oc_d_l_name_is, od_d_l_name_is, .func (PySem.W.fnOf "_law_name_is" "_law_name_is" (defArgs s_d_l_name_is) (defBody s_d_l_name_is) (defScope s_d_l_name_is) .none kV_d_l_name_is dc_d_l_name_is pm_d_l_name_is an_d_l_name_is cd_d_l_name_is ct_d_l_name_is), sl_d_l_name_is⟩)
 (c_d_l_name_is : PySem.W.codeIn K cd_d_l_name_is "_law_name_is" = true) (p_d_l_name_is : PySem.W.keepIn K (.ref f_d_l_name_is) = true)
 (a_d_l_pair : PySem.W.nsIn K mainGlobals "_law_pair" = some (some (.ref f_d_l_pair)))
 (l_d_l_pair : K.lookup f_d_l_pair = some ⟨oc_d_l_pair, od_d_l_pair, .func (PySem.W.fnOf "_law_pair" "_law_pair" (defArgs s_d_l_pair) (defBody s_d_l_pair) (defScope s_d_l_pair) .none kV_d_l_pair dc_d_l_pair pm_d_l_pair an_d_l_pair cd_d_l_pair ct_d_l_pair), sl_d_l_pair⟩)
 (c_d_l_pair : PySem.W.codeIn K cd_d_l_pair "_law_pair" = true) (p_d_l_pair : PySem.W.keepIn K (.ref f_d_l_pair) = true)
 (a_d_l_things : PySem.W.nsIn K mainGlobals "_law_things" = some (some (.ref f_d_l_things)))
 (l_d_l_things : K.lookup f_d_l_things = some ⟨oc_d_l_things, od_d_l_things, .func (PySem.W.fnOf "_law_things" "_law_things" (defArgs s_d_l_things) (defBody s_d_l_things) (defScope s_d_l_things) .none kV_d_l_things dc_d_l_things pm_d_l_things an_d_l_things cd_d_l_things ct_d_l_things), sl_d_l_things⟩)
 (c_d_l_things : PySem.W.codeIn K cd_d_l_things "_law_things" = true) (p_d_l_things : PySem.W.keepIn K (.ref f_d_l_things) = true)
 (a_d_l_refused : PySem.W.nsIn K mainGlobals "_law_refused" = some (some (.ref f_d_l_refused)))
 (l_d_l_refused : K.lookup f_d_l_refused = some ⟨oc_d_l_refused, od_d_l_refused, .func (PySem.W.fnOf "_law_refused" "_law_refused" (defArgs s_d_l_refused) (defBody s_d_l_refused) (defScope s_d_l_refused) .none kV_d_l_refused dc_d_l_refused pm_d_l_refused an_d_l_refused cd_d_l_refused ct_d_l_refused), sl_d_l_refused⟩)
 (c_d_l_refused : PySem.W.codeIn K cd_d_l_refused "_law_refused" = true) (p_d_l_refused : PySem.W.keepIn K (.ref f_d_l_refused) = true)
 (a_d_l_right : PySem.W.nsIn K mainGlobals "_law_right" = some (some (.ref f_d_l_right)))
 (l_d_l_right : K.lookup f_d_l_right = some ⟨oc_d_l_right, od_d_l_right, .func (PySem.W.fnOf "_law_right" "_law_right" (defArgs s_d_l_right) (defBody s_d_l_right) (defScope s_d_l_right) .none kV_d_l_right dc_d_l_right pm_d_l_right an_d_l_right cd_d_l_right ct_d_l_right), sl_d_l_right⟩)
 (c_d_l_right : PySem.W.codeIn K cd_d_l_right "_law_right" = true) (p_d_l_right : PySem.W.keepIn K (.ref f_d_l_right) = true)
 (a_d_law : PySem.W.nsIn K mainGlobals "law" = some (some (.ref f_d_law)))
 (l_d_law : K.lookup f_d_law = some ⟨oc_d_law, od_d_law, .func (PySem.W.fnOf "law" "law" (defArgs s_d_law) (defBody s_d_law) (defScope s_d_law) .none kV_d_law dc_d_law pm_d_law an_d_law cd_d_law ct_d_law), sl_d_law⟩)
 (c_d_law : PySem.W.codeIn K cd_d_law "law" = true) (p_d_law : PySem.W.keepIn K (.ref f_d_law) = true)
 (k_SMALL : PySem.W.nsIn K mainGlobals "SMALL" = some (some (.str "abcdefghijklmnopqrstuvwxyz" u_SMALL)))
 (k_SMALL_OR_FIGURE : PySem.W.nsIn K mainGlobals "SMALL_OR_FIGURE" = some (some (.str "abcdefghijklmnopqrstuvwxyz0123456789" u_SMALL_OR_FIGURE)))
 (k_LONGEST : PySem.W.nsIn K mainGlobals "LONGEST" = some (some (.int 8 u_LONGEST)))
 (k_MOST_THINGS : PySem.W.nsIn K mainGlobals "MOST_THINGS" = some (some (.int 8 u_MOST_THINGS)))
 (z_ValueError : PySem.W.nsIn K mainGlobals "ValueError" = some none)
 (z_all : PySem.W.nsIn K mainGlobals "all" = some none)
 (z_isinstance : PySem.W.nsIn K mainGlobals "isinstance" = some none)
 (z_len : PySem.W.nsIn K mainGlobals "len" = some none)
 (z_list : PySem.W.nsIn K mainGlobals "list" = some none)
 (z_range : PySem.W.nsIn K mainGlobals "range" = some none)
 (z_set : PySem.W.nsIn K mainGlobals "set" = some none)
 (z_str : PySem.W.nsIn K mainGlobals "str" = some none)
 (z_tuple : PySem.W.nsIn K mainGlobals "tuple" = some none)
 (x_NoRow : xokIn K C_NoRow f_c_NoRow_init "found" = true)
 (xc_MostError : xclsIn K C_MostError = true)
 (xm_NoRow_MostError : PySem.W.mroIn K C_NoRow (.ref C_MostError) = some true)
 (xt_up : kiTabIn K [C_NoRow] [.ref C_NoRow, .type "ValueError"] (fun _ _ => true) = true)
 (xt_no : kiTabIn K [C_NoRow] [.ref C_NoThing] (fun _ _ => false) = true)
 : ∃ t : Adr, t.f_d_law = f_d_law ∧ t.fd_d_law = PySem.W.fnOf "law" "law" (defArgs s_d_law) (defBody s_d_law) (defScope s_d_law) .none kV_d_law dc_d_law pm_d_law an_d_law cd_d_law ct_d_law ∧ Txt K mg t := by
  refine ⟨⟨f_c_NoRow_init, PySem.W.fnOf "__init__" "NoRow.__init__" (defArgs s_c_NoRow_init) (defBody s_c_NoRow_init) (defScope s_c_NoRow_init) .none kV_c_NoRow_init dc_c_NoRow_init pm_c_NoRow_init an_c_NoRow_init cd_c_NoRow_init ct_c_NoRow_init, f_d_is_made_of, PySem.W.fnOf "is_made_of" "is_made_of" (defArgs s_d_is_made_of) (defBody s_d_is_made_of) (defScope s_d_is_made_of) .none kV_d_is_made_of dc_d_is_made_of pm_d_is_made_of an_d_is_made_of cd_d_is_made_of ct_d_is_made_of, f_d_is_name, PySem.W.fnOf "is_name" "is_name" (defArgs s_d_is_name) (defBody s_d_is_name) (defScope s_d_is_name) .none kV_d_is_name dc_d_is_name pm_d_is_name an_d_is_name cd_d_is_name ct_d_is_name, f_d_is_label, PySem.W.fnOf "is_label" "is_label" (defArgs s_d_is_label) (defBody s_d_is_label) (defScope s_d_is_label) .none kV_d_is_label dc_d_is_label pm_d_is_label an_d_is_label cd_d_is_label ct_d_is_label, f_d_words_of, PySem.W.fnOf "words_of" "words_of" (defArgs s_d_words_of) (defBody s_d_words_of) (defScope s_d_words_of) .none kV_d_words_of dc_d_words_of pm_d_words_of an_d_words_of cd_d_words_of ct_d_words_of, f_d_pair_of, PySem.W.fnOf "pair_of" "pair_of" (defArgs s_d_pair_of) (defBody s_d_pair_of) (defScope s_d_pair_of) .none kV_d_pair_of dc_d_pair_of pm_d_pair_of an_d_pair_of cd_d_pair_of ct_d_pair_of, f_d_things_of, PySem.W.fnOf "things_of" "things_of" (defArgs s_d_things_of) (defBody s_d_things_of) (defScope s_d_things_of) .none kV_d_things_of dc_d_things_of pm_d_things_of an_d_things_of cd_d_things_of ct_d_things_of, f_d_l_mix, PySem.W.fnOf "_law_mix" "_law_mix" (defArgs s_d_l_mix) (defBody s_d_l_mix) (defScope s_d_l_mix) .none kV_d_l_mix dc_d_l_mix pm_d_l_mix an_d_l_mix cd_d_l_mix ct_d_l_mix, f_d_l_text, PySem.W.fnOf "_law_text" "_law_text" (defArgs s_d_l_text) (defBody s_d_l_text) (defScope s_d_l_text) .none kV_d_l_text dc_d_l_text pm_d_l_text an_d_l_text cd_d_l_text ct_d_l_text, f_d_l_name, PySem.W.fnOf "_law_name" "_law_name" (defArgs s_d_l_name) (defBody s_d_l_name) (defScope s_d_l_name) .none kV_d_l_name dc_d_l_name pm_d_l_name an_d_l_name cd_d_l_name ct_d_l_name, f_d_l_label, PySem.W.fnOf "_law_label" "_law_label" (defArgs s_d_l_label) (defBody s_d_l_label) (defScope s_d_l_label) .none kV_d_l_label dc_d_l_label pm_d_l_label an_d_l_label cd_d_l_label ct_d_l_label, f_d_l_row, PySem.W.fnOf "_law_row" "_law_row" (defArgs s_d_l_row) (defBody s_d_l_row) (defScope s_d_l_row) .none kV_d_l_row dc_d_l_row pm_d_l_row an_d_l_row cd_d_l_row ct_d_l_row, f_d_l_spoilt, PySem.W.fnOf "_law_spoilt" "_law_spoilt" (defArgs s_d_l_spoilt) (defBody s_d_l_spoilt) (defScope s_d_l_spoilt) .none kV_d_l_spoilt dc_d_l_spoilt pm_d_l_spoilt an_d_l_spoilt cd_d_l_spoilt ct_d_l_spoilt, f_d_l_name_is, PySem.W.fnOf "_law_name_is" "_law_name_is" (defArgs s_d_l_name_is) (defBody s_d_l_name_is) (defScope s_d_l_name_is) .none kV_d_l_name_is dc_d_l_name_is pm_d_l_name_is an_d_l_name_is cd_d_l_name_is ct_d_l_name_is, f_d_l_pair, PySem.W.fnOf "_law_pair" "_law_pair" (defArgs s_d_l_pair) (defBody s_d_l_pair) (defScope s_d_l_pair) .none kV_d_l_pair dc_d_l_pair pm_d_l_pair an_d_l_pair cd_d_l_pair ct_d_l_pair, f_d_l_things, PySem.W.fnOf "_law_things" "_law_things" (defArgs s_d_l_things) (defBody s_d_l_things) (defScope s_d_l_things) .none kV_d_l_things dc_d_l_things pm_d_l_things an_d_l_things cd_d_l_things ct_d_l_things, f_d_l_refused, PySem.W.fnOf "_law_refused" "_law_refused" (defArgs s_d_l_refused) (defBody s_d_l_refused) (defScope s_d_l_refused) .none kV_d_l_refused dc_d_l_refused pm_d_l_refused an_d_l_refused cd_d_l_refused ct_d_l_refused, f_d_l_right, PySem.W.fnOf "_law_right" "_law_right" (defArgs s_d_l_right) (defBody s_d_l_right) (defScope s_d_l_right) .none kV_d_l_right dc_d_l_right pm_d_l_right an_d_l_right cd_d_l_right ct_d_l_right, f_d_law, PySem.W.fnOf "law" "law" (defArgs s_d_law) (defBody s_d_law) (defScope s_d_law) .none kV_d_law dc_d_law pm_d_law an_d_law cd_d_law ct_d_law, C_MostError, C_NoRow, C_NoThing⟩, rfl, rfl, ?_⟩
  constructor
  · exact fun_mk (st := s_c_NoRow_init) l_c_NoRow_init c_c_NoRow_init p_c_NoRow_init
  · exact (fun_mk (st := s_c_NoRow_init) l_c_NoRow_init c_c_NoRow_init p_c_NoRow_init).binds (ps := ["self", "found"]) fun _ _ _ _ _ _ us hl => match us, hl with | [_, _], _ => rfl
  · exact fun_mk (st := s_d_is_made_of) l_d_is_made_of c_d_is_made_of p_d_is_made_of
  · exact (fun_mk (st := s_d_is_made_of) l_d_is_made_of c_d_is_made_of p_d_is_made_of).binds (ps := ["thing", "signs", "most"]) fun _ _ _ _ _ _ us hl => match us, hl with | [_, _, _], _ => rfl
  · exact PySem.W.mg_of X G a_d_is_made_of
  · exact fun_mk (st := s_d_is_name) l_d_is_name c_d_is_name p_d_is_name
  · exact (fun_mk (st := s_d_is_name) l_d_is_name c_d_is_name p_d_is_name).binds (ps := ["thing"]) fun _ _ _ _ _ _ us hl => match us, hl with | [_], _ => rfl
  · exact PySem.W.mg_of X G a_d_is_name
  · exact fun_mk (st := s_d_is_label) l_d_is_label c_d_is_label p_d_is_label
  · exact (fun_mk (st := s_d_is_label) l_d_is_label c_d_is_label p_d_is_label).binds (ps := ["thing"]) fun _ _ _ _ _ _ us hl => match us, hl with | [_], _ => rfl
  · exact PySem.W.mg_of X G a_d_is_label
  · exact fun_mk (st := s_d_words_of) l_d_words_of c_d_words_of p_d_words_of
  · exact (fun_mk (st := s_d_words_of) l_d_words_of c_d_words_of p_d_words_of).binds (ps := ["row"]) fun _ _ _ _ _ _ us hl => match us, hl with | [_], _ => rfl
  · exact PySem.W.mg_of X G a_d_words_of
  · exact fun_mk (st := s_d_pair_of) l_d_pair_of c_d_pair_of p_d_pair_of
  · exact (fun_mk (st := s_d_pair_of) l_d_pair_of c_d_pair_of p_d_pair_of).binds (ps := ["row"]) fun _ _ _ _ _ _ us hl => match us, hl with | [_], _ => rfl
  · exact PySem.W.mg_of X G a_d_pair_of
  · exact fun_mk (st := s_d_things_of) l_d_things_of c_d_things_of p_d_things_of
  · exact (fun_mk (st := s_d_things_of) l_d_things_of c_d_things_of p_d_things_of).binds (ps := ["row"]) fun _ _ _ _ _ _ us hl => match us, hl with | [_], _ => rfl
  · exact PySem.W.mg_of X G a_d_things_of
  · exact fun_mk (st := s_d_l_mix) l_d_l_mix c_d_l_mix p_d_l_mix
  · exact (fun_mk (st := s_d_l_mix) l_d_l_mix c_d_l_mix p_d_l_mix).binds (ps := ["_law_cell", "_law_k"]) fun _ _ _ _ _ _ us hl => match us, hl with | [_, _], _ => rfl
  · exact PySem.W.mg_of X G a_d_l_mix
  · exact fun_mk (st := s_d_l_text) l_d_l_text c_d_l_text p_d_l_text
  · exact (fun_mk (st := s_d_l_text) l_d_l_text c_d_l_text p_d_l_text).binds (ps := ["_law_cell", "_law_signs", "_law_most"]) fun _ _ _ _ _ _ us hl => match us, hl with | [_, _, _], _ => rfl
  · exact PySem.W.mg_of X G a_d_l_text
  · exact fun_mk (st := s_d_l_name) l_d_l_name c_d_l_name p_d_l_name
  · exact (fun_mk (st := s_d_l_name) l_d_l_name c_d_l_name p_d_l_name).binds (ps := ["_law_cell"]) fun _ _ _ _ _ _ us hl => match us, hl with | [_], _ => rfl
  · exact PySem.W.mg_of X G a_d_l_name
  · exact fun_mk (st := s_d_l_label) l_d_l_label c_d_l_label p_d_l_label
  · exact (fun_mk (st := s_d_l_label) l_d_l_label c_d_l_label p_d_l_label).binds (ps := ["_law_cell"]) fun _ _ _ _ _ _ us hl => match us, hl with | [_], _ => rfl
  · exact PySem.W.mg_of X G a_d_l_label
  · exact fun_mk (st := s_d_l_row) l_d_l_row c_d_l_row p_d_l_row
  · exact (fun_mk (st := s_d_l_row) l_d_l_row c_d_l_row p_d_l_row).binds (ps := ["_law_cell"]) fun _ _ _ _ _ _ us hl => match us, hl with | [_], _ => rfl
  · exact PySem.W.mg_of X G a_d_l_row
  · exact fun_mk (st := s_d_l_spoilt) l_d_l_spoilt c_d_l_spoilt p_d_l_spoilt
  · exact (fun_mk (st := s_d_l_spoilt) l_d_l_spoilt c_d_l_spoilt p_d_l_spoilt).binds (ps := ["_law_row_here", "_law_cell"]) fun _ _ _ _ _ _ us hl => match us, hl with | [_, _], _ => rfl
  · exact PySem.W.mg_of X G a_d_l_spoilt
  · exact fun_mk (st := s_d_l_name_is) l_d_l_name_is c_d_l_name_is p_d_l_name_is
  · exact (fun_mk (st := s_d_l_name_is) l_d_l_name_is c_d_l_name_is p_d_l_name_is).binds (ps := ["_law_text_here", "_law_signs"]) fun _ _ _ _ _ _ us hl => match us, hl with | [_, _], _ => rfl
  · exact PySem.W.mg_of X G a_d_l_name_is
  · exact fun_mk (st := s_d_l_pair) l_d_l_pair c_d_l_pair p_d_l_pair
  · exact (fun_mk (st := s_d_l_pair) l_d_l_pair c_d_l_pair p_d_l_pair).binds (ps := ["_law_row_here"]) fun _ _ _ _ _ _ us hl => match us, hl with | [_], _ => rfl
  · exact PySem.W.mg_of X G a_d_l_pair
  · exact fun_mk (st := s_d_l_things) l_d_l_things c_d_l_things p_d_l_things
  · exact (fun_mk (st := s_d_l_things) l_d_l_things c_d_l_things p_d_l_things).binds (ps := ["_law_row_here"]) fun _ _ _ _ _ _ us hl => match us, hl with | [_], _ => rfl
  · exact PySem.W.mg_of X G a_d_l_things
  · exact fun_mk (st := s_d_l_refused) l_d_l_refused c_d_l_refused p_d_l_refused
  · exact (fun_mk (st := s_d_l_refused) l_d_l_refused c_d_l_refused p_d_l_refused).binds (ps := ["_law_row_here", "_law_beats"]) fun _ _ _ _ _ _ us hl => match us, hl with | [_, _], _ => rfl
  · exact PySem.W.mg_of X G a_d_l_refused
  · exact fun_mk (st := s_d_l_right) l_d_l_right c_d_l_right p_d_l_right
  · exact (fun_mk (st := s_d_l_right) l_d_l_right c_d_l_right p_d_l_right).binds (ps := ["_law_row_here"]) fun _ _ _ _ _ _ us hl => match us, hl with | [_], _ => rfl
  · exact PySem.W.mg_of X G a_d_l_right
  · exact fun_mk (st := s_d_law) l_d_law c_d_law p_d_law
  · exact (fun_mk (st := s_d_law) l_d_law c_d_law p_d_law).binds (ps := ["_law_script"]) fun _ _ _ _ _ _ us hl => match us, hl with | [_], _ => rfl
  · exact PySem.W.mg_of X G a_d_law
  · exact ⟨_, PySem.W.mg_of X G k_SMALL⟩
  · exact ⟨_, PySem.W.mg_of X G k_SMALL_OR_FIGURE⟩
  · exact ⟨_, PySem.W.mg_of X G k_LONGEST⟩
  · exact ⟨_, PySem.W.mg_of X G k_MOST_THINGS⟩
  · exact PySem.W.mg_of X G a_MostError
  · exact PySem.W.mg_of X G a_NoRow
  · exact PySem.W.mg_of X G a_NoThing
  · exact PySem.W.mg_none_of X G z_ValueError
  · exact PySem.W.mg_none_of X G z_all
  · exact PySem.W.mg_none_of X G z_isinstance
  · exact PySem.W.mg_none_of X G z_len
  · exact PySem.W.mg_none_of X G z_list
  · exact PySem.W.mg_none_of X G z_range
  · exact PySem.W.mg_none_of X G z_set
  · exact PySem.W.mg_none_of X G z_str
  · exact PySem.W.mg_none_of X G z_tuple
  · exact .of_in x_NoRow
  · exact .of_in xc_MostError
  · exact xm_NoRow_MostError
  · exact kiTab_of xt_up
  · exact kiTab_of xt_no
/-! ### words -/
def lows : List Nat := [97, 98, 99, 100, 101, 102, 103, 104, 105, 106, 107, 108, 109, 110, 111, 112, 113, 114, 115, 116, 117, 118, 119, 120, 121, 122]
def caps : List Nat := [65, 66, 67, 68, 69, 70, 71, 72, 73, 74, 75, 76, 77, 78, 79, 80, 81, 82, 83, 84, 85, 86, 87, 88, 89, 90]
theorem low_eq : ("abcdefghijklmnopqrstuvwxyz" : Str) = mk lows := by decide +kernel
theorem cap_eq : ("ABCDEFGHIJKLMNOPQRSTUVWXYZ" : Str) = mk caps := by decide +kernel
def IsW (l : List Nat) : Prop := 1 ≤ l.length ∧ l.length ≤ 8 ∧ ∀ c ∈ l, c ∈ lows
def IsP (l : List Nat) : Prop := IsW l ∨ ∃ c, c ∈ caps ∧ l = [c]
def stmtL (sd nm : List Nat) : List (List Nat) → List Nat
  | [] => sd ++ nm
  | [p] => sd ++ nm ++ 40 :: (p ++ [41])
  | p :: q :: _ => sd ++ nm ++ 40 :: (p ++ 44 :: (q ++ [41]))
structure IsS (sd nm : List Nat) (ps : List (List Nat)) : Prop where
  side : sd = [] ∨ sd = [45]
  name : IsW nm
  many : ps.length ≤ 2
  places : ∀ p ∈ ps, IsP p
theorem low_lt {c : Nat} (h : c ∈ lows) : 97 ≤ c ∧ c ≤ 122 := by revert c; decide
theorem cap_lt {c : Nat} (h : c ∈ caps) : 65 ≤ c ∧ c ≤ 90 := by revert c; decide
theorem IsP.len {l : List Nat} (h : IsP l) : 1 ≤ l.length ∧ l.length ≤ 8 := by
  rcases h with h | ⟨c, _, rfl⟩
  · exact ⟨h.1, h.2.1⟩
  · exact ⟨Nat.le_refl _, by simp⟩
theorem IsP.rng {l : List Nat} (h : IsP l) : ∀ c ∈ l, 65 ≤ c ∧ c ≤ 122 := by
  rcases h with h | ⟨d, hd, rfl⟩
  · intro c hc; have := low_lt (h.2.2 c hc); omega
  · intro c hc
    have e : c = d := by simpa using hc
    have := cap_lt hd; omega
theorem IsP.no {l : List Nat} (h : IsP l) {c : Nat} (hc : c < 65) : c ∉ l := fun z => by have := h.rng c z; omega
theorem IsW.no {l : List Nat} (h : IsW l) {c : Nat} (hc : c < 65) : c ∉ l := IsP.no (.inl h) hc
/-! ### the mirror -/
def sgn (z : Str) (i : Nat) : Str := ⟨#[(z.cps[i]?).getD 0]⟩
def allIn (z s : Str) : Bool := (List.range z.cps.size).all fun i => inS (sgn z i) s
def madeOf (z sg : Str) (m : Int) : Bool := (decide (1 ≤ (z.length : Int)) && decide ((z.length : Int) ≤ m)) && allIn z sg
theorem inS_one (c : Nat) (l : List Nat) : inS (mk [c]) (mk l) = decide (c ∈ l) := by
  unfold inS; rw [in_one]
theorem allIn_mk (l s : List Nat) : allIn (mk l) (mk s) = l.all fun c => decide (c ∈ s) := by
  unfold allIn
  rw [Bool.eq_iff_iff, List.all_eq_true, List.all_eq_true]
  constructor
  · intro h c hc
    obtain ⟨i, hi, e⟩ := List.getElem_of_mem hc
    have := h i (List.mem_range.mpr (by simpa using hi))
    have e2 : sgn (mk l) i = mk [c] := by
      unfold sgn; simp [e, hi]
    rw [e2, inS_one] at this
    exact this
  · intro h i hi
    have hi' : i < l.length := by simpa using List.mem_range.mp hi
    have e2 : sgn (mk l) i = mk [l[i]] := by unfold sgn; simp [hi']
    rw [e2, inS_one]
    exact h _ (List.getElem_mem hi')
theorem name_iff (l : List Nat) : madeOf (mk l) "abcdefghijklmnopqrstuvwxyz" 8 = true ↔ IsW l := by
  unfold madeOf IsW
  rw [low_eq, allIn_mk, mk_len, Bool.and_eq_true, Bool.and_eq_true, decide_eq_true_eq, decide_eq_true_eq, List.all_eq_true]
  simp only [decide_eq_true_eq]
  constructor
  · rintro ⟨⟨a, b⟩, c⟩; exact ⟨by omega, by omega, c⟩
  · rintro ⟨a, b, c⟩; exact ⟨⟨by omega, by omega⟩, c⟩
theorem letter_iff (l : List Nat) : madeOf (mk l) "ABCDEFGHIJKLMNOPQRSTUVWXYZ" 1 = true ↔ ∃ c, c ∈ caps ∧ l = [c] := by
  unfold madeOf
  rw [cap_eq, allIn_mk, mk_len, Bool.and_eq_true, Bool.and_eq_true, decide_eq_true_eq, decide_eq_true_eq, List.all_eq_true]
  simp only [decide_eq_true_eq]
  constructor
  · rintro ⟨⟨a, b⟩, c⟩
    match l, a, b, c with
    | [d], _, _, c => exact ⟨d, c d (by simp), rfl⟩
    | d :: e :: r, _, b, _ => simp at b; omega
  · rintro ⟨c, hc, rfl⟩
    exact ⟨⟨by simp, by simp⟩, fun d hd => by have : d = c := by simpa using hd
                                              rw [this]; exact hc⟩
theorem short_le {n : Nat} (h : n ≤ 100000) : n ≤ sizeLine := Nat.le_trans h (by decide)
abbrev sv (l : List Nat) : V := .str (mk l)
abbrev pv' (ps : List (List Nat)) : List V := ps.map fun l => V.str (mk l)
theorem pl_of : ∀ {ys : List V}, (∀ (i : Nat) v, ys[i]? = some v → ∃ l, IsP l ∧ v = .str (mk l)) → ∃ ps : List (List Nat), ys = pv' ps ∧ ∀ p ∈ ps, IsP p
  | [], _ => ⟨[], rfl, by simp⟩
  | y :: ys, h => by
    obtain ⟨l, hl, rfl⟩ := h 0 y rfl
    obtain ⟨ps, rfl, hp⟩ := pl_of (ys := ys) fun i v e => h (i + 1) v (by simpa using e)
    exact ⟨l :: ps, rfl, by
      intro p hp'
      rcases List.mem_cons.mp hp' with e | e
      · rw [e]; exact hl
      · exact hp p e⟩
def At3 (H : Hp) (p : Addr) (sd nm : List Nat) (ps : List (List Nat)) : Prop := ∃ t, H p = some (.tup [sv sd, sv nm, .ref t]) ∧ H t = some (.tup (pv' ps))
theorem At3.same {H H' : Hp} {p : Addr} {sd nm : List Nat} {ps : List (List Nat)} (s : Same H H') (h : At3 H p sd nm ps) : At3 H' p sd nm ps := let ⟨t, a, b⟩ := h; ⟨t, s _ _ a, s _ _ b⟩
theorem strOk_mk {l : List Nat} (h : ∀ c ∈ l, c < 1114112) : PyData.strOk (mk l) = true := by
  unfold PyData.strOk; simpa using h
theorem shaped3 {sd nm : List Nat} {ps : List (List Nat)} (h : IsS sd nm ps) : SeqAt.shaped (.tuple [.str (mk sd), .str (mk nm), .tuple (ps.map fun l => PyData.str (mk l))]) = true := by
  have h1 : PyData.strOk (mk sd) = true := by
    rcases h.side with e | e <;> rw [e] <;> exact strOk_mk (by simp)
  have h2 : PyData.strOk (mk nm) = true := strOk_mk fun c hc => by have := low_lt (h.name.2.2 c hc); omega
  have h3 : ∀ qs : List (List Nat), (∀ p ∈ qs, IsP p) → PyData.canLayAll0 (qs.map fun l => PyData.str (mk l)) = true ∧ PyData.depthAll (qs.map fun l => PyData.str (mk l)) = 0 := by
    intro qs
    induction qs with
    | nil => intro _; exact ⟨rfl, rfl⟩
    | cons q qs ih =>
      intro hq
      obtain ⟨a, b⟩ := ih fun p hp => hq p (List.mem_cons_of_mem _ hp)
      have hs : PyData.strOk (mk q) = true := strOk_mk fun c hc => by have := (hq q List.mem_cons_self).rng c hc; omega
      refine ⟨?_, ?_⟩
      · show (PyData.canLay0 (.str (mk q)) && _) = true
        rw [a, Bool.and_true]; exact hs
      · show max (PyData.depth (.str (mk q))) _ = 0
        rw [b]; rfl
  obtain ⟨a, b⟩ := h3 ps h.places
  unfold SeqAt.shaped
  simp only [PyData.canLay0, PyData.canLayAll0, PyData.depth, PyData.depthAll, h1, h2, a, b]
  decide
theorem den3 {K : PySem.W.Frag} {H : Hp} {p : Addr} {sd nm : List Nat} {ps : List (List Nat)} (h : At3 H p sd nm ps) : Den K H (.ref p) (.tuple [.str (mk sd), .str (mk nm), .tuple (ps.map fun l => PyData.str (mk l))]) := by
  obtain ⟨t, a, b⟩ := h
  refine .tup (SqT.of a) (.cons (.str _) (.cons (.str _) (.cons (.tup (SqT.of b) ?_) .nil)))
  have := denStrs (K := K) (H := H) (ps.map mk)
  rw [List.map_map, List.map_map] at this
  exact this
def joinN (c : List Nat) : List (List Nat) → List Nat
  | [] => []
  | a :: r => a ++ r.flatMap fun b => c ++ b
theorem foldl_glue (c : List Nat) : ∀ (r : List (List Nat)) (a : Array Nat), (r.map mk).foldl (fun acc p => acc ++ (mk c).cps ++ p.cps) a = a ++ (r.flatMap fun b => c ++ b).toArray := by
  intro r
  induction r with
  | nil => intro a; simp
  | cons b r ih =>
    intro a
    rw [List.map_cons, List.foldl_cons, ih]
    show a ++ c.toArray ++ b.toArray ++ _ = _
    simp
theorem join_mk (c : List Nat) (xs : List (List Nat)) : Txt.join (mk c) (xs.map mk) = mk (joinN c xs) := by
  cases xs with
  | nil => rfl
  | cons a r =>
    show (⟨(r.map mk).foldl (fun acc p => acc ++ (mk c).cps ++ p.cps) a.toArray⟩ : Str) = _
    rw [foldl_glue]
    simp [joinN, mk]
def MadeQ (K : PySem.W.Frag) (x : V) (sg : Str) (m : Int) (H : Hp) (Q : VK) : Prop := (∃ z : Str, x = .str z ∧ z.length ≤ 100000 ∧ ∀ H', Same H H' → Q (.bl (madeOf z sg m)) H')
def spMade (K : PySem.W.Frag) : Sp := fun vs H Q _ => ∃ (x : V) (sg : Str) (m : Int), vs = [x, .str sg, .int m] ∧ MadeQ K x sg m H Q
def spIs (K : PySem.W.Frag) (sg : Str) (m : Int) : Sp := fun vs H Q _ => ∃ (z : Str), vs = [.str z] ∧ z.length ≤ 100000 ∧ ∀ H', Same H H' → Q (.bl (madeOf z sg m)) H'
theorem spIs_at {K : PySem.W.Frag} {sg : Str} {m : Int} {z : Str} {H : Hp} {Q : VK} {E : XK} : spIs K sg m [.str z] H Q E ↔ (z.length ≤ 100000 ∧ ∀ H', Same H H' → Q (.bl (madeOf z sg m)) H') := ⟨by rintro ⟨_, e, q⟩; cases e; exact q, fun q => ⟨_, rfl, q⟩⟩
def figs : List Nat := lows ++ [48, 49, 50, 51, 52, 53, 54, 55, 56, 57]
theorem fig_eq : ("abcdefghijklmnopqrstuvwxyz0123456789" : Str) = mk figs := by decide +kernel
def spMix : Sp := fun vs H Q _ => ∃ (c k : Int), vs = [.int c, .int k] ∧ ∀ r : Int, 0 ≤ r → Q (.int r) H
def spTxt : Sp := fun vs H Q _ => ∃ (c : Int) (sg : List Nat), vs = [.int c, sv sg, .int 8] ∧ (0 < sg.length ∧ sg.length ≤ 100) ∧ ∀ l : List Nat, (1 ≤ l.length ∧ l.length ≤ 8) → (∀ x ∈ l, x ∈ sg) → Q (sv l) H
def spName : Sp := fun vs H Q _ => ∃ (c : Int), vs = [.int c] ∧ ∀ l, IsW l → Q (sv l) H
def spLabel : Sp := fun vs H Q _ => ∃ (c : Int), vs = [.int c] ∧ ∀ l : List Nat, (1 ≤ l.length ∧ l.length ≤ 8) → (∀ x ∈ l, x ∈ figs) → Q (sv l) H
theorem spMix_at {c k : Int} {H : Hp} {Q : VK} {E : XK} : spMix [.int c, .int k] H Q E ↔ ∀ r : Int, 0 ≤ r → Q (.int r) H := ⟨by rintro ⟨_, _, e, q⟩; cases e; exact q, fun q => ⟨_, _, rfl, q⟩⟩
theorem spName_at {c : Int} {H : Hp} {Q : VK} {E : XK} : spName [.int c] H Q E ↔ ∀ l, IsW l → Q (sv l) H := ⟨by rintro ⟨_, e, q⟩; cases e; exact q, fun q => ⟨_, rfl, q⟩⟩
theorem spLabel_at {c : Int} {H : Hp} {Q : VK} {E : XK} : spLabel [.int c] H Q E ↔ ∀ l : List Nat, (1 ≤ l.length ∧ l.length ≤ 8) → (∀ x ∈ l, x ∈ figs) → Q (sv l) H := ⟨by rintro ⟨_, e, q⟩; cases e; exact q, fun q => ⟨_, rfl, q⟩⟩
/-! ### words of a row -/
def wB (sg l : List Nat) : Bool := (decide (1 ≤ l.length) && decide (l.length ≤ 8)) && l.all fun c => decide (c ∈ sg)
theorem made_eq (sg l : List Nat) : madeOf (mk l) (mk sg) 8 = wB sg l := by
  unfold madeOf wB
  rw [allIn_mk, mk_len]
  congr 2
  · exact decide_eq_decide.mpr (by omega)
  · exact decide_eq_decide.mpr (by omega)
def beatsN : List Nat := [98, 101, 97, 116, 115]
def thingsN : List Nat := [116, 104, 105, 110, 103, 115]
theorem beats_eq : ("beats" : Str) = mk beatsN := by decide +kernel
theorem things_eq : ("things" : Str) = mk thingsN := by decide +kernel
def pairP : List (List Nat) → Option (List Nat × List Nat)
  | [b, x, y] => if b = beatsN ∧ wB figs x = true ∧ wB figs y = true then some (x, y) else none
  | _ => none
def thingsP : List (List Nat) → Option (List (List Nat))
  | h :: ts => if (h = thingsN ∧ 1 ≤ ts.length ∧ ts.length ≤ 8) ∧ (ts.all (wB lows) = true ∧ ¬ dist (ts.map mk) < ts.length) then some ts else none
  | [] => none
theorem pairP_len {ws : List (List Nat)} (h : ws.length ≠ 3) : pairP ws = none := by
  unfold pairP
  split
  · exact absurd rfl h
  · rfl
def IsRow (K : PySem.W.Frag) (H : Hp) (v : V) (ws : List (List Nat)) : Prop := (∃ l, v = sv l ∧ l.length ≤ 1000 ∧ ws = splitL 32 l) ∨ (ws = [] ∧ NotStr K H v)
theorem IsRow.same {K : PySem.W.Frag} {H H' : Hp} {v : V} {ws : List (List Nat)} (s : Same H H') (h : IsRow K H v ws) : IsRow K H' v ws := h.imp id fun h => ⟨h.1, h.2.same s⟩
theorem splitL_len (c : Nat) : ∀ l : List Nat, (splitL c l).length ≤ l.length + 1 ∧ ∀ p ∈ splitL c l, p.length ≤ l.length
  | [] => by simp [splitL]
  | d :: r => by
    obtain ⟨h1, h2⟩ := splitL_len c r
    unfold splitL
    split
    · refine ⟨by simp; omega, fun p hp => ?_⟩
      rcases List.mem_cons.mp hp with z | z
      · subst z; simp
      · have := h2 p z; simp; omega
    · split
      · exact ⟨by simp, fun p hp => by simp at hp; subst hp; simp⟩
      · rename_i p ps e
        rw [e] at h1 h2
        refine ⟨by simp at h1 ⊢; omega, fun q hq => ?_⟩
        rcases List.mem_cons.mp hq with z | z
        · subst z
          have := h2 p List.mem_cons_self
          simp; omega
        · have := h2 q (List.mem_cons_of_mem _ z); simp; omega
theorem IsRow.len {K : PySem.W.Frag} {H : Hp} {v : V} {ws : List (List Nat)} (h : IsRow K H v ws) : ws.length ≤ 1001 ∧ ∀ p ∈ ws, p.length ≤ 1000 := by
  rcases h with ⟨l, _, hl, rfl⟩ | ⟨rfl, _⟩
  · have := splitL_len 32 l
    exact ⟨by omega, fun p hp => Nat.le_trans (this.2 p hp) hl⟩
  · exact ⟨by simp, fun p hp => by cases hp⟩
def EqS (K : PySem.W.Frag) (H : Hp) (v : V) : Prop := ∀ H', Same H H' → ∀ Q : VK, Q (.bl true) H' → rEqH K v v H' Q
theorem EqS.same {K : PySem.W.Frag} {H H' : Hp} {v : V} (s : Same H H') (h : EqS K H v) : EqS K H' v := fun H2 s2 => h H2 (s.trans s2)
def RowOk (K : PySem.W.Frag) (H : Hp) (v : V) : Prop := (∃ l : List Nat, v = sv l ∧ l.length ≤ 1000) ∨ (NotStr K H v ∧ EqS K H v)
theorem RowOk.row {K : PySem.W.Frag} {H : Hp} {v : V} (h : RowOk K H v) : ∃ ws, IsRow K H v ws ∧ EqS K H v := by
  rcases h with ⟨l, rfl, hl⟩ | ⟨h, e⟩
  · exact ⟨_, .inl ⟨l, rfl, hl, rfl⟩, fun H' _ Q q => rEqH_str.mpr (by rw [decide_eq_true rfl]; exact q)⟩
  · exact ⟨[], .inr ⟨rfl, h⟩, e⟩
def spWords (K : PySem.W.Frag) : Sp := fun vs H Q _ => ∃ (v : V) (ws : List (List Nat)), vs = [v] ∧ IsRow K H v ws ∧ ∀ p H', Same H H' → H p = none → H' p = some (.lst (pv' ws)) → Q (.ref p) H'
def spPairOf (K : PySem.W.Frag) (t : Adr) : Sp := fun vs H Q E => ∃ (v : V) (ws : List (List Nat)), vs = [v] ∧ IsRow K H v ws ∧ (∀ x y p H', pairP ws = some (x, y) → Same H H' → H' p = some (.tup [sv x, sv y]) → Q (.ref p) H') ∧
  (pairP ws = none → ∀ x d T H', NS H H' x d T t.C_NoRow "found" v → E (.ref x) (some t.C_NoRow) H')
def spThingsOf (K : PySem.W.Frag) (t : Adr) : Sp := fun vs H Q E => ∃ (v : V) (ws : List (List Nat)), vs = [v] ∧ IsRow K H v ws ∧ (∀ ts p H', thingsP ws = some ts → Same H H' → H p = none → H' p = some (.lst (pv' ts)) → Q (.ref p) H') ∧
  (thingsP ws = none → ∀ x d T H', NS H H' x d T t.C_NoRow "found" v → E (.ref x) (some t.C_NoRow) H')
def spNameIs : Sp := fun vs H Q _ => ∃ l sg : List Nat, vs = [sv l, sv sg] ∧ l.length ≤ 1000 ∧ ∀ H', Same H H' → Q (.bl (wB sg l)) H'
def DueP (H : Hp) (dv : V) (r : Option (List Nat × List Nat)) : Prop := (dv = .non ∧ r = none) ∨ ∃ x y p, dv = .ref p ∧ r = some (x, y) ∧ H p = some (.tup [sv x, sv y])
def DueT (H : Hp) (dv : V) (r : Option (List (List Nat))) : Prop := (dv = .non ∧ r = none) ∨ ∃ ts p, dv = .ref p ∧ r = some ts ∧ H p = some (.lst (pv' ts))
def spLPair (K : PySem.W.Frag) : Sp := fun vs H Q _ => ∃ (v : V) (ws : List (List Nat)), vs = [v] ∧ IsRow K H v ws ∧ ∀ dv H', Same H H' → DueP H' dv (pairP ws) → Q dv H'
def spLThings (K : PySem.W.Frag) : Sp := fun vs H Q _ => ∃ (v : V) (ws : List (List Nat)), vs = [v] ∧ IsRow K H v ws ∧ ∀ dv H', Same H H' → DueT H' dv (thingsP ws) → Q dv H'
def spRefused (K : PySem.W.Frag) : Sp := fun vs H Q _ => ∃ (v : V) (b : Bool) (ws : List (List Nat)), vs = [v, .bl b] ∧ IsRow K H v ws ∧ EqS K H v ∧ (b = true → pairP ws = none) ∧ (b = false → thingsP ws = none) ∧ ∀ H', Same H H' → Q (.bl true) H'
def spRight (K : PySem.W.Frag) : Sp := fun vs H Q _ => ∃ (v : V), vs = [v] ∧ RowOk K H v ∧ ∀ H', Same H H' → Q (.bl true) H'
def spRowL : Sp := fun vs H Q _ => ∃ (c : Int), vs = [.int c] ∧ ∀ (z : Str) H', z.length ≤ 300 → Same H H' → Q (.str z) H'
def spSpoilt (K : PySem.W.Frag) : Sp := fun vs H Q _ => ∃ (z : Str) (c : Int), vs = [.str z, .int c] ∧ z.length ≤ 300 ∧ ∀ v H', Same H H' → RowOk K H' v → Q v H'
def spCell (K : PySem.W.Frag) : Sp := fun vs H Q _ => ∃ (a : Addr) (ns : List Int) (k : Int), vs = [.ref a, .int k] ∧ SqL K H a (ns.map V.int) ∧ ns.length ≤ 63 ∧ 0 ≤ k ∧ k ≤ 1000 ∧ ∀ i, Q (.int i) H
def spLaw (K : PySem.W.Frag) : Sp := fun vs H Q _ => ∃ (a : Addr) (ns : List Int), vs = [.ref a] ∧ SqL K H a (ns.map V.int) ∧ ns.length ≤ 63 ∧ ∀ H', Q (.bl true) H'
theorem spLaw_of {K : PySem.W.Frag} {H : Hp} {a : Addr} {ns : List Int} (hl : ns.length ≤ 63) (_ : Only H) (hS : SqL K H a (ns.map V.int)) : spLaw K [.ref a] H (fun v _ => v = .bl true) fun _ _ _ => False := ⟨a, ns, rfl, hS, hl, fun _ => rfl⟩
theorem app_len (a b : Str) : (a ++ b).length = a.length + b.length := by
  show (a.cps ++ b.cps).size = _
  rw [Array.size_append]; rfl
theorem joinN_le (c : List Nat) {m : Nat} : ∀ xs : List (List Nat), (∀ x ∈ xs, x.length ≤ m) → (joinN c xs).length ≤ xs.length * (m + c.length) := by
  have key : ∀ r : List (List Nat), (∀ x ∈ r, x.length ≤ m) → (r.flatMap fun b => c ++ b).length ≤ r.length * (m + c.length) := by
    intro r
    induction r with
    | nil => intro _; simp
    | cons b r ih =>
      intro h
      have h1 := ih fun x hx => h x (List.mem_cons_of_mem _ hx)
      have h2 := h b List.mem_cons_self
      rw [List.flatMap_cons, List.length_append, List.length_append, List.length_cons, Nat.succ_mul]
      omega
  intro xs h
  cases xs with
  | nil => simp [joinN]
  | cons a r =>
    have h1 := key r fun x hx => h x (List.mem_cons_of_mem _ hx)
    have h2 := h a List.mem_cons_self
    show (a ++ _).length ≤ _
    rw [List.length_append, List.length_cons, Nat.succ_mul]
    omega
theorem filt_all {α : Type} (p : α → Bool) : ∀ l : List α, ((l.filter p).length = l.length ↔ l.all p = true)
  | [] => by simp
  | a :: r => by
    have ih := filt_all p r
    have hl := List.length_filter_le p r
    cases h : p a
    · simp [h]; omega
    · simp [h, ← ih]
theorem range_filt {α : Type} [Inhabited α] (p : α → Bool) (l : List α) : ((List.range l.length).filter fun i => p ((l[i]?).getD default)).length = (l.filter p).length := by
  have e : l = (List.range l.length).map fun i => (l[i]?).getD default := by
    refine List.ext_getElem? fun i => ?_
    rw [List.getElem?_map]
    by_cases h : i < l.length
    · rw [List.getElem?_range h, List.getElem?_eq_getElem h]; simp [h]
    · rw [List.getElem?_eq_none (by omega), List.getElem?_eq_none (by simp; omega)]; rfl
  conv => rhs; rw [e, List.filter_map, List.length_map]
  rfl
theorem cut_from1 (xs : List V) : cutV xs (some 1) none = xs.drop 1 := by
  unfold cutV HT.sIx
  dsimp only
  rw [if_neg (by decide)]
  cases xs with
  | nil => rfl
  | cons a r =>
    show ((a :: r).drop (min 1 (r.length + 1))).take (r.length + 1 - min 1 (r.length + 1)) = r
    rw [Nat.min_eq_left (by omega)]
    simp
theorem cut_to1 (xs : List V) : cutV xs none (some 1) = xs.take 1 := by
  unfold cutV HT.sIx
  dsimp only
  rw [if_neg (by decide)]
  cases xs with
  | nil => rfl
  | cons a r =>
    show ((a :: r).drop 0).take (min 1 (r.length + 1) - 0) = [a]
    rw [Nat.min_eq_left (by omega)]
    simp
theorem shapedL {qs : List (List Nat)} (h : ∀ p ∈ qs, ∀ c ∈ p, c < 1114112) : SeqAt.shaped (.list (qs.map fun l => PyData.str (mk l))) = true := by
  have h3 : ∀ qs : List (List Nat), (∀ p ∈ qs, ∀ c ∈ p, c < 1114112) → PyData.canLayAll0 (qs.map fun l => PyData.str (mk l)) = true ∧ PyData.depthAll (qs.map fun l => PyData.str (mk l)) = 0 := by
    intro qs
    induction qs with
    | nil => intro _; exact ⟨rfl, rfl⟩
    | cons q qs ih =>
      intro hq
      obtain ⟨a, b⟩ := ih fun p hp => hq p (List.mem_cons_of_mem _ hp)
      have hs : PyData.strOk (mk q) = true := strOk_mk (hq q List.mem_cons_self)
      refine ⟨?_, ?_⟩
      · show (PyData.canLay0 (.str (mk q)) && _) = true
        rw [a, Bool.and_true]; exact hs
      · show max (PyData.depth (.str (mk q))) _ = 0
        rw [b]; rfl
  obtain ⟨a, b⟩ := h3 qs h
  unfold SeqAt.shaped
  simp only [PyData.canLay0, PyData.depth, a, b]
  decide
theorem denL {K : PySem.W.Frag} {H : Hp} {D : Addr} {qs : List (List Nat)} (h : SqL K H D (pv' qs)) : Den K H (.ref D) (.list (qs.map fun l => PyData.str (mk l))) := by
  refine .lst h ?_
  have := denStrs (K := K) (H := H) (qs.map mk)
  rw [List.map_map, List.map_map] at this
  exact this
theorem den2 {K : PySem.W.Frag} {H : Hp} {p : Addr} {x y : List Nat} (h : H p = some (.tup [sv x, sv y])) : Den K H (.ref p) (.tuple [.str (mk x), .str (mk y)]) :=
  .tup (SqT.of h) (.cons (.str _) (.cons (.str _) .nil))
theorem fig_lt {c : Nat} (h : c ∈ figs) : c < 1114112 := by revert c; decide
theorem wB_low {sg l : List Nat} (h : wB sg l = true) : ∀ c ∈ l, c ∈ sg := by
  unfold wB at h
  rw [Bool.and_eq_true, List.all_eq_true] at h
  exact fun c hc => by simpa using h.2 c hc
theorem shaped2 {x y : List Nat} (hx : wB figs x = true) (hy : wB figs y = true) : SeqAt.shaped (.tuple [.str (mk x), .str (mk y)]) = true := by
  have h1 : PyData.strOk (mk x) = true := strOk_mk fun c hc => fig_lt (wB_low hx c hc)
  have h2 : PyData.strOk (mk y) = true := strOk_mk fun c hc => fig_lt (wB_low hy c hc)
  unfold SeqAt.shaped
  simp [PyData.canLay0, PyData.canLayAll0, PyData.depth, PyData.depthAll, h1, h2]
theorem pairP_some {ws : List (List Nat)} {x y : List Nat} (h : pairP ws = some (x, y)) : ws = [beatsN, x, y] ∧ wB figs x = true ∧ wB figs y = true := by
  unfold pairP at h
  split at h
  · split at h
    · rename_i hc
      cases h
      exact ⟨by rw [hc.1], hc.2⟩
    · cases h
  · cases h
theorem thingsP_some {ws ts : List (List Nat)} (h : thingsP ws = some ts) : ws = thingsN :: ts ∧ ts.length ≤ 8 ∧ ∀ p ∈ ts, ∀ c ∈ p, c ∈ lows := by
  unfold thingsP at h
  split at h
  · split at h
    · rename_i hc
      cases h
      exact ⟨by rw [hc.1.1], hc.1.2.2, fun p hp => wB_low (List.all_eq_true.mp hc.2.1 p hp)⟩
    · cases h
  · cases h
theorem take1_eq (ws : List (List Nat)) : ((ws.take 1).map mk = [("things" : Str)]) ↔ ∃ ts, ws = thingsN :: ts := by
  rw [things_eq]
  constructor
  · intro h
    match ws, h with
    | a :: r, h =>
      have : mk a = mk thingsN := by simpa using h
      exact ⟨r, by rw [mk_inj this]⟩
  · rintro ⟨ts, rfl⟩; rfl
theorem tx_of : ∀ {ys : List V}, (∀ (i : Nat) v, ys[i]? = some v → ∃ l : List Nat, l.length ≤ 8 ∧ v = .str (mk l)) → ∃ qs : List (List Nat), ys = pv' qs ∧ ∀ p ∈ qs, p.length ≤ 8
  | [], _ => ⟨[], rfl, fun p hp => by cases hp⟩
  | y :: ys, h => by
    obtain ⟨l, hl, rfl⟩ := h 0 y rfl
    obtain ⟨qs, rfl, hq⟩ := tx_of (ys := ys) fun i v e => h (i + 1) v (by simpa using e)
    refine ⟨l :: qs, rfl, fun p hp => ?_⟩
    rcases List.mem_cons.mp hp with z | z
    · rw [z]; exact hl
    · exact hq p z
theorem sumT (m : Nat) : ∀ qs : List (List Nat), (∀ p ∈ qs, p.length ≤ m) → ((qs.map mk).map (·.length)).sum ≤ qs.length * m
  | [], _ => by simp
  | q :: qs, h => by
    have h1 := sumT m qs fun p hp => h p (List.mem_cons_of_mem _ hp)
    have h2 := h q List.mem_cons_self
    rw [List.map_cons, List.map_cons, List.sum_cons, List.length_cons, Nat.succ_mul, mk_len]
    omega
theorem ixN_in {n : Nat} {i : Int} (h0 : 0 ≤ i) (h1 : i < n) : ixN n i = some i.toNat := by
  unfold ixN
  rw [if_pos h0, if_pos (by omega)]
end K14
namespace K14
open PySem L2 Tx
section
variable {P : Program} {w : World} {K : PySem.W.Frag} {mg : Str → Option Value} {base : Heap} {t : Adr}
theorem ok_d_l_mix (T : Txt K mg t) : FnOk P w K mg base CX0 1 t.f_d_l_mix t.fd_d_l_mix ["_law_cell", "_law_k"] spMix := by
  refine T.F_d_l_mix.ok sc_d_l_mix (fun vs H Q E h => ?_) (fun cdv A outer s H vs Q E hr h => ?_)
  · obtain ⟨c, k, rfl, q⟩ := h; rfl
  · obtain ⟨c, k, rfl, q⟩ := h
    refine ⟨_, (@pss_cons _ _ _ _ _ (@ps_set _ _ (2) _ _ _ _ sc_d_l_mix.nd rfl (by first | exact Or.inl rfl | exact Or.inr rfl) (@pe_op _ _ _ _ _ _ _ _ op_mod (@pe_op _ _ _ _ _ _ _ _ op_mul (@pe_op _ _ _ _ _ _ _ _ op_addA (@pe_op _ _ _ _ _ _ _ _ op_addA (@pe_op _ _ _ _ _ _ _ _ op_mod (@pv _ 0 _ _ (by rfl) (by first | exact vis0 rfl | exact vis1 rfl | exact vis2 rfl) (by decide) (by decide)) (@pe_int _ _ _ _)) (@pe_op _ _ _ _ _ _ _ _ op_mul (@pe_int _ _ _ _) (@pv _ 1 _ _ (by rfl) (by first | exact vis0 rfl | exact vis1 rfl | exact vis2 rfl) (by decide) (by decide)))) (@pe_int _ _ _ _)) (@pe_int _ _ _ _)) (@pe_int _ _ _ _)) (by rfl) (by first | exact Or.inl rfl | exact Or.inr rfl | assumption)) (@pss_cons _ _ _ _ _ (@ps_set _ _ (2) _ _ _ _ sc_d_l_mix.nd rfl (by first | exact Or.inl rfl | exact Or.inr rfl) (@pe_op _ _ _ _ _ _ _ _ op_mod (@pe_op _ _ _ _ _ _ _ _ op_mul (@pv _ 2 _ _ (by rfl) (by first | exact vis0 rfl | exact vis1 rfl | exact vis2 rfl) (by decide) (by decide)) (@pv _ 2 _ _ (by rfl) (by first | exact vis0 rfl | exact vis1 rfl | exact vis2 rfl) (by decide) (by decide))) (@pe_int _ _ _ _)) (by rfl) (by first | exact Or.inl rfl | exact Or.inr rfl | assumption)) (@pss_one _ _ _ (@ps_ret _ _ _ _ (@pe_op _ _ _ _ _ _ _ _ op_mod (@pe_op _ _ _ _ _ _ _ _ op_mul (@pv _ 2 _ _ (by rfl) (by first | exact vis0 rfl | exact vis1 rfl | exact vis2 rfl) (by decide) (by decide)) (@pv _ 2 _ _ (by rfl) (by first | exact vis0 rfl | exact vis1 rfl | exact vis2 rfl) (by decide) (by decide))) (@pe_int _ _ _ _)))))), ?_⟩
    rw [show start n_d_l_mix [V.int c, V.int k] = [some (V.int c), some (V.int k), none] from rfl]
    try simp only [tSeq, tAsg, tOp, tVar, List.getElem?_cons_zero, tC, List.getElem?_cons_succ, gName, List.set_cons_succ, List.set_cons_zero, tRet, exSlot, rI_int, CMul, rAddA_int]
    have h1 := mod_lt' (i := (c % 2147483647 + 7919 * k + 17) * 48271) (j := 2147483647) (by decide)
    generalize (c % 2147483647 + 7919 * k + 17) * 48271 % 2147483647 = n at h1 ⊢
    have h2 := mod_lt' (i := n * n) (j := 2147483629) (by decide)
    generalize n * n % 2147483629 = m at h2 ⊢
    exact ⟨by decide, .inl (by decide), .inr (by decide), by decide, .inl (by omega), by decide, .inl (by omega), by decide, q _ (Int.emod_nonneg _ (by decide))⟩
theorem ok_d_l_name_is (T : Txt K mg t) : FnOk P w K mg base CX0 1 t.f_d_l_name_is t.fd_d_l_name_is ["_law_text_here", "_law_signs"] spNameIs := by
  refine T.F_d_l_name_is.ok sc_d_l_name_is (fun vs H Q E h => ?_) (fun cdv A outer s H vs Q E hr h => ?_)
  · obtain ⟨l, sg, rfl, hl, q⟩ := h; rfl
  · obtain ⟨l, sg, rfl, hl, q⟩ := h
    refine ⟨_, (@pss_mid _ _ _ _ _ (@ps_if _ _ _ _ _ _ _ _ (@PW.pt _ _ _ (@pw_or _ _ _ _ _ _ _ (@pt_cmpR _ _ _ _ _ _ _ _ op_ltA (@pe_callB _ _ _ _ _ _ _ _ _ call_lenA rfl T.z_len boot_lenT (@pa_cons _ _ _ _ _ (@pv _ 0 _ _ (by rfl) (by first | exact vis0 rfl | exact vis1 rfl | exact vis2 rfl) (by decide) (by decide)) (@pa_nil _) (by rfl)) (by decide) (by decide) (by rfl) (by rfl)) (@pe_int _ _ _ _) (nomark _)) (@pw_or1 _ _ _ _ (@pt_cmpR _ _ _ _ _ _ _ _ op_gt (@pe_callB _ _ _ _ _ _ _ _ _ call_lenA rfl T.z_len boot_lenT (@pa_cons _ _ _ _ _ (@pv _ 0 _ _ (by rfl) (by first | exact vis0 rfl | exact vis1 rfl | exact vis2 rfl) (by decide) (by decide)) (@pa_nil _) (by rfl)) (by decide) (by decide) (by rfl) (by rfl)) (@pe_int _ _ _ _) (nomark _))))) (@pss_one _ _ _ (@ps_ret _ _ _ _ (@pe_bl _ _ _ _))) (@pss_nil _)) (@pss_one _ _ _ (@ps_ret _ _ _ _ (@pe_cmpR _ _ _ _ _ _ _ _ (op_eqH hr.units) (@pe_callB _ _ _ _ _ _ _ _ _ call_lenA rfl T.z_len boot_lenT (@pa_cons _ _ _ _ _ (@pe_comp _ _ _ _ _ _ _ _ _ _ _ _ _ (@compOk_of _ (defScope s_d_l_name_is) (n_d_l_name_is) (["_law_sign", "_law_signs"]) ([none, some 1]) _ rfl rfl (by decide +kernel)) rfl (@pi_str _ _ _ _ (@pv _ 0 _ _ (by rfl) (by first | exact vis0 rfl | exact vis1 rfl | exact vis2 rfl) (by decide) (by decide))) (fun _ _ _ _ _ => (@pg_name _ _ (0) _ (show List.Nodup (["_law_sign", "_law_signs"] : List Str) by decide +kernel) rfl (by first | exact Or.inl rfl | exact Or.inr rfl) (by first | exact Or.inl rfl | exact Or.inr rfl | assumption))) (fun _ _ _ _ _ => @pts_one _ _ _ (@pt_cmpR _ _ _ _ _ _ _ _ (op_inK (K := K) rfl) (@pv _ 0 _ _ (by rfl) (by first | exact vis0 rfl | exact vis1 rfl | exact vis2 rfl) (by decide) (by decide)) (@pv _ 1 _ _ (by rfl) (by first | exact vis0 rfl | exact vis1 rfl | exact vis2 rfl) (by decide) (by decide)) (by with_unfolding_all rfl))) (fun _ _ _ _ _ => (@pv _ 0 _ _ (by rfl) (by first | exact vis0 rfl | exact vis1 rfl | exact vis2 rfl) (by decide) (by decide))) (by intro _ ; rfl)) (@pa_nil _) (by rfl)) (by decide) (by decide) (by rfl) (by rfl)) (@pe_callB _ _ _ _ _ _ _ _ _ call_lenA rfl T.z_len boot_lenT (@pa_cons _ _ _ _ _ (@pv _ 0 _ _ (by rfl) (by first | exact vis0 rfl | exact vis1 rfl | exact vis2 rfl) (by decide) (by decide)) (@pa_nil _) (by rfl)) (by decide) (by decide) (by rfl) (by rfl)) (nomark _))))), ?_⟩
    rw [show start n_d_l_name_is [sv l, sv sg] = [some (sv l), some (sv sg)] from rfl]
    try simp only []
    refine ⟨fun σ' H' => σ' = [some (sv l), some (sv sg)] ∧ H = H' ∧ 1 ≤ l.length ∧ l.length ≤ 8, ?_, ?_⟩
    · try simp only [tIfS, tOr, tTest, tOp, tCB, tCons, tVar, List.getElem?_cons_zero, tNil, tC, tRet, tNext, if_true, exSlot, rLenA_str, rI0_int, exBl, decide_eq_true_eq, rLtA_int]
      refine ⟨short_le (by rw [mk_len]; omega), ite2 (fun c => ?_) (fun c => ⟨short_le (by rw [mk_len]; omega), ite2 (fun c2 => ?_) (fun c2 => ?_)⟩)⟩
      · rw [mk_len] at c
        have := q H (Same.refl _)
        rw [show wB sg l = false by unfold wB; rw [decide_eq_false (show ¬ 1 ≤ l.length by omega)]; rfl] at this
        exact this
      · rw [mk_len] at c2
        have := q H (Same.refl _)
        rw [show wB sg l = false by unfold wB; rw [decide_eq_false (show ¬ l.length ≤ 8 by omega), Bool.and_false]; rfl] at this
        exact this
      · rw [mk_len] at c c2
        exact ⟨(by trivial), (by trivial), by omega, by omega⟩
    rintro σ' H' ⟨rfl, rfl, h1, h2⟩
    try simp only [tRet, tOp, tCB, tCons, tNil, tVar, List.getElem?_cons_zero, exSlot, rLenA_str, tComp_eq, iStr, exStr]
    have hs : (mk l).cps.size = l.length := by simp
    have hsg : ∀ i, i < l.length → signV (mk l) i = V.str (mk [(l[i]?).getD 0]) := fun i hi => by show V.str (mk [(l.toArray[i]?).getD 0]) = _; rw [List.getElem?_toArray]
    refine comp_f (src_f (n := (mk l).cps.size) (f := signV (mk l))) (short_le (by rw [hs]; omega)) [some (sv sg)] rfl (fun i => decide (((l[i]?).getD default) ∈ sg)) (fun i => V.str (mk [(l[i]?).getD 0])) (fun _ _ => trivial) (fun i H' R hi s hR => ?_) (fun i H' R hi s hR => ?_) (fun D H1 hD s1 g1 => ?_)
    · rw [hs] at hi
      rw [hsg i hi]
      try simp only [tTest, tOp, tVar, List.getElem?_cons_zero, List.getElem?_cons_succ, exSlot, rInA_str, exBl]
      rw [inS_one]
      exact hR _ (Same.refl _)
    · rw [hs] at hi
      rw [hsg i hi]
      try simp only [tVar, List.getElem?_cons_zero, exSlot]
      exact hR _ (Same.refl _)
    rw [hs] at g1
    refine rLenA_lst (SqL.of g1) ?_
    try simp only [rEqH_int]
    refine ⟨short_le (by rw [mk_len]; omega), ?_⟩
    rw [List.length_map, range_filt (fun x => decide (x ∈ sg)) l, mk_len]
    have := q H1 s1
    rw [show wB sg l = decide (((l.filter fun x => decide (x ∈ sg)).length : Int) = (l.length : Int)) by
      unfold wB
      rw [decide_eq_true h1, decide_eq_true h2, Bool.true_and, Bool.true_and]
      rw [Bool.eq_iff_iff, decide_eq_true_eq, ← filt_all]
      omega] at this
    exact this
theorem ok_d_l_pair (T : Txt K mg t) : FnOk P w K mg base CX0 2 t.f_d_l_pair t.fd_d_l_pair ["_law_row_here"] (spLPair K) := by
  refine T.F_d_l_pair.ok sc_d_l_pair (fun vs H Q E h => ?_) (fun cdv A outer s H vs Q E hr h => ?_)
  · obtain ⟨v, ws, rfl, hv, q⟩ := h; rfl
  · obtain ⟨v, ws, rfl, hv, q⟩ := h
    refine ⟨_, (@pss_cons _ _ _ _ _ (@ps_set _ _ (1) _ _ _ _ sc_d_l_pair.nd rfl (by first | exact Or.inl rfl | exact Or.inr rfl) (@pe_str _ _ _ _) (by rfl) (by first | exact Or.inl rfl | exact Or.inr rfl | assumption)) (@pss_cons _ _ _ _ _ (@ps_if _ _ _ _ _ _ _ _ (@pt_not _ _ _ _ (@pt_val _ _ _ (@pe_callB _ _ _ _ _ _ _ _ _ call_isinst rfl T.z_isinstance boot_isinstanceT (@pa_cons _ _ _ _ _ (@pv _ 0 _ _ (by rfl) (by first | exact vis0 rfl | exact vis1 rfl | exact vis2 rfl) (by decide) (by decide)) (@pa_cons _ _ _ _ _ (@pe_bltn _ _ (.ty "str") _ _ rfl T.z_str boot_strT rfl (by decide) (by decide)) (@pa_nil _) (by rfl)) (by rfl)) (by decide) (by decide) (by rfl) (by rfl)) (by intro _ ; rfl))) (@pss_one _ _ _ (@ps_ret _ _ _ _ (@pe_non _ _ _))) (@pss_nil _)) (@pss_cons _ _ _ _ _ (@ps_set _ _ (2) _ _ _ _ sc_d_l_pair.nd rfl (by first | exact Or.inl rfl | exact Or.inr rfl) (@pe_bm _ _ _ _ _ _ _ _ _ _ _ _ PySem.F.plainAttrs_str PySem.F.slot_str_split PySem.F.type_str_split mt_split (@pv _ 0 _ _ (by rfl) (by first | exact vis0 rfl | exact vis1 rfl | exact vis2 rfl) (by decide) (by decide)) (@pa_cons _ _ _ _ _ (@pe_str _ _ _ _) (@pa_nil _) (by rfl)) (by rfl) (by rfl) (by rfl) (by rfl) (by rfl)) (by rfl) (by first | exact Or.inl rfl | exact Or.inr rfl | assumption)) (@pss_mid _ _ _ _ _ (@ps_if _ _ _ _ _ _ _ _ (@PW.pt _ _ _ (@pw_or _ _ _ _ _ _ _ (@pt_cmpR _ _ _ _ _ _ _ _ (op_neH hr.units) (@pe_ix _ _ _ _ _ _ _ ix_seq (@pv _ 2 _ _ (by rfl) (by first | exact vis0 rfl | exact vis1 rfl | exact vis2 rfl) (by decide) (by decide)) (@pe_int _ _ _ _) (fun _ _ => rfl)) (@pe_str _ _ _ _) (nomark _)) (@pw_or1 _ _ _ _ (@pt_cmpR _ _ _ _ _ _ _ _ (op_neH hr.units) (@pe_callB _ _ _ _ _ _ _ _ _ call_lenA rfl T.z_len boot_lenT (@pa_cons _ _ _ _ _ (@pv _ 2 _ _ (by rfl) (by first | exact vis0 rfl | exact vis1 rfl | exact vis2 rfl) (by decide) (by decide)) (@pa_nil _) (by rfl)) (by decide) (by decide) (by rfl) (by rfl)) (@pe_int _ _ _ _) (nomark _))))) (@pss_one _ _ _ (@ps_ret _ _ _ _ (@pe_non _ _ _))) (@pss_nil _)) (@pss_cons _ _ _ _ _ (@ps_if _ _ _ _ _ _ _ _ (@pt_cmpR _ _ _ _ _ _ _ _ op_ltA (@pe_callB _ _ _ _ _ _ _ _ _ call_lenA rfl T.z_len boot_lenT (@pa_cons _ _ _ _ _ (@pe_comp _ _ _ _ _ _ _ _ _ _ _ _ _ (@compOk_of _ (defScope s_d_l_pair) (n_d_l_pair) (["_law_word", "_law_signs"]) ([none, some 1]) _ rfl rfl (by decide +kernel)) rfl (@pi_list _ _ _ _ (@pe_slice _ _ _ _ _ _ _ _ _ _ sl_any (@pv _ 2 _ _ (by rfl) (by first | exact vis0 rfl | exact vis1 rfl | exact vis2 rfl) (by decide) (by decide)) (@po_some _ _ _ (@pe_int _ _ _ _)) (@po_none _))) (fun _ _ _ _ _ => (@pg_name _ _ (0) _ (show List.Nodup (["_law_word", "_law_signs"] : List Str) by decide +kernel) rfl (by first | exact Or.inl rfl | exact Or.inr rfl) (by first | exact Or.inl rfl | exact Or.inr rfl | assumption))) (fun _ _ _ _ _ => @pts_one _ _ _ (@pt_val _ _ _ (@pe_call _ _ _ _ _ _ _ _ _ _ _ _ _ _ _ _ (ok_d_l_name_is T) (hr.mono (by decide)) rfl T.g_d_l_name_is T.F_d_l_name_is.kp T.b_d_l_name_is .nil pass0 (@pa_cons _ _ _ _ _ (@pv _ 0 _ _ (by rfl) (by first | exact vis0 rfl | exact vis1 rfl | exact vis2 rfl) (by decide) (by decide)) (@pa_cons _ _ _ _ _ (@pv _ 1 _ _ (by rfl) (by first | exact vis0 rfl | exact vis1 rfl | exact vis2 rfl) (by decide) (by decide)) (@pa_nil _) (by rfl)) (by rfl)) (by decide) (by rfl) (by rfl)) (by intro _ ; rfl))) (fun _ _ _ _ _ => (@pv _ 0 _ _ (by rfl) (by first | exact vis0 rfl | exact vis1 rfl | exact vis2 rfl) (by decide) (by decide))) (by intro _ ; rfl)) (@pa_nil _) (by rfl)) (by decide) (by decide) (by rfl) (by rfl)) (@pe_int _ _ _ _) (nomark _)) (@pss_one _ _ _ (@ps_ret _ _ _ _ (@pe_non _ _ _))) (@pss_nil _)) (@pss_one _ _ _ (@ps_ret _ _ _ _ (@pe_tup _ _ _ _ _ (@pa_cons _ _ _ _ _ (@pe_ix _ _ _ _ _ _ _ ix_seq (@pv _ 2 _ _ (by rfl) (by first | exact vis0 rfl | exact vis1 rfl | exact vis2 rfl) (by decide) (by decide)) (@pe_int _ _ _ _) (fun _ _ => rfl)) (@pa_cons _ _ _ _ _ (@pe_ix _ _ _ _ _ _ _ ix_seq (@pv _ 2 _ _ (by rfl) (by first | exact vis0 rfl | exact vis1 rfl | exact vis2 rfl) (by decide) (by decide)) (@pe_int _ _ _ _) (fun _ _ => rfl)) (@pa_nil _) (by rfl)) (by rfl)))))))))), ?_⟩
    rw [show start n_d_l_pair [v] = [some (v), none, none] from rfl]
    have hlen := hv.len
    rcases hv with ⟨l, rfl, hl, rfl⟩ | ⟨rfl, hN⟩
    rotate_left
    · try simp only [tSeq, tAsg, tC, gName, tIfS, tNot, tB, tCB, tCons, tVar, List.set_cons_succ, List.set_cons_zero, List.getElem?_cons_zero, tNil, Bool.not_eq_true', tRet, tNext, tBM, exSlot]
      refine rIsi_not hN ?_
      try simp only [exBl, if_true]
      exact q _ _ (Same.refl _) (.inl ⟨rfl, rfl⟩)
    try simp only [tSeq, tAsg, tC, gName, tIfS, tNot, tB, tCB, tCons, tVar, List.set_cons_succ, List.set_cons_zero, List.getElem?_cons_zero, tNil, Bool.not_eq_true', tRet, tNext, tBM, exSlot, rSplit_at, tyV_str, rIsi_str_str, exBl, ite_tf]
    rw [show (" " : Str) = mk [32] by decide +kernel, split_sign (by decide), List.map_map]
    refine ⟨rfl, ?_, fun p hp => ?_⟩
    · rw [mk_len]; exact Nat.le_trans (show _ ≤ 2000 by omega) (by decide)
    have hne := splitL_ne 32 l
    generalize splitL 32 l = ws at hlen hne q ⊢
    rw [show List.map (V.str ∘ mk) ws = pv' ws from rfl]
    obtain ⟨H1, e1, s1, h1⟩ := newO hp (.lst (pv' ws)); rw [e1]
    refine ⟨fun σ' H' => σ' = [some (sv l), some (V.str "abcdefghijklmnopqrstuvwxyz0123456789"), some (V.ref p)] ∧ H1 = H' ∧ ∃ x y, ws = [beatsN, x, y], ?_, ?_⟩
    · try simp only [tIfS, tOr, tTest, tOp, tVar, List.getElem?_cons_succ, List.getElem?_cons_zero, tC, tRet, tNext, if_true, tCB, tCons, tNil, exSlot]
      match ws, hne, h1, q with
      | b :: r, _, h1, q =>
        refine rIx_lst (SqL.of h1) (v := sv b) (atI_nat (j := 0) rfl) ?_
        try simp only [rNeH_str, exBl, Bool.not_eq_true', decide_eq_false_iff_not]
        rw [beats_eq]
        refine ite2 (fun c => ?_) (fun c => ?_)
        · refine q _ _ s1 (.inl ⟨rfl, ?_⟩)
          match r, c with
          | [x, y], c => exact if_neg fun z => c (by rw [z.1])
          | [], _ => rfl
          | [_], _ => rfl
          | _ :: _ :: _ :: _, _ => rfl
        have hb : b = beatsN := mk_inj (Classical.not_not.mp c)
        subst hb
        refine rLenA_lst (SqL.of h1) ?_
        try simp only [rNeH_int, exBl, Bool.not_eq_true', decide_eq_false_iff_not]
        refine ite2 (fun c => ?_) (fun c => ?_)
        · exact q _ _ s1 (.inl ⟨rfl, pairP_len (by simp at c ⊢; omega)⟩)
        · match r, c with
          | [x, y], _ => exact ⟨(by trivial), (by trivial), x, y, rfl⟩
          | [], c => exact absurd (by simp) c
          | [_], c => exact absurd (by simp) c
          | _ :: _ :: _ :: _, c => exact absurd (by simp; omega) c
    rintro σ' H' ⟨rfl, rfl, x, y, rfl⟩
    have lx := hlen.2 x (by simp)
    have ly := hlen.2 y (by simp)
    try simp only [tSeq, tIfS, tTest, tOp, tCB, tCons, tNil, tC, tRet, tNext, tTup, tVar, List.getElem?_cons_succ, List.getElem?_cons_zero, exSlot, tComp_eq, iList, tSl, tPart, tNoPart, exInt]
    refine .inr (.inl ⟨p, _, rfl, SqL.of h1, fun p2 hp2 => ?_⟩)
    rw [cut_from1]
    obtain ⟨H2, e2, s2, h2⟩ := newO hp2 (.lst [sv x, sv y]); rw [show List.drop 1 (pv' [beatsN, x, y]) = [sv x, sv y] from rfl, e2]
    refine ⟨p2, rfl, ⟨_, SqL.of h2⟩, ?_⟩
    rw [fig_eq]
    refine comp_f (src_list (xs := [sv x, sv y])) (short_le (show 2 ≤ 100000 by decide)) [some (sv figs)] rfl (fun i => wB figs (([x, y][i]?).getD default)) (fun i => sv (([x, y][i]?).getD default)) (fun H' s => s.seq (SqL.of h2)) (fun i H' R hi s hR => ?_) (fun i H' R hi s hR => ?_) (fun D H3 hD s3 g3 => ?_)
    · have hi' : i < 2 := hi
      have hpl : (([x, y][i]?).getD default).length ≤ 1000 := by
        match i, hi' with
        | 0, _ => exact lx
        | 1, _ => exact ly
      rw [show (([sv x, sv y])[i]?).getD .non = sv (([x, y][i]?).getD default) by
        match i, hi' with
        | 0, _ => rfl
        | 1, _ => rfl]
      try simp only [tB, tCall, tCons, tVar, List.getElem?_cons_zero, List.getElem?_cons_succ, tNil, List.append_nil, exSlot]
      exact ⟨_, figs, rfl, hpl, fun H4 s4 => ⟨_, rfl, hR _ s4⟩⟩
    · have hi' : i < 2 := hi
      rw [show (([sv x, sv y])[i]?).getD .non = sv (([x, y][i]?).getD default) by
        match i, hi' with
        | 0, _ => rfl
        | 1, _ => rfl]
      try simp only [tVar, List.getElem?_cons_zero, exSlot]
      exact hR _ (Same.refl _)
    refine rLenA_lst (SqL.of g3) ?_
    try simp only [rLtA_int, exBl, decide_eq_true_eq]
    rw [List.length_map]
    have hr := range_filt (wB figs) [x, y]
    rw [show [sv x, sv y].length = [x, y].length from rfl, hr]
    refine ite2 (fun c => ?_) (fun c => ?_)
    · refine q _ _ (s1.trans (s2.trans s3)) (.inl ⟨rfl, if_neg fun z => ?_⟩)
      rw [List.filter_cons, if_pos z.2.1, List.filter_cons, if_pos z.2.2] at c
      simp at c
    · have hall : [x, y].all (wB figs) = true := by
        rw [← filt_all]
        have := List.length_filter_le (wB figs) [x, y]
        simp only [List.length_cons, List.length_nil] at this ⊢
        omega
      have hx : wB figs x = true := List.all_eq_true.mp hall x (by simp)
      have hy : wB figs y = true := List.all_eq_true.mp hall y (by simp)
      have h1' := s3 _ _ (s2 _ _ h1)
      refine rIx_lst (SqL.of h1') (v := sv x) rfl (rIx_lst (SqL.of h1') (v := sv y) rfl ?_)
      refine ⟨short_le (show 2 ≤ 100000 by decide), fun p5 hp5 => ?_⟩
      obtain ⟨H5, e5, s5, h5⟩ := newO hp5 (.tup [sv x, sv y]); rw [e5]
      exact q _ _ ((s1.trans (s2.trans s3)).trans s5) (.inr ⟨x, y, p5, rfl, if_pos ⟨rfl, hx, hy⟩, h5⟩)
theorem ok_c_NoRow_init (T : Txt K mg t) : FnOk P w K mg base CX0 1 t.f_c_NoRow_init t.fd_c_NoRow_init ["self", "found"] (spXI t.C_NoRow "found") := by
  refine T.F_c_NoRow_init.ok sc_c_NoRow_init (fun vs H Q E h => ?_) (fun cdv A outer s H vs Q E hr h => ?_)
  · obtain ⟨x, v, rfl, hx, q⟩ := h; rfl
  · obtain ⟨x, v, rfl, hx, q⟩ := h
    refine ⟨_, (@pss_one _ _ _ (@ps_fldX _ _ _ _ _ _ _ _ (@pv _ 0 _ _ (by rfl) (by first | exact vis0 rfl | exact vis1 rfl | exact vis2 rfl) (by decide) (by decide)) (@pv _ 1 _ _ (by rfl) (by first | exact vis0 rfl | exact vis1 rfl | exact vis2 rfl) (by decide) (by decide)) rfl)), ?_⟩
    rw [show start n_c_NoRow_init [V.ref x, v] = [some (V.ref x), some (v)] from rfl]
    try simp only [sFldX, tVar, List.getElem?_cons_succ, List.getElem?_cons_zero, exSlot]
    exact ⟨x, _, rfl, hx, T.x_NoRow.c, T.x_NoRow.no, fun d hd => q d hd⟩
theorem ok_d_is_made_of (T : Txt K mg t) : FnOk P w K mg base CX0 1 t.f_d_is_made_of t.fd_d_is_made_of ["thing", "signs", "most"] (spMade K) := by
  refine T.F_d_is_made_of.ok sc_d_is_made_of (fun vs H Q E h => ?_) (fun cdv A outer s H vs Q E hr h => ?_)
  · obtain ⟨x, sg, m, rfl, z, rfl, hz, q⟩ := h; rfl
  · obtain ⟨x, sg, m, rfl, z, rfl, hz, q⟩ := h
    refine ⟨_, (@pss_one _ _ _ (@ps_ret _ _ _ _ (@pe_and _ _ _ _ _ _ _ (@pe_callB _ _ _ _ _ _ _ _ _ call_isinst rfl T.z_isinstance boot_isinstanceT (@pa_cons _ _ _ _ _ (@pv _ 0 _ _ (by rfl) (by first | exact vis0 rfl | exact vis1 rfl | exact vis2 rfl) (by decide) (by decide)) (@pa_cons _ _ _ _ _ (@pe_bltn _ _ (.ty "str") _ _ rfl T.z_str boot_strT rfl (by decide) (by decide)) (@pa_nil _) (by rfl)) (by rfl)) (by decide) (by decide) (by rfl) (by rfl)) (@pe_and _ _ _ _ _ _ _ (@pe_chain _ _ _ _ _ _ _ _ _ _ _ _ op_le op_le (@pe_int _ _ _ _) (@pe_callB _ _ _ _ _ _ _ _ _ call_lenA rfl T.z_len boot_lenT (@pa_cons _ _ _ _ _ (@pv _ 0 _ _ (by rfl) (by first | exact vis0 rfl | exact vis1 rfl | exact vis2 rfl) (by decide) (by decide)) (@pa_nil _) (by rfl)) (by decide) (by decide) (by rfl) (by rfl)) (@pv _ 2 _ _ (by rfl) (by first | exact vis0 rfl | exact vis1 rfl | exact vis2 rfl) (by decide) (by decide)) (by with_unfolding_all rfl)) (@pe_one _ _ _ _ _ (@pe_callB _ _ _ _ _ _ _ _ _ (call_all_bools rfl) rfl T.z_all boot_allT (@pa_cons _ _ _ _ _ (@pe_comp _ _ _ _ _ _ _ _ _ _ _ _ _ (@compOk_of _ (defScope s_d_is_made_of) (n_d_is_made_of) (["sign", "signs"]) ([none, some 1]) _ rfl rfl (by decide +kernel)) rfl (@pi_str _ _ _ _ (@pv _ 0 _ _ (by rfl) (by first | exact vis0 rfl | exact vis1 rfl | exact vis2 rfl) (by decide) (by decide))) (fun _ _ _ _ _ => (@pg_name _ _ (0) _ (show List.Nodup (["sign", "signs"] : List Str) by decide +kernel) rfl (by first | exact Or.inl rfl | exact Or.inr rfl) (by first | exact Or.inl rfl | exact Or.inr rfl | assumption))) (fun _ _ _ _ _ => @pts_nil _) (fun _ _ _ _ _ => (@pe_cmpR _ _ _ _ _ _ _ _ (op_inK (K := K) rfl) (@pv _ 0 _ _ (by rfl) (by first | exact vis0 rfl | exact vis1 rfl | exact vis2 rfl) (by decide) (by decide)) (@pv _ 1 _ _ (by rfl) (by first | exact vis0 rfl | exact vis1 rfl | exact vis2 rfl) (by decide) (by decide)) (by with_unfolding_all rfl))) (by intro _ ; rfl)) (@pa_nil _) (by rfl)) (by decide) (by decide) (by rfl) (by rfl))))))), ?_⟩
    rw [show start n_d_is_made_of [V.str z, V.str sg, V.int m] = [some (V.str z), some (V.str sg), some (V.int m)] from rfl]
    try simp only [tRet, tAndV, tCB, tCons, tVar, List.getElem?_cons_zero, tC, tNil, tChain, List.getElem?_cons_succ, tComp_eq, iStr, exSlot, exStr, exBl, ite_ft, rLenA_str, rI0_int, decide_eq_true_eq, rIsi_str_str, if_true]
    refine ⟨short_le hz, ite2 (fun c1 => ite2 (fun c2 => ?_) (fun c2 => ?_)) (fun c1 => ?_)⟩
    · refine comp_1 src_f (short_le hz) [some (V.str sg)] rfl (fun i v => v = .bl (inS (sgn z i) sg)) (fun _ _ => trivial) (fun i H' R hi s hR => ?_) (fun D H' ys _ s hD hl hv => ?_)
      · rw [show signV z i = V.str (sgn z i) from rfl]
        try simp only [tOp, tVar, List.getElem?_cons_zero, List.getElem?_cons_succ, exSlot, rInA_str]
        exact hR _ _ (Same.refl _) rfl
      · have e : ys = ((List.range z.cps.size).map fun i => inS (sgn z i) sg).map V.bl := by
          refine List.ext_getElem? fun i => ?_
          rw [List.getElem?_map, List.getElem?_map]
          by_cases hi : i < z.cps.size
          · rw [List.getElem?_range hi, List.getElem?_eq_getElem (by omega)]
            exact congrArg some (hv i _ (List.getElem?_eq_getElem (by omega)))
          · rw [List.getElem?_eq_none (by omega), List.getElem?_eq_none (by simp; omega)]; rfl
        refine ⟨D, _, rfl, by rw [← e]; exact SqL.of hD, ?_⟩
        have e2 : madeOf z sg m = ((List.range z.cps.size).map fun i => inS (sgn z i) sg).all id := by
          unfold madeOf allIn
          rw [decide_eq_true c1, decide_eq_true c2, List.all_map]; rfl
        rw [← e2]
        exact q _ s
    · have e2 : madeOf z sg m = false := by unfold madeOf; rw [decide_eq_false c2, Bool.and_false, Bool.false_and]
      rw [← e2]; exact q _ (Same.refl _)
    · have e2 : madeOf z sg m = false := by unfold madeOf; rw [decide_eq_false c1, Bool.false_and, Bool.false_and]
      rw [← e2]; exact q _ (Same.refl _)
theorem ok_d_is_label (T : Txt K mg t) : FnOk P w K mg base CX0 2 t.f_d_is_label t.fd_d_is_label ["thing"] (spIs K "abcdefghijklmnopqrstuvwxyz0123456789" 8) := by
  refine T.F_d_is_label.ok sc_d_is_label (fun vs H Q E h => ?_) (fun cdv A outer s H vs Q E hr h => ?_)
  · obtain ⟨z, rfl, hz, q⟩ := h; rfl
  · obtain ⟨z, rfl, hz, q⟩ := h
    obtain ⟨_, k_SMALL_OR_FIGURE⟩ := T.k_SMALL_OR_FIGURE
    obtain ⟨_, k_LONGEST⟩ := T.k_LONGEST
    refine ⟨_, (@pss_one _ _ _ (@ps_ret _ _ _ _ (@pe_call _ _ _ _ _ _ _ _ _ _ _ _ _ _ _ _ (ok_d_is_made_of T) (hr.mono (by decide)) rfl T.g_d_is_made_of T.F_d_is_made_of.kp T.b_d_is_made_of .nil pass0 (@pa_cons _ _ _ _ _ (@pv _ 0 _ _ (by rfl) (by first | exact vis0 rfl | exact vis1 rfl | exact vis2 rfl) (by decide) (by decide)) (@pa_cons _ _ _ _ _ (@pe_glob _ _ (.str "abcdefghijklmnopqrstuvwxyz0123456789") _ _ rfl k_SMALL_OR_FIGURE ⟨_, rfl⟩ (by decide)) (@pa_cons _ _ _ _ _ (@pe_glob _ _ (.int 8) _ _ rfl k_LONGEST ⟨_, rfl⟩ (by decide)) (@pa_nil _) (by rfl)) (by rfl)) (by rfl)) (by decide) (by rfl) (by rfl)))), ?_⟩
    rw [show start n_d_is_label [V.str z] = [some (V.str z)] from rfl]
    try simp only [tRet, tCall, tCons, tVar, List.getElem?_cons_zero, tC, tNil, List.append_nil, exSlot]
    exact ⟨_, _, _, rfl, z, rfl, hz, q⟩
theorem ok_d_words_of (T : Txt K mg t) : FnOk P w K mg base CX0 1 t.f_d_words_of t.fd_d_words_of ["row"] (spWords K) := by
  refine T.F_d_words_of.ok sc_d_words_of (fun vs H Q E h => ?_) (fun cdv A outer s H vs Q E hr h => ?_)
  · obtain ⟨v, ws, rfl, hv, q⟩ := h; rfl
  · obtain ⟨v, ws, rfl, hv, q⟩ := h
    refine ⟨_, (@pss_one _ _ _ (@ps_ret _ _ _ _ (@pe_ifExp _ _ _ _ _ _ _ _ (@pt_val _ _ _ (@pe_callB _ _ _ _ _ _ _ _ _ call_isinst rfl T.z_isinstance boot_isinstanceT (@pa_cons _ _ _ _ _ (@pv _ 0 _ _ (by rfl) (by first | exact vis0 rfl | exact vis1 rfl | exact vis2 rfl) (by decide) (by decide)) (@pa_cons _ _ _ _ _ (@pe_bltn _ _ (.ty "str") _ _ rfl T.z_str boot_strT rfl (by decide) (by decide)) (@pa_nil _) (by rfl)) (by rfl)) (by decide) (by decide) (by rfl) (by rfl)) (by intro _ ; rfl)) (@pe_bm _ _ _ _ _ _ _ _ _ _ _ _ PySem.F.plainAttrs_str PySem.F.slot_str_split PySem.F.type_str_split mt_split (@pv _ 0 _ _ (by rfl) (by first | exact vis0 rfl | exact vis1 rfl | exact vis2 rfl) (by decide) (by decide)) (@pa_cons _ _ _ _ _ (@pe_str _ _ _ _) (@pa_nil _) (by rfl)) (by rfl) (by rfl) (by rfl) (by rfl) (by rfl)) (@pe_lst _ _ _ _ (@pa_nil _))))), ?_⟩
    rw [show start n_d_words_of [v] = [some (v)] from rfl]
    rcases hv with ⟨l, rfl, hl, rfl⟩ | ⟨rfl, hN⟩
    · try simp only [tRet, tIf, tB, tCB, tCons, tVar, List.getElem?_cons_zero, tC, tNil, tBM, exSlot, rSplit_at, tyV_str, tLst, rIsi_str_str, exBl, if_true]
      rw [show (" " : Str) = mk [32] by decide +kernel, split_sign (by decide)]
      refine ⟨rfl, ?_, fun p hp => ?_⟩
      · rw [mk_len]; exact Nat.le_trans (show _ ≤ 2000 by omega) (by decide)
      rw [List.map_map]
      exact q p _ (Same.upd hp) hp upd_same
    · try simp only [tRet, tIf, tB, tCB, tCons, tVar, List.getElem?_cons_zero, tC, tNil, tBM, exSlot, tLst]
      refine rIsi_not hN ?_
      try simp only [exBl, ite_ft]
      exact ⟨by decide, fun p hp => q p _ (Same.upd hp) hp upd_same⟩
theorem ok_d_pair_of (T : Txt K mg t) : FnOk P w K mg base (CXE P w K) 3 t.f_d_pair_of t.fd_d_pair_of ["row"] (spPairOf K t) := by
  refine T.F_d_pair_of.okX sc_d_pair_of (fun vs H Q E h => ?_) (fun cdv A outer s H vs Q E hr h => ?_)
  · obtain ⟨v, ws, rfl, hv, q, qx⟩ := h; rfl
  · obtain ⟨v, ws, rfl, hv, q, qx⟩ := h
    refine ⟨_, (@pss_cons _ _ _ _ _ (@ps_set _ _ (1) _ _ _ _ sc_d_pair_of.nd rfl (by first | exact Or.inl rfl | exact Or.inr rfl) (@pe_call _ _ _ _ _ _ _ _ _ _ _ _ _ _ _ _ (ok_d_words_of T) (hr.mono (by decide)) rfl T.g_d_words_of T.F_d_words_of.kp T.b_d_words_of .nil pass0 (@pa_cons _ _ _ _ _ (@pv _ 0 _ _ (by rfl) (by first | exact vis0 rfl | exact vis1 rfl | exact vis2 rfl) (by decide) (by decide)) (@pa_nil _) (by rfl)) (by decide) (by rfl) (by rfl)) (by rfl) (by first | exact Or.inl rfl | exact Or.inr rfl | assumption)) (@pss_mid _ _ _ _ _ (@ps_if _ _ _ _ _ _ _ _ (@PW.pt _ _ _ (@pw_or _ _ _ _ _ _ _ (@pt_cmpR _ _ _ _ _ _ _ _ (op_neH hr.units) (@pe_callB _ _ _ _ _ _ _ _ _ call_lenA rfl T.z_len boot_lenT (@pa_cons _ _ _ _ _ (@pv _ 1 _ _ (by rfl) (by first | exact vis0 rfl | exact vis1 rfl | exact vis2 rfl) (by decide) (by decide)) (@pa_nil _) (by rfl)) (by decide) (by decide) (by rfl) (by rfl)) (@pe_int _ _ _ _) (nomark _)) (@pw_or _ _ _ _ _ _ _ (@pt_cmpR _ _ _ _ _ _ _ _ (op_neH hr.units) (@pe_ix _ _ _ _ _ _ _ ix_seq (@pv _ 1 _ _ (by rfl) (by first | exact vis0 rfl | exact vis1 rfl | exact vis2 rfl) (by decide) (by decide)) (@pe_int _ _ _ _) (fun _ _ => rfl)) (@pe_str _ _ _ _) (nomark _)) (@pw_or1 _ _ _ _ (@pt_not _ _ _ _ (@PW.pt _ _ _ (@pw_and _ _ _ _ _ _ _ (@pt_val _ _ _ (@pe_call _ _ _ _ _ _ _ _ _ _ _ _ _ _ _ _ (ok_d_is_label T) (hr.mono (by decide)) rfl T.g_d_is_label T.F_d_is_label.kp T.b_d_is_label .nil pass0 (@pa_cons _ _ _ _ _ (@pe_ix _ _ _ _ _ _ _ ix_seq (@pv _ 1 _ _ (by rfl) (by first | exact vis0 rfl | exact vis1 rfl | exact vis2 rfl) (by decide) (by decide)) (@pe_int _ _ _ _) (fun _ _ => rfl)) (@pa_nil _) (by rfl)) (by decide) (by rfl) (by rfl)) (by intro _ ; rfl)) (@pw_and1 _ _ _ _ (@pt_val _ _ _ (@pe_call _ _ _ _ _ _ _ _ _ _ _ _ _ _ _ _ (ok_d_is_label T) (hr.mono (by decide)) rfl T.g_d_is_label T.F_d_is_label.kp T.b_d_is_label .nil pass0 (@pa_cons _ _ _ _ _ (@pe_ix _ _ _ _ _ _ _ ix_seq (@pv _ 1 _ _ (by rfl) (by first | exact vis0 rfl | exact vis1 rfl | exact vis2 rfl) (by decide) (by decide)) (@pe_int _ _ _ _) (fun _ _ => rfl)) (@pa_nil _) (by rfl)) (by decide) (by rfl) (by rfl)) (by intro _ ; rfl)))))))))) (@pss_one _ _ _ (@ps_raise _ _ _ _ _ out_of rfl (@pe_makeX _ _ _ _ _ _ _ _ _ _ _ _ _ _ _ _ _ T.x_NoRow.mx (ok_c_NoRow_init T) (hr.mono (by decide)) rfl T.g_NoRow T.b_c_NoRow_init .nil pass0 (@pa_cons _ _ _ _ _ (@pv _ 0 _ _ (by rfl) (by first | exact vis0 rfl | exact vis1 rfl | exact vis2 rfl) (by decide) (by decide)) (@pa_nil _) (by rfl)) (by decide) (by rfl) (by rfl)))) (@pss_nil _)) (@pss_one _ _ _ (@ps_ret _ _ _ _ (@pe_tup _ _ _ _ _ (@pa_cons _ _ _ _ _ (@pe_ix _ _ _ _ _ _ _ ix_seq (@pv _ 1 _ _ (by rfl) (by first | exact vis0 rfl | exact vis1 rfl | exact vis2 rfl) (by decide) (by decide)) (@pe_int _ _ _ _) (fun _ _ => rfl)) (@pa_cons _ _ _ _ _ (@pe_ix _ _ _ _ _ _ _ ix_seq (@pv _ 1 _ _ (by rfl) (by first | exact vis0 rfl | exact vis1 rfl | exact vis2 rfl) (by decide) (by decide)) (@pe_int _ _ _ _) (fun _ _ => rfl)) (@pa_nil _) (by rfl)) (by rfl))))))), ?_⟩
    rw [show start n_d_pair_of [v] = [some (v), none] from rfl]
    have hxc := T.x_NoRow.c
    have hlen := hv.len
    try simp only [tSeq, tAsg, tCall, tCons, tVar, List.getElem?_cons_zero, tNil, List.append_nil, gName, List.set_cons_succ, List.set_cons_zero, exSlot]
    refine ⟨v, ws, rfl, hv, fun p H1 s1 hpn h1 => ?_⟩
    refine ⟨fun σ' H' => σ' = [some v, some (V.ref p)] ∧ Same H1 H' ∧ ∃ x y, ws = [beatsN, x, y] ∧ wB figs x = true ∧ wB figs y = true, ?_, ?_⟩
    · try simp only [tIfS, tOr, tTest, tOp, tCB, tCons, tVar, List.getElem?_cons_succ, List.getElem?_cons_zero, tNil, tC, tNext, if_true, tNot, tAnd, tB, tCall, List.append_nil, Bool.not_eq_true', exSlot]
      refine rLenA_lst (SqL.of h1) ?_
      try simp only [rNeH_int, exBl, Bool.not_eq_true', decide_eq_false_iff_not]
      refine ite2 (fun c => ?_) (fun c => ?_)
      · refine raise_go hxc (fun R r => ⟨_, rfl, r⟩) fun x d T H' n => qx (pairP_len fun z => ?_) x d T H' (n.mono s1)
        simp at c; omega
      have h3 : ws.length = 3 := by simp at c; omega
      match ws, h3, hlen, h1, qx with
      | [b, x, y], _, hlen, h1, qx =>
        have lx := hlen.2 x (by simp)
        have ly := hlen.2 y (by simp)
        refine rIx_lst (SqL.of h1) (v := sv b) rfl ?_
        try simp only [rNeH_str, exBl, Bool.not_eq_true', decide_eq_false_iff_not]
        rw [beats_eq]
        refine ite2 (fun c => ?_) (fun c => ?_)
        · refine raise_go hxc (fun R r => ⟨_, rfl, r⟩) fun x' d T H' n => qx ?_ x' d T H' (n.mono s1)
          exact if_neg fun z => absurd (by rw [z.1]) c
        have hb : b = beatsN := mk_inj (Classical.not_not.mp c)
        subst hb
        refine rIx_lst (SqL.of h1) (v := sv x) rfl ?_
        try simp only [spIs_at, exBl]
        refine ⟨by rw [mk_len]; omega, fun H2 s2 => ?_⟩
        rw [fig_eq, made_eq]
        try skip
        refine ite2 (fun cx => ?_) (fun cx => ?_)
        · refine rIx_lst (SqL.of (s2 _ _ h1)) (v := sv y) rfl ?_
          try simp only [spIs_at, exBl]
          refine ⟨by rw [mk_len]; omega, fun H3 s3 => ?_⟩
          rw [made_eq]
          try skip
          refine ite2 (fun cy => ?_) (fun cy => ?_)
          · refine raise_go hxc (fun R r => ⟨_, rfl, r⟩) fun x' d T H' n => qx ?_ x' d T H' (n.mono (s1.trans (s2.trans s3)))
            exact if_neg fun z => absurd z.2.2 (by simpa using cy)
          · exact ⟨(by trivial), s2.trans s3, x, y, rfl, by simpa using cx, by simpa using cy⟩
        · refine raise_go hxc (fun R r => ⟨_, rfl, r⟩) fun x' d T H' n => qx ?_ x' d T H' (n.mono (s1.trans s2))
          exact if_neg fun z => absurd z.2.1 (by simpa using cx)
    rintro σ' H2 ⟨rfl, s2, x, y, rfl, hx, hy⟩
    try simp only [tRet, tTup, tCons, tOp, tVar, List.getElem?_cons_succ, List.getElem?_cons_zero, tC, tNil, exSlot]
    refine rIx_lst (SqL.of (s2 _ _ h1)) (v := sv x) rfl (rIx_lst (SqL.of (s2 _ _ h1)) (v := sv y) rfl ?_)
    refine ⟨short_le (show 2 ≤ 100000 by decide), fun p5 hp5 => ?_⟩
    obtain ⟨H5, e5, s5, h5⟩ := newO hp5 (.tup [sv x, sv y]); rw [e5]
    exact q x y p5 H5 (if_pos ⟨rfl, hx, hy⟩) ((s1.trans s2).trans s5) h5
theorem ok_d_is_name (T : Txt K mg t) : FnOk P w K mg base CX0 2 t.f_d_is_name t.fd_d_is_name ["thing"] (spIs K "abcdefghijklmnopqrstuvwxyz" 8) := by
  refine T.F_d_is_name.ok sc_d_is_name (fun vs H Q E h => ?_) (fun cdv A outer s H vs Q E hr h => ?_)
  · obtain ⟨z, rfl, hz, q⟩ := h; rfl
  · obtain ⟨z, rfl, hz, q⟩ := h
    obtain ⟨_, k_SMALL⟩ := T.k_SMALL
    obtain ⟨_, k_LONGEST⟩ := T.k_LONGEST
    refine ⟨_, (@pss_one _ _ _ (@ps_ret _ _ _ _ (@pe_call _ _ _ _ _ _ _ _ _ _ _ _ _ _ _ _ (ok_d_is_made_of T) (hr.mono (by decide)) rfl T.g_d_is_made_of T.F_d_is_made_of.kp T.b_d_is_made_of .nil pass0 (@pa_cons _ _ _ _ _ (@pv _ 0 _ _ (by rfl) (by first | exact vis0 rfl | exact vis1 rfl | exact vis2 rfl) (by decide) (by decide)) (@pa_cons _ _ _ _ _ (@pe_glob _ _ (.str "abcdefghijklmnopqrstuvwxyz") _ _ rfl k_SMALL ⟨_, rfl⟩ (by decide)) (@pa_cons _ _ _ _ _ (@pe_glob _ _ (.int 8) _ _ rfl k_LONGEST ⟨_, rfl⟩ (by decide)) (@pa_nil _) (by rfl)) (by rfl)) (by rfl)) (by decide) (by rfl) (by rfl)))), ?_⟩
    rw [show start n_d_is_name [V.str z] = [some (V.str z)] from rfl]
    try simp only [tRet, tCall, tCons, tVar, List.getElem?_cons_zero, tC, tNil, List.append_nil, exSlot]
    exact ⟨_, _, _, rfl, z, rfl, hz, q⟩
theorem ok_d_things_of (T : Txt K mg t) : FnOk P w K mg base (CXE P w K) 3 t.f_d_things_of t.fd_d_things_of ["row"] (spThingsOf K t) := by
  refine T.F_d_things_of.okX sc_d_things_of (fun vs H Q E h => ?_) (fun cdv A outer s H vs Q E hr h => ?_)
  · obtain ⟨v, ws, rfl, hv, q, qx⟩ := h; rfl
  · obtain ⟨v, ws, rfl, hv, q, qx⟩ := h
    obtain ⟨_, k_MOST_THINGS⟩ := T.k_MOST_THINGS
    refine ⟨_, (@pss_cons _ _ _ _ _ (@ps_set _ _ (1) _ _ _ _ sc_d_things_of.nd rfl (by first | exact Or.inl rfl | exact Or.inr rfl) (@pe_call _ _ _ _ _ _ _ _ _ _ _ _ _ _ _ _ (ok_d_words_of T) (hr.mono (by decide)) rfl T.g_d_words_of T.F_d_words_of.kp T.b_d_words_of .nil pass0 (@pa_cons _ _ _ _ _ (@pv _ 0 _ _ (by rfl) (by first | exact vis0 rfl | exact vis1 rfl | exact vis2 rfl) (by decide) (by decide)) (@pa_nil _) (by rfl)) (by decide) (by rfl) (by rfl)) (by rfl) (by first | exact Or.inl rfl | exact Or.inr rfl | assumption)) (@pss_cons _ _ _ _ _ (@ps_set _ _ (2) _ _ _ _ sc_d_things_of.nd rfl (by first | exact Or.inl rfl | exact Or.inr rfl) (@pe_slice _ _ _ _ _ _ _ _ _ _ sl_any (@pv _ 1 _ _ (by rfl) (by first | exact vis0 rfl | exact vis1 rfl | exact vis2 rfl) (by decide) (by decide)) (@po_some _ _ _ (@pe_int _ _ _ _)) (@po_none _)) (by rfl) (by first | exact Or.inl rfl | exact Or.inr rfl | assumption)) (@pss_mid _ _ _ _ _ (@ps_if _ _ _ _ _ _ _ _ (@PW.pt _ _ _ (@pw_or _ _ _ _ _ _ _ (@pt_cmpR _ _ _ _ _ _ _ _ (op_neTH hr.units) (@pe_slice _ _ _ _ _ _ _ _ _ _ sl_any (@pv _ 1 _ _ (by rfl) (by first | exact vis0 rfl | exact vis1 rfl | exact vis2 rfl) (by decide) (by decide)) (@po_none _) (@po_some _ _ _ (@pe_int _ _ _ _))) (@pe_lst _ _ _ _ (@pa_cons _ _ _ _ _ (@pe_str _ _ _ _) (@pa_nil _) (by rfl))) (nomark _)) (@pw_or1 _ _ _ _ (@pt_not _ _ _ _ (@pt_chain _ _ _ _ _ _ _ _ _ _ _ _ op_le op_le (@pe_int _ _ _ _) (@pe_callB _ _ _ _ _ _ _ _ _ call_lenA rfl T.z_len boot_lenT (@pa_cons _ _ _ _ _ (@pv _ 2 _ _ (by rfl) (by first | exact vis0 rfl | exact vis1 rfl | exact vis2 rfl) (by decide) (by decide)) (@pa_nil _) (by rfl)) (by decide) (by decide) (by rfl) (by rfl)) (@pe_glob _ _ (.int 8) _ _ rfl k_MOST_THINGS ⟨_, rfl⟩ (by decide)) (by with_unfolding_all rfl)))))) (@pss_one _ _ _ (@ps_raise _ _ _ _ _ out_of rfl (@pe_makeX _ _ _ _ _ _ _ _ _ _ _ _ _ _ _ _ _ T.x_NoRow.mx (ok_c_NoRow_init T) (hr.mono (by decide)) rfl T.g_NoRow T.b_c_NoRow_init .nil pass0 (@pa_cons _ _ _ _ _ (@pv _ 0 _ _ (by rfl) (by first | exact vis0 rfl | exact vis1 rfl | exact vis2 rfl) (by decide) (by decide)) (@pa_nil _) (by rfl)) (by decide) (by rfl) (by rfl)))) (@pss_nil _)) (@pss_mid _ _ _ _ _ (@ps_if _ _ _ _ _ _ _ _ (@PW.pt _ _ _ (@pw_or _ _ _ _ _ _ _ (@pt_not _ _ _ _ (@pt_val _ _ _ (@pe_callB _ _ _ _ _ _ _ _ _ (call_all_bools rfl) rfl T.z_all boot_allT (@pa_cons _ _ _ _ _ (@pe_comp _ _ _ _ _ _ _ _ _ _ _ _ _ (@compOk_of _ (defScope s_d_things_of) (n_d_things_of) (["thing"]) ([none]) _ rfl rfl (by decide +kernel)) rfl (@pi_list _ _ _ _ (@pv _ 2 _ _ (by rfl) (by first | exact vis0 rfl | exact vis1 rfl | exact vis2 rfl) (by decide) (by decide))) (fun _ _ _ _ _ => (@pg_name _ _ (0) _ (show List.Nodup (["thing"] : List Str) by decide +kernel) rfl (by first | exact Or.inl rfl | exact Or.inr rfl) (by first | exact Or.inl rfl | exact Or.inr rfl | assumption))) (fun _ _ _ _ _ => @pts_nil _) (fun _ _ _ _ _ => (@pe_call _ _ _ _ _ _ _ _ _ _ _ _ _ _ _ _ (ok_d_is_name T) (hr.mono (by decide)) rfl T.g_d_is_name T.F_d_is_name.kp T.b_d_is_name .nil pass0 (@pa_cons _ _ _ _ _ (@pv _ 0 _ _ (by rfl) (by first | exact vis0 rfl | exact vis1 rfl | exact vis2 rfl) (by decide) (by decide)) (@pa_nil _) (by rfl)) (by decide) (by rfl) (by rfl))) (by intro _ ; rfl)) (@pa_nil _) (by rfl)) (by decide) (by decide) (by rfl) (by rfl)) (by intro _ ; rfl))) (@pw_or1 _ _ _ _ (@pt_cmpR _ _ _ _ _ _ _ _ op_ltA (@pe_callB _ _ _ _ _ _ _ _ _ call_lenS rfl T.z_len boot_lenT (@pa_cons _ _ _ _ _ (@pe_callTy _ _ _ _ _ _ _ _ _ (call_setOf rfl) rfl T.z_set boot_setT (@pa_cons _ _ _ _ _ (@pv _ 2 _ _ (by rfl) (by first | exact vis0 rfl | exact vis1 rfl | exact vis2 rfl) (by decide) (by decide)) (@pa_nil _) (by rfl)) (by decide) (by decide) (by rfl) (by rfl)) (@pa_nil _) (by rfl)) (by decide) (by decide) (by rfl) (by rfl)) (@pe_callB _ _ _ _ _ _ _ _ _ call_lenA rfl T.z_len boot_lenT (@pa_cons _ _ _ _ _ (@pv _ 2 _ _ (by rfl) (by first | exact vis0 rfl | exact vis1 rfl | exact vis2 rfl) (by decide) (by decide)) (@pa_nil _) (by rfl)) (by decide) (by decide) (by rfl) (by rfl)) (nomark _))))) (@pss_one _ _ _ (@ps_raise _ _ _ _ _ out_of rfl (@pe_makeX _ _ _ _ _ _ _ _ _ _ _ _ _ _ _ _ _ T.x_NoRow.mx (ok_c_NoRow_init T) (hr.mono (by decide)) rfl T.g_NoRow T.b_c_NoRow_init .nil pass0 (@pa_cons _ _ _ _ _ (@pv _ 0 _ _ (by rfl) (by first | exact vis0 rfl | exact vis1 rfl | exact vis2 rfl) (by decide) (by decide)) (@pa_nil _) (by rfl)) (by decide) (by rfl) (by rfl)))) (@pss_nil _)) (@pss_one _ _ _ (@ps_ret _ _ _ _ (@pv _ 2 _ _ (by rfl) (by first | exact vis0 rfl | exact vis1 rfl | exact vis2 rfl) (by decide) (by decide)))))))), ?_⟩
    rw [show start n_d_things_of [v] = [some (v), none, none] from rfl]
    have hxc := T.x_NoRow.c
    have hlen := hv.len
    try simp only [tSeq, tAsg, tCall, tCons, tVar, List.getElem?_cons_zero, tNil, List.append_nil, gName, tSl, List.set_cons_succ, List.set_cons_zero, List.getElem?_cons_succ, tPart, tC, tNoPart, exInt, exSlot]
    refine ⟨v, ws, rfl, hv, fun p H1 s1 hpn h1 => ?_⟩
    refine .inr (.inl ⟨p, _, rfl, SqL.of h1, fun p2 hp2 => ?_⟩)
    rw [cut_from1, ← List.map_drop]
    obtain ⟨H2, e2, s2, h2⟩ := newO hp2 (.lst (pv' (ws.drop 1))); rw [e2]
    have hp2n : H p2 = none := none_of_same s1 hp2
    refine ⟨fun σ' H' => σ' = [some v, some (V.ref p), some (V.ref p2)] ∧ Same H2 H' ∧ ∃ ts, ws = thingsN :: ts ∧ 1 ≤ ts.length ∧ ts.length ≤ 8, ?_, ?_⟩
    · try simp only [tIfS, tOr, tTest, tOp, tSl, tVar, List.getElem?_cons_succ, List.getElem?_cons_zero, tNoPart, tPart, tC, tLst, tCons, tNil, tNext, if_true, tNot, tChain, tCB, Bool.not_eq_true', exBl, exSlot, exInt]
      refine .inr (.inl ⟨p, _, rfl, SqL.of (s2 _ _ h1), fun p3 hp3 => ?_⟩)
      rw [cut_to1, ← List.map_take]
      obtain ⟨H3, e3, s3, h3⟩ := newO hp3 (.lst (pv' (ws.take 1))); rw [e3]
      refine ⟨short_le (show 1 ≤ 100000 by decide), fun p4 hp4 => ?_⟩
      obtain ⟨H4, e4, s4, h4⟩ := newO hp4 (.lst [V.str "things"]); rw [e4]
      refine .inr ⟨p3, p4, (ws.take 1).map mk, [("things" : Str)], rfl, rfl, SqL.of (by rw [List.map_map]; exact s4 _ _ h3), SqL.of h4, ?_⟩
      try simp only [exBl, decide_eq_true_eq]
      refine ite2 (fun c => ?_) (fun c => ?_)
      · refine raise_go hxc (fun R r => ⟨_, rfl, r⟩) fun x d T H' n => qx ?_ x d T H' (n.mono (((s1.trans s2).trans s3).trans s4))
        match ws, c with
        | [], _ => rfl
        | a :: r, c => exact if_neg fun z => c ((take1_eq _).mpr ⟨r, by rw [z.1.1]⟩)
      obtain ⟨ts, rfl⟩ := (take1_eq ws).mp (Classical.not_not.mp c)
      refine rLenA_lst (SqL.of (s4 _ _ (s3 _ _ h2))) ?_
      try simp only [rI0_int, exBl, decide_eq_false_iff_not, decide_eq_true_eq]
      refine ite2 (fun c1 => ite2 (fun c2 => ?_) (fun c2 => ?_)) (fun c1 => ?_)
      · refine raise_go hxc (fun R r => ⟨_, rfl, r⟩) fun x d T H' n => qx ?_ x d T H' (n.mono (((s1.trans s2).trans s3).trans s4))
        exact if_neg fun z => absurd z.1.2.2 (by simp at c2; omega)
      · exact ⟨(by trivial), s3.trans s4, ts, rfl, by simp at c1; omega, by simp at c2; omega⟩
      · refine raise_go hxc (fun R r => ⟨_, rfl, r⟩) fun x d T H' n => qx ?_ x d T H' (n.mono (((s1.trans s2).trans s3).trans s4))
        exact if_neg fun z => absurd z.1.2.1 (by simp at c1; omega)
    rintro σ' H3 ⟨rfl, s3, ts, rfl, t1, t8⟩
    have h2' : H3 p2 = some (.lst (pv' ts)) := s3 _ _ h2
    refine ⟨fun σ' H' => σ' = [some v, some (V.ref p), some (V.ref p2)] ∧ Same H3 H' ∧ (ts.all (wB lows) = true ∧ ¬ dist (ts.map mk) < ts.length), ?_, ?_⟩
    · try simp only [tIfS, tOr, tNot, tB, tCB, tCons, tNil, Bool.not_eq_true', tNext, if_true, tTest, tOp, tVar, List.getElem?_cons_succ, List.getElem?_cons_zero, exSlot, exBl, tComp_eq, iList, exRef]
      refine ⟨⟨_, SqL.of h2'⟩, ?_⟩
      refine comp_1 (src_list (xs := pv' ts)) (short_le (by simp; omega)) [] rfl (fun i v => v = .bl (wB lows ((ts[i]?).getD []))) (fun H' s => s.seq (SqL.of h2')) (fun i H' R hi s hR => ?_) (fun D4 H4 ys _ s4 hD4 hl4 hv4 => ?_)
      · have hi' : i < ts.length := by simpa using hi
        have e2 : ((pv' ts)[i]?).getD .non = sv ts[i] := by rw [List.getElem?_map, List.getElem?_eq_getElem hi']; rfl
        have e3 : (ts[i]?).getD [] = ts[i] := by rw [List.getElem?_eq_getElem hi']; rfl
        have hp := hlen.2 ts[i] (List.mem_cons_of_mem _ (List.getElem_mem hi'))
        rw [e3] at hR
        rw [e2]
        try simp only [tCall, tCons, tVar, List.getElem?_cons_zero, tNil, List.append_nil, exSlot]
        refine ⟨_, rfl, by rw [mk_len]; omega, fun H3 s3 => ?_⟩
        rw [low_eq, made_eq]
        exact hR _ _ s3 rfl
      have e4 : ys = (ts.map (wB lows)).map V.bl := by
        refine List.ext_getElem? fun i => ?_
        rw [List.getElem?_map, List.getElem?_map]
        by_cases hi : i < ys.length
        · have hi2 : i < ts.length := by simp at hl4; omega
          rw [List.getElem?_eq_getElem hi, hv4 i _ (List.getElem?_eq_getElem hi), List.getElem?_eq_getElem hi2]; rfl
        · rw [List.getElem?_eq_none (by omega), List.getElem?_eq_none (by simp at hl4 ⊢; omega)]; rfl
      refine ⟨D4, _, rfl, by rw [← e4]; exact SqL.of hD4, ?_⟩
      rw [show (ts.map (wB lows)).all id = ts.all (wB lows) by rw [List.all_map]; rfl]
      try skip
      have rs : Same H H4 := ((s1.trans s2).trans s3).trans s4
      refine ite2 (fun c => ?_) (fun c => ?_)
      · refine raise_go hxc (fun R r => ⟨_, rfl, r⟩) fun x d T H' n => qx ?_ x d T H' (n.mono rs)
        exact if_neg fun z => absurd z.2.1 (by simpa using c)
      refine ⟨p2, ts.map mk, rfl, by rw [List.map_map]; exact SqL.of (s4 _ _ h2'), by simp; omega, fun p5 hp5 => ?_⟩
      obtain ⟨H5, e5, s5, h5⟩ := newO hp5 (SetO p5 (dist (ts.map mk))); rw [e5]
      have hdl := dist_le (ts.map mk)
      refine ⟨p5, _, rfl, h5, by simp at hdl; omega, ?_⟩
      refine rLenA_lst (SqL.of (s5 _ _ (s4 _ _ h2'))) ?_
      try simp only [rLtA_int, exBl, decide_eq_true_eq]
      refine ite2 (fun c2 => ?_) (fun c2 => ?_)
      · refine raise_go hxc (fun R r => ⟨_, rfl, r⟩) fun x d T H' n => qx ?_ x d T H' (n.mono (rs.trans s5))
        exact if_neg fun z => z.2.2 (by simp at c2; omega)
      · exact ⟨(by trivial), s4.trans s5, by simpa using c, by simp at c2; omega⟩
    rintro σ' H4 ⟨rfl, s4, hall, hd⟩
    try simp only [tRet, tVar, List.getElem?_cons_succ, List.getElem?_cons_zero, exSlot]
    exact q ts p2 H4 (if_pos ⟨⟨rfl, t1, t8⟩, hall, hd⟩) (((s1.trans s2).trans s3).trans s4) hp2n (s4 _ _ h2')
theorem ok_d_l_refused (T : Txt K mg t) : FnOk P w K mg base CX0 4 t.f_d_l_refused t.fd_d_l_refused ["_law_row_here", "_law_beats"] (spRefused K) := by
  refine T.F_d_l_refused.ok sc_d_l_refused (fun vs H Q E h => ?_) (fun cdv A outer s H vs Q E hr h => ?_)
  · obtain ⟨v, b, ws, rfl, hv, hE, qb, qt, q⟩ := h; rfl
  · obtain ⟨v, b, ws, rfl, hv, hE, qb, qt, q⟩ := h
    refine ⟨_, (@pss_cons _ _ _ _ _ (@ps_set _ _ (2) _ _ _ _ sc_d_l_refused.nd rfl (by first | exact Or.inl rfl | exact Or.inr rfl) (@pe_non _ _ _) (by rfl) (by first | exact Or.inl rfl | exact Or.inr rfl | assumption)) (@pss_mid _ _ _ _ _ (@ps_try _ _ _ _ _ _ _ _ _ _ _ _ _ _ (3) rfl rfl (@px_if _ _ _ _ _ _ _ _ (fun _ => (@pt_val _ _ _ (@pv _ 1 _ _ (by rfl) (by first | exact vis0 rfl | exact vis1 rfl | exact vis2 rfl) (by decide) (by decide)) (by intro _ ; rfl))) (@px_expr _ _ _ _ (@pxe_call _ _ _ _ _ _ _ _ _ _ _ _ _ _ (ok_d_pair_of T) (hr.mono (by decide)) rfl T.g_d_pair_of T.F_d_pair_of.kp T.b_d_pair_of .nil (fun _ => (@pa_cons _ _ _ _ _ (@pv _ 0 _ _ (by rfl) (by first | exact vis0 rfl | exact vis1 rfl | exact vis2 rfl) (by decide) (by decide)) (@pa_nil _) (by rfl))) (by decide) (by rfl) (by rfl)) (by rfl)) (@px_expr _ _ _ _ (@pxe_call _ _ _ _ _ _ _ _ _ _ _ _ _ _ (ok_d_things_of T) (hr.mono (by decide)) rfl T.g_d_things_of T.F_d_things_of.kp T.b_d_things_of .nil (fun _ => (@pa_cons _ _ _ _ _ (@pv _ 0 _ _ (by rfl) (by first | exact vis0 rfl | exact vis1 rfl | exact vis2 rfl) (by decide) (by decide)) (@pa_nil _) (by rfl))) (by decide) (by rfl) (by rfl)) (by rfl))) rfl T.g_MostError T.xc_MostError sc_d_l_refused.nd rfl rfl (fun _ => (@pss_one _ _ _ (@ps_set _ _ (2) _ _ _ _ sc_d_l_refused.nd rfl (by first | exact Or.inl rfl | exact Or.inr rfl) (@pv _ 3 _ _ (by rfl) (by first | exact vis0 rfl | exact vis1 rfl | exact vis2 rfl) (by decide) (by decide)) (by rfl) (by first | exact Or.inl rfl | exact Or.inr rfl | assumption)))) (by decide)) (@pss_mid _ _ _ _ _ (@ps_if _ _ _ _ _ _ _ _ (@PW.pt _ _ _ (@pw_or _ _ _ _ _ _ _ (@pt_not _ _ _ _ (@pt_val _ _ _ (@pe_callB _ _ _ _ _ _ _ _ _ call_isinstA rfl T.z_isinstance boot_isinstanceT (@pa_cons _ _ _ _ _ (@pv _ 2 _ _ (by rfl) (by first | exact vis0 rfl | exact vis1 rfl | exact vis2 rfl) (by decide) (by decide)) (@pa_cons _ _ _ _ _ (@pe_glob _ _ (.ref t.C_NoRow) _ _ rfl T.g_NoRow rfl (by decide)) (@pa_nil _) (by rfl)) (by rfl)) (by decide) (by decide) (by rfl) (by rfl)) (by intro _ ; rfl))) (@pw_or _ _ _ _ _ _ _ (@pt_not _ _ _ _ (@pt_val _ _ _ (@pe_callB _ _ _ _ _ _ _ _ _ call_isinstA rfl T.z_isinstance boot_isinstanceT (@pa_cons _ _ _ _ _ (@pv _ 2 _ _ (by rfl) (by first | exact vis0 rfl | exact vis1 rfl | exact vis2 rfl) (by decide) (by decide)) (@pa_cons _ _ _ _ _ (@pe_bltn _ _ (.ty "ValueError") _ _ rfl T.z_ValueError boot_ValueErrorT rfl (by decide) (by decide)) (@pa_nil _) (by rfl)) (by rfl)) (by decide) (by decide) (by rfl) (by rfl)) (by intro _ ; rfl))) (@pw_or1 _ _ _ _ (@pt_val _ _ _ (@pe_callB _ _ _ _ _ _ _ _ _ call_isinstA rfl T.z_isinstance boot_isinstanceT (@pa_cons _ _ _ _ _ (@pv _ 2 _ _ (by rfl) (by first | exact vis0 rfl | exact vis1 rfl | exact vis2 rfl) (by decide) (by decide)) (@pa_cons _ _ _ _ _ (@pe_glob _ _ (.ref t.C_NoThing) _ _ rfl T.g_NoThing rfl (by decide)) (@pa_nil _) (by rfl)) (by rfl)) (by decide) (by decide) (by rfl) (by rfl)) (by intro _ ; rfl)))))) (@pss_one _ _ _ (@ps_ret _ _ _ _ (@pe_bl _ _ _ _))) (@pss_nil _)) (@pss_one _ _ _ (@ps_ret _ _ _ _ (@pe_cmpR _ _ _ _ _ _ _ _ (op_eqH hr.units) (@pe_fldX _ _ _ _ _ (@pv _ 2 _ _ (by rfl) (by first | exact vis0 rfl | exact vis1 rfl | exact vis2 rfl) (by decide) (by decide)) rfl) (@pv _ 0 _ _ (by rfl) (by first | exact vis0 rfl | exact vis1 rfl | exact vis2 rfl) (by decide) (by decide)) (nomark _))))))), ?_⟩
    rw [show start n_d_l_refused [v, V.bl b] = [some (v), some (V.bl b), none, none] from rfl]
    try simp only [tSeq, tAsg, tC, gName, List.set_cons_succ, List.set_cons_zero]
    refine ⟨fun σ' H' => ∃ x, σ' = [some v, some (V.bl b), some (V.ref x), none] ∧ Same H H' ∧ ErrF H' x t.C_NoRow "found" v, ?_, ?_⟩
    · have fin : ∀ x d T1 H2, NS H H2 x d T1 t.C_NoRow "found" v → ∀ x' C', Value.ref x = .ref x' → some t.C_NoRow = some C' → PySem.W.mroIn K C' (.ref t.C_MostError) = some true ∧ ∃ od oT, Arr H2 x' C' od oT ∧ ∀ H'' T', But x' oT H2 H'' T' → Fl H'' x' C' od .none T' → ∃ x, [some v, some (V.bl b), some (V.ref x'), none] = [some v, some (V.bl b), some (V.ref x), none] ∧ Same H H'' ∧ ErrF H'' x t.C_NoRow "found" v := by
        intro x d T1 H2 n x' C' ex eC
        cases ex; cases eC
        refine ⟨T.xm_NoRow_MostError, some d, some T1, .inr ⟨T1, rfl, n.fl⟩, fun H3 T3 b3 f3 => ?_⟩
        obtain ⟨s3, er⟩ := n.caught b3 f3
        exact ⟨x, rfl, s3, er⟩
      try simp only [sTry, xIf, tB, tVar, List.getElem?_cons_succ, List.getElem?_cons_zero, xDrop, xCall, tCons, tNil, List.append_nil, tAsg, List.set_cons_succ, List.set_cons_zero, gName, exSlot, exBl]
      cases b
      · try simp only [ite_ft]
        refine ⟨v, ws, rfl, hv, fun ts p H' e => absurd e (by rw [qt rfl]; simp), fun _ x d T1 H2 n => ?_⟩
        exact fin x d T1 H2 n
      · try simp only [if_true]
        refine ⟨v, ws, rfl, hv, fun x y p H' e => absurd e (by rw [qb rfl]; simp), fun _ x d T1 H2 n => ?_⟩
        exact fin x d T1 H2 n
    rintro σ' H2 ⟨x, rfl, s2, er⟩
    have hc := T.x_NoRow.c
    refine ⟨fun σ' H' => σ' = [some v, some (V.bl b), some (V.ref x), none] ∧ H2 = H', ?_, ?_⟩
    · try simp only [tIfS, tOr, tNot, tB, tCB, tCons, tVar, List.getElem?_cons_succ, List.getElem?_cons_zero, tC, tNil, Bool.not_eq_true', tRet, tNext, if_true, exSlot]
      refine isiX_go hc er (u := .ref t.C_NoRow) rfl (T.xt_up 0 0 _ _ rfl rfl) ?_
      try simp only [exBl, ite_tf]
      refine isiX_go hc er (u := .type "ValueError") rfl (T.xt_up 0 1 _ _ rfl rfl) ?_
      try simp only [exBl, ite_tf]
      refine isiX_go hc er (u := .ref t.C_NoThing) rfl (T.xt_no 0 0 _ _ rfl rfl) ?_
      try simp only [exBl, ite_ft]
      exact ⟨(by trivial), (by trivial)⟩
    rintro σ' H' ⟨rfl, rfl⟩
    try simp only [tRet, tOp, tVar, List.getElem?_cons_zero, exSlot]
    refine fldX_go T.x_NoRow er (fun R r => ⟨_, rfl, r⟩) ?_
    try skip
    exact hE _ s2 _ (q _ s2)
theorem ok_d_l_things (T : Txt K mg t) : FnOk P w K mg base CX0 2 t.f_d_l_things t.fd_d_l_things ["_law_row_here"] (spLThings K) := by
  refine T.F_d_l_things.ok sc_d_l_things (fun vs H Q E h => ?_) (fun cdv A outer s H vs Q E hr h => ?_)
  · obtain ⟨v, ws, rfl, hv, q⟩ := h; rfl
  · obtain ⟨v, ws, rfl, hv, q⟩ := h
    refine ⟨_, (@pss_cons _ _ _ _ _ (@ps_if _ _ _ _ _ _ _ _ (@pt_not _ _ _ _ (@pt_val _ _ _ (@pe_callB _ _ _ _ _ _ _ _ _ call_isinst rfl T.z_isinstance boot_isinstanceT (@pa_cons _ _ _ _ _ (@pv _ 0 _ _ (by rfl) (by first | exact vis0 rfl | exact vis1 rfl | exact vis2 rfl) (by decide) (by decide)) (@pa_cons _ _ _ _ _ (@pe_bltn _ _ (.ty "str") _ _ rfl T.z_str boot_strT rfl (by decide) (by decide)) (@pa_nil _) (by rfl)) (by rfl)) (by decide) (by decide) (by rfl) (by rfl)) (by intro _ ; rfl))) (@pss_one _ _ _ (@ps_ret _ _ _ _ (@pe_non _ _ _))) (@pss_nil _)) (@pss_cons _ _ _ _ _ (@ps_set _ _ (1) _ _ _ _ sc_d_l_things.nd rfl (by first | exact Or.inl rfl | exact Or.inr rfl) (@pe_bm _ _ _ _ _ _ _ _ _ _ _ _ PySem.F.plainAttrs_str PySem.F.slot_str_split PySem.F.type_str_split mt_split (@pv _ 0 _ _ (by rfl) (by first | exact vis0 rfl | exact vis1 rfl | exact vis2 rfl) (by decide) (by decide)) (@pa_cons _ _ _ _ _ (@pe_str _ _ _ _) (@pa_nil _) (by rfl)) (by rfl) (by rfl) (by rfl) (by rfl) (by rfl)) (by rfl) (by first | exact Or.inl rfl | exact Or.inr rfl | assumption)) (@pss_mid _ _ _ _ _ (@ps_if _ _ _ _ _ _ _ _ (@PW.pt _ _ _ (@pw_or _ _ _ _ _ _ _ (@pt_cmpR _ _ _ _ _ _ _ _ (op_neH hr.units) (@pe_ix _ _ _ _ _ _ _ ix_seq (@pv _ 1 _ _ (by rfl) (by first | exact vis0 rfl | exact vis1 rfl | exact vis2 rfl) (by decide) (by decide)) (@pe_int _ _ _ _) (fun _ _ => rfl)) (@pe_str _ _ _ _) (nomark _)) (@pw_or _ _ _ _ _ _ _ (@pt_cmpR _ _ _ _ _ _ _ _ op_ltA (@pe_callB _ _ _ _ _ _ _ _ _ call_lenA rfl T.z_len boot_lenT (@pa_cons _ _ _ _ _ (@pv _ 1 _ _ (by rfl) (by first | exact vis0 rfl | exact vis1 rfl | exact vis2 rfl) (by decide) (by decide)) (@pa_nil _) (by rfl)) (by decide) (by decide) (by rfl) (by rfl)) (@pe_int _ _ _ _) (nomark _)) (@pw_or _ _ _ _ _ _ _ (@pt_cmpR _ _ _ _ _ _ _ _ op_gt (@pe_callB _ _ _ _ _ _ _ _ _ call_lenA rfl T.z_len boot_lenT (@pa_cons _ _ _ _ _ (@pv _ 1 _ _ (by rfl) (by first | exact vis0 rfl | exact vis1 rfl | exact vis2 rfl) (by decide) (by decide)) (@pa_nil _) (by rfl)) (by decide) (by decide) (by rfl) (by rfl)) (@pe_int _ _ _ _) (nomark _)) (@pw_or1 _ _ _ _ (@pt_cmpR _ _ _ _ _ _ _ _ op_ltA (@pe_callB _ _ _ _ _ _ _ _ _ call_lenS rfl T.z_len boot_lenT (@pa_cons _ _ _ _ _ (@pe_callTy _ _ _ _ _ _ _ _ _ (call_setOf rfl) rfl T.z_set boot_setT (@pa_cons _ _ _ _ _ (@pe_slice _ _ _ _ _ _ _ _ _ _ sl_any (@pv _ 1 _ _ (by rfl) (by first | exact vis0 rfl | exact vis1 rfl | exact vis2 rfl) (by decide) (by decide)) (@po_some _ _ _ (@pe_int _ _ _ _)) (@po_none _)) (@pa_nil _) (by rfl)) (by decide) (by decide) (by rfl) (by rfl)) (@pa_nil _) (by rfl)) (by decide) (by decide) (by rfl) (by rfl)) (@pe_op _ _ _ _ _ _ _ _ op_sub (@pe_callB _ _ _ _ _ _ _ _ _ call_lenA rfl T.z_len boot_lenT (@pa_cons _ _ _ _ _ (@pv _ 1 _ _ (by rfl) (by first | exact vis0 rfl | exact vis1 rfl | exact vis2 rfl) (by decide) (by decide)) (@pa_nil _) (by rfl)) (by decide) (by decide) (by rfl) (by rfl)) (@pe_int _ _ _ _)) (nomark _))))))) (@pss_one _ _ _ (@ps_ret _ _ _ _ (@pe_non _ _ _))) (@pss_nil _)) (@pss_cons _ _ _ _ _ (@ps_if _ _ _ _ _ _ _ _ (@pt_cmpR _ _ _ _ _ _ _ _ op_ltA (@pe_callB _ _ _ _ _ _ _ _ _ call_lenA rfl T.z_len boot_lenT (@pa_cons _ _ _ _ _ (@pe_comp _ _ _ _ _ _ _ _ _ _ _ _ _ (@compOk_of _ (defScope s_d_l_things) (n_d_l_things) (["_law_word"]) ([none]) _ rfl rfl (by decide +kernel)) rfl (@pi_list _ _ _ _ (@pe_slice _ _ _ _ _ _ _ _ _ _ sl_any (@pv _ 1 _ _ (by rfl) (by first | exact vis0 rfl | exact vis1 rfl | exact vis2 rfl) (by decide) (by decide)) (@po_some _ _ _ (@pe_int _ _ _ _)) (@po_none _))) (fun _ _ _ _ _ => (@pg_name _ _ (0) _ (show List.Nodup (["_law_word"] : List Str) by decide +kernel) rfl (by first | exact Or.inl rfl | exact Or.inr rfl) (by first | exact Or.inl rfl | exact Or.inr rfl | assumption))) (fun _ _ _ _ _ => @pts_one _ _ _ (@pt_val _ _ _ (@pe_call _ _ _ _ _ _ _ _ _ _ _ _ _ _ _ _ (ok_d_l_name_is T) (hr.mono (by decide)) rfl T.g_d_l_name_is T.F_d_l_name_is.kp T.b_d_l_name_is .nil pass0 (@pa_cons _ _ _ _ _ (@pv _ 0 _ _ (by rfl) (by first | exact vis0 rfl | exact vis1 rfl | exact vis2 rfl) (by decide) (by decide)) (@pa_cons _ _ _ _ _ (@pe_str _ _ _ _) (@pa_nil _) (by rfl)) (by rfl)) (by decide) (by rfl) (by rfl)) (by intro _ ; rfl))) (fun _ _ _ _ _ => (@pv _ 0 _ _ (by rfl) (by first | exact vis0 rfl | exact vis1 rfl | exact vis2 rfl) (by decide) (by decide))) (by intro _ ; rfl)) (@pa_nil _) (by rfl)) (by decide) (by decide) (by rfl) (by rfl)) (@pe_op _ _ _ _ _ _ _ _ op_sub (@pe_callB _ _ _ _ _ _ _ _ _ call_lenA rfl T.z_len boot_lenT (@pa_cons _ _ _ _ _ (@pv _ 1 _ _ (by rfl) (by first | exact vis0 rfl | exact vis1 rfl | exact vis2 rfl) (by decide) (by decide)) (@pa_nil _) (by rfl)) (by decide) (by decide) (by rfl) (by rfl)) (@pe_int _ _ _ _)) (nomark _)) (@pss_one _ _ _ (@ps_ret _ _ _ _ (@pe_non _ _ _))) (@pss_nil _)) (@pss_one _ _ _ (@ps_ret _ _ _ _ (@pe_slice _ _ _ _ _ _ _ _ _ _ sl_any (@pv _ 1 _ _ (by rfl) (by first | exact vis0 rfl | exact vis1 rfl | exact vis2 rfl) (by decide) (by decide)) (@po_some _ _ _ (@pe_int _ _ _ _)) (@po_none _)))))))), ?_⟩
    rw [show start n_d_l_things [v] = [some (v), none] from rfl]
    have hlen := hv.len
    rcases hv with ⟨l, rfl, hl, rfl⟩ | ⟨rfl, hN⟩
    rotate_left
    · try simp only [tSeq, tIfS, tNot, tB, tCB, tCons, tVar, List.getElem?_cons_zero, tC, tNil, Bool.not_eq_true', tRet, tNext, tAsg, tBM, gName, List.set_cons_succ, List.set_cons_zero, exSlot]
      refine rIsi_not hN ?_
      try simp only [exBl, if_true]
      exact q _ _ (Same.refl _) (.inl ⟨rfl, rfl⟩)
    try simp only [tSeq, tIfS, tNot, tB, tCB, tCons, tVar, List.getElem?_cons_zero, tC, tNil, Bool.not_eq_true', tRet, tNext, tAsg, tBM, gName, List.set_cons_succ, List.set_cons_zero, exSlot, rSplit_at, tyV_str, rIsi_str_str, exBl, ite_tf]
    rw [show (" " : Str) = mk [32] by decide +kernel, split_sign (by decide), List.map_map]
    refine ⟨rfl, ?_, fun p hp => ?_⟩
    · rw [mk_len]; exact Nat.le_trans (show _ ≤ 2000 by omega) (by decide)
    have hne := splitL_ne 32 l
    generalize splitL 32 l = ws at hlen hne q ⊢
    rw [show List.map (V.str ∘ mk) ws = pv' ws from rfl]
    obtain ⟨H1, e1, s1, h1⟩ := newO hp (.lst (pv' ws)); rw [e1]
    refine ⟨fun σ' H' => σ' = [some (sv l), some (V.ref p)] ∧ Same H1 H' ∧ ∃ ts, ws = thingsN :: ts ∧ 1 ≤ ts.length ∧ ts.length ≤ 8 ∧ ¬ dist (ts.map mk) < ts.length, ?_, ?_⟩
    · try simp only [tIfS, tOr, tTest, tOp, tVar, List.getElem?_cons_succ, List.getElem?_cons_zero, tC, tRet, tNext, if_true, tCB, tCons, tNil, tSl, tPart, tNoPart, exSlot, exInt]
      match ws, hne, h1, q, hlen with
      | b :: ts, _, h1, q, hlen =>
        refine rIx_lst (SqL.of h1) (v := sv b) (atI_nat (j := 0) rfl) ?_
        try simp only [rNeH_str, exBl, Bool.not_eq_true', decide_eq_false_iff_not]
        rw [things_eq]
        refine ite2 (fun c => ?_) (fun c => ?_)
        · exact q _ _ s1 (.inl ⟨rfl, if_neg fun z => c (by rw [z.1.1])⟩)
        have hb : b = thingsN := mk_inj (Classical.not_not.mp c)
        subst hb
        refine rLenA_lst (SqL.of h1) ?_
        try simp only [rLtA_int, exBl, decide_eq_true_eq]
        refine ite2 (fun c => ?_) (fun c => ?_)
        · exact q _ _ s1 (.inl ⟨rfl, if_neg fun z => absurd z.1.2.1 (by simp at c; omega)⟩)
        have t1 : 1 ≤ ts.length := by simp at c; omega
        refine rLenA_lst (SqL.of h1) ?_
        try simp only [rI0_int, exBl, decide_eq_true_eq]
        refine ite2 (fun c => ?_) (fun c => ?_)
        · exact q _ _ s1 (.inl ⟨rfl, if_neg fun z => absurd z.1.2.2 (by simp at c; omega)⟩)
        have t8 : ts.length ≤ 8 := by simp at c; omega
        refine .inr (.inl ⟨p, _, rfl, SqL.of h1, fun p2 hp2 => ?_⟩)
        rw [cut_from1]
        obtain ⟨H2, e2, s2, h2⟩ := newO hp2 (.lst (pv' ts)); rw [show List.drop 1 (pv' (thingsN :: ts)) = pv' ts from rfl, e2]
        refine ⟨p2, ts.map mk, rfl, by rw [List.map_map]; exact SqL.of h2, by simp; omega, fun p5 hp5 => ?_⟩
        obtain ⟨H5, e5, s5, h5⟩ := newO hp5 (SetO p5 (dist (ts.map mk))); rw [e5]
        have hdl := dist_le (ts.map mk)
        refine ⟨p5, _, rfl, h5, by simp at hdl; omega, ?_⟩
        refine rLenA_lst (SqL.of (s5 _ _ (s2 _ _ h1))) ?_
        try simp only [rI0_int, rLtA_int, exBl, decide_eq_true_eq]
        refine ite2 (fun c => ?_) (fun c => ?_)
        · exact q _ _ ((s1.trans s2).trans s5) (.inl ⟨rfl, if_neg fun z => z.2.2 (by simp at c; omega)⟩)
        · exact ⟨(by trivial), s2.trans s5, ts, rfl, t1, t8, by simp at c; omega⟩
    rintro σ' H2 ⟨rfl, s2, ts, rfl, t1, t8, hd⟩
    have h12 := s2 _ _ h1
    try simp only [tSeq, tIfS, tTest, tOp, tCB, tCons, tNil, tVar, List.getElem?_cons_succ, List.getElem?_cons_zero, tC, tRet, tNext, tSl, tPart, tNoPart, exInt, exSlot, tComp_eq, iList]
    refine .inr (.inl ⟨p, _, rfl, SqL.of h12, fun p2 hp2 => ?_⟩)
    rw [cut_from1]
    obtain ⟨H3, e3, s3, h3⟩ := newO hp2 (.lst (pv' ts)); rw [show List.drop 1 (pv' (thingsN :: ts)) = pv' ts from rfl, e3]
    refine ⟨p2, rfl, ⟨_, SqL.of h3⟩, ?_⟩
    refine comp_f (src_list (xs := pv' ts)) (short_le (by simp; omega)) [] rfl (fun i => wB lows ((ts[i]?).getD default)) (fun i => sv ((ts[i]?).getD default)) (fun H' s => s.seq (SqL.of h3)) (fun i H' R hi s hR => ?_) (fun i H' R hi s hR => ?_) (fun D H4 hD s4 g4 => ?_)
    · have hi' : i < ts.length := by simpa using hi
      have e2 : ((pv' ts)[i]?).getD .non = sv ts[i] := by rw [List.getElem?_map, List.getElem?_eq_getElem hi']; rfl
      have e3 : (ts[i]?).getD default = ts[i] := by rw [List.getElem?_eq_getElem hi']; rfl
      have hpl := hlen.2 ts[i] (List.mem_cons_of_mem _ (List.getElem_mem hi'))
      rw [e3] at hR
      rw [e2]
      try simp only [tB, tCall, tCons, tVar, List.getElem?_cons_zero, tC, tNil, List.append_nil, exSlot]
      rw [low_eq]
      exact ⟨_, lows, rfl, hpl, fun H4 s4 => ⟨_, rfl, hR _ s4⟩⟩
    · have hi' : i < ts.length := by simpa using hi
      have e2 : ((pv' ts)[i]?).getD .non = sv ts[i] := by rw [List.getElem?_map, List.getElem?_eq_getElem hi']; rfl
      have e3 : (ts[i]?).getD default = ts[i] := by rw [List.getElem?_eq_getElem hi']; rfl
      rw [e3] at hR
      rw [e2]
      try simp only [tVar, List.getElem?_cons_zero, exSlot]
      exact hR _ (Same.refl _)
    refine rLenA_lst (SqL.of g4) ?_
    refine rLenA_lst (SqL.of (s4 _ _ (s3 _ _ h12))) ?_
    try simp only [rI0_int, rLtA_int, exBl, decide_eq_true_eq]
    have hr := range_filt (wB lows) ts
    rw [List.length_map, show (pv' ts).length = ts.length by simp, hr]
    refine ite2 (fun c => ?_) (fun c => ?_)
    · refine q _ _ (((s1.trans s2).trans s3).trans s4) (.inl ⟨rfl, if_neg fun z => ?_⟩)
      have := (filt_all (wB lows) ts).mpr z.2.1
      rw [show (pv' (thingsN :: ts)).length = ts.length + 1 by simp] at c
      omega
    · have hall : ts.all (wB lows) = true := by
        rw [← filt_all]
        have := List.length_filter_le (wB lows) ts
        rw [show (pv' (thingsN :: ts)).length = ts.length + 1 by simp] at c
        omega
      refine .inr (.inl ⟨p, _, rfl, SqL.of (s4 _ _ (s3 _ _ h12)), fun p6 hp6 => ?_⟩)
      rw [cut_from1]
      obtain ⟨H6, e6, s6, h6⟩ := newO hp6 (.lst (pv' ts)); rw [show List.drop 1 (pv' (thingsN :: ts)) = pv' ts from rfl, e6]
      exact q _ _ ((((s1.trans s2).trans s3).trans s4).trans s6) (.inr ⟨ts, p6, rfl, if_pos ⟨⟨rfl, t1, t8⟩, hall, hd⟩, h6⟩)
theorem ok_d_l_right (T : Txt K mg t) : FnOk P w K mg base CX0 5 t.f_d_l_right t.fd_d_l_right ["_law_row_here"] (spRight K) := by
  refine T.F_d_l_right.ok sc_d_l_right (fun vs H Q E h => ?_) (fun cdv A outer s H vs Q E hr h => ?_)
  · obtain ⟨v, rfl, hv, q⟩ := h; rfl
  · obtain ⟨v, rfl, hv, q⟩ := h
    refine ⟨_, (@pss_cons _ _ _ _ _ (@ps_set _ _ (1) _ _ _ _ sc_d_l_right.nd rfl (by first | exact Or.inl rfl | exact Or.inr rfl) (@pe_call _ _ _ _ _ _ _ _ _ _ _ _ _ _ _ _ (ok_d_l_pair T) (hr.mono (by decide)) rfl T.g_d_l_pair T.F_d_l_pair.kp T.b_d_l_pair .nil pass0 (@pa_cons _ _ _ _ _ (@pv _ 0 _ _ (by rfl) (by first | exact vis0 rfl | exact vis1 rfl | exact vis2 rfl) (by decide) (by decide)) (@pa_nil _) (by rfl)) (by decide) (by rfl) (by rfl)) (by rfl) (by first | exact Or.inl rfl | exact Or.inr rfl | assumption)) (@pss_mid _ _ _ _ _ (@ps_if _ _ _ _ _ _ _ _ (@pt_cmpR _ _ _ _ _ _ _ _ op_isX (@pv _ 1 _ _ (by rfl) (by first | exact vis0 rfl | exact vis1 rfl | exact vis2 rfl) (by decide) (by decide)) (@pe_non _ _ _) (nomark _)) (@pss_one _ _ _ (@ps_if _ _ _ _ _ _ _ _ (@pt_not _ _ _ _ (@pt_val _ _ _ (@pe_call _ _ _ _ _ _ _ _ _ _ _ _ _ _ _ _ (ok_d_l_refused T) (hr.mono (by decide)) rfl T.g_d_l_refused T.F_d_l_refused.kp T.b_d_l_refused .nil pass0 (@pa_cons _ _ _ _ _ (@pv _ 0 _ _ (by rfl) (by first | exact vis0 rfl | exact vis1 rfl | exact vis2 rfl) (by decide) (by decide)) (@pa_cons _ _ _ _ _ (@pe_bl _ _ _ _) (@pa_nil _) (by rfl)) (by rfl)) (by decide) (by rfl) (by rfl)) (by intro _ ; rfl))) (@pss_one _ _ _ (@ps_ret _ _ _ _ (@pe_bl _ _ _ _))) (@pss_nil _))) (@pss_cons _ _ _ _ _ (@ps_set _ _ (2) _ _ _ _ sc_d_l_right.nd rfl (by first | exact Or.inl rfl | exact Or.inr rfl) (@pe_call _ _ _ _ _ _ _ _ _ _ _ _ _ _ _ _ (ok_d_pair_of T) (hr.mono (by decide)) rfl T.g_d_pair_of T.F_d_pair_of.kp T.b_d_pair_of .nil pass_no (@pa_cons _ _ _ _ _ (@pv _ 0 _ _ (by rfl) (by first | exact vis0 rfl | exact vis1 rfl | exact vis2 rfl) (by decide) (by decide)) (@pa_nil _) (by rfl)) (by decide) (by rfl) (by rfl)) (by rfl) (by first | exact Or.inl rfl | exact Or.inr rfl | assumption)) (@pss_one _ _ _ (@ps_if _ _ _ _ _ _ _ _ (@PW.pt _ _ _ (@pw_or _ _ _ _ _ _ _ (@pt_not _ _ _ _ (@pt_val _ _ _ (@pe_callB _ _ _ _ _ _ _ _ _ call_isinst rfl T.z_isinstance boot_isinstanceT (@pa_cons _ _ _ _ _ (@pv _ 2 _ _ (by rfl) (by first | exact vis0 rfl | exact vis1 rfl | exact vis2 rfl) (by decide) (by decide)) (@pa_cons _ _ _ _ _ (@pe_bltn _ _ (.ty "tuple") _ _ rfl T.z_tuple boot_tupleT rfl (by decide) (by decide)) (@pa_nil _) (by rfl)) (by rfl)) (by decide) (by decide) (by rfl) (by rfl)) (by intro _ ; rfl))) (@pw_or1 _ _ _ _ (@pt_cmpR _ _ _ _ _ _ _ _ (op_neH hr.units) (@pv _ 2 _ _ (by rfl) (by first | exact vis0 rfl | exact vis1 rfl | exact vis2 rfl) (by decide) (by decide)) (@pv _ 1 _ _ (by rfl) (by first | exact vis0 rfl | exact vis1 rfl | exact vis2 rfl) (by decide) (by decide)) (nomark _))))) (@pss_one _ _ _ (@ps_ret _ _ _ _ (@pe_bl _ _ _ _))) (@pss_nil _))))) (@pss_cons _ _ _ _ _ (@ps_set _ _ (3) _ _ _ _ sc_d_l_right.nd rfl (by first | exact Or.inl rfl | exact Or.inr rfl) (@pe_call _ _ _ _ _ _ _ _ _ _ _ _ _ _ _ _ (ok_d_l_things T) (hr.mono (by decide)) rfl T.g_d_l_things T.F_d_l_things.kp T.b_d_l_things .nil pass0 (@pa_cons _ _ _ _ _ (@pv _ 0 _ _ (by rfl) (by first | exact vis0 rfl | exact vis1 rfl | exact vis2 rfl) (by decide) (by decide)) (@pa_nil _) (by rfl)) (by decide) (by rfl) (by rfl)) (by rfl) (by first | exact Or.inl rfl | exact Or.inr rfl | assumption)) (@pss_cons _ _ _ _ _ (@ps_if _ _ _ _ _ _ _ _ (@pt_cmpR _ _ _ _ _ _ _ _ op_isX (@pv _ 3 _ _ (by rfl) (by first | exact vis0 rfl | exact vis1 rfl | exact vis2 rfl) (by decide) (by decide)) (@pe_non _ _ _) (nomark _)) (@pss_one _ _ _ (@ps_ret _ _ _ _ (@pe_call _ _ _ _ _ _ _ _ _ _ _ _ _ _ _ _ (ok_d_l_refused T) (hr.mono (by decide)) rfl T.g_d_l_refused T.F_d_l_refused.kp T.b_d_l_refused .nil pass0 (@pa_cons _ _ _ _ _ (@pv _ 0 _ _ (by rfl) (by first | exact vis0 rfl | exact vis1 rfl | exact vis2 rfl) (by decide) (by decide)) (@pa_cons _ _ _ _ _ (@pe_bl _ _ _ _) (@pa_nil _) (by rfl)) (by rfl)) (by decide) (by rfl) (by rfl)))) (@pss_nil _)) (@pss_cons _ _ _ _ _ (@ps_set _ _ (2) _ _ _ _ sc_d_l_right.nd rfl (by first | exact Or.inl rfl | exact Or.inr rfl) (@pe_call _ _ _ _ _ _ _ _ _ _ _ _ _ _ _ _ (ok_d_things_of T) (hr.mono (by decide)) rfl T.g_d_things_of T.F_d_things_of.kp T.b_d_things_of .nil pass_no (@pa_cons _ _ _ _ _ (@pv _ 0 _ _ (by rfl) (by first | exact vis0 rfl | exact vis1 rfl | exact vis2 rfl) (by decide) (by decide)) (@pa_nil _) (by rfl)) (by decide) (by rfl) (by rfl)) (by rfl) (by first | exact Or.inl rfl | exact Or.inr rfl | assumption)) (@pss_mid _ _ _ _ _ (@ps_if _ _ _ _ _ _ _ _ (@PW.pt _ _ _ (@pw_or _ _ _ _ _ _ _ (@pt_not _ _ _ _ (@pt_val _ _ _ (@pe_callB _ _ _ _ _ _ _ _ _ call_isinst rfl T.z_isinstance boot_isinstanceT (@pa_cons _ _ _ _ _ (@pv _ 2 _ _ (by rfl) (by first | exact vis0 rfl | exact vis1 rfl | exact vis2 rfl) (by decide) (by decide)) (@pa_cons _ _ _ _ _ (@pe_bltn _ _ (.ty "list") _ _ rfl T.z_list boot_listT rfl (by decide) (by decide)) (@pa_nil _) (by rfl)) (by rfl)) (by decide) (by decide) (by rfl) (by rfl)) (by intro _ ; rfl))) (@pw_or1 _ _ _ _ (@pt_cmpR _ _ _ _ _ _ _ _ (op_neH hr.units) (@pv _ 2 _ _ (by rfl) (by first | exact vis0 rfl | exact vis1 rfl | exact vis2 rfl) (by decide) (by decide)) (@pv _ 3 _ _ (by rfl) (by first | exact vis0 rfl | exact vis1 rfl | exact vis2 rfl) (by decide) (by decide)) (nomark _))))) (@pss_one _ _ _ (@ps_ret _ _ _ _ (@pe_bl _ _ _ _))) (@pss_nil _)) (@pss_cons _ _ _ _ _ (@ps_expr _ _ _ _ (@pe_bm _ _ _ _ _ _ _ _ _ _ _ _ PySem.F.plainAttrs_list PySem.F.slot_list_append PySem.F.type_list_append mt_append (@pv _ 2 _ _ (by rfl) (by first | exact vis0 rfl | exact vis1 rfl | exact vis2 rfl) (by decide) (by decide)) (@pa_cons _ _ _ _ _ (@pe_str _ _ _ _) (@pa_nil _) (by rfl)) (by rfl) (by rfl) (by rfl) (by rfl) (by rfl)) (by rfl)) (@pss_one _ _ _ (@ps_ret _ _ _ _ (@pe_cmpR _ _ _ _ _ _ _ _ (op_eqH hr.units) (@pe_call _ _ _ _ _ _ _ _ _ _ _ _ _ _ _ _ (ok_d_things_of T) (hr.mono (by decide)) rfl T.g_d_things_of T.F_d_things_of.kp T.b_d_things_of .nil pass_no (@pa_cons _ _ _ _ _ (@pv _ 0 _ _ (by rfl) (by first | exact vis0 rfl | exact vis1 rfl | exact vis2 rfl) (by decide) (by decide)) (@pa_nil _) (by rfl)) (by decide) (by rfl) (by rfl)) (@pv _ 3 _ _ (by rfl) (by first | exact vis0 rfl | exact vis1 rfl | exact vis2 rfl) (by decide) (by decide)) (nomark _))))))))))), ?_⟩
    rw [show start n_d_l_right [v] = [some (v), none, none, none] from rfl]
    obtain ⟨ws, hr, hE⟩ := hv.row
    try simp only [tSeq, tAsg, tCall, tCons, tVar, List.getElem?_cons_zero, tNil, List.append_nil, gName, List.set_cons_succ, List.set_cons_zero, exSlot]
    refine ⟨v, ws, rfl, hr, fun dv H1 s1 hd => ?_⟩
    refine ⟨fun σ' H' => ∃ y2 : Option V, σ' = [some v, some dv, y2, none] ∧ Same H1 H', ?_, ?_⟩
    · try simp only [tIfS, tTest, tOp, tVar, List.getElem?_cons_succ, List.getElem?_cons_zero, tC, tNot, tB, tCall, tCons, tNil, List.append_nil, Bool.not_eq_true', tRet, tNext, exSlot, tSeq, tAsg, gName, tOr, tCB, List.set_cons_succ, List.set_cons_zero, if_true]
      rcases hd with ⟨rfl, hn⟩ | ⟨x, y, p, rfl, hp, hpt⟩
      · try simp only [rIsN_non, exBl, if_true]
        refine ⟨v, true, ws, rfl, hr.same s1, hE.same s1, fun _ => hn, (fun z => by cases z), fun H2 s2 => ?_⟩
        try simp only [exBl, ite_tf]
        exact ⟨_, (by trivial), s2⟩
      · try simp only [rIsN_ref, exBl, ite_ft]
        refine ⟨v, ws, rfl, hr.same s1, fun x' y' p' H2 e s2 h2 => ?_, fun e => absurd e (by rw [hp]; simp)⟩
        rw [hp] at e; cases e
        obtain ⟨_, hx, hy⟩ := pairP_some hp
        refine rIsi_tup h2 ?_
        try simp only [exBl, ite_tf]
        refine rNeD_same (den2 h2) (den2 (s2 _ _ hpt)) (shaped2 hx hy) ?_
        try simp only [exBl, ite_ft]
        exact ⟨_, (by trivial), s2⟩
    rintro σ' H2 ⟨y2, rfl, s2⟩
    have s02 := s1.trans s2
    try simp only [tSeq, tAsg, tCall, tCons, tVar, List.getElem?_cons_zero, tNil, List.append_nil, gName, tIfS, tTest, tOp, List.set_cons_succ, List.set_cons_zero, List.getElem?_cons_succ, tC, tRet, exSlot, tNext]
    refine ⟨v, ws, rfl, hr.same s02, fun dv2 H3 s3 hd2 => ?_⟩
    rcases hd2 with ⟨rfl, hn⟩ | ⟨ts, p, rfl, hp, hpt⟩
    · try simp only [rIsN_non, exBl, if_true]
      exact ⟨v, false, ws, rfl, hr.same (s02.trans s3), hE.same (s02.trans s3), (fun z => by cases z), fun _ => hn, fun H4 s4 => q _ ((s02.trans s3).trans s4)⟩
    try simp only [rIsN_ref, exBl, ite_ft]
    refine ⟨v, ws, rfl, hr.same (s02.trans s3), fun ts' p' H4 e s4 hpn h4 => ?_, fun e => absurd e (by rw [hp]; simp)⟩
    rw [hp] at e; cases e
    obtain ⟨ews, t8, tl⟩ := thingsP_some hp
    have hlo : ∀ z ∈ ts, ∀ c ∈ z, c < 1114112 := fun z hz c hc => by have := low_lt (tl z hz c hc); omega
    have hnp : p' ≠ p := fun z => by rw [z, hpt] at hpn; cases hpn
    refine ⟨fun σ' H' => σ' = [some v, some dv, some (V.ref p'), some (V.ref p)] ∧ H4 = H', ?_, ?_⟩
    · try simp only [tIfS, tOr, tNot, tB, tCB, tCons, tVar, List.getElem?_cons_succ, List.getElem?_cons_zero, tC, tNil, Bool.not_eq_true', tRet, tNext, if_true, tTest, tOp, exSlot]
      refine rIsi_lst h4 ?_
      try simp only [exBl, ite_tf]
      refine rNeD_same (denL (SqL.of h4)) (denL (SqL.of (s4 _ _ hpt))) (shapedL hlo) ?_
      try simp only [exBl, ite_ft]
      exact ⟨(by trivial), (by trivial)⟩
    rintro σ' H' ⟨rfl, rfl⟩
    have hnp0 : H p' = none := none_of_same (s02.trans s3) hpn
    try simp only [tSeq, tDrop, tBM, tVar, List.getElem?_cons_succ, List.getElem?_cons_zero, tCons, tC, tNil, tRet, tOp, tCall, List.append_nil, exSlot]
    refine ⟨.inl ⟨rfl, _, SqL.of h4⟩, p', _, _, rfl, rfl, h4, Nat.lt_of_le_of_lt (show _ ≤ 1000 by simp; omega) (by decide), ?_⟩
    obtain ⟨H5, e5, s5, h5⟩ : ∃ H', upd H4 p' (HO.lst (pv' ts ++ [V.str "more"])) = H' ∧ Same H H' ∧ H' p = some (.lst (pv' ts)) := ⟨_, rfl, fun b o e => by rw [upd_ne (ne_of_none e hnp0)]; exact s4 _ _ (s3 _ _ (s02 b o e)), by rw [upd_ne hnp.symm]; exact s4 _ _ hpt⟩
    rw [e5]
    refine ⟨v, ws, rfl, hr.same s5, fun ts' p6 H6 e s6 hpn6 h6 => ?_, fun e => absurd e (by rw [hp]; simp)⟩
    rw [hp] at e; cases e
    exact rEqD_same (denL (SqL.of h6)) (denL (SqL.of (s6 _ _ h5))) (shapedL hlo) (q _ (s5.trans s6))
theorem ok_d_l_text (T : Txt K mg t) : FnOk P w K mg base CX0 2 t.f_d_l_text t.fd_d_l_text ["_law_cell", "_law_signs", "_law_most"] spTxt := by
  refine T.F_d_l_text.ok sc_d_l_text (fun vs H Q E h => ?_) (fun cdv A outer s H vs Q E hr h => ?_)
  · obtain ⟨c, sg, rfl, hsg, q⟩ := h; rfl
  · obtain ⟨c, sg, rfl, hsg, q⟩ := h
    refine ⟨_, (@pss_cons _ _ _ _ _ (@ps_set _ _ (3) _ _ _ _ sc_d_l_text.nd rfl (by first | exact Or.inl rfl | exact Or.inr rfl) (@pe_call _ _ _ _ _ _ _ _ _ _ _ _ _ _ _ _ (ok_d_l_mix T) (hr.mono (by decide)) rfl T.g_d_l_mix T.F_d_l_mix.kp T.b_d_l_mix .nil pass0 (@pa_cons _ _ _ _ _ (@pv _ 0 _ _ (by rfl) (by first | exact vis0 rfl | exact vis1 rfl | exact vis2 rfl) (by decide) (by decide)) (@pa_cons _ _ _ _ _ (@pe_int _ _ _ _) (@pa_nil _) (by rfl)) (by rfl)) (by decide) (by rfl) (by rfl)) (by rfl) (by first | exact Or.inl rfl | exact Or.inr rfl | assumption)) (@pss_cons _ _ _ _ _ (@ps_set _ _ (4) _ _ _ _ sc_d_l_text.nd rfl (by first | exact Or.inl rfl | exact Or.inr rfl) (@pe_str _ _ _ _) (by rfl) (by first | exact Or.inl rfl | exact Or.inr rfl | assumption)) (@pss_cons _ _ _ _ _ (@ps_for _ _ _ _ _ _ _ _ PassesOwn.never rfl (@pi_range1 _ _ _ _ _ _ rfl T.z_range (@pa_cons _ _ _ _ _ (@pe_op _ _ _ _ _ _ _ _ op_addA (@pe_int _ _ _ _) (@pe_op _ _ _ _ _ _ _ _ op_mod (@pv _ 3 _ _ (by rfl) (by first | exact vis0 rfl | exact vis1 rfl | exact vis2 rfl) (by decide) (by decide)) (@pv _ 2 _ _ (by rfl) (by first | exact vis0 rfl | exact vis1 rfl | exact vis2 rfl) (by decide) (by decide)))) (@pa_nil _) (by rfl)) (by rfl)) (@pg_name _ _ (5) _ sc_d_l_text.nd rfl (by first | exact Or.inl rfl | exact Or.inr rfl) (by first | exact Or.inl rfl | exact Or.inr rfl | assumption)) (@pss_one _ _ _ (@ps_set _ _ (4) _ _ _ _ sc_d_l_text.nd rfl (by first | exact Or.inl rfl | exact Or.inr rfl) (@pe_op _ _ _ _ _ _ _ _ op_addA (@pv _ 4 _ _ (by rfl) (by first | exact vis0 rfl | exact vis1 rfl | exact vis2 rfl) (by decide) (by decide)) (@pe_ix _ _ _ _ _ _ _ ix_seq (@pv _ 1 _ _ (by rfl) (by first | exact vis0 rfl | exact vis1 rfl | exact vis2 rfl) (by decide) (by decide)) (@pe_op _ _ _ _ _ _ _ _ op_mod (@pe_op _ _ _ _ _ _ _ _ op_addA (@pe_op _ _ _ _ _ _ _ _ op_fdiv (@pe_call _ _ _ _ _ _ _ _ _ _ _ _ _ _ _ _ (ok_d_l_mix T) (hr.mono (by decide)) rfl T.g_d_l_mix T.F_d_l_mix.kp T.b_d_l_mix .nil pass0 (@pa_cons _ _ _ _ _ (@pv _ 0 _ _ (by rfl) (by first | exact vis0 rfl | exact vis1 rfl | exact vis2 rfl) (by decide) (by decide)) (@pa_cons _ _ _ _ _ (@pe_int _ _ _ _) (@pa_nil _) (by rfl)) (by rfl)) (by decide) (by rfl) (by rfl)) (@pe_op _ _ _ _ _ _ _ _ op_addA (@pv _ 5 _ _ (by rfl) (by first | exact vis0 rfl | exact vis1 rfl | exact vis2 rfl) (by decide) (by decide)) (@pe_int _ _ _ _))) (@pe_op _ _ _ _ _ _ _ _ op_mul (@pe_op _ _ _ _ _ _ _ _ op_mul (@pe_int _ _ _ _) (@pv _ 5 _ _ (by rfl) (by first | exact vis0 rfl | exact vis1 rfl | exact vis2 rfl) (by decide) (by decide))) (@pv _ 5 _ _ (by rfl) (by first | exact vis0 rfl | exact vis1 rfl | exact vis2 rfl) (by decide) (by decide)))) (@pe_callB _ _ _ _ _ _ _ _ _ call_lenA rfl T.z_len boot_lenT (@pa_cons _ _ _ _ _ (@pv _ 1 _ _ (by rfl) (by first | exact vis0 rfl | exact vis1 rfl | exact vis2 rfl) (by decide) (by decide)) (@pa_nil _) (by rfl)) (by decide) (by decide) (by rfl) (by rfl))) (fun _ _ => rfl))) (by rfl) (by first | exact Or.inl rfl | exact Or.inr rfl | assumption))) (by intro _ ; rfl)) (@pss_one _ _ _ (@ps_ret _ _ _ _ (@pv _ 4 _ _ (by rfl) (by first | exact vis0 rfl | exact vis1 rfl | exact vis2 rfl) (by decide) (by decide))))))), ?_⟩
    rw [show start n_d_l_text [V.int c, sv sg, V.int 8] = [some (V.int c), some (sv sg), some (V.int 8), none, none, none] from rfl]
    try simp only [tSeq, tAsg, tCall, tCons, tVar, List.getElem?_cons_zero, tC, tNil, List.append_nil, gName, List.set_cons_succ, List.set_cons_zero, tFor_eq, iRng1, tOp, List.getElem?_cons_succ, exSlot, spMix_at, rI_int, rAddA_int]
    intro n _
    have hn := mod_lt' (i := n) (j := 8) (by decide)
    try skip
    refine ⟨by decide, _, rfl, by omega, by omega, ?_⟩
    refine for_range (n := (1 + n % 8).toNat) (lo := 0) (fun i σ H' => H = H' ∧ ∃ (l : List Nat) (b : Option V), l.length = i ∧ (∀ c ∈ l, c ∈ sg) ∧ σ = [some (V.int c), some (sv sg), some (V.int 8), some (V.int n), some (sv l), b]) ⟨rfl, [], _, rfl, by simp, rfl⟩ ?_ ?_
    · rintro i σ H' hi ⟨rfl, l, b, hl, hc, rfl⟩
      try simp only [gName, tAsg, tOp, tVar, List.set_cons_succ, List.set_cons_zero, List.getElem?_cons_succ, List.getElem?_cons_zero, tCall, tCons, tC, tNil, List.append_nil, tCB, exSlot, rLenA_str, rI_int, CMul, rAddA_int, spMix_at, CDiv, rIx_str, rAddA_str]
      intro r hr
      try skip
      have hm := mod_lt' (i := r / (0 + (i : Int) + 1) + 7 * (0 + (i : Int)) * (0 + (i : Int))) (j := ((mk sg).length : Int)) (by rw [mk_len]; omega)
      obtain ⟨d, e, hv, _⟩ := atI_in (xs := (mk sg).cps.toList) hm.1 (by rw [show ((mk sg).cps.toList.length : Int) = ((mk sg).length : Int) by rw [mk_len]]; exact hm.2)
      have hd : d ∈ sg := hv
      refine ⟨⟨by omega, by omega⟩, .inl (by decide), .inl ⟨by omega, by omega⟩, short_le (by rw [mk_len]; omega), by rw [mk_len]; omega, short_le (by rw [mk_len]; omega), d, e, ?_, (by trivial), l ++ [d], _, by simp [hl], fun x hx => ?_, by rw [show (mk l ++ (⟨#[d]⟩ : Str)) = mk (l ++ [d]) from mk_app l [d]]⟩
      · show (mk l).length + 1 ≤ sizeLine
        rw [mk_len]
        exact Nat.le_trans (show l.length + 1 ≤ 1000 by omega) (by decide)
      · rcases List.mem_append.mp hx with z | z
        · exact hc x z
        · have e2 : x = d := by simpa using z
          rw [e2]; exact hd
    · rintro σ H' ⟨rfl, l, b, hl, hc, rfl⟩
      try simp only [tRet, tVar, List.getElem?_cons_succ, List.getElem?_cons_zero, exSlot]
      exact q l (by omega) hc
theorem ok_d_l_label (T : Txt K mg t) : FnOk P w K mg base CX0 3 t.f_d_l_label t.fd_d_l_label ["_law_cell"] spLabel := by
  refine T.F_d_l_label.ok sc_d_l_label (fun vs H Q E h => ?_) (fun cdv A outer s H vs Q E hr h => ?_)
  · obtain ⟨c, rfl, q⟩ := h; rfl
  · obtain ⟨c, rfl, q⟩ := h
    refine ⟨_, (@pss_one _ _ _ (@ps_ret _ _ _ _ (@pe_call _ _ _ _ _ _ _ _ _ _ _ _ _ _ _ _ (ok_d_l_text T) (hr.mono (by decide)) rfl T.g_d_l_text T.F_d_l_text.kp T.b_d_l_text .nil pass0 (@pa_cons _ _ _ _ _ (@pv _ 0 _ _ (by rfl) (by first | exact vis0 rfl | exact vis1 rfl | exact vis2 rfl) (by decide) (by decide)) (@pa_cons _ _ _ _ _ (@pe_str _ _ _ _) (@pa_cons _ _ _ _ _ (@pe_int _ _ _ _) (@pa_nil _) (by rfl)) (by rfl)) (by rfl)) (by decide) (by rfl) (by rfl)))), ?_⟩
    rw [show start n_d_l_label [V.int c] = [some (V.int c)] from rfl]
    try simp only [tRet, tCall, tCons, tVar, List.getElem?_cons_zero, tC, tNil, List.append_nil, exSlot]
    rw [fig_eq]
    exact ⟨c, figs, rfl, by decide, fun l h1 h2 => q l h1 h2⟩
theorem ok_d_l_name (T : Txt K mg t) : FnOk P w K mg base CX0 3 t.f_d_l_name t.fd_d_l_name ["_law_cell"] spName := by
  refine T.F_d_l_name.ok sc_d_l_name (fun vs H Q E h => ?_) (fun cdv A outer s H vs Q E hr h => ?_)
  · obtain ⟨c, rfl, q⟩ := h; rfl
  · obtain ⟨c, rfl, q⟩ := h
    refine ⟨_, (@pss_one _ _ _ (@ps_ret _ _ _ _ (@pe_call _ _ _ _ _ _ _ _ _ _ _ _ _ _ _ _ (ok_d_l_text T) (hr.mono (by decide)) rfl T.g_d_l_text T.F_d_l_text.kp T.b_d_l_text .nil pass0 (@pa_cons _ _ _ _ _ (@pv _ 0 _ _ (by rfl) (by first | exact vis0 rfl | exact vis1 rfl | exact vis2 rfl) (by decide) (by decide)) (@pa_cons _ _ _ _ _ (@pe_str _ _ _ _) (@pa_cons _ _ _ _ _ (@pe_int _ _ _ _) (@pa_nil _) (by rfl)) (by rfl)) (by rfl)) (by decide) (by rfl) (by rfl)))), ?_⟩
    rw [show start n_d_l_name [V.int c] = [some (V.int c)] from rfl]
    try simp only [tRet, tCall, tCons, tVar, List.getElem?_cons_zero, tC, tNil, List.append_nil, exSlot]
    rw [low_eq]
    exact ⟨c, lows, rfl, by decide, fun l h1 h2 => q l ⟨h1.1, h1.2, h2⟩⟩
theorem ok_d_l_row (T : Txt K mg t) : FnOk P w K mg base CX0 4 t.f_d_l_row t.fd_d_l_row ["_law_cell"] spRowL := by
  refine T.F_d_l_row.ok sc_d_l_row (fun vs H Q E h => ?_) (fun cdv A outer s H vs Q E hr h => ?_)
  · obtain ⟨c, rfl, q⟩ := h; rfl
  · obtain ⟨c, rfl, q⟩ := h
    refine ⟨_, (@pss_cons _ _ _ _ _ (@ps_set _ _ (1) _ _ _ _ sc_d_l_row.nd rfl (by first | exact Or.inl rfl | exact Or.inr rfl) (@pe_call _ _ _ _ _ _ _ _ _ _ _ _ _ _ _ _ (ok_d_l_mix T) (hr.mono (by decide)) rfl T.g_d_l_mix T.F_d_l_mix.kp T.b_d_l_mix .nil pass0 (@pa_cons _ _ _ _ _ (@pv _ 0 _ _ (by rfl) (by first | exact vis0 rfl | exact vis1 rfl | exact vis2 rfl) (by decide) (by decide)) (@pa_cons _ _ _ _ _ (@pe_int _ _ _ _) (@pa_nil _) (by rfl)) (by rfl)) (by decide) (by rfl) (by rfl)) (by rfl) (by first | exact Or.inl rfl | exact Or.inr rfl | assumption)) (@pss_cons _ _ _ _ _ (@ps_if _ _ _ _ _ _ _ _ (@pt_cmpR _ _ _ _ _ _ _ _ (op_eqH hr.units) (@pe_op _ _ _ _ _ _ _ _ op_mod (@pv _ 1 _ _ (by rfl) (by first | exact vis0 rfl | exact vis1 rfl | exact vis2 rfl) (by decide) (by decide)) (@pe_int _ _ _ _)) (@pe_int _ _ _ _) (nomark _)) (@pss_cons _ _ _ _ _ (@ps_set _ _ (2) _ _ _ _ sc_d_l_row.nd rfl (by first | exact Or.inl rfl | exact Or.inr rfl) (@pe_call _ _ _ _ _ _ _ _ _ _ _ _ _ _ _ _ (ok_d_l_label T) (hr.mono (by decide)) rfl T.g_d_l_label T.F_d_l_label.kp T.b_d_l_label .nil pass0 (@pa_cons _ _ _ _ _ (@pv _ 0 _ _ (by rfl) (by first | exact vis0 rfl | exact vis1 rfl | exact vis2 rfl) (by decide) (by decide)) (@pa_nil _) (by rfl)) (by decide) (by rfl) (by rfl)) (by rfl) (by first | exact Or.inl rfl | exact Or.inr rfl | assumption)) (@pss_cons _ _ _ _ _ (@ps_set _ _ (3) _ _ _ _ sc_d_l_row.nd rfl (by first | exact Or.inl rfl | exact Or.inr rfl) (@pe_ix _ _ _ _ _ _ _ ix_seq (@pe_lst _ _ _ _ (@pa_cons _ _ _ _ _ (@pe_call _ _ _ _ _ _ _ _ _ _ _ _ _ _ _ _ (ok_d_l_label T) (hr.mono (by decide)) rfl T.g_d_l_label T.F_d_l_label.kp T.b_d_l_label .nil pass0 (@pa_cons _ _ _ _ _ (@pe_op _ _ _ _ _ _ _ _ op_addA (@pv _ 0 _ _ (by rfl) (by first | exact vis0 rfl | exact vis1 rfl | exact vis2 rfl) (by decide) (by decide)) (@pe_int _ _ _ _)) (@pa_nil _) (by rfl)) (by decide) (by rfl) (by rfl)) (@pa_cons _ _ _ _ _ (@pv _ 2 _ _ (by rfl) (by first | exact vis0 rfl | exact vis1 rfl | exact vis2 rfl) (by decide) (by decide)) (@pa_nil _) (by rfl)) (by rfl))) (@pe_op _ _ _ _ _ _ _ _ op_mod (@pe_op _ _ _ _ _ _ _ _ op_fdiv (@pv _ 1 _ _ (by rfl) (by first | exact vis0 rfl | exact vis1 rfl | exact vis2 rfl) (by decide) (by decide)) (@pe_int _ _ _ _)) (@pe_int _ _ _ _)) (fun _ _ => rfl)) (by rfl) (by first | exact Or.inl rfl | exact Or.inr rfl | assumption)) (@pss_one _ _ _ (@ps_ret _ _ _ _ (@pe_op _ _ _ _ _ _ _ _ op_addA (@pe_op _ _ _ _ _ _ _ _ op_addA (@pe_op _ _ _ _ _ _ _ _ op_addA (@pe_str _ _ _ _) (@pv _ 2 _ _ (by rfl) (by first | exact vis0 rfl | exact vis1 rfl | exact vis2 rfl) (by decide) (by decide))) (@pe_str _ _ _ _)) (@pv _ 3 _ _ (by rfl) (by first | exact vis0 rfl | exact vis1 rfl | exact vis2 rfl) (by decide) (by decide))))))) (@pss_nil _)) (@pss_cons _ _ _ _ _ (@ps_setComp _ _ _ _ _ _ _ _ _ _ _ _ _ (4) _ _ _ (@compOk_of _ (defScope s_d_l_row) (n_d_l_row) (["_law_k", "_law_cell"]) ([none, some 0]) _ rfl rfl (by decide +kernel)) rfl (@pi_range1 _ _ _ _ _ _ rfl T.z_range (@pa_cons _ _ _ _ _ (@pe_op _ _ _ _ _ _ _ _ op_addA (@pe_int _ _ _ _) (@pe_op _ _ _ _ _ _ _ _ op_mod (@pe_op _ _ _ _ _ _ _ _ op_fdiv (@pv _ 1 _ _ (by rfl) (by first | exact vis0 rfl | exact vis1 rfl | exact vis2 rfl) (by decide) (by decide)) (@pe_int _ _ _ _)) (@pe_int _ _ _ _))) (@pa_nil _) (by rfl)) (by rfl)) (fun _ _ _ _ _ => (@pg_name _ _ (0) _ (show List.Nodup (["_law_k", "_law_cell"] : List Str) by decide +kernel) rfl (by first | exact Or.inl rfl | exact Or.inr rfl) (by first | exact Or.inl rfl | exact Or.inr rfl | assumption))) (fun _ _ _ _ _ => @pts_nil _) (fun _ _ _ _ _ => (@pe_call _ _ _ _ _ _ _ _ _ _ _ _ _ _ _ _ (ok_d_l_name T) (hr.mono (by decide)) rfl T.g_d_l_name T.F_d_l_name.kp T.b_d_l_name .nil pass0 (@pa_cons _ _ _ _ _ (@pe_op _ _ _ _ _ _ _ _ (op_addK (K := K) rfl) (@pv _ 1 _ _ (by rfl) (by first | exact vis0 rfl | exact vis1 rfl | exact vis2 rfl) (by decide) (by decide)) (@pe_op _ _ _ _ _ _ _ _ op_mul (@pe_int _ _ _ _) (@pv _ 0 _ _ (by rfl) (by first | exact vis0 rfl | exact vis1 rfl | exact vis2 rfl) (by decide) (by decide)))) (@pa_nil _) (by rfl)) (by decide) (by rfl) (by rfl))) sc_d_l_row.nd rfl (by first | exact Or.inl rfl | exact Or.inr rfl) rfl (by intro _ ; rfl) (by first | exact Or.inl rfl | exact Or.inr rfl | assumption)) (@pss_mid _ _ _ _ _ (@ps_if _ _ _ _ _ _ _ _ (@pt_cmpR _ _ _ _ _ _ _ _ (op_eqH hr.units) (@pe_op _ _ _ _ _ _ _ _ op_mod (@pe_op _ _ _ _ _ _ _ _ op_fdiv (@pv _ 1 _ _ (by rfl) (by first | exact vis0 rfl | exact vis1 rfl | exact vis2 rfl) (by decide) (by decide)) (@pe_int _ _ _ _)) (@pe_int _ _ _ _)) (@pe_int _ _ _ _) (nomark _)) (@pss_one _ _ _ (@ps_asg _ _ _ _ _ _ (@pe_ix _ _ _ _ _ _ _ ix_seq (@pv _ 4 _ _ (by rfl) (by first | exact vis0 rfl | exact vis1 rfl | exact vis2 rfl) (by decide) (by decide)) (@pe_int _ _ _ _) (fun _ _ => rfl)) (@pg_sub _ _ _ _ _ _ _ (@pv _ 4 _ _ (by rfl) (by first | exact vis0 rfl | exact vis1 rfl | exact vis2 rfl) (by decide) (by decide)) (@pe_op _ _ _ _ _ _ _ _ op_mod (@pe_op _ _ _ _ _ _ _ _ op_fdiv (@pv _ 1 _ _ (by rfl) (by first | exact vis0 rfl | exact vis1 rfl | exact vis2 rfl) (by decide) (by decide)) (@pe_int _ _ _ _)) (@pe_callB _ _ _ _ _ _ _ _ _ call_lenA rfl T.z_len boot_lenT (@pa_cons _ _ _ _ _ (@pv _ 4 _ _ (by rfl) (by first | exact vis0 rfl | exact vis1 rfl | exact vis2 rfl) (by decide) (by decide)) (@pa_nil _) (by rfl)) (by decide) (by decide) (by rfl) (by rfl))) set_list (by intro _ ; rfl)) (by rfl) (by rfl) (by rfl))) (@pss_nil _)) (@pss_one _ _ _ (@ps_ret _ _ _ _ (@pe_op _ _ _ _ _ _ _ _ op_addA (@pe_str _ _ _ _) (@pe_bm _ _ _ _ _ _ _ _ _ _ _ _ PySem.F.plainAttrs_str PySem.F.slot_str_join PySem.F.type_str_join mt_join (@pe_str _ _ _ _) (@pa_cons _ _ _ _ _ (@pv _ 4 _ _ (by rfl) (by first | exact vis0 rfl | exact vis1 rfl | exact vis2 rfl) (by decide) (by decide)) (@pa_nil _) (by rfl)) (by rfl) (by rfl) (by rfl) (by rfl) (by rfl))))))))), ?_⟩
    rw [show start n_d_l_row [V.int c] = [some (V.int c), none, none, none, none] from rfl]
    try simp only [tSeq, tAsg, tCall, tCons, tVar, List.getElem?_cons_zero, tC, tNil, List.append_nil, gName, tIfS, tTest, tOp, List.set_cons_succ, List.set_cons_zero, List.getElem?_cons_succ, tLst, tRet, exSlot, rAddA_int, spLabel_at, rAddA_str, tNext, tComp_eq, iRng1, spMix_at, rI_int, CDiv, rEqH_int, exBl, decide_eq_true_eq]
    intro r1 _
    have hm := mod_lt' (i := r1) (j := 2) (by decide)
    have k1 : ("beats " : Str).length = 6 := by decide +kernel
    have k2 : (" " : Str).length = 1 := by decide +kernel
    have k3 : ("things " : Str).length = 7 := by decide +kernel
    refine ⟨by decide, ite2 (fun _ => ?_) (fun _ => ?_)⟩
    · intro l1 h1 _ l2 h2 _
      refine ⟨short_le (show 2 ≤ 100000 by decide), fun p hp => ?_⟩
      obtain ⟨H1, e1, s1, g1⟩ := newO hp (.lst [sv l2, sv l1]); rw [e1]
      have hm2 := mod_lt' (i := r1 / 2) (j := 2) (by decide)
      obtain ⟨v, ev, hv, _⟩ := atI_in (xs := [sv l2, sv l1]) (i := r1 / 2 % 2) hm2.1 hm2.2
      obtain ⟨l3, rfl, h3⟩ : ∃ l3 : List Nat, v = sv l3 ∧ l3.length ≤ 8 := by
        simp only [List.mem_cons, List.not_mem_nil, or_false] at hv
        rcases hv with rfl | rfl
        · exact ⟨_, rfl, h2.2⟩
        · exact ⟨_, rfl, h1.2⟩
      refine ⟨by decide, by decide, rIx_lst (SqL.of g1) ev ?_⟩
      try simp only [rAddA_str]
      have m1 : (mk l1).length = l1.length := mk_len _
      have m3 : (mk l3).length = l3.length := mk_len _
      have a1 := app_len "beats " (mk l1)
      have a2 := app_len ("beats " ++ mk l1) " "
      have a3 := app_len ("beats " ++ mk l1 ++ " ") (mk l3)
      exact ⟨short_le (by omega), short_le (by omega), short_le (by omega), q _ _ (by omega) s1⟩
    · have hm9 := mod_lt' (i := r1 / 2) (j := 9) (by decide)
      refine ⟨by decide, by decide, _, rfl, by omega, by omega, ?_⟩
      refine comp_1 src_range (Nat.le_trans (show (1 + r1 / 2 % 9).toNat ≤ 1000 by omega) (by decide)) [some (V.int c)] rfl (fun i v => ∃ l : List Nat, l.length ≤ 8 ∧ v = .str (mk l)) (fun _ _ => trivial) (fun i H' R hi s hR => ?_) (fun D H2 ys hDn s2 hD hl hv => ?_)
      · try simp only [tCall, tCons, tOp, tVar, List.getElem?_cons_succ, List.getElem?_cons_zero, tC, tNil, List.append_nil, exSlot, rI_int, CMul, rAddA_int, spName_at]
        exact ⟨.inl ⟨by decide, by decide⟩, fun l hl => hR _ _ (Same.refl _) ⟨l, hl.2.1, rfl⟩⟩
      obtain ⟨qs, rfl, hqs⟩ := tx_of hv
      have hn : qs.length = (1 + r1 / 2 % 9).toNat := by simpa using hl
      refine ⟨fun σ' H' => ∃ qs : List (List Nat), σ' = [some (V.int c), some (V.int r1), none, none, some (V.ref D)] ∧ Same H H' ∧ H' D = some (.lst (pv' qs)) ∧ qs.length ≤ 9 ∧ ∀ p ∈ qs, p.length ≤ 8, ?_, ?_⟩
      · try simp only [tIfS, tTest, tOp, tVar, List.getElem?_cons_succ, List.getElem?_cons_zero, tC, tAsg, gSub, tCB, tCons, tNil, exSlot, rI_int, CDiv, tNext, rEqH_int, exBl, decide_eq_true_eq]
        refine ⟨by decide, by decide, ite2 (fun _ => ?_) (fun _ => ⟨qs, (by trivial), s2, hD, by omega, hqs⟩)⟩
        obtain ⟨q0, hq0⟩ : ∃ q0, qs[0]? = some q0 := ⟨_, List.getElem?_eq_getElem (by omega)⟩
        refine rIx_lst (SqL.of hD) (v := sv q0) (atI_nat (j := 0) (by rw [List.getElem?_map, hq0]; rfl)) ?_
        refine ⟨by decide, rLenA_lst (SqL.of hD) ?_⟩
        have hml := mod_lt' (i := r1 / 72) (j := ((pv' qs).length : Int)) (by simp; omega)
        try simp only [rI_int]
        refine ⟨by simp; omega, D, _, _, _, rfl, rfl, hD, ixN_in hml.1 hml.2, qs.set (r1 / 72 % ((pv' qs).length : Int)).toNat q0, (by trivial), fun b o e => ?_, ?_, by simp; omega, fun p hp => ?_⟩
        · rw [upd_ne (ne_of_none e hDn)]; exact s2 b o e
        · rw [upd_same]
          show some (HO.lst ((List.map (fun l => V.str (mk l)) qs).set _ _)) = some (HO.lst (List.map (fun l => V.str (mk l)) (qs.set _ _)))
          rw [List.map_set]
        · rcases List.mem_or_eq_of_mem_set hp with z | z
          · exact hqs p z
          · rw [z]; exact hqs q0 (List.mem_of_getElem? hq0)
      rintro σ' H3 ⟨qs, rfl, s3, hD3, hq9, hq8⟩
      try simp only [tRet, tOp, tC, tBM, tCons, tVar, List.getElem?_cons_succ, List.getElem?_cons_zero, tNil, exSlot, tyV_str]
      have hsum := sumT 8 qs hq8
      refine rJoin_of (ys := qs.map mk) (.inl (SqL.of (by rw [List.map_map]; exact hD3))) (by rw [k2, List.length_map]; omega) ?_
      rw [show (" " : Str) = mk [32] by decide +kernel, join_mk]
      have hj := joinN_le [32] (m := 8) qs hq8
      try simp only [rAddA_str]
      have mj : (mk (joinN [32] qs)).length = (joinN [32] qs).length := mk_len _
      have aj := app_len "things " (mk (joinN [32] qs))
      simp only [List.length_cons, List.length_nil] at hj
      exact ⟨short_le (by omega), q _ _ (by omega) s3⟩
theorem ok_d_l_spoilt (T : Txt K mg t) : FnOk P w K mg base CX0 2 t.f_d_l_spoilt t.fd_d_l_spoilt ["_law_row_here", "_law_cell"] (spSpoilt K) := by
  refine T.F_d_l_spoilt.ok sc_d_l_spoilt (fun vs H Q E h => ?_) (fun cdv A outer s H vs Q E hr h => ?_)
  · obtain ⟨z, c, rfl, hz, q⟩ := h; rfl
  · obtain ⟨z, c, rfl, hz, q⟩ := h
    refine ⟨_, (@pss_cons _ _ _ _ _ (@ps_set _ _ (2) _ _ _ _ sc_d_l_spoilt.nd rfl (by first | exact Or.inl rfl | exact Or.inr rfl) (@pe_str _ _ _ _) (by rfl) (by first | exact Or.inl rfl | exact Or.inr rfl | assumption)) (@pss_cons _ _ _ _ _ (@ps_set _ _ (3) _ _ _ _ sc_d_l_spoilt.nd rfl (by first | exact Or.inl rfl | exact Or.inr rfl) (@pe_ix _ _ _ _ _ _ _ ix_seq (@pv _ 2 _ _ (by rfl) (by first | exact vis0 rfl | exact vis1 rfl | exact vis2 rfl) (by decide) (by decide)) (@pe_op _ _ _ _ _ _ _ _ op_mod (@pe_call _ _ _ _ _ _ _ _ _ _ _ _ _ _ _ _ (ok_d_l_mix T) (hr.mono (by decide)) rfl T.g_d_l_mix T.F_d_l_mix.kp T.b_d_l_mix .nil pass0 (@pa_cons _ _ _ _ _ (@pv _ 1 _ _ (by rfl) (by first | exact vis0 rfl | exact vis1 rfl | exact vis2 rfl) (by decide) (by decide)) (@pa_cons _ _ _ _ _ (@pe_int _ _ _ _) (@pa_nil _) (by rfl)) (by rfl)) (by decide) (by rfl) (by rfl)) (@pe_callB _ _ _ _ _ _ _ _ _ call_lenA rfl T.z_len boot_lenT (@pa_cons _ _ _ _ _ (@pv _ 2 _ _ (by rfl) (by first | exact vis0 rfl | exact vis1 rfl | exact vis2 rfl) (by decide) (by decide)) (@pa_nil _) (by rfl)) (by decide) (by decide) (by rfl) (by rfl))) (fun _ _ => rfl)) (by rfl) (by first | exact Or.inl rfl | exact Or.inr rfl | assumption)) (@pss_cons _ _ _ _ _ (@ps_set _ _ (4) _ _ _ _ sc_d_l_spoilt.nd rfl (by first | exact Or.inl rfl | exact Or.inr rfl) (@pe_op _ _ _ _ _ _ _ _ op_mod (@pe_call _ _ _ _ _ _ _ _ _ _ _ _ _ _ _ _ (ok_d_l_mix T) (hr.mono (by decide)) rfl T.g_d_l_mix T.F_d_l_mix.kp T.b_d_l_mix .nil pass0 (@pa_cons _ _ _ _ _ (@pv _ 1 _ _ (by rfl) (by first | exact vis0 rfl | exact vis1 rfl | exact vis2 rfl) (by decide) (by decide)) (@pa_cons _ _ _ _ _ (@pe_int _ _ _ _) (@pa_nil _) (by rfl)) (by rfl)) (by decide) (by rfl) (by rfl)) (@pe_op _ _ _ _ _ _ _ _ op_addA (@pe_callB _ _ _ _ _ _ _ _ _ call_lenA rfl T.z_len boot_lenT (@pa_cons _ _ _ _ _ (@pv _ 0 _ _ (by rfl) (by first | exact vis0 rfl | exact vis1 rfl | exact vis2 rfl) (by decide) (by decide)) (@pa_nil _) (by rfl)) (by decide) (by decide) (by rfl) (by rfl)) (@pe_int _ _ _ _))) (by rfl) (by first | exact Or.inl rfl | exact Or.inr rfl | assumption)) (@pss_cons _ _ _ _ _ (@ps_set _ _ (5) _ _ _ _ sc_d_l_spoilt.nd rfl (by first | exact Or.inl rfl | exact Or.inr rfl) (@pe_op _ _ _ _ _ _ _ _ op_mod (@pe_call _ _ _ _ _ _ _ _ _ _ _ _ _ _ _ _ (ok_d_l_mix T) (hr.mono (by decide)) rfl T.g_d_l_mix T.F_d_l_mix.kp T.b_d_l_mix .nil pass0 (@pa_cons _ _ _ _ _ (@pv _ 1 _ _ (by rfl) (by first | exact vis0 rfl | exact vis1 rfl | exact vis2 rfl) (by decide) (by decide)) (@pa_cons _ _ _ _ _ (@pe_int _ _ _ _) (@pa_nil _) (by rfl)) (by rfl)) (by decide) (by rfl) (by rfl)) (@pe_int _ _ _ _)) (by rfl) (by first | exact Or.inl rfl | exact Or.inr rfl | assumption)) (@pss_cons _ _ _ _ _ (@ps_if _ _ _ _ _ _ _ _ (@pt_cmpR _ _ _ _ _ _ _ _ (op_eqH hr.units) (@pv _ 5 _ _ (by rfl) (by first | exact vis0 rfl | exact vis1 rfl | exact vis2 rfl) (by decide) (by decide)) (@pe_int _ _ _ _) (nomark _)) (@pss_one _ _ _ (@ps_ret _ _ _ _ (@pe_op _ _ _ _ _ _ _ _ op_addA (@pe_slice _ _ _ _ _ _ _ _ _ _ sl_any (@pv _ 0 _ _ (by rfl) (by first | exact vis0 rfl | exact vis1 rfl | exact vis2 rfl) (by decide) (by decide)) (@po_none _) (@po_some _ _ _ (@pv _ 4 _ _ (by rfl) (by first | exact vis0 rfl | exact vis1 rfl | exact vis2 rfl) (by decide) (by decide)))) (@pe_slice _ _ _ _ _ _ _ _ _ _ sl_any (@pv _ 0 _ _ (by rfl) (by first | exact vis0 rfl | exact vis1 rfl | exact vis2 rfl) (by decide) (by decide)) (@po_some _ _ _ (@pe_op _ _ _ _ _ _ _ _ op_addA (@pv _ 4 _ _ (by rfl) (by first | exact vis0 rfl | exact vis1 rfl | exact vis2 rfl) (by decide) (by decide)) (@pe_int _ _ _ _))) (@po_none _))))) (@pss_nil _)) (@pss_cons _ _ _ _ _ (@ps_if _ _ _ _ _ _ _ _ (@pt_cmpR _ _ _ _ _ _ _ _ (op_eqH hr.units) (@pv _ 5 _ _ (by rfl) (by first | exact vis0 rfl | exact vis1 rfl | exact vis2 rfl) (by decide) (by decide)) (@pe_int _ _ _ _) (nomark _)) (@pss_one _ _ _ (@ps_ret _ _ _ _ (@pe_op _ _ _ _ _ _ _ _ op_addA (@pe_op _ _ _ _ _ _ _ _ op_addA (@pe_slice _ _ _ _ _ _ _ _ _ _ sl_any (@pv _ 0 _ _ (by rfl) (by first | exact vis0 rfl | exact vis1 rfl | exact vis2 rfl) (by decide) (by decide)) (@po_none _) (@po_some _ _ _ (@pv _ 4 _ _ (by rfl) (by first | exact vis0 rfl | exact vis1 rfl | exact vis2 rfl) (by decide) (by decide)))) (@pv _ 3 _ _ (by rfl) (by first | exact vis0 rfl | exact vis1 rfl | exact vis2 rfl) (by decide) (by decide))) (@pe_slice _ _ _ _ _ _ _ _ _ _ sl_any (@pv _ 0 _ _ (by rfl) (by first | exact vis0 rfl | exact vis1 rfl | exact vis2 rfl) (by decide) (by decide)) (@po_some _ _ _ (@pv _ 4 _ _ (by rfl) (by first | exact vis0 rfl | exact vis1 rfl | exact vis2 rfl) (by decide) (by decide))) (@po_none _))))) (@pss_nil _)) (@pss_cons _ _ _ _ _ (@ps_if _ _ _ _ _ _ _ _ (@pt_cmpR _ _ _ _ _ _ _ _ (op_eqH hr.units) (@pv _ 5 _ _ (by rfl) (by first | exact vis0 rfl | exact vis1 rfl | exact vis2 rfl) (by decide) (by decide)) (@pe_int _ _ _ _) (nomark _)) (@pss_one _ _ _ (@ps_ret _ _ _ _ (@pe_op _ _ _ _ _ _ _ _ op_addA (@pe_op _ _ _ _ _ _ _ _ op_addA (@pe_slice _ _ _ _ _ _ _ _ _ _ sl_any (@pv _ 0 _ _ (by rfl) (by first | exact vis0 rfl | exact vis1 rfl | exact vis2 rfl) (by decide) (by decide)) (@po_none _) (@po_some _ _ _ (@pv _ 4 _ _ (by rfl) (by first | exact vis0 rfl | exact vis1 rfl | exact vis2 rfl) (by decide) (by decide)))) (@pv _ 3 _ _ (by rfl) (by first | exact vis0 rfl | exact vis1 rfl | exact vis2 rfl) (by decide) (by decide))) (@pe_slice _ _ _ _ _ _ _ _ _ _ sl_any (@pv _ 0 _ _ (by rfl) (by first | exact vis0 rfl | exact vis1 rfl | exact vis2 rfl) (by decide) (by decide)) (@po_some _ _ _ (@pe_op _ _ _ _ _ _ _ _ op_addA (@pv _ 4 _ _ (by rfl) (by first | exact vis0 rfl | exact vis1 rfl | exact vis2 rfl) (by decide) (by decide)) (@pe_int _ _ _ _))) (@po_none _))))) (@pss_nil _)) (@pss_one _ _ _ (@ps_ret _ _ _ _ (@pe_ix _ _ _ _ _ _ _ ix_seq (@pe_lst _ _ _ _ (@pa_cons _ _ _ _ _ (@pe_str _ _ _ _) (@pa_cons _ _ _ _ _ (@pe_str _ _ _ _) (@pa_cons _ _ _ _ _ (@pe_str _ _ _ _) (@pa_cons _ _ _ _ _ (@pe_str _ _ _ _) (@pa_cons _ _ _ _ _ (@pe_non _ _ _) (@pa_cons _ _ _ _ _ (@pe_int _ _ _ _) (@pa_cons _ _ _ _ _ (@pe_lst _ _ _ _ (@pa_cons _ _ _ _ _ (@pe_str _ _ _ _) (@pa_cons _ _ _ _ _ (@pe_str _ _ _ _) (@pa_nil _) (by rfl)) (by rfl))) (@pa_cons _ _ _ _ _ (@pe_str _ _ _ _) (@pa_nil _) (by rfl)) (by rfl)) (by rfl)) (by rfl)) (by rfl)) (by rfl)) (by rfl)) (by rfl))) (@pe_op _ _ _ _ _ _ _ _ op_mod (@pe_call _ _ _ _ _ _ _ _ _ _ _ _ _ _ _ _ (ok_d_l_mix T) (hr.mono (by decide)) rfl T.g_d_l_mix T.F_d_l_mix.kp T.b_d_l_mix .nil pass0 (@pa_cons _ _ _ _ _ (@pv _ 1 _ _ (by rfl) (by first | exact vis0 rfl | exact vis1 rfl | exact vis2 rfl) (by decide) (by decide)) (@pa_cons _ _ _ _ _ (@pe_int _ _ _ _) (@pa_nil _) (by rfl)) (by rfl)) (by decide) (by rfl) (by rfl)) (@pe_int _ _ _ _)) (fun _ _ => rfl))))))))))), ?_⟩
    rw [show start n_d_l_spoilt [V.str z, V.int c] = [some (V.str z), some (V.int c), none, none, none, none] from rfl]
    have hS : ∀ lo hi, (Txt.slice z lo hi).length ≤ z.length := fun lo hi => Txt.slice_le z lo hi
    have hT : ∀ y : Str, y.length ≤ 1000 → RowOk K H (.str y) := fun y hy => .inl ⟨y.cps.toList, by show V.str y = V.str (mk _); rw [mk_eta], by rw [Array.length_toList]; exact hy⟩
    try simp only [tSeq, tAsg, tC, gName, tOp, tVar, List.set_cons_succ, List.set_cons_zero, List.getElem?_cons_succ, List.getElem?_cons_zero, tCall, tCons, tNil, List.append_nil, tCB, tIfS, tTest, tRet, tSl, tNoPart, tPart, exSlot, rSlA_str, rAddA_str, tNext, tLst, spMix_at, rI_int, rEqH_int, exBl, decide_eq_true_eq, rLenA_str, rAddA_int, exInt, rIx_str]
    intro r1 _
    have kl : (" ,->bthA09z  -x1  :" : Str).length = 19 := by decide +kernel
    have hm1 := mod_lt' (i := r1) (j := ((" ,->bthA09z  -x1  :" : Str).length : Int)) (by rw [kl]; decide)
    obtain ⟨c1, e1, _⟩ := atI_in (xs := (" ,->bthA09z  -x1  :" : Str).cps.toList) (i := r1 % ((" ,->bthA09z  -x1  :" : Str).length : Int)) hm1.1 hm1.2
    refine ⟨by decide +kernel, by rw [kl]; decide, by decide +kernel, c1, e1, ?_⟩
    intro r2 _
    refine ⟨short_le (by omega), by omega, ?_⟩
    have hm2 := mod_lt' (i := r2) (j := (z.length : Int) + 1) (by omega)
    generalize r2 % ((z.length : Int) + 1) = at_ at hm2 ⊢
    intro r3 _
    refine ⟨by decide, ?_⟩
    have h1 : (⟨#[c1]⟩ : Str).length = 1 := rfl
    have a1 := hS none (some at_)
    have a2 := hS (some at_) none
    have a3 := hS (some (at_ + 1)) none
    generalize Txt.slice z none (some at_) = z1 at a1 ⊢
    generalize Txt.slice z (some at_) none = z2 at a2 ⊢
    generalize Txt.slice z (some (at_ + 1)) none = z3 at a3 ⊢
    generalize (⟨#[c1]⟩ : Str) = z5 at h1 ⊢
    have zl : z.length ≤ sizeLine := short_le (by omega)
    refine ite2 (fun _ => ?_) (fun _ => ite2 (fun _ => ?_) (fun _ => ite2 (fun _ => ?_) (fun _ => ?_)))
    · exact ⟨zl, zl, short_le (by omega), q _ _ (Same.refl _) (hT _ (by rw [app_len]; omega))⟩
    · exact ⟨zl, short_le (by omega), zl, short_le (by rw [app_len]; omega), q _ _ (Same.refl _) (hT _ (by rw [app_len, app_len]; omega))⟩
    · exact ⟨zl, short_le (by omega), zl, short_le (by rw [app_len]; omega), q _ _ (Same.refl _) (hT _ (by rw [app_len, app_len]; omega))⟩
    · refine ⟨short_le (show 2 ≤ 100000 by decide), fun p hp => ?_⟩
      obtain ⟨H1, e1, s1, g1⟩ := newO hp (.lst [V.str "things", V.str "a"]); rw [e1]
      refine ⟨short_le (show 8 ≤ 100000 by decide), fun p2 hp2 => ?_⟩
      have hall : ∀ v ∈ [V.str "", V.str "beats", V.str "things", V.str "things ", V.non, V.int 7, V.ref p, V.str "beats a b c"], RowOk K H1 v := by
        have hT1 : ∀ y : Str, y.length ≤ 1000 → RowOk K H1 (.str y) := fun y hy => .inl ⟨y.cps.toList, by show V.str y = V.str (mk _); rw [mk_eta], by rw [Array.length_toList]; exact hy⟩
        intro v hv
        simp only [List.mem_cons, List.not_mem_nil, or_false] at hv
        rcases hv with rfl | rfl | rfl | rfl | rfl | rfl | rfl | rfl
        · exact hT1 _ (by decide +kernel)
        · exact hT1 _ (by decide +kernel)
        · exact hT1 _ (by decide +kernel)
        · exact hT1 _ (by decide +kernel)
        · exact .inr ⟨⟨_, .non, kit_none_str⟩, fun H' _ Q q => rEqD_same .non .non (by decide +kernel) q⟩
        · exact .inr ⟨⟨_, .int _, kit_int_str⟩, fun H' _ Q q => rEqD_same (.int 7) (.int 7) (by decide +kernel) q⟩
        · exact .inr ⟨⟨_, .lst g1, kit_list_str⟩, fun H' s Q q => rEqD_same (denL (qs := [thingsN, [97]]) (SqL.of (by rw [s _ _ g1, things_eq, show ("a" : Str) = mk [97] by decide +kernel]; rfl))) (denL (qs := [thingsN, [97]]) (SqL.of (by rw [s _ _ g1, things_eq, show ("a" : Str) = mk [97] by decide +kernel]; rfl))) (shapedL (by decide)) q⟩
        · exact hT1 _ (by decide +kernel)
      have hlen : [V.str "", V.str "beats", V.str "things", V.str "things ", V.non, V.int 7, V.ref p, V.str "beats a b c"].length = 8 := rfl
      generalize [V.str "", V.str "beats", V.str "things", V.str "things ", V.non, V.int 7, V.ref p, V.str "beats a b c"] = ws at hall hlen ⊢
      obtain ⟨H3, e3, s3, h3⟩ := newO hp2 (.lst ws); rw [e3]
      intro r6 _
      have hm6 := mod_lt' (i := r6) (j := 8) (by decide)
      obtain ⟨v, ev, hv, _⟩ := atI_in (xs := ws) (i := r6 % 8) hm6.1 (by rw [hlen]; exact hm6.2)
      refine ⟨by decide, rIx_lst (SqL.of h3) ev (q v H3 (s1.trans s3) ?_)⟩
      rcases hall v hv with h | ⟨h, e⟩
      · exact .inl h
      · exact .inr ⟨h.same s3, e.same s3⟩
theorem ok_d_law (T : Txt K mg t) : FnOk P w K mg base CX0 6 t.f_d_law t.fd_d_law ["_law_script"] (spLaw K) := by
  refine T.F_d_law.ok sc_d_law (fun vs H Q E h => ?_) (fun cdv A outer s H vs Q E hr h => ?_)
  · obtain ⟨a, ns, rfl, hS, hl, q⟩ := h; rfl
  · obtain ⟨a, ns, rfl, hS, hl, q⟩ := h
    refine ⟨_, (@pss_cons _ _ _ _ _ (@ps_for _ _ _ _ _ _ _ _ PassesOwn.never rfl (@pi_list _ _ _ _ (@pe_slice _ _ _ _ _ _ _ _ _ _ sl_any (@pv _ 0 _ _ (by rfl) (by first | exact vis0 rfl | exact vis1 rfl | exact vis2 rfl) (by decide) (by decide)) (@po_none _) (@po_some _ _ _ (@pe_int _ _ _ _)))) (@pg_name _ _ (1) _ sc_d_law.nd rfl (by first | exact Or.inl rfl | exact Or.inr rfl) (by first | exact Or.inl rfl | exact Or.inr rfl | assumption)) (@pss_cons _ _ _ _ _ (@ps_set _ _ (2) _ _ _ _ sc_d_law.nd rfl (by first | exact Or.inl rfl | exact Or.inr rfl) (@pe_call _ _ _ _ _ _ _ _ _ _ _ _ _ _ _ _ (ok_d_l_row T) (hr.mono (by decide)) rfl T.g_d_l_row T.F_d_l_row.kp T.b_d_l_row .nil pass0 (@pa_cons _ _ _ _ _ (@pv _ 1 _ _ (by rfl) (by first | exact vis0 rfl | exact vis1 rfl | exact vis2 rfl) (by decide) (by decide)) (@pa_nil _) (by rfl)) (by decide) (by rfl) (by rfl)) (by rfl) (by first | exact Or.inl rfl | exact Or.inr rfl | assumption)) (@pss_mid _ _ _ _ _ (@ps_if _ _ _ _ _ _ _ _ (@pt_cmpR _ _ _ _ _ _ _ _ (op_eqH hr.units) (@pe_op _ _ _ _ _ _ _ _ op_mod (@pe_call _ _ _ _ _ _ _ _ _ _ _ _ _ _ _ _ (ok_d_l_mix T) (hr.mono (by decide)) rfl T.g_d_l_mix T.F_d_l_mix.kp T.b_d_l_mix .nil pass0 (@pa_cons _ _ _ _ _ (@pv _ 1 _ _ (by rfl) (by first | exact vis0 rfl | exact vis1 rfl | exact vis2 rfl) (by decide) (by decide)) (@pa_cons _ _ _ _ _ (@pe_int _ _ _ _) (@pa_nil _) (by rfl)) (by rfl)) (by decide) (by rfl) (by rfl)) (@pe_int _ _ _ _)) (@pe_int _ _ _ _) (nomark _)) (@pss_one _ _ _ (@ps_set _ _ (2) _ _ _ _ sc_d_law.nd rfl (by first | exact Or.inl rfl | exact Or.inr rfl) (@pe_call _ _ _ _ _ _ _ _ _ _ _ _ _ _ _ _ (ok_d_l_spoilt T) (hr.mono (by decide)) rfl T.g_d_l_spoilt T.F_d_l_spoilt.kp T.b_d_l_spoilt .nil pass0 (@pa_cons _ _ _ _ _ (@pv _ 2 _ _ (by rfl) (by first | exact vis0 rfl | exact vis1 rfl | exact vis2 rfl) (by decide) (by decide)) (@pa_cons _ _ _ _ _ (@pv _ 1 _ _ (by rfl) (by first | exact vis0 rfl | exact vis1 rfl | exact vis2 rfl) (by decide) (by decide)) (@pa_nil _) (by rfl)) (by rfl)) (by decide) (by rfl) (by rfl)) (by rfl) (by first | exact Or.inl rfl | exact Or.inr rfl | assumption))) (@pss_nil _)) (@pss_one _ _ _ (@ps_if _ _ _ _ _ _ _ _ (@pt_not _ _ _ _ (@pt_val _ _ _ (@pe_call _ _ _ _ _ _ _ _ _ _ _ _ _ _ _ _ (ok_d_l_right T) (hr.mono (by decide)) rfl T.g_d_l_right T.F_d_l_right.kp T.b_d_l_right .nil pass0 (@pa_cons _ _ _ _ _ (@pv _ 2 _ _ (by rfl) (by first | exact vis0 rfl | exact vis1 rfl | exact vis2 rfl) (by decide) (by decide)) (@pa_nil _) (by rfl)) (by decide) (by rfl) (by rfl)) (by intro _ ; rfl))) (@pss_one _ _ _ (@ps_ret _ _ _ _ (@pe_bl _ _ _ _))) (@pss_nil _))))) (by intro _ ; rfl)) (@pss_one _ _ _ (@ps_ret _ _ _ _ (@pe_bl _ _ _ _)))), ?_⟩
    rw [show start n_d_law [V.ref a] = [some (V.ref a), none, none] from rfl]
    try simp only [tSeq, tFor_eq, iList, tSl, tVar, List.getElem?_cons_zero, tNoPart, tPart, tC, exInt, exSlot]
    refine .inr (.inl ⟨a, _, rfl, hS, fun p1 hp1 => ?_⟩)
    have hc : ∀ v ∈ cutV (ns.map V.int) none (some 16), ∃ i, v = V.int i := fun v hv => by
      have := List.mem_of_mem_drop (List.mem_of_mem_take hv)
      obtain ⟨i, _, e⟩ := List.mem_map.mp this
      exact ⟨i, e.symm⟩
    generalize cutV (ns.map V.int) none (some 16) = cs at hc
    obtain ⟨H1, e1, s1, h1⟩ := newO hp1 (.lst cs); rw [e1]
    refine ⟨p1, rfl, ⟨_, SqL.of h1⟩, ?_⟩
    refine for_list (K := K) (a := p1) (xs := cs) (fun i σ H' => Same H1 H' ∧ ∃ (x1 x2 : Option V), σ = [some (V.ref a), x1, x2]) ⟨Same.refl _, _, _, rfl⟩ (fun i σ H' _ h => h.1.seq (SqL.of h1)) ?_ ?_
    · rintro i w σ Hi hi ⟨si, x1, x2, rfl⟩
      obtain ⟨c, rfl⟩ := hc w (List.mem_of_getElem? hi)
      try simp only [gName, tSeq, tAsg, tCall, tCons, tVar, List.set_cons_succ, List.set_cons_zero, List.getElem?_cons_succ, List.getElem?_cons_zero, tNil, List.append_nil, exSlot]
      refine ⟨c, rfl, fun z H2 hz s2 => ?_⟩
      refine ⟨fun σ' H' => ∃ v, σ' = [some (V.ref a), some (V.int c), some v] ∧ Same H2 H' ∧ RowOk K H' v, ?_, ?_⟩
      · try simp only [tIfS, tTest, tOp, tCall, tCons, tVar, List.getElem?_cons_succ, List.getElem?_cons_zero, tC, tNil, List.append_nil, tAsg, gName, List.set_cons_succ, List.set_cons_zero, exSlot, tNext, spMix_at, rI_int, rEqH_int, exBl, decide_eq_true_eq]
        intro r1 _
        refine ⟨by decide, ite2 (fun _ => ?_) (fun _ => ?_)⟩
        · exact ⟨z, c, rfl, hz, fun v H3 s3 hv => ⟨v, (by trivial), s3, hv⟩⟩
        · exact ⟨_, (by trivial), Same.refl _, .inl ⟨z.cps.toList, by show V.str z = V.str (mk _); rw [mk_eta], by rw [Array.length_toList]; exact Nat.le_trans hz (by decide)⟩⟩
      rintro σ' H3 ⟨v, rfl, s3, hv⟩
      try simp only [tIfS, tNot, tB, tCall, tCons, tVar, List.getElem?_cons_succ, List.getElem?_cons_zero, tNil, List.append_nil, Bool.not_eq_true', tRet, tC, tNext, exSlot]
      refine ⟨v, rfl, hv, fun H4 s4 => ?_⟩
      try simp only [exBl, ite_tf]
      exact ⟨si.trans (s2.trans (s3.trans s4)), _, _, rfl⟩
    · rintro σ Hi ⟨si, x1, x2, rfl⟩
      try simp only [tRet, tC]
      exact q _
end
end K14
open PySem PySem.W PyProof.Rows
namespace K14
open PySem PySem.W L2
noncomputable section
abbrev kE (P : Params) (x : String) (t : Nat) (v : Value) : DictEntry := ⟨PyData.keyHash P x, .str x t, v⟩
abbrev kC (n q : String) (s : Stmt) : Obj := ⟨.none, none, (.func ⟨n, q, defArgs s, .stmts (defBody s), defScope s, 0, [], .none, .none, .none, .none, none, .none, .none, 0⟩), #[]⟩
def o0 (P : Params) : Obj := ⟨(.type "dict"), none, (.dict #[kE P "__name__" 1 (.str "builtins" 160), kE P "__doc__" 2 (.builtin "builtins.__doc__:str#opaque"), kE P "__package__" 3 (.builtin "builtins.__package__:str#opaque"), kE P "__loader__" 4 (.builtin "builtins.__loader__:shared#opaque"), kE P "__spec__" 5 (.builtin "builtins.__spec__#opaque"), kE P "__build_class__" 6 (.builtin "__build_class__"), kE P "__import__" 7 (.builtin "__import__"), kE P "abs" 8 (.builtin "abs"), kE P "all" 9 (.builtin "all"), kE P "any" 10 (.builtin "any"), kE P "ascii" 11 (.builtin "ascii"), kE P "bin" 12 (.builtin "bin"), kE P "breakpoint" 13 (.builtin "breakpoint"), kE P "callable" 14 (.builtin "callable"), kE P "chr" 15 (.builtin "chr"), kE P "compile" 16 (.builtin "compile"), kE P "delattr" 17 (.builtin "delattr"), kE P "dir" 18 (.builtin "dir"), kE P "divmod" 19 (.builtin "divmod"), kE P "eval" 20 (.builtin "eval"), kE P "exec" 21 (.builtin "exec"), kE P "format" 22 (.builtin "format"), kE P "getattr" 23 (.builtin "getattr"), kE P "globals" 24 (.builtin "globals"), kE P "hasattr" 25 (.builtin "hasattr"), kE P "hash" 26 (.builtin "hash"), kE P "hex" 27 (.builtin "hex"), kE P "id" 28 (.builtin "id"), kE P "input" 29 (.builtin "input"), kE P "isinstance" 30 (.builtin "isinstance"), kE P "issubclass" 31 (.builtin "issubclass"), kE P "iter" 32 (.builtin "iter"), kE P "aiter" 33 (.builtin "aiter"), kE P "len" 34 (.builtin "len"), kE P "locals" 35 (.builtin "locals"), kE P "max" 36 (.builtin "max"), kE P "min" 37 (.builtin "min"), kE P "next" 38 (.builtin "next"), kE P "anext" 39 (.builtin "anext"), kE P "oct" 40 (.builtin "oct"), kE P "ord" 41 (.builtin "ord"), kE P "pow" 42 (.builtin "pow"), kE P "print" 43 (.builtin "print"), kE P "repr" 44 (.builtin "repr"), kE P "round" 45 (.builtin "round"), kE P "setattr" 46 (.builtin "setattr"), kE P "sorted" 47 (.builtin "sorted"), kE P "sum" 48 (.builtin "sum"), kE P "vars" 49 (.builtin "vars"), kE P "None" 50 .none, kE P "Ellipsis" 51 .ellipsis, kE P "NotImplemented" 52 .notImplemented, kE P "False" 53 (.bool false), kE P "True" 54 (.bool true), kE P "bool" 55 (.type "bool"), kE P "memoryview" 56 (.type "memoryview"), kE P "bytearray" 57 (.type "bytearray"), kE P "bytes" 58 (.type "bytes"), kE P "classmethod" 59 (.type "classmethod"), kE P "complex" 60 (.type "complex"), kE P "dict" 61 (.type "dict"), kE P "enumerate" 62 (.type "enumerate"), kE P "filter" 63 (.type "filter"), kE P "float" 64 (.type "float"), kE P "frozenset" 65 (.type "frozenset"), kE P "property" 66 (.type "property"), kE P "int" 67 (.type "int"), kE P "list" 68 (.type "list"), kE P "map" 69 (.type "map"), kE P "object" 70 (.type "object"), kE P "range" 71 (.type "range"), kE P "reversed" 72 (.type "reversed"), kE P "set" 73 (.type "set"), kE P "slice" 74 (.type "slice"), kE P "staticmethod" 75 (.type "staticmethod"), kE P "str" 76 (.type "str"), kE P "super" 77 (.type "super"), kE P "tuple" 78 (.type "tuple"), kE P "type" 79 (.type "type"), kE P "zip" 80 (.type "zip"), kE P "__debug__" 81 (.bool true), kE P "BaseException" 82 (.type "BaseException"), kE P "BaseExceptionGroup" 83 (.type "BaseExceptionGroup"), kE P "Exception" 84 (.type "Exception"), kE P "GeneratorExit" 85 (.type "GeneratorExit"), kE P "KeyboardInterrupt" 86 (.type "KeyboardInterrupt"), kE P "SystemExit" 87 (.type "SystemExit"), kE P "ArithmeticError" 88 (.type "ArithmeticError"), kE P "AssertionError" 89 (.type "AssertionError"), kE P "AttributeError" 90 (.type "AttributeError"), kE P "BufferError" 91 (.type "BufferError"), kE P "EOFError" 92 (.type "EOFError"), kE P "ImportError" 93 (.type "ImportError"), kE P "LookupError" 94 (.type "LookupError"), kE P "MemoryError" 95 (.type "MemoryError"), kE P "NameError" 96 (.type "NameError"), kE P "OSError" 97 (.type "OSError"), kE P "ReferenceError" 98 (.type "ReferenceError"), kE P "RuntimeError" 99 (.type "RuntimeError"), kE P "StopAsyncIteration" 100 (.type "StopAsyncIteration"), kE P "StopIteration" 101 (.type "StopIteration"), kE P "SyntaxError" 102 (.type "SyntaxError"), kE P "SystemError" 103 (.type "SystemError"), kE P "TypeError" 104 (.type "TypeError"), kE P "ValueError" 105 (.type "ValueError"), kE P "Warning" 106 (.type "Warning"), kE P "FloatingPointError" 107 (.type "FloatingPointError"), kE P "OverflowError" 108 (.type "OverflowError"), kE P "ZeroDivisionError" 109 (.type "ZeroDivisionError"), kE P "BytesWarning" 110 (.type "BytesWarning"), kE P "DeprecationWarning" 111 (.type "DeprecationWarning"), kE P "EncodingWarning" 112 (.type "EncodingWarning"), kE P "FutureWarning" 113 (.type "FutureWarning"), kE P "ImportWarning" 114 (.type "ImportWarning"), kE P "PendingDeprecationWarning" 115 (.type "PendingDeprecationWarning"), kE P "ResourceWarning" 116 (.type "ResourceWarning"), kE P "RuntimeWarning" 117 (.type "RuntimeWarning"), kE P "SyntaxWarning" 118 (.type "SyntaxWarning"), kE P "UnicodeWarning" 119 (.type "UnicodeWarning"), kE P "UserWarning" 120 (.type "UserWarning"), kE P "BlockingIOError" 121 (.type "BlockingIOError"), kE P "ChildProcessError" 122 (.type "ChildProcessError"), kE P "ConnectionError" 123 (.type "ConnectionError"), kE P "FileExistsError" 124 (.type "FileExistsError"), kE P "FileNotFoundError" 125 (.type "FileNotFoundError"), kE P "InterruptedError" 126 (.type "InterruptedError"), kE P "IsADirectoryError" 127 (.type "IsADirectoryError"), kE P "NotADirectoryError" 128 (.type "NotADirectoryError"), kE P "PermissionError" 129 (.type "PermissionError"), kE P "ProcessLookupError" 130 (.type "ProcessLookupError"), kE P "TimeoutError" 131 (.type "TimeoutError"), kE P "IndentationError" 132 (.type "IndentationError"), kE P "_IncompleteInputError" 133 (.type "_IncompleteInputError"), kE P "IndexError" 134 (.type "IndexError"), kE P "KeyError" 135 (.type "KeyError"), kE P "ModuleNotFoundError" 136 (.type "ModuleNotFoundError"), kE P "NotImplementedError" 137 (.type "NotImplementedError"), kE P "PythonFinalizationError" 138 (.type "PythonFinalizationError"), kE P "RecursionError" 139 (.type "RecursionError"), kE P "UnboundLocalError" 140 (.type "UnboundLocalError"), kE P "UnicodeError" 141 (.type "UnicodeError"), kE P "BrokenPipeError" 142 (.type "BrokenPipeError"), kE P "ConnectionAbortedError" 143 (.type "ConnectionAbortedError"), kE P "ConnectionRefusedError" 144 (.type "ConnectionRefusedError"), kE P "ConnectionResetError" 145 (.type "ConnectionResetError"), kE P "TabError" 146 (.type "TabError"), kE P "UnicodeDecodeError" 147 (.type "UnicodeDecodeError"), kE P "UnicodeEncodeError" 148 (.type "UnicodeEncodeError"), kE P "UnicodeTranslateError" 149 (.type "UnicodeTranslateError"), kE P "ExceptionGroup" 150 (.type "ExceptionGroup"), kE P "EnvironmentError" 151 (.type "OSError"), kE P "IOError" 152 (.type "OSError"), kE P "open" 153 (.builtin "open"), kE P "quit" 154 (.builtin "builtins.quit#opaque"), kE P "exit" 155 (.builtin "builtins.exit#opaque"), kE P "copyright" 156 (.builtin "builtins.copyright#opaque"), kE P "credits" 157 (.builtin "builtins.credits#opaque"), kE P "license" 158 (.builtin "builtins.license#opaque"), kE P "help" 159 (.builtin "builtins.help#opaque")] 159), #[]⟩
def o1 (P : Params) : Obj := ⟨(.type "dict"), none, (.dict #[kE P "builtins" 162 (.ref 4), kE P "__main__" 163 (.ref 5)] 2), #[]⟩
def o2 (P : Params) : Obj := ⟨.none, none, (.dict #[] 0), #[]⟩
def o3 (P : Params) : Obj := ⟨(.type "dict"), none, (.dict #[kE P "__name__" 165 (.str "law_mostwise_k14_beats_and_things" 310), kE P "__doc__" 166 .none, kE P "__package__" 167 .none, kE P "__loader__" 168 (.builtin "__main__.__loader__#opaque"), kE P "__spec__" 169 .none, kE P "__annotations__" 170 (.ref 6), kE P "__builtins__" 171 (.ref 4), kE P "__file__" 173 (.str "/claim/cut.py" 172), kE P "__cached__" 174 .none, kE P "MostError" 206 (.ref 24), kE P "NoRow" 231 (.ref 44), kE P "NoThing" 256 (.ref 63), kE P "SMALL" 260 (.str "abcdefghijklmnopqrstuvwxyz" 259), kE P "SMALL_OR_FIGURE" 262 (.str "abcdefghijklmnopqrstuvwxyz0123456789" 261), ⟨PyData.keyHash P "LONGEST", (.str "LONGEST" 264), (.int (8) 263)⟩, kE P "is_made_of" 270 (.ref 70), kE P "is_name" 277 (.ref 77), kE P "is_label" 284 (.ref 84), ⟨PyData.keyHash P "MOST_THINGS", (.str "MOST_THINGS" 288), (.int (8) 287)⟩, kE P "words_of" 295 (.ref 91), kE P "pair_of" 303 (.ref 98), kE P "things_of" 309 (.ref 103), kE P "_law_cell_at" 319 (.ref 110), kE P "_law_mix" 328 (.ref 117), kE P "_law_text" 340 (.ref 124), kE P "_law_name" 347 (.ref 131), kE P "_law_label" 354 (.ref 138), kE P "_law_letter" 362 (.ref 145), kE P "_law_place" 372 (.ref 152), kE P "_law_parts" 378 (.ref 157), kE P "_law_shown" 385 (.ref 164), kE P "_law_row" 391 (.ref 169), kE P "_law_spoilt" 403 (.ref 176), kE P "_law_name_is" 409 (.ref 181), kE P "_law_pair" 415 (.ref 186), kE P "_law_things" 421 (.ref 191), kE P "_law_refused" 431 (.ref 198), kE P "_law_right" 441 (.ref 205), kE P "law" 450 (.ref 212)] 39), #[]⟩
def o4 (P : Params) : Obj := ⟨(.type "module"), (some 0), .plain, #[]⟩
def o5 (P : Params) : Obj := ⟨(.type "module"), (some 3), .plain, #[]⟩
def o6 (P : Params) : Obj := ⟨(.type "dict"), none, (.dict #[] 0), #[]⟩
def o7 (P : Params) : Obj := ⟨(.type "tuple"), none, (.seq #[] 0), #[]⟩
def o8 (P : Params) : Obj := ⟨.none, none, (.fields #[]), #[]⟩
def o9 (P : Params) : Obj := ⟨(.type "code"), none, (.fields #[(.str "<module>" 176), (.str "<module>" 177), (.str "/claim/cut.py" 178), (.int (1) 0), (.int (0) 0), (.int (0) 0), (.int (0) 0), (.int (0) 0), (.ref 7), (.bool false), (.int (175) 0), (.ref 8), .none, .none, .none, .none, (.int (179) 0), (.int (1) 0), (.str "/claim/cut.py" 180)]), #[]⟩
def o10 (P : Params) : Obj := ⟨(.type "frame"), none, .plain, #[(some (.ref 9)), (some (.ref 3)), (some (.ref 3)), none, (some (.str "__main__" 164)), none, (some (.ref 0))]⟩
def o11 (P : Params) : Obj := ⟨(.type "tuple"), none, (.seq #[] 0), #[]⟩
def o12 (P : Params) : Obj := ⟨.none, none, (.fields #[(.int (2) 0), (.int (0) 0), (.ref 20), (.int (4) 0), (.int (0) 0), (.ref 33), (.int (8) 0), (.int (0) 0), (.ref 52), (.int (16) 0), (.int (0) 0), (.ref 69), (.int (18) 0), (.int (0) 0), (.ref 76), (.int (20) 0), (.int (0) 0), (.ref 83), (.int (24) 0), (.int (0) 0), (.ref 90), (.int (26) 0), (.int (0) 0), (.ref 97), (.int (31) 0), (.int (0) 0), (.ref 102), (.int (40) 0), (.int (0) 0), (.ref 109), (.int (44) 0), (.int (0) 0), (.ref 116), (.int (48) 0), (.int (0) 0), (.ref 123), (.int (54) 0), (.int (0) 0), (.ref 130), (.int (56) 0), (.int (0) 0), (.ref 137), (.int (58) 0), (.int (0) 0), (.ref 144), (.int (60) 0), (.int (0) 0), (.ref 151), (.int (65) 0), (.int (0) 0), (.ref 156), (.int (69) 0), (.int (0) 0), (.ref 163), (.int (73) 0), (.int (0) 0), (.ref 168), (.int (83) 0), (.int (0) 0), (.ref 175), (.int (95) 0), (.int (0) 0), (.ref 180), (.int (99) 0), (.int (0) 0), (.ref 185), (.int (109) 0), (.int (0) 0), (.ref 190), (.int (118) 0), (.int (0) 0), (.ref 197), (.int (130) 0), (.int (0) 0), (.ref 204), (.int (147) 0), (.int (0) 0), (.ref 211)]), #[]⟩
def o13 (P : Params) : Obj := ⟨(.type "code"), none, (.fields #[(.str "<module>" 182), (.str "<module>" 183), (.str "/claim/cut.py" 184), (.int (1) 0), (.int (0) 0), (.int (0) 0), (.int (0) 0), (.int (0) 0), (.ref 11), (.bool false), (.int (181) 0), (.ref 12), .none, .none, .none, .none, (.int (185) 0), (.int (1) 0), (.str "/claim/cut.py" 186)]), #[]⟩
def o14 (P : Params) : Obj := ⟨(.type "frame"), none, .plain, #[(some (.ref 13)), (some (.ref 3)), (some (.ref 3)), none, (some (.str "__main__" 164)), none, (some (.ref 0))]⟩
def o15 (P : Params) : Obj := ⟨(.type "tuple"), none, (.seq #[(.type "ValueError")] 0), #[]⟩
def o16 (P : Params) : Obj := ⟨(.type "builtin_function_or_method"), none, (.fields #[(.builtin "type.__prepare__"), (.type "type")]), #[]⟩
def o17 (P : Params) : Obj := ⟨(.type "dict"), none, (.dict #[kE P "__module__" 196 (.str "mostwise.errors" 187), kE P "__qualname__" 198 (.str "MostError" 197), ⟨PyData.keyHash P "__firstlineno__", (.str "__firstlineno__" 200), (.int (2) 199)⟩, kE P "__static_attributes__" 201 (.ref 22)] 4), #[]⟩
def o18 (P : Params) : Obj := ⟨(.type "tuple"), none, (.seq #[] 0), #[]⟩
def o19 (P : Params) : Obj := ⟨.none, none, (.fields #[]), #[]⟩
def o20 (P : Params) : Obj := ⟨(.type "code"), none, (.fields #[(.str "MostError" 191), (.str "MostError" 192), (.str "/claim/cut.py" 193), (.int (2) 0), (.int (0) 0), (.int (0) 0), (.int (0) 0), (.int (0) 0), (.ref 18), (.bool false), (.int (181) 0), (.ref 19), .none, .none, .none, .none, (.int (194) 0), (.int (2) 0), (.str "/claim/cut.py" 195)]), #[]⟩
def o21 (P : Params) : Obj := ⟨(.type "frame"), none, .plain, #[(some (.ref 20)), (some (.ref 3)), (some (.ref 17)), none, (some (.str "mostwise.errors" 187)), none, (some (.ref 0))]⟩
def o22 (P : Params) : Obj := ⟨(.type "tuple"), none, (.seq #[] 0), #[]⟩
def o23 (P : Params) : Obj := ⟨(.type "dict"), none, (.dict #[kE P "__module__" 196 (.str "mostwise.errors" 187), ⟨PyData.keyHash P "__firstlineno__", (.str "__firstlineno__" 200), (.int (2) 199)⟩, kE P "__static_attributes__" 201 (.ref 22), kE P "__weakref__" 203 (.ref 25), kE P "__doc__" 204 .none] 3), #[]⟩
def o24 (P : Params) : Obj := ⟨(.type "type"), none, (.cls ⟨"MostError", [(.type "ValueError")], [(.ref 24), (.type "ValueError"), (.type "Exception"), (.type "BaseException"), (.type "object")], 23, "MostError", true, [], [(.ref 44), (.ref 63)], false, none, false⟩), #[(some (.ref 15)), none, (some (.str "MostError" 189)), (some (.str "MostError" 197)), (some (.builtin "ValueError.__new__")), (some (.bool true))]⟩
def o25 (P : Params) : Obj := ⟨(.type "getset_descriptor"), none, (.fields #[(.str "__weakref__" 202), (.ref 24), (.builtin "ExceptionGroup.__weakref__"), .none]), #[]⟩
def o26 (P : Params) : Obj := ⟨(.type "super"), none, (.fields #[(.ref 24), (.ref 24), (.ref 24)]), #[]⟩
def o27 (P : Params) : Obj := ⟨(.type "builtin_function_or_method"), none, (.fields #[(.builtin "object.__init_subclass__"), (.ref 24)]), #[]⟩
def o28 (P : Params) : Obj := ⟨(.type "tuple"), none, (.seq #[(.ref 24)] 0), #[]⟩
def o29 (P : Params) : Obj := ⟨(.type "builtin_function_or_method"), none, (.fields #[(.builtin "type.__prepare__"), (.type "type")]), #[]⟩
def o30 (P : Params) : Obj := ⟨(.type "dict"), none, (.dict #[kE P "__module__" 214 (.str "mostwise.errors" 187), kE P "__qualname__" 216 (.str "NoRow" 215), ⟨PyData.keyHash P "__firstlineno__", (.str "__firstlineno__" 218), (.int (4) 217)⟩, kE P "__init__" 226 (.ref 41), kE P "__static_attributes__" 228 (.ref 42)] 5), #[]⟩
def o31 (P : Params) : Obj := ⟨(.type "tuple"), none, (.seq #[] 0), #[]⟩
def o32 (P : Params) : Obj := ⟨.none, none, (.fields #[(.int (6) 0), (.int (4) 0), (.ref 40)]), #[]⟩
def o33 (P : Params) : Obj := ⟨(.type "code"), none, (.fields #[(.str "NoRow" 209), (.str "NoRow" 210), (.str "/claim/cut.py" 211), (.int (4) 0), (.int (0) 0), (.int (0) 0), (.int (0) 0), (.int (0) 0), (.ref 31), (.bool false), (.int (181) 0), (.ref 32), .none, .none, .none, .none, (.int (212) 0), (.int (4) 0), (.str "/claim/cut.py" 213)]), #[]⟩
def o34 (P : Params) : Obj := ⟨(.type "frame"), none, .plain, #[(some (.ref 33)), (some (.ref 3)), (some (.ref 30)), none, (some (.str "mostwise.errors" 187)), none, (some (.ref 0))]⟩
def o35 (P : Params) : Obj := ⟨(.type "tuple"), none, (.seq #[] 0), #[]⟩
def o36 (P : Params) : Obj := ⟨.none, none, (.fields #[]), #[]⟩
def o37 (P : Params) : Obj := ⟨(.type "tuple"), none, (.seq #[(.str "self" 222), (.str "found" 223)] 0), #[]⟩
def o38 (P : Params) : Obj := ⟨(.type "tuple"), none, (.seq #[] 0), #[]⟩
def o39 (P : Params) : Obj := kC "__init__" "NoRow.__init__" s_c_NoRow_init
def o40 (P : Params) : Obj := ⟨(.type "code"), none, (.fields #[(.str "__init__" 219), (.str "NoRow.__init__" 220), (.str "/claim/cut.py" 221), (.int (6) 0), (.int (2) 0), (.int (0) 0), (.int (0) 0), (.int (3) 0), (.ref 35), (.bool true), (.int (181) 0), (.ref 36), .none, (.ref 37), (.ref 38), (.ref 39), (.int (224) 0), (.int (6) 0), (.str "/claim/cut.py" 225)]), #[]⟩
def o41 (P : Params) : Obj := ⟨(.type "function"), none, (.func (PySem.W.fnOf "__init__" "NoRow.__init__" (defArgs s_c_NoRow_init) (defBody s_c_NoRow_init) (defScope s_c_NoRow_init) .none .none .none (.str "mostwise.errors" 187) none (.ref 40) .none)), #[]⟩
def o42 (P : Params) : Obj := ⟨(.type "tuple"), none, (.seq #[(.str "found" 227)] 0), #[]⟩
def o43 (P : Params) : Obj := ⟨(.type "dict"), none, (.dict #[kE P "__module__" 214 (.str "mostwise.errors" 187), ⟨PyData.keyHash P "__firstlineno__", (.str "__firstlineno__" 218), (.int (4) 217)⟩, kE P "__init__" 226 (.ref 41), kE P "__static_attributes__" 228 (.ref 42), kE P "__doc__" 229 .none] 2), #[]⟩
def o44 (P : Params) : Obj := ⟨(.type "type"), none, (.cls ⟨"NoRow", [(.ref 24)], [(.ref 44), (.ref 24), (.type "ValueError"), (.type "Exception"), (.type "BaseException"), (.type "object")], 43, "NoRow", true, [], [], false, none, false⟩), #[(some (.ref 28)), none, (some (.str "NoRow" 207)), (some (.str "NoRow" 215)), (some (.builtin "ValueError.__new__")), (some (.bool true))]⟩
def o45 (P : Params) : Obj := ⟨(.type "super"), none, (.fields #[(.ref 44), (.ref 44), (.ref 44)]), #[]⟩
def o46 (P : Params) : Obj := ⟨(.type "builtin_function_or_method"), none, (.fields #[(.builtin "object.__init_subclass__"), (.ref 44)]), #[]⟩
def o47 (P : Params) : Obj := ⟨(.type "tuple"), none, (.seq #[(.ref 24)] 0), #[]⟩
def o48 (P : Params) : Obj := ⟨(.type "builtin_function_or_method"), none, (.fields #[(.builtin "type.__prepare__"), (.type "type")]), #[]⟩
def o49 (P : Params) : Obj := ⟨(.type "dict"), none, (.dict #[kE P "__module__" 239 (.str "mostwise.errors" 187), kE P "__qualname__" 241 (.str "NoThing" 240), ⟨PyData.keyHash P "__firstlineno__", (.str "__firstlineno__" 243), (.int (8) 242)⟩, kE P "__init__" 251 (.ref 60), kE P "__static_attributes__" 253 (.ref 61)] 5), #[]⟩
def o50 (P : Params) : Obj := ⟨(.type "tuple"), none, (.seq #[] 0), #[]⟩
def o51 (P : Params) : Obj := ⟨.none, none, (.fields #[(.int (10) 0), (.int (4) 0), (.ref 59)]), #[]⟩
def o52 (P : Params) : Obj := ⟨(.type "code"), none, (.fields #[(.str "NoThing" 234), (.str "NoThing" 235), (.str "/claim/cut.py" 236), (.int (8) 0), (.int (0) 0), (.int (0) 0), (.int (0) 0), (.int (0) 0), (.ref 50), (.bool false), (.int (181) 0), (.ref 51), .none, .none, .none, .none, (.int (237) 0), (.int (8) 0), (.str "/claim/cut.py" 238)]), #[]⟩
def o53 (P : Params) : Obj := ⟨(.type "frame"), none, .plain, #[(some (.ref 52)), (some (.ref 3)), (some (.ref 49)), none, (some (.str "mostwise.errors" 187)), none, (some (.ref 0))]⟩
def o54 (P : Params) : Obj := ⟨(.type "tuple"), none, (.seq #[] 0), #[]⟩
def o55 (P : Params) : Obj := ⟨.none, none, (.fields #[]), #[]⟩
def o56 (P : Params) : Obj := ⟨(.type "tuple"), none, (.seq #[(.str "self" 247), (.str "found" 248)] 0), #[]⟩
def o57 (P : Params) : Obj := ⟨(.type "tuple"), none, (.seq #[] 0), #[]⟩
def o58 (P : Params) : Obj := kC "__init__" "NoThing.__init__" (inClass (top 3) 0)
def o59 (P : Params) : Obj := ⟨(.type "code"), none, (.fields #[(.str "__init__" 244), (.str "NoThing.__init__" 245), (.str "/claim/cut.py" 246), (.int (10) 0), (.int (2) 0), (.int (0) 0), (.int (0) 0), (.int (3) 0), (.ref 54), (.bool true), (.int (181) 0), (.ref 55), .none, (.ref 56), (.ref 57), (.ref 58), (.int (249) 0), (.int (10) 0), (.str "/claim/cut.py" 250)]), #[]⟩
def o60 (P : Params) : Obj := ⟨(.type "function"), none, (.func (PySem.W.fnOf "__init__" "NoThing.__init__" (defArgs (inClass (top 3) 0)) (defBody (inClass (top 3) 0)) (defScope (inClass (top 3) 0)) .none .none .none (.str "mostwise.errors" 187) none (.ref 59) .none)), #[]⟩
def o61 (P : Params) : Obj := ⟨(.type "tuple"), none, (.seq #[(.str "found" 252)] 0), #[]⟩
def o62 (P : Params) : Obj := ⟨(.type "dict"), none, (.dict #[kE P "__module__" 239 (.str "mostwise.errors" 187), ⟨PyData.keyHash P "__firstlineno__", (.str "__firstlineno__" 243), (.int (8) 242)⟩, kE P "__init__" 251 (.ref 60), kE P "__static_attributes__" 253 (.ref 61), kE P "__doc__" 254 .none] 2), #[]⟩
def o63 (P : Params) : Obj := ⟨(.type "type"), none, (.cls ⟨"NoThing", [(.ref 24)], [(.ref 63), (.ref 24), (.type "ValueError"), (.type "Exception"), (.type "BaseException"), (.type "object")], 62, "NoThing", true, [], [], false, none, false⟩), #[(some (.ref 47)), none, (some (.str "NoThing" 232)), (some (.str "NoThing" 240)), (some (.builtin "ValueError.__new__")), (some (.bool true))]⟩
def o64 (P : Params) : Obj := ⟨(.type "super"), none, (.fields #[(.ref 63), (.ref 63), (.ref 63)]), #[]⟩
def o65 (P : Params) : Obj := ⟨(.type "builtin_function_or_method"), none, (.fields #[(.builtin "object.__init_subclass__"), (.ref 63)]), #[]⟩
def o66 (P : Params) : Obj := ⟨(.type "tuple"), none, (.seq #[] 0), #[]⟩
def o67 (P : Params) : Obj := ⟨.none, none, (.fields #[]), #[]⟩
def o68 (P : Params) : Obj := kC "is_made_of" "is_made_of" s_d_is_made_of
def o69 (P : Params) : Obj := ⟨(.type "code"), none, (.fields #[(.str "is_made_of" 265), (.str "is_made_of" 266), (.str "/claim/cut.py" 267), (.int (16) 0), (.int (3) 0), (.int (0) 0), (.int (0) 0), (.int (3) 0), (.ref 66), (.bool true), (.int (181) 0), (.ref 67), .none, .none, .none, (.ref 68), (.int (268) 0), (.int (16) 0), (.str "/claim/cut.py" 269)]), #[]⟩
def o70 (P : Params) : Obj := ⟨(.type "function"), none, (.func (PySem.W.fnOf "is_made_of" "is_made_of" (defArgs s_d_is_made_of) (defBody s_d_is_made_of) (defScope s_d_is_made_of) .none .none .none (.str "mostwise.words" 257) none (.ref 69) .none)), #[]⟩
def o71 (P : Params) : Obj := ⟨(.type "tuple"), none, (.seq #[] 0), #[]⟩
def o72 (P : Params) : Obj := ⟨.none, none, (.fields #[]), #[]⟩
def o73 (P : Params) : Obj := ⟨(.type "tuple"), none, (.seq #[(.str "thing" 274)] 0), #[]⟩
def o74 (P : Params) : Obj := ⟨(.type "tuple"), none, (.seq #[] 0), #[]⟩
def o75 (P : Params) : Obj := kC "is_name" "is_name" s_d_is_name
def o76 (P : Params) : Obj := ⟨(.type "code"), none, (.fields #[(.str "is_name" 271), (.str "is_name" 272), (.str "/claim/cut.py" 273), (.int (18) 0), (.int (1) 0), (.int (0) 0), (.int (0) 0), (.int (3) 0), (.ref 71), (.bool true), (.int (181) 0), (.ref 72), .none, (.ref 73), (.ref 74), (.ref 75), (.int (275) 0), (.int (18) 0), (.str "/claim/cut.py" 276)]), #[]⟩
def o77 (P : Params) : Obj := ⟨(.type "function"), none, (.func (PySem.W.fnOf "is_name" "is_name" (defArgs s_d_is_name) (defBody s_d_is_name) (defScope s_d_is_name) .none .none .none (.str "mostwise.words" 257) none (.ref 76) .none)), #[]⟩
def o78 (P : Params) : Obj := ⟨(.type "tuple"), none, (.seq #[] 0), #[]⟩
def o79 (P : Params) : Obj := ⟨.none, none, (.fields #[]), #[]⟩
def o80 (P : Params) : Obj := ⟨(.type "tuple"), none, (.seq #[(.str "thing" 281)] 0), #[]⟩
def o81 (P : Params) : Obj := ⟨(.type "tuple"), none, (.seq #[] 0), #[]⟩
def o82 (P : Params) : Obj := kC "is_label" "is_label" s_d_is_label
def o83 (P : Params) : Obj := ⟨(.type "code"), none, (.fields #[(.str "is_label" 278), (.str "is_label" 279), (.str "/claim/cut.py" 280), (.int (20) 0), (.int (1) 0), (.int (0) 0), (.int (0) 0), (.int (3) 0), (.ref 78), (.bool true), (.int (181) 0), (.ref 79), .none, (.ref 80), (.ref 81), (.ref 82), (.int (282) 0), (.int (20) 0), (.str "/claim/cut.py" 283)]), #[]⟩
def o84 (P : Params) : Obj := ⟨(.type "function"), none, (.func (PySem.W.fnOf "is_label" "is_label" (defArgs s_d_is_label) (defBody s_d_is_label) (defScope s_d_is_label) .none .none .none (.str "mostwise.words" 257) none (.ref 83) .none)), #[]⟩
def o85 (P : Params) : Obj := ⟨(.type "tuple"), none, (.seq #[] 0), #[]⟩
def o86 (P : Params) : Obj := ⟨.none, none, (.fields #[]), #[]⟩
def o87 (P : Params) : Obj := ⟨(.type "tuple"), none, (.seq #[(.str "row" 292)] 0), #[]⟩
def o88 (P : Params) : Obj := ⟨(.type "tuple"), none, (.seq #[] 0), #[]⟩
def o89 (P : Params) : Obj := kC "words_of" "words_of" s_d_words_of
def o90 (P : Params) : Obj := ⟨(.type "code"), none, (.fields #[(.str "words_of" 289), (.str "words_of" 290), (.str "/claim/cut.py" 291), (.int (24) 0), (.int (1) 0), (.int (0) 0), (.int (0) 0), (.int (3) 0), (.ref 85), (.bool true), (.int (181) 0), (.ref 86), .none, (.ref 87), (.ref 88), (.ref 89), (.int (293) 0), (.int (24) 0), (.str "/claim/cut.py" 294)]), #[]⟩
def o91 (P : Params) : Obj := ⟨(.type "function"), none, (.func (PySem.W.fnOf "words_of" "words_of" (defArgs s_d_words_of) (defBody s_d_words_of) (defScope s_d_words_of) .none .none .none (.str "mostwise.lines" 285) none (.ref 90) .none)), #[]⟩
def o92 (P : Params) : Obj := ⟨(.type "tuple"), none, (.seq #[] 0), #[]⟩
def o93 (P : Params) : Obj := ⟨.none, none, (.fields #[]), #[]⟩
def o94 (P : Params) : Obj := ⟨(.type "tuple"), none, (.seq #[(.str "row" 299), (.str "words" 300)] 0), #[]⟩
def o95 (P : Params) : Obj := ⟨(.type "tuple"), none, (.seq #[] 0), #[]⟩
def o96 (P : Params) : Obj := kC "pair_of" "pair_of" s_d_pair_of
def o97 (P : Params) : Obj := ⟨(.type "code"), none, (.fields #[(.str "pair_of" 296), (.str "pair_of" 297), (.str "/claim/cut.py" 298), (.int (26) 0), (.int (1) 0), (.int (0) 0), (.int (0) 0), (.int (3) 0), (.ref 92), (.bool true), (.int (181) 0), (.ref 93), .none, (.ref 94), (.ref 95), (.ref 96), (.int (301) 0), (.int (26) 0), (.str "/claim/cut.py" 302)]), #[]⟩
def o98 (P : Params) : Obj := ⟨(.type "function"), none, (.func (PySem.W.fnOf "pair_of" "pair_of" (defArgs s_d_pair_of) (defBody s_d_pair_of) (defScope s_d_pair_of) .none .none .none (.str "mostwise.lines" 285) none (.ref 97) .none)), #[]⟩
def o99 (P : Params) : Obj := ⟨(.type "tuple"), none, (.seq #[] 0), #[]⟩
def o100 (P : Params) : Obj := ⟨.none, none, (.fields #[]), #[]⟩
def o101 (P : Params) : Obj := kC "things_of" "things_of" s_d_things_of
def o102 (P : Params) : Obj := ⟨(.type "code"), none, (.fields #[(.str "things_of" 304), (.str "things_of" 305), (.str "/claim/cut.py" 306), (.int (31) 0), (.int (1) 0), (.int (0) 0), (.int (0) 0), (.int (3) 0), (.ref 99), (.bool true), (.int (181) 0), (.ref 100), .none, .none, .none, (.ref 101), (.int (307) 0), (.int (31) 0), (.str "/claim/cut.py" 308)]), #[]⟩
def o103 (P : Params) : Obj := ⟨(.type "function"), none, (.func (PySem.W.fnOf "things_of" "things_of" (defArgs s_d_things_of) (defBody s_d_things_of) (defScope s_d_things_of) .none .none .none (.str "mostwise.lines" 285) none (.ref 102) .none)), #[]⟩
def o104 (P : Params) : Obj := ⟨(.type "tuple"), none, (.seq #[] 0), #[]⟩
def o105 (P : Params) : Obj := ⟨.none, none, (.fields #[]), #[]⟩
def o106 (P : Params) : Obj := ⟨(.type "tuple"), none, (.seq #[(.str "_law_script" 315), (.str "_law_k" 316)] 0), #[]⟩
def o107 (P : Params) : Obj := ⟨(.type "tuple"), none, (.seq #[] 0), #[]⟩
def o108 (P : Params) : Obj := kC "_law_cell_at" "_law_cell_at" (top 17)
def o109 (P : Params) : Obj := ⟨(.type "code"), none, (.fields #[(.str "_law_cell_at" 312), (.str "_law_cell_at" 313), (.str "/claim/cut.py" 314), (.int (40) 0), (.int (2) 0), (.int (0) 0), (.int (0) 0), (.int (3) 0), (.ref 104), (.bool true), (.int (181) 0), (.ref 105), .none, (.ref 106), (.ref 107), (.ref 108), (.int (317) 0), (.int (40) 0), (.str "/claim/cut.py" 318)]), #[]⟩
def o110 (P : Params) : Obj := ⟨(.type "function"), none, (.func (PySem.W.fnOf "_law_cell_at" "_law_cell_at" (defArgs (top 17)) (defBody (top 17)) (defScope (top 17)) .none .none .none (.str "law_mostwise_k14_beats_and_things" 310) none (.ref 109) .none)), #[]⟩
def o111 (P : Params) : Obj := ⟨(.type "tuple"), none, (.seq #[] 0), #[]⟩
def o112 (P : Params) : Obj := ⟨.none, none, (.fields #[]), #[]⟩
def o113 (P : Params) : Obj := ⟨(.type "tuple"), none, (.seq #[(.str "_law_cell" 323), (.str "_law_k" 324), (.str "_law_m" 325)] 0), #[]⟩
def o114 (P : Params) : Obj := ⟨(.type "tuple"), none, (.seq #[] 0), #[]⟩
def o115 (P : Params) : Obj := kC "_law_mix" "_law_mix" s_d_l_mix
def o116 (P : Params) : Obj := ⟨(.type "code"), none, (.fields #[(.str "_law_mix" 320), (.str "_law_mix" 321), (.str "/claim/cut.py" 322), (.int (44) 0), (.int (2) 0), (.int (0) 0), (.int (0) 0), (.int (3) 0), (.ref 111), (.bool true), (.int (181) 0), (.ref 112), .none, (.ref 113), (.ref 114), (.ref 115), (.int (326) 0), (.int (44) 0), (.str "/claim/cut.py" 327)]), #[]⟩
def o117 (P : Params) : Obj := ⟨(.type "function"), none, (.func (PySem.W.fnOf "_law_mix" "_law_mix" (defArgs s_d_l_mix) (defBody s_d_l_mix) (defScope s_d_l_mix) .none .none .none (.str "law_mostwise_k14_beats_and_things" 310) none (.ref 116) .none)), #[]⟩
def o118 (P : Params) : Obj := ⟨(.type "tuple"), none, (.seq #[] 0), #[]⟩
def o119 (P : Params) : Obj := ⟨.none, none, (.fields #[]), #[]⟩
def o120 (P : Params) : Obj := ⟨(.type "tuple"), none, (.seq #[(.str "_law_cell" 332), (.str "_law_signs" 333), (.str "_law_most" 334), (.str "_law_number" 335), (.str "_law_found" 336), (.str "_law_k" 337)] 0), #[]⟩
def o121 (P : Params) : Obj := ⟨(.type "tuple"), none, (.seq #[] 0), #[]⟩
def o122 (P : Params) : Obj := kC "_law_text" "_law_text" s_d_l_text
def o123 (P : Params) : Obj := ⟨(.type "code"), none, (.fields #[(.str "_law_text" 329), (.str "_law_text" 330), (.str "/claim/cut.py" 331), (.int (48) 0), (.int (3) 0), (.int (0) 0), (.int (0) 0), (.int (3) 0), (.ref 118), (.bool true), (.int (181) 0), (.ref 119), .none, (.ref 120), (.ref 121), (.ref 122), (.int (338) 0), (.int (48) 0), (.str "/claim/cut.py" 339)]), #[]⟩
def o124 (P : Params) : Obj := ⟨(.type "function"), none, (.func (PySem.W.fnOf "_law_text" "_law_text" (defArgs s_d_l_text) (defBody s_d_l_text) (defScope s_d_l_text) .none .none .none (.str "law_mostwise_k14_beats_and_things" 310) none (.ref 123) .none)), #[]⟩
def o125 (P : Params) : Obj := ⟨(.type "tuple"), none, (.seq #[] 0), #[]⟩
def o126 (P : Params) : Obj := ⟨.none, none, (.fields #[]), #[]⟩
def o127 (P : Params) : Obj := ⟨(.type "tuple"), none, (.seq #[(.str "_law_cell" 344)] 0), #[]⟩
def o128 (P : Params) : Obj := ⟨(.type "tuple"), none, (.seq #[] 0), #[]⟩
def o129 (P : Params) : Obj := kC "_law_name" "_law_name" s_d_l_name
def o130 (P : Params) : Obj := ⟨(.type "code"), none, (.fields #[(.str "_law_name" 341), (.str "_law_name" 342), (.str "/claim/cut.py" 343), (.int (54) 0), (.int (1) 0), (.int (0) 0), (.int (0) 0), (.int (3) 0), (.ref 125), (.bool true), (.int (181) 0), (.ref 126), .none, (.ref 127), (.ref 128), (.ref 129), (.int (345) 0), (.int (54) 0), (.str "/claim/cut.py" 346)]), #[]⟩
def o131 (P : Params) : Obj := ⟨(.type "function"), none, (.func (PySem.W.fnOf "_law_name" "_law_name" (defArgs s_d_l_name) (defBody s_d_l_name) (defScope s_d_l_name) .none .none .none (.str "law_mostwise_k14_beats_and_things" 310) none (.ref 130) .none)), #[]⟩
def o132 (P : Params) : Obj := ⟨(.type "tuple"), none, (.seq #[] 0), #[]⟩
def o133 (P : Params) : Obj := ⟨.none, none, (.fields #[]), #[]⟩
def o134 (P : Params) : Obj := ⟨(.type "tuple"), none, (.seq #[(.str "_law_cell" 351)] 0), #[]⟩
def o135 (P : Params) : Obj := ⟨(.type "tuple"), none, (.seq #[] 0), #[]⟩
def o136 (P : Params) : Obj := kC "_law_label" "_law_label" s_d_l_label
def o137 (P : Params) : Obj := ⟨(.type "code"), none, (.fields #[(.str "_law_label" 348), (.str "_law_label" 349), (.str "/claim/cut.py" 350), (.int (56) 0), (.int (1) 0), (.int (0) 0), (.int (0) 0), (.int (3) 0), (.ref 132), (.bool true), (.int (181) 0), (.ref 133), .none, (.ref 134), (.ref 135), (.ref 136), (.int (352) 0), (.int (56) 0), (.str "/claim/cut.py" 353)]), #[]⟩
def o138 (P : Params) : Obj := ⟨(.type "function"), none, (.func (PySem.W.fnOf "_law_label" "_law_label" (defArgs s_d_l_label) (defBody s_d_l_label) (defScope s_d_l_label) .none .none .none (.str "law_mostwise_k14_beats_and_things" 310) none (.ref 137) .none)), #[]⟩
def o139 (P : Params) : Obj := ⟨(.type "tuple"), none, (.seq #[] 0), #[]⟩
def o140 (P : Params) : Obj := ⟨.none, none, (.fields #[]), #[]⟩
def o141 (P : Params) : Obj := ⟨(.type "tuple"), none, (.seq #[(.str "_law_base" 358), (.str "_law_k" 359)] 0), #[]⟩
def o142 (P : Params) : Obj := ⟨(.type "tuple"), none, (.seq #[] 0), #[]⟩
def o143 (P : Params) : Obj := kC "_law_letter" "_law_letter" (top 22)
def o144 (P : Params) : Obj := ⟨(.type "code"), none, (.fields #[(.str "_law_letter" 355), (.str "_law_letter" 356), (.str "/claim/cut.py" 357), (.int (58) 0), (.int (2) 0), (.int (0) 0), (.int (0) 0), (.int (3) 0), (.ref 139), (.bool true), (.int (181) 0), (.ref 140), .none, (.ref 141), (.ref 142), (.ref 143), (.int (360) 0), (.int (58) 0), (.str "/claim/cut.py" 361)]), #[]⟩
def o145 (P : Params) : Obj := ⟨(.type "function"), none, (.func (PySem.W.fnOf "_law_letter" "_law_letter" (defArgs (top 22)) (defBody (top 22)) (defScope (top 22)) .none .none .none (.str "law_mostwise_k14_beats_and_things" 310) none (.ref 144) .none)), #[]⟩
def o146 (P : Params) : Obj := ⟨(.type "tuple"), none, (.seq #[] 0), #[]⟩
def o147 (P : Params) : Obj := ⟨.none, none, (.fields #[]), #[]⟩
def o148 (P : Params) : Obj := ⟨(.type "tuple"), none, (.seq #[(.str "_law_cell" 366), (.str "_law_base" 367), (.str "_law_many" 368), (.str "_law_number" 369)] 0), #[]⟩
def o149 (P : Params) : Obj := ⟨(.type "tuple"), none, (.seq #[] 0), #[]⟩
def o150 (P : Params) : Obj := kC "_law_place" "_law_place" (top 23)
def o151 (P : Params) : Obj := ⟨(.type "code"), none, (.fields #[(.str "_law_place" 363), (.str "_law_place" 364), (.str "/claim/cut.py" 365), (.int (60) 0), (.int (3) 0), (.int (0) 0), (.int (0) 0), (.int (3) 0), (.ref 146), (.bool true), (.int (181) 0), (.ref 147), .none, (.ref 148), (.ref 149), (.ref 150), (.int (370) 0), (.int (60) 0), (.str "/claim/cut.py" 371)]), #[]⟩
def o152 (P : Params) : Obj := ⟨(.type "function"), none, (.func (PySem.W.fnOf "_law_place" "_law_place" (defArgs (top 23)) (defBody (top 23)) (defScope (top 23)) .none .none .none (.str "law_mostwise_k14_beats_and_things" 310) none (.ref 151) .none)), #[]⟩
def o153 (P : Params) : Obj := ⟨(.type "tuple"), none, (.seq #[] 0), #[]⟩
def o154 (P : Params) : Obj := ⟨.none, none, (.fields #[]), #[]⟩
def o155 (P : Params) : Obj := kC "_law_parts" "_law_parts" (top 24)
def o156 (P : Params) : Obj := ⟨(.type "code"), none, (.fields #[(.str "_law_parts" 373), (.str "_law_parts" 374), (.str "/claim/cut.py" 375), (.int (65) 0), (.int (3) 0), (.int (0) 0), (.int (0) 0), (.int (3) 0), (.ref 153), (.bool true), (.int (181) 0), (.ref 154), .none, .none, .none, (.ref 155), (.int (376) 0), (.int (65) 0), (.str "/claim/cut.py" 377)]), #[]⟩
def o157 (P : Params) : Obj := ⟨(.type "function"), none, (.func (PySem.W.fnOf "_law_parts" "_law_parts" (defArgs (top 24)) (defBody (top 24)) (defScope (top 24)) .none .none .none (.str "law_mostwise_k14_beats_and_things" 310) none (.ref 156) .none)), #[]⟩
def o158 (P : Params) : Obj := ⟨(.type "tuple"), none, (.seq #[] 0), #[]⟩
def o159 (P : Params) : Obj := ⟨.none, none, (.fields #[]), #[]⟩
def o160 (P : Params) : Obj := ⟨(.type "tuple"), none, (.seq #[(.str "_law_parts_here" 382)] 0), #[]⟩
def o161 (P : Params) : Obj := ⟨(.type "tuple"), none, (.seq #[] 0), #[]⟩
def o162 (P : Params) : Obj := kC "_law_shown" "_law_shown" (top 25)
def o163 (P : Params) : Obj := ⟨(.type "code"), none, (.fields #[(.str "_law_shown" 379), (.str "_law_shown" 380), (.str "/claim/cut.py" 381), (.int (69) 0), (.int (1) 0), (.int (0) 0), (.int (0) 0), (.int (3) 0), (.ref 158), (.bool true), (.int (181) 0), (.ref 159), .none, (.ref 160), (.ref 161), (.ref 162), (.int (383) 0), (.int (69) 0), (.str "/claim/cut.py" 384)]), #[]⟩
def o164 (P : Params) : Obj := ⟨(.type "function"), none, (.func (PySem.W.fnOf "_law_shown" "_law_shown" (defArgs (top 25)) (defBody (top 25)) (defScope (top 25)) .none .none .none (.str "law_mostwise_k14_beats_and_things" 310) none (.ref 163) .none)), #[]⟩
def o165 (P : Params) : Obj := ⟨(.type "tuple"), none, (.seq #[] 0), #[]⟩
def o166 (P : Params) : Obj := ⟨.none, none, (.fields #[]), #[]⟩
def o167 (P : Params) : Obj := kC "_law_row" "_law_row" s_d_l_row
def o168 (P : Params) : Obj := ⟨(.type "code"), none, (.fields #[(.str "_law_row" 386), (.str "_law_row" 387), (.str "/claim/cut.py" 388), (.int (73) 0), (.int (1) 0), (.int (0) 0), (.int (0) 0), (.int (3) 0), (.ref 165), (.bool true), (.int (181) 0), (.ref 166), .none, .none, .none, (.ref 167), (.int (389) 0), (.int (73) 0), (.str "/claim/cut.py" 390)]), #[]⟩
def o169 (P : Params) : Obj := ⟨(.type "function"), none, (.func (PySem.W.fnOf "_law_row" "_law_row" (defArgs s_d_l_row) (defBody s_d_l_row) (defScope s_d_l_row) .none .none .none (.str "law_mostwise_k14_beats_and_things" 310) none (.ref 168) .none)), #[]⟩
def o170 (P : Params) : Obj := ⟨(.type "tuple"), none, (.seq #[] 0), #[]⟩
def o171 (P : Params) : Obj := ⟨.none, none, (.fields #[]), #[]⟩
def o172 (P : Params) : Obj := ⟨(.type "tuple"), none, (.seq #[(.str "_law_row_here" 395), (.str "_law_cell" 396), (.str "_law_signs" 397), (.str "_law_sign" 398), (.str "_law_at" 399), (.str "_law_way" 400)] 0), #[]⟩
def o173 (P : Params) : Obj := ⟨(.type "tuple"), none, (.seq #[] 0), #[]⟩
def o174 (P : Params) : Obj := kC "_law_spoilt" "_law_spoilt" s_d_l_spoilt
def o175 (P : Params) : Obj := ⟨(.type "code"), none, (.fields #[(.str "_law_spoilt" 392), (.str "_law_spoilt" 393), (.str "/claim/cut.py" 394), (.int (83) 0), (.int (2) 0), (.int (0) 0), (.int (0) 0), (.int (3) 0), (.ref 170), (.bool true), (.int (181) 0), (.ref 171), .none, (.ref 172), (.ref 173), (.ref 174), (.int (401) 0), (.int (83) 0), (.str "/claim/cut.py" 402)]), #[]⟩
def o176 (P : Params) : Obj := ⟨(.type "function"), none, (.func (PySem.W.fnOf "_law_spoilt" "_law_spoilt" (defArgs s_d_l_spoilt) (defBody s_d_l_spoilt) (defScope s_d_l_spoilt) .none .none .none (.str "law_mostwise_k14_beats_and_things" 310) none (.ref 175) .none)), #[]⟩
def o177 (P : Params) : Obj := ⟨(.type "tuple"), none, (.seq #[] 0), #[]⟩
def o178 (P : Params) : Obj := ⟨.none, none, (.fields #[]), #[]⟩
def o179 (P : Params) : Obj := kC "_law_name_is" "_law_name_is" s_d_l_name_is
def o180 (P : Params) : Obj := ⟨(.type "code"), none, (.fields #[(.str "_law_name_is" 404), (.str "_law_name_is" 405), (.str "/claim/cut.py" 406), (.int (95) 0), (.int (2) 0), (.int (0) 0), (.int (0) 0), (.int (3) 0), (.ref 177), (.bool true), (.int (181) 0), (.ref 178), .none, .none, .none, (.ref 179), (.int (407) 0), (.int (95) 0), (.str "/claim/cut.py" 408)]), #[]⟩
def o181 (P : Params) : Obj := ⟨(.type "function"), none, (.func (PySem.W.fnOf "_law_name_is" "_law_name_is" (defArgs s_d_l_name_is) (defBody s_d_l_name_is) (defScope s_d_l_name_is) .none .none .none (.str "law_mostwise_k14_beats_and_things" 310) none (.ref 180) .none)), #[]⟩
def o182 (P : Params) : Obj := ⟨(.type "tuple"), none, (.seq #[] 0), #[]⟩
def o183 (P : Params) : Obj := ⟨.none, none, (.fields #[]), #[]⟩
def o184 (P : Params) : Obj := kC "_law_pair" "_law_pair" s_d_l_pair
def o185 (P : Params) : Obj := ⟨(.type "code"), none, (.fields #[(.str "_law_pair" 410), (.str "_law_pair" 411), (.str "/claim/cut.py" 412), (.int (99) 0), (.int (1) 0), (.int (0) 0), (.int (0) 0), (.int (3) 0), (.ref 182), (.bool true), (.int (181) 0), (.ref 183), .none, .none, .none, (.ref 184), (.int (413) 0), (.int (99) 0), (.str "/claim/cut.py" 414)]), #[]⟩
def o186 (P : Params) : Obj := ⟨(.type "function"), none, (.func (PySem.W.fnOf "_law_pair" "_law_pair" (defArgs s_d_l_pair) (defBody s_d_l_pair) (defScope s_d_l_pair) .none .none .none (.str "law_mostwise_k14_beats_and_things" 310) none (.ref 185) .none)), #[]⟩
def o187 (P : Params) : Obj := ⟨(.type "tuple"), none, (.seq #[] 0), #[]⟩
def o188 (P : Params) : Obj := ⟨.none, none, (.fields #[]), #[]⟩
def o189 (P : Params) : Obj := kC "_law_things" "_law_things" s_d_l_things
def o190 (P : Params) : Obj := ⟨(.type "code"), none, (.fields #[(.str "_law_things" 416), (.str "_law_things" 417), (.str "/claim/cut.py" 418), (.int (109) 0), (.int (1) 0), (.int (0) 0), (.int (0) 0), (.int (3) 0), (.ref 187), (.bool true), (.int (181) 0), (.ref 188), .none, .none, .none, (.ref 189), (.int (419) 0), (.int (109) 0), (.str "/claim/cut.py" 420)]), #[]⟩
def o191 (P : Params) : Obj := ⟨(.type "function"), none, (.func (PySem.W.fnOf "_law_things" "_law_things" (defArgs s_d_l_things) (defBody s_d_l_things) (defScope s_d_l_things) .none .none .none (.str "law_mostwise_k14_beats_and_things" 310) none (.ref 190) .none)), #[]⟩
def o192 (P : Params) : Obj := ⟨(.type "tuple"), none, (.seq #[] 0), #[]⟩
def o193 (P : Params) : Obj := ⟨.none, none, (.fields #[]), #[]⟩
def o194 (P : Params) : Obj := ⟨(.type "tuple"), none, (.seq #[(.str "_law_row_here" 425), (.str "_law_beats" 426), (.str "_law_caught" 427), (.str "e" 428)] 0), #[]⟩
def o195 (P : Params) : Obj := ⟨(.type "tuple"), none, (.seq #[] 0), #[]⟩
def o196 (P : Params) : Obj := kC "_law_refused" "_law_refused" s_d_l_refused
def o197 (P : Params) : Obj := ⟨(.type "code"), none, (.fields #[(.str "_law_refused" 422), (.str "_law_refused" 423), (.str "/claim/cut.py" 424), (.int (118) 0), (.int (2) 0), (.int (0) 0), (.int (0) 0), (.int (3) 0), (.ref 192), (.bool true), (.int (181) 0), (.ref 193), .none, (.ref 194), (.ref 195), (.ref 196), (.int (429) 0), (.int (118) 0), (.str "/claim/cut.py" 430)]), #[]⟩
def o198 (P : Params) : Obj := ⟨(.type "function"), none, (.func (PySem.W.fnOf "_law_refused" "_law_refused" (defArgs s_d_l_refused) (defBody s_d_l_refused) (defScope s_d_l_refused) .none .none .none (.str "law_mostwise_k14_beats_and_things" 310) none (.ref 197) .none)), #[]⟩
def o199 (P : Params) : Obj := ⟨(.type "tuple"), none, (.seq #[] 0), #[]⟩
def o200 (P : Params) : Obj := ⟨.none, none, (.fields #[]), #[]⟩
def o201 (P : Params) : Obj := ⟨(.type "tuple"), none, (.seq #[(.str "_law_row_here" 435), (.str "_law_pair_here" 436), (.str "_law_found" 437), (.str "_law_things_here" 438)] 0), #[]⟩
def o202 (P : Params) : Obj := ⟨(.type "tuple"), none, (.seq #[] 0), #[]⟩
def o203 (P : Params) : Obj := kC "_law_right" "_law_right" s_d_l_right
def o204 (P : Params) : Obj := ⟨(.type "code"), none, (.fields #[(.str "_law_right" 432), (.str "_law_right" 433), (.str "/claim/cut.py" 434), (.int (130) 0), (.int (1) 0), (.int (0) 0), (.int (0) 0), (.int (3) 0), (.ref 199), (.bool true), (.int (181) 0), (.ref 200), .none, (.ref 201), (.ref 202), (.ref 203), (.int (439) 0), (.int (130) 0), (.str "/claim/cut.py" 440)]), #[]⟩
def o205 (P : Params) : Obj := ⟨(.type "function"), none, (.func (PySem.W.fnOf "_law_right" "_law_right" (defArgs s_d_l_right) (defBody s_d_l_right) (defScope s_d_l_right) .none .none .none (.str "law_mostwise_k14_beats_and_things" 310) none (.ref 204) .none)), #[]⟩
def o206 (P : Params) : Obj := ⟨(.type "tuple"), none, (.seq #[] 0), #[]⟩
def o207 (P : Params) : Obj := ⟨.none, none, (.fields #[]), #[]⟩
def o208 (P : Params) : Obj := ⟨(.type "tuple"), none, (.seq #[(.str "_law_script" 445), (.str "_law_cell" 446), (.str "_law_row_here" 447)] 0), #[]⟩
def o209 (P : Params) : Obj := ⟨(.type "tuple"), none, (.seq #[] 0), #[]⟩
def o210 (P : Params) : Obj := kC "law" "law" s_d_law
def o211 (P : Params) : Obj := ⟨(.type "code"), none, (.fields #[(.str "law" 442), (.str "law" 443), (.str "/claim/cut.py" 444), (.int (147) 0), (.int (1) 0), (.int (0) 0), (.int (0) 0), (.int (3) 0), (.ref 206), (.bool true), (.int (181) 0), (.ref 207), .none, (.ref 208), (.ref 209), (.ref 210), (.int (448) 0), (.int (147) 0), (.str "/claim/cut.py" 449)]), #[]⟩
def o212 (P : Params) : Obj := ⟨(.type "function"), none, (.func (PySem.W.fnOf "law" "law" (defArgs s_d_law) (defBody s_d_law) (defScope s_d_law) .none .none .none (.str "law_mostwise_k14_beats_and_things" 310) none (.ref 211) .none)), #[]⟩
def p3 (P : Params) : Obj := ⟨(.type "dict"), none, (.dict #[kE P "__name__" 165 (.str "__main__" 164), kE P "__doc__" 166 .none, kE P "__package__" 167 .none, kE P "__loader__" 168 (.builtin "__main__.__loader__#opaque"), kE P "__spec__" 169 .none, kE P "__annotations__" 170 (.ref 6), kE P "__builtins__" 171 (.ref 4), kE P "__file__" 173 (.str "/claim/cut.py" 172), kE P "__cached__" 174 .none] 9), #[]⟩
def H0 (P : Params) : Heap := ⟨⟨o0 P :: o1 P :: o2 P :: p3 P :: o4 P :: o5 P :: o6 P :: o7 P :: o8 P :: o9 P :: o10 P :: []⟩, {}⟩
def H1 (P : Params) : Heap := ⟨⟨o0 P :: o1 P :: o2 P :: o3 P :: o4 P :: o5 P :: o6 P :: o7 P :: o8 P :: o9 P :: o10 P :: o11 P :: o12 P :: o13 P :: o14 P :: o15 P :: o16 P :: o17 P :: o18 P :: o19 P :: o20 P :: o21 P :: o22 P :: o23 P :: o24 P :: o25 P :: o26 P :: o27 P :: o28 P :: o29 P :: o30 P :: o31 P :: o32 P :: o33 P :: o34 P :: o35 P :: o36 P :: o37 P :: o38 P :: o39 P :: o40 P :: o41 P :: o42 P :: o43 P :: o44 P :: o45 P :: o46 P :: o47 P :: o48 P :: o49 P :: o50 P :: o51 P :: o52 P :: o53 P :: o54 P :: o55 P :: o56 P :: o57 P :: o58 P :: o59 P :: o60 P :: o61 P :: o62 P :: o63 P :: o64 P :: o65 P :: o66 P :: o67 P :: o68 P :: o69 P :: o70 P :: o71 P :: o72 P :: o73 P :: o74 P :: o75 P :: o76 P :: o77 P :: o78 P :: o79 P :: o80 P :: o81 P :: o82 P :: o83 P :: o84 P :: o85 P :: o86 P :: o87 P :: o88 P :: o89 P :: o90 P :: o91 P :: o92 P :: o93 P :: o94 P :: o95 P :: o96 P :: o97 P :: o98 P :: o99 P :: o100 P :: o101 P :: o102 P :: o103 P :: o104 P :: o105 P :: o106 P :: o107 P :: o108 P :: o109 P :: o110 P :: o111 P :: o112 P :: o113 P :: o114 P :: o115 P :: o116 P :: o117 P :: o118 P :: o119 P :: o120 P :: o121 P :: o122 P :: o123 P :: o124 P :: o125 P :: o126 P :: o127 P :: o128 P :: o129 P :: o130 P :: o131 P :: o132 P :: o133 P :: o134 P :: o135 P :: o136 P :: o137 P :: o138 P :: o139 P :: o140 P :: o141 P :: o142 P :: o143 P :: o144 P :: o145 P :: o146 P :: o147 P :: o148 P :: o149 P :: o150 P :: o151 P :: o152 P :: o153 P :: o154 P :: o155 P :: o156 P :: o157 P :: o158 P :: o159 P :: o160 P :: o161 P :: o162 P :: o163 P :: o164 P :: o165 P :: o166 P :: o167 P :: o168 P :: o169 P :: o170 P :: o171 P :: o172 P :: o173 P :: o174 P :: o175 P :: o176 P :: o177 P :: o178 P :: o179 P :: o180 P :: o181 P :: o182 P :: o183 P :: o184 P :: o185 P :: o186 P :: o187 P :: o188 P :: o189 P :: o190 P :: o191 P :: o192 P :: o193 P :: o194 P :: o195 P :: o196 P :: o197 P :: o198 P :: o199 P :: o200 P :: o201 P :: o202 P :: o203 P :: o204 P :: o205 P :: o206 P :: o207 P :: o208 P :: o209 P :: o210 P :: o211 P :: o212 P :: []⟩, {}⟩
def heapK : Params → PySem.W.Frag := fun P =>
(nat_lit 2, o2 P) :: (nat_lit 3, o3 P) :: (nat_lit 15, o15 P) :: (nat_lit 22, o22 P) :: (nat_lit 23, o23 P) :: (nat_lit 24, o24 P) :: (nat_lit 25, o25 P) :: (nat_lit 28, o28 P) :: (nat_lit 35, o35 P) :: (nat_lit 37, o37 P) :: (nat_lit 38, o38 P) :: (nat_lit 40, o40 P) :: (nat_lit 41, o41 P) :: (nat_lit 42, o42 P) :: (nat_lit 43, o43 P) :: (nat_lit 44, o44 P) :: (nat_lit 47, o47 P) :: (nat_lit 54, o54 P) :: (nat_lit 56, o56 P) :: (nat_lit 57, o57 P) :: (nat_lit 59, o59 P) :: (nat_lit 61, o61 P) :: (nat_lit 62, o62 P) :: (nat_lit 63, o63 P) :: (nat_lit 66, o66 P) :: (nat_lit 69, o69 P) :: (nat_lit 70, o70 P) :: (nat_lit 71, o71 P) :: (nat_lit 73, o73 P) :: (nat_lit 74, o74 P) :: (nat_lit 76, o76 P) :: (nat_lit 77, o77 P) :: (nat_lit 78, o78 P) :: (nat_lit 80, o80 P) :: (nat_lit 81, o81 P) :: (nat_lit 83, o83 P) :: (nat_lit 84, o84 P) :: (nat_lit 85, o85 P) :: (nat_lit 87, o87 P) :: (nat_lit 88, o88 P) :: (nat_lit 90, o90 P) :: (nat_lit 91, o91 P) :: (nat_lit 92, o92 P) :: (nat_lit 94, o94 P) :: (nat_lit 95, o95 P) :: (nat_lit 97, o97 P) :: (nat_lit 98, o98 P) :: (nat_lit 99, o99 P) :: (nat_lit 102, o102 P) :: (nat_lit 103, o103 P) :: (nat_lit 111, o111 P) :: (nat_lit 113, o113 P) :: (nat_lit 114, o114 P) :: (nat_lit 116, o116 P) :: (nat_lit 117, o117 P) :: (nat_lit 118, o118 P) :: (nat_lit 120, o120 P) :: (nat_lit 121, o121 P) :: (nat_lit 123, o123 P) :: (nat_lit 124, o124 P) :: (nat_lit 125, o125 P) :: (nat_lit 127, o127 P) :: (nat_lit 128, o128 P) :: (nat_lit 130, o130 P) :: (nat_lit 131, o131 P) :: (nat_lit 132, o132 P) :: (nat_lit 134, o134 P) :: (nat_lit 135, o135 P) :: (nat_lit 137, o137 P) :: (nat_lit 138, o138 P) :: (nat_lit 165, o165 P) :: (nat_lit 168, o168 P) :: (nat_lit 169, o169 P) :: (nat_lit 170, o170 P) :: (nat_lit 172, o172 P) :: (nat_lit 173, o173 P) :: (nat_lit 175, o175 P) :: (nat_lit 176, o176 P) :: (nat_lit 177, o177 P) :: (nat_lit 180, o180 P) :: (nat_lit 181, o181 P) :: (nat_lit 182, o182 P) :: (nat_lit 185, o185 P) :: (nat_lit 186, o186 P) :: (nat_lit 187, o187 P) :: (nat_lit 190, o190 P) :: (nat_lit 191, o191 P) :: (nat_lit 192, o192 P) :: (nat_lit 194, o194 P) :: (nat_lit 195, o195 P) :: (nat_lit 197, o197 P) :: (nat_lit 198, o198 P) :: (nat_lit 199, o199 P) :: (nat_lit 201, o201 P) :: (nat_lit 202, o202 P) :: (nat_lit 204, o204 P) :: (nat_lit 205, o205 P) :: (nat_lit 206, o206 P) :: (nat_lit 208, o208 P) :: (nat_lit 209, o209 P) :: (nat_lit 211, o211 P) :: (nat_lit 212, o212 P) :: []
abbrev heapA : List Addr := [2, 3, 15, 22, 23, 24, 25, 28, 35, 37, 38, 40, 41, 42, 43, 44, 47, 54, 56, 57, 59, 61, 62, 63, 66, 69, 70, 71, 73, 74, 76, 77, 78, 80, 81, 83, 84, 85, 87, 88, 90, 91, 92, 94, 95, 97, 98, 99, 102, 103, 111, 113, 114, 116, 117, 118, 120, 121, 123, 124, 125, 127, 128, 130, 131, 132, 134, 135, 137, 138, 165, 168, 169, 170, 172, 173, 175, 176, 177, 180, 181, 182, 185, 186, 187, 190, 191, 192, 194, 195, 197, 198, 199, 201, 202, 204, 205, 206, 208, 209, 211, 212]
theorem heapE : ∀ P, heapA = (heapK P).map (·.1) := fun _ => by kernel_rfl
def viewQ : Program := PySem.W.view PySem.Challenge.pw_mostwise_k14_beats_and_things [1, 2, 3, 5, 6, 7, 8, 9, 10, 12, 13, 14, 15, 17, 18, 19, 20, 21, 22, 23, 24, 25, 26, 27, 28, 29, 30, 31, 32, 33]
theorem l_open : ∀ w : World, (fencedOpening treeTable PySem.Challenge.pw_mostwise_k14_beats_and_things w 2966).map (fun s => (s.heap, s.gens, s.drawn, s.toks)) = some (H0 w.params, #[], {}, 181) := fun w => by kernel_rfl
def pre12 (P : Params) : Obj := ⟨.none, none, (.fields #[]), #[]⟩
def H_pre (P : Params) : Heap := ⟨⟨o0 P :: o1 P :: o2 P :: p3 P :: o4 P :: o5 P :: o6 P :: o7 P :: o8 P :: o9 P :: o10 P :: o11 P :: pre12 P :: o13 P :: o14 P :: []⟩, {}⟩
def block12 (P : Params) : Obj := ⟨.none, none, (.fields #[]), #[]⟩
def H_block (P : Params) : Heap := ⟨⟨o0 P :: o1 P :: o2 P :: p3 P :: o4 P :: o5 P :: o6 P :: o7 P :: o8 P :: o9 P :: o10 P :: o11 P :: block12 P :: o13 P :: o14 P :: []⟩, {}⟩
def tEnv : Env := { scope := PySem.Challenge.pw_mostwise_k14_beats_and_things.main.scope, locals := mainNs, globals := mainNs, cells := [], code := (.ref 13), frame := some 14 }
def tCode : Code := .body (behindTheImports PySem.Challenge.pw_mostwise_k14_beats_and_things) tEnv
abbrev tFr : List Frame := [topFrame ⟨0, 0, 0, 0⟩]
abbrev tRest (i : Nat) (q : Pos) : Thread := restOf ((behindTheImports PySem.Challenge.pw_mostwise_k14_beats_and_things).drop i) tEnv tCode q tFr
theorem l_pre : ∀ (w : World) (os : OsState), topGo treeTable PySem.Challenge.pw_mostwise_k14_beats_and_things w 11 (some (.ref 6)) 12 ⟨H0 w.params, #[], {}, 181, os⟩ (topStub PySem.Challenge.pw_mostwise_k14_beats_and_things) = some (⟨H_pre w.params, #[], {}, 187, os⟩, ⟨denote treeTable tCode, tCode, ⟨0, 0, 0, 0⟩, tFr⟩) := fun w os => by kernel_rfl
theorem l_block : ∀ (w : World) (os : OsState), segRun treeTable PySem.Challenge.pw_mostwise_k14_beats_and_things w 11 (some (.ref 6)) 1 1 ⟨H_pre w.params, #[], {}, 187, os⟩ (blockOf (behindTheImports PySem.Challenge.pw_mostwise_k14_beats_and_things) tEnv tCode ⟨0, 0, 0, 0⟩ tFr) = some (.next, ⟨H_block w.params, #[], {}, 187, os⟩, tCode, ⟨0, 0, 0, 0⟩) := fun w os => by kernel_rfl
theorem l_end : ∀ (w : World) (os : OsState), topRun treeTable PySem.Challenge.pw_mostwise_k14_beats_and_things w 11 (some (.ref 6)) 1423 ⟨H_block w.params, #[], {}, 187, os⟩ (tRest 0 ⟨0, 0, 0, 0⟩) = some ⟨H1 w.params, #[], {}, 451, os⟩ := fun w os => by kernel_rfl
theorem l_run : ∀ (w : World) (os : OsState), topRun treeTable PySem.Challenge.pw_mostwise_k14_beats_and_things w 11 (some (.ref 6)) 1436 ⟨H0 w.params, #[], {}, 181, os⟩ (topStub PySem.Challenge.pw_mostwise_k14_beats_and_things) = some ⟨H1 w.params, #[], {}, 451, os⟩ := fun w os => go_top (n := 12) (l_pre w os) (piece_block (n := 1) (l_block w os) (l_end w os))
end
end K14
set_option maxRecDepth 100000 in
set_option maxHeartbeats 0 in
theorem PySem.Challenge.cw_mostwise_k14_beats_and_things_holds : PySem.Challenge.rw_mostwise_k14_beats_and_things.Holds := by
  w_on; o_law
  refine PySem.W.holds_open (q := K14.viewQ) (loose := []) (Xt := fun s => PySem.W.xlAt K14.viewQ [] s && PySem.W.recOk (PySem.W.RowW.records (PySem.W.OpenRow.toRowW PySem.Challenge.rw_mostwise_k14_beats_and_things.row)) s) (XP := PySem.W.XL K14.viewQ []) (Yf := PySem.W.Hook.obs (PySem.W.kHook K14.heapK K14.heapA K14.heapE)) (Ya := PySem.W.Hook.val (PySem.W.kHook K14.heapK K14.heapA K14.heapE)) (YP := PySem.W.Hook.says (PySem.W.kHook K14.heapK K14.heapA K14.heapE)) (N := 2966) ?hl (PySem.W.Hook.of (PySem.W.kHook K14.heapK K14.heapA K14.heapE)) (PySem.W.Hook.keeps (PySem.W.kHook K14.heapK K14.heapA K14.heapE)) (fun s e => PySem.W.xl_of s (Bool.and_eq_true_iff.mp e).1) PySem.W.XL.keeps (by rfl) (by rfl) (by rfl) (fun s e => PySem.W.recFacts_of (Bool.and_eq_true_iff.mp e).2) (by rfl) (by first | assumption | decide +kernel) (by decide +kernel) ⟨rfl, rfl, rfl, rfl, rfl, by decide +kernel⟩ ?hw ?hc
  (case hl => refine PySem.W.LeftO.of_pieces (H₀ := K14.H0) (H₁ := K14.H1) (gs₀ := #[]) (gs₁ := #[]) (d₀ := {}) (d₁ := {}) (k₀ := 181) (k₁ := 451) (m₀ := 11) (ann := (some (.ref 6))) (M := 1436) K14.l_open ?_ K14.l_run rfl ?_ <;> (intro w; kernel_rfl))
  (case hw => w_witness2)
  k_fill
  refine L2.walk_ofK (l := PySem.Challenge.rw_mostwise_k14_beats_and_things) (n := 63) (k := 6) (x := "_law_script") (CX := L2.CX0) (sp := K14.spLaw) rfl (by decide) rfl ⟨rfl, by decide, by decide⟩ (fun w h Y => PySem.W.kIn_of Y) ?F (fun K H a ns hl hO hS => K14.spLaw_of hl hO hS) (fun _ _ _ _ z => z)
  case F =>
    intro w mg fa h KX G hmg
    have T : ∃ t : K14.Adr, K14.Txt (L2.KOf KX) mg t := by
      dsimp only [L2.KOf]
      refine' Exists.imp (fun _ h => h.2.2) (K14.txt_mk KX G ?a_MostError ?a_NoRow ?a_NoThing ?a_c_NoRow_init ?l_c_NoRow_init ?c_c_NoRow_init ?p_c_NoRow_init ?a_d_is_made_of ?l_d_is_made_of ?c_d_is_made_of ?p_d_is_made_of ?a_d_is_name ?l_d_is_name ?c_d_is_name ?p_d_is_name ?a_d_is_label ?l_d_is_label ?c_d_is_label ?p_d_is_label ?a_d_words_of ?l_d_words_of ?c_d_words_of ?p_d_words_of ?a_d_pair_of ?l_d_pair_of ?c_d_pair_of ?p_d_pair_of ?a_d_things_of ?l_d_things_of ?c_d_things_of ?p_d_things_of ?a_d_l_mix ?l_d_l_mix ?c_d_l_mix ?p_d_l_mix ?a_d_l_text ?l_d_l_text ?c_d_l_text ?p_d_l_text ?a_d_l_name ?l_d_l_name ?c_d_l_name ?p_d_l_name ?a_d_l_label ?l_d_l_label ?c_d_l_label ?p_d_l_label ?a_d_l_row ?l_d_l_row ?c_d_l_row ?p_d_l_row ?a_d_l_spoilt ?l_d_l_spoilt ?c_d_l_spoilt ?p_d_l_spoilt ?a_d_l_name_is ?l_d_l_name_is ?c_d_l_name_is ?p_d_l_name_is ?a_d_l_pair ?l_d_l_pair ?c_d_l_pair ?p_d_l_pair ?a_d_l_things ?l_d_l_things ?c_d_l_things ?p_d_l_things ?a_d_l_refused ?l_d_l_refused ?c_d_l_refused ?p_d_l_refused ?a_d_l_right ?l_d_l_right ?c_d_l_right ?p_d_l_right ?a_d_law ?l_d_law ?c_d_law ?p_d_law ?k_SMALL ?k_SMALL_OR_FIGURE ?k_LONGEST ?k_MOST_THINGS ?z_ValueError ?z_all ?z_isinstance ?z_len ?z_list ?z_range ?z_set ?z_str ?z_tuple ?x_NoRow ?xc_MostError ?xm_NoRow_MostError ?xt_up ?xt_no)
      (case a_MostError => k_is); (case a_NoRow => k_is); (case a_NoThing => k_is); (case a_c_NoRow_init => k_is); (case l_c_NoRow_init => k_is); (case c_c_NoRow_init => k_is); (case p_c_NoRow_init => k_is); (case a_d_is_made_of => k_is); (case l_d_is_made_of => k_is); (case c_d_is_made_of => k_is); (case p_d_is_made_of => k_is); (case a_d_is_name => k_is); (case l_d_is_name => k_is); (case c_d_is_name => k_is); (case p_d_is_name => k_is); (case a_d_is_label => k_is); (case l_d_is_label => k_is); (case c_d_is_label => k_is); (case p_d_is_label => k_is); (case a_d_words_of => k_is)
      (case l_d_words_of => k_is); (case c_d_words_of => k_is); (case p_d_words_of => k_is); (case a_d_pair_of => k_is); (case l_d_pair_of => k_is); (case c_d_pair_of => k_is); (case p_d_pair_of => k_is); (case a_d_things_of => k_is); (case l_d_things_of => k_is); (case c_d_things_of => k_is); (case p_d_things_of => k_is); (case a_d_l_mix => k_is); (case l_d_l_mix => k_is); (case c_d_l_mix => k_is); (case p_d_l_mix => k_is); (case a_d_l_text => k_is); (case l_d_l_text => k_is); (case c_d_l_text => k_is); (case p_d_l_text => k_is); (case a_d_l_name => k_is)
      (case l_d_l_name => k_is); (case c_d_l_name => k_is); (case p_d_l_name => k_is); (case a_d_l_label => k_is); (case l_d_l_label => k_is); (case c_d_l_label => k_is); (case p_d_l_label => k_is); (case a_d_l_row => k_is); (case l_d_l_row => k_is); (case c_d_l_row => k_is); (case p_d_l_row => k_is); (case a_d_l_spoilt => k_is); (case l_d_l_spoilt => k_is); (case c_d_l_spoilt => k_is); (case p_d_l_spoilt => k_is); (case a_d_l_name_is => k_is); (case l_d_l_name_is => k_is); (case c_d_l_name_is => k_is); (case p_d_l_name_is => k_is); (case a_d_l_pair => k_is)
      (case l_d_l_pair => k_is); (case c_d_l_pair => k_is); (case p_d_l_pair => k_is); (case a_d_l_things => k_is); (case l_d_l_things => k_is); (case c_d_l_things => k_is); (case p_d_l_things => k_is); (case a_d_l_refused => k_is); (case l_d_l_refused => k_is); (case c_d_l_refused => k_is); (case p_d_l_refused => k_is); (case a_d_l_right => k_is); (case l_d_l_right => k_is); (case c_d_l_right => k_is); (case p_d_l_right => k_is); (case a_d_law => k_is); (case l_d_law => k_is); (case c_d_law => k_is); (case p_d_law => k_is); (case k_SMALL => k_is)
      (case k_SMALL_OR_FIGURE => k_is); (case k_LONGEST => k_is); (case k_MOST_THINGS => k_is); (case z_ValueError => k_is); (case z_all => k_is); (case z_isinstance => k_is); (case z_len => k_is); (case z_list => k_is); (case z_range => k_is); (case z_set => k_is); (case z_str => k_is); (case z_tuple => k_is)
      (case x_NoRow => kernel_rfl)
      (case xc_MostError => kernel_rfl)
      (case xm_NoRow_MostError => kernel_rfl)
      (case xt_up => kernel_rfl)
      (case xt_no => kernel_rfl)
    obtain ⟨t, T⟩ := T
    obtain ⟨_, _, _, _, _, _, _, _, _, e2, _, _⟩ := T.F_d_law.ex
    have e0 := hmg.symm.trans T.g_d_law
    cases e0
    exact ⟨t.fd_d_law, fun s u => by rw [e2]; exact .of_eq rfl, fun base kb nb => K14.ok_d_law T⟩
