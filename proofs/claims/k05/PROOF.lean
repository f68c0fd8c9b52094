import PyProof.Rows.All
import Wide.All
import OpenK.AllK
import Wide.FinOn
import Lean
import PyProof.EqAt
import PyProof.EqKinds
import PyProof.TupleCall
import PyProof.StrLawsChain
import PyProof.StrLawsIn
import PyProof.Rows.StrNews2
import PyProof.StrBlockL
import PyProof.Rows.StrClose3
import PyProof.Rows.StrClose5
import PyProof.Rows.StrFirst
import PyProof.WalkInts
import PyProof.StrOps
import PyProof.WalksEnum
import PyProof.EnumMake
import PyProof.NeKinds
import KE.KEqDict
import KE.KRevIter
import PyProof.DictWalks
import PyProof.DictValues
import PyProof.ListRange
import PyProof.CollectIter
import PyProof.ZipIter
import PyProof.Rows.ZipGen
import PyProof.FString5
import KE.KDictLaws
import KE.KDictSum
import KE.KSortTup
import PyProof.Rows.SortStr
import PyProof.DictItems
import KE.KPairComp
import KE.KUnpack
import PyProof.P3Eq
import PySem.Challenge.RW_mostwise_k05_refusals
set_option Elab.async false
set_option linter.all false
set_option maxRecDepth 100000
set_option maxHeartbeats 4000000
namespace L2
open PySem PySem.Spec PyProof.Rows
abbrev Key := Sum Int Str
def keyIs : Key → Value → Bool
  | .inl k, v => Value.isInt k v
  | .inr x, v => Value.isStrOf x v
def keyH (w : World) : Key → Int
  | .inl k => hashInt k
  | .inr x => hashStr w x
theorem keyIs_shape : ∀ {k : Key} {v : Value}, keyIs k v = true → (∃ i t, k = Sum.inl i ∧ v = Value.int i t) ∨ (∃ x t, k = Sum.inr x ∧ v = Value.str x t)
  | .inl i, v, h => by
    obtain ⟨t, e⟩ := Value.isInt_shape (k := i) (v := v) h
    exact .inl ⟨i, t, rfl, e⟩
  | .inr x, v, h => by
    obtain ⟨t, e⟩ := Value.isStrOf_shape (x := x) (v := v) h
    exact .inr ⟨x, t, rfl, e⟩
theorem key_ll (a b : Int) : decide ((Sum.inl a : Key) = Sum.inl b) = (a == b) := by
  by_cases e : a = b
  · subst e; simp
  · have h : ¬ (Sum.inl a : Key) = Sum.inl b := fun q => e (Sum.inl.inj q)
    rw [decide_eq_false h]
    exact (beq_eq_false_iff_ne.mpr e).symm
theorem key_rr (a b : Str) : decide ((Sum.inr a : Key) = Sum.inr b) = decide (a = b) := by
  by_cases e : a = b
  · subst e; simp
  · have h : ¬ (Sum.inr a : Key) = Sum.inr b := fun q => e (Sum.inr.inj q)
    rw [decide_eq_false h, decide_eq_false e]
theorem key_lr (a : Int) (b : Str) : decide ((Sum.inl a : Key) = Sum.inr b) = false := decide_eq_false (fun q => nomatch q)
theorem key_rl (a : Str) (b : Int) : decide ((Sum.inr a : Key) = Sum.inl b) = false := decide_eq_false (fun q => nomatch q)
def mixKind (prog : Program) (w : World) : PySem.KeyKind prog w Key where
  is := keyIs
  hash := keyH w
  inj := fun v a b ha hb => by
    rcases keyIs_shape ha with ⟨i, t, rfl, rfl⟩ | ⟨x, t, rfl, rfl⟩
    · rcases keyIs_shape hb with ⟨j, u, rfl, e⟩ | ⟨y, u, rfl, e⟩
      · injection e with e1 _; rw [e1]
      · exact nomatch e
    · rcases keyIs_shape hb with ⟨j, u, rfl, e⟩ | ⟨y, u, rfl, e⟩
      · exact nomatch e
      · injection e with e1 _; rw [e1]
  byValue := fun k v h => by
    rcases keyIs_shape h with ⟨i, t, rfl, rfl⟩ | ⟨x, t, rfl, rfl⟩ <;> rfl
  pyHash := fun hv h => by
    rcases keyIs_shape hv with ⟨i, t, rfl, rfl⟩ | ⟨x, t, rfl, rfl⟩
    · exact wpAny_pyHash_int h
    · exact wpAny_pyHash_str h
  eqBool := fun hu hv h => by
    rcases keyIs_shape hu with ⟨i, t, rfl, rfl⟩ | ⟨x, t, rfl, rfl⟩
    · rcases keyIs_shape hv with ⟨j, u, rfl, rfl⟩ | ⟨y, u, rfl, rfl⟩
      · rw [key_ll] at h; exact wpAny_eqBool_int h
      · rw [key_lr] at h; exact SeqAt.EqAt.int_str i t y u _ _ _ _ h
    · rcases keyIs_shape hv with ⟨j, u, rfl, rfl⟩ | ⟨y, u, rfl, rfl⟩
      · rw [key_rl] at h; exact SeqAt.EqAt.str_int x t j u _ _ _ _ h
      · rw [key_rr] at h; exact wpAny_eqBool_str h
  «strs» := fun k x t v h => by
    rcases keyIs_shape h with ⟨i, u, rfl, e⟩ | ⟨y, u, rfl, e⟩
    · exact nomatch e
    · injection e with e1 _
      subst e1
      cases v <;> rfl
end L2
namespace L2
open PySem PySem.Spec PyProof.Rows
inductive V where
  | non | bl (b : Bool) | int (i : Int) | str (x : Str) | byt (b : Array UInt8) | flt (b : UInt64) | ref (a : Addr) | ty (n : String)
  deriving DecidableEq
def RelV : V → Value → Prop
  | .non, u => u = Value.none
  | .bl b, u => u = Value.bool b
  | .int i, u => ∃ t, u = Value.int i t
  | .str x, u => ∃ t, u = Value.str x t
  | .byt b, u => ∃ t, u = Value.bytes b t
  | .flt b, u => ∃ t, u = Value.float b t
  | .ref a, u => u = Value.ref a
  | .ty n, u => u = Value.type n
abbrev Vals : List V → List Value → Prop := Paired RelV
theorem Vals.length {xs : List V} {us : List Value} (r : Vals xs us) : xs.length = us.length := Paired.length r
theorem Vals.get : ∀ {xs : List V} {us : List Value} {i : Nat} {x : V}, Vals xs us → xs[i]? = some x → ∃ u, us[i]? = some u ∧ RelV x u
  | _, _, _, _, .nil, e => by simp at e
  | _, _, 0, _, .cons r _, e => by simp at e; subst e; exact ⟨_, rfl, r⟩
  | _, _, i + 1, x, .cons _ t, e => by
    obtain ⟨u, h1, h2⟩ := Vals.get (i := i) (x := x) t (by simpa using e)
    exact ⟨u, by simpa using h1, h2⟩
theorem Vals.set {x : V} {u : Value} (r : RelV x u) : ∀ {xs : List V} {us : List Value} (i : Nat), Vals xs us → Vals (xs.set i x) (us.set i u)
  | _, _, _, .nil => .nil
  | _, _, 0, .cons _ t => .cons r t
  | _, _, i + 1, .cons q t => .cons q (Vals.set r i t)
theorem Vals.append : ∀ {xs ys : List V} {us ws : List Value}, Vals xs us → Vals ys ws → Vals (xs ++ ys) (us ++ ws)
  | _, _, _, _, .nil, s => s
  | _, _, _, _, .cons r t, s => .cons r (Vals.append t s)
theorem Vals.take : ∀ {xs : List V} {us : List Value} (n : Nat), Vals xs us → Vals (xs.take n) (us.take n)
  | _, _, 0, _ => .nil
  | _, _, _ + 1, .nil => .nil
  | _, _, n + 1, .cons r t => .cons r (Vals.take n t)
theorem Vals.drop : ∀ {xs : List V} {us : List Value} (n : Nat), Vals xs us → Vals (xs.drop n) (us.drop n)
  | _, _, 0, r => r
  | _, _, _ + 1, .nil => .nil
  | _, _, n + 1, .cons _ t => Vals.drop n t
def RelO : Option V → Option Value → Prop
  | some v, some u => RelV v u
  | none, none => True
  | _, _ => False
def KV {κ : Type} : List (κ × V) → List (κ × Value) → Prop := Paired fun (p : κ × V) (q : κ × Value) => p.1 = q.1 ∧ RelV p.2 q.2
def kV : Key → V
  | .inl i => .int i
  | .inr x => .str x
inductive HO where
  | lst (xs : List V)
  | tup (xs : List V)
  | dK (kvs : List (Key × V)) | dT (kvs : List (List Key × V))
  | set (S : Int → Bool) (n : Nat)
  | ins (C dx : Addr) (fs : List (Str × V))
  | own (x : Addr)
  | xd (fs : List (Str × V))
  | met (f x : Addr)
  | rng (lo hi : Int)
  | frz (o : Obj) (u : HO)
  | tbl (ps : Array Value)
  | ext (φ : Heap → Prop)
abbrev Hp := Addr → Option HO
def upd (H : Hp) (a : Addr) (o : HO) : Hp := fun b => if b = a then some o else H b
theorem upd_same {H : Hp} {a : Addr} {o : HO} : upd H a o a = some o := by unfold upd; rw [if_pos rfl]
theorem upd_ne {H : Hp} {a b : Addr} {o : HO} (h : b ≠ a) : upd H a o b = H b := by unfold upd; rw [if_neg h]
theorem ne_of_none {H : Hp} {a b : Addr} {o : HO} (h : H a = some o) (h' : H b = none) : a ≠ b := by
  intro e; subst e; rw [h] at h'; cases h'
section
variable (P : Program) (w : World)
def ObjOk (H : Hp) (h : Heap) (a : Addr) : HO → Prop
  | .lst xs => xs.length ≤ sizeLine ∧ ∃ (its : List Value) (n : Nat), Vals xs its ∧ h.get? a = some { cls := .type "list", data := .seq its.toArray n }
  | .tup xs => xs.length ≤ sizeLine ∧ ∃ its : List Value, Vals xs its ∧ IsTup h a its.toArray
  | .dK kvs => kvs.length ≤ sizeLine ∧ (a == sysModules) = false ∧ ∃ vs, KV kvs vs ∧ h.DictOf (mixKind P w) a vs
  | .dT kvs => kvs.length ≤ sizeLine ∧ (a == sysModules) = false ∧ ∃ xs : List (List Key × Addr × Value),
      Paired (fun (p : List Key × V) (q : List Key × Addr × Value) => p.1 = q.1 ∧ H q.2.1 = some (.tup (p.1.map kV)) ∧ RelV p.2 q.2.2) kvs xs ∧
      ∃ o es ep, h.get? a = some o ∧ o.ExactDict ∧ o.data = .dict es ep ∧ es.toList = xs.map (entryOfKey (tupleKind (mixKind P w))) ∧ (xs.map (·.1)).Nodup
  | .set S n => h.SetOf (intKind P w) a S n
  | .ins C dx fs => H dx = some (.own a) ∧ fs.length ≤ 1000 ∧ dx ≠ a ∧ h.get? a = some (PySem.W.instObj C dx) ∧
      ∃ mA, h.Ns1 dx mA ∧ (∀ f, RelO (fs.lookup f) (mA f)) ∧ PySem.Within mA (fs.map (·.1))
  | .own _ => ∃ o, h.get? a = some o
  | .xd fs => ∃ mA, h.Ns1 a mA ∧ ∀ f, RelO (fs.lookup f) (mA f)
  | .rng lo hi => ∃ t u v, h.get? a = some { cls := .type "range", data := .fields #[.int lo t, .int hi u, .int 1 v] }
  | .frz o u => h.get? a = some o ∧ ObjOk H h a u
  | .tbl ps => h.get? a = some { cls := .none, data := .fields ps }
  | .met f x => h.get? a = some (PySem.W.methodObj (.ref f) (.ref x))
  | .ext φ => φ h ∧ (∃ o, h.get? a = some o) ∧ ∀ h1 h2 : Heap, φ h1 → (∀ o, h1.get? a = some o → h2.get? a = some o) → φ h2
def HOk (H : Hp) (h : Heap) : Prop := ∀ a o, H a = some o → ObjOk P w H h a o
end
section
variable {P : Program} {w : World} {H H' : Hp} {h h' : Heap} {a : Addr} {o : HO}
theorem ObjOk.lt (x : ObjOk P w H h a o) : a < h.objs.size := by
  cases o with
  | lst xs => obtain ⟨_, _, _, _, e⟩ := x; exact Heap.lt_size e
  | tup xs => obtain ⟨_, _, _, p⟩ := x; exact p.lt
  | dK kvs => obtain ⟨_, _, _, _, o, _, _, e, _⟩ := x; exact Heap.lt_size e
  | dT kvs => obtain ⟨_, _, _, _, o, _, _, e, _⟩ := x; exact Heap.lt_size e
  | set S n => obtain ⟨o, _, _, _, e, _⟩ := x; exact Heap.lt_size e
  | ins C dx fs => obtain ⟨_, _, _, e, _⟩ := x; exact Heap.lt_size e
  | own y => obtain ⟨_, e⟩ := x; exact Heap.lt_size e
  | xd fs => obtain ⟨_, ⟨_, _, _, e, _⟩, _⟩ := x; exact Heap.lt_size e
  | rng lo hi => obtain ⟨_, _, _, e⟩ := x; exact Heap.lt_size e
  | frz ob u => obtain ⟨e, _⟩ := x; exact Heap.lt_size e
  | tbl ps => exact Heap.lt_size (show h.get? a = some _ from x)
  | met f y => exact Heap.lt_size (show h.get? a = some _ from x)
  | ext φ => obtain ⟨_, ⟨_, e⟩, _⟩ := x; exact Heap.lt_size e
theorem Paired.mapP {α β : Type} {F G : α → β → Prop} : ∀ {l₁ : List α} {l₂ : List β}, Paired F l₁ l₂ → (∀ a b, F a b → G a b) → Paired G l₁ l₂
  | _, _, .nil, _ => .nil
  | _, _, .cons r t, f => .cons (f _ _ r) (Paired.mapP t f)
theorem ObjOk.stay (x : ObjOk P w H h a o) (k : ∀ b u, (b = a ∨ H b = some (.own a)) → h.get? b = some u → h'.get? b = some u)
    (ho : ∀ b, H b = some (.own a) → H' b = some (.own a)) (ht : ∀ b xs, H b = some (.tup xs) → H' b = some (.tup xs)) : ObjOk P w H' h' a o := by
  induction o with
  | lst xs => obtain ⟨z, its, n, r, e⟩ := x; exact ⟨z, its, n, r, k _ _ (.inl rfl) e⟩
  | tup xs => obtain ⟨z, its, r, ob, e, c⟩ := x; exact ⟨z, its, r, ob, k _ _ (.inl rfl) e, c⟩
  | dK kvs => obtain ⟨z, y, vs, r, ob, es, ep, e, c⟩ := x; exact ⟨z, y, vs, r, ob, es, ep, k _ _ (.inl rfl) e, c⟩
  | dT kvs =>
    obtain ⟨z, y, xs, r, ob, es, ep, e, c⟩ := x
    exact ⟨z, y, xs, Paired.mapP r fun p q z => ⟨z.1, ht _ _ z.2.1, z.2.2⟩, ob, es, ep, k _ _ (.inl rfl) e, c⟩
  | set S n => obtain ⟨ob, es, ep, t, e, c⟩ := x; exact ⟨ob, es, ep, t, k _ _ (.inl rfl) e, c⟩
  | ins C dx fs =>
    obtain ⟨d, z, ne, e, mA, ⟨od, es, ep, e2, c⟩, r⟩ := x
    exact ⟨ho _ d, z, ne, k _ _ (.inl rfl) e, mA, ⟨od, es, ep, k _ _ (.inr d) e2, c⟩, r⟩
  | own y => obtain ⟨ob, e⟩ := x; exact ⟨ob, k _ _ (.inl rfl) e⟩
  | xd fs => obtain ⟨mA, ⟨od, es, ep, e, c⟩, r⟩ := x; exact ⟨mA, ⟨od, es, ep, k _ _ (.inl rfl) e, c⟩, r⟩
  | rng lo hi => obtain ⟨t, u, v, e⟩ := x; exact ⟨t, u, v, k _ _ (.inl rfl) e⟩
  | frz ob u ih => obtain ⟨e, q⟩ := x; exact ⟨k _ _ (.inl rfl) e, ih q⟩
  | tbl ps =>
    have e : h.get? a = some { cls := .none, data := .fields ps } := x
    show h'.get? a = some { cls := .none, data := .fields ps }
    exact k a _ (.inl rfl) e
  | met f y =>
    have e : h.get? a = some (PySem.W.methodObj (.ref f) (.ref y)) := x
    show h'.get? a = some (PySem.W.methodObj (.ref f) (.ref y))
    exact k a _ (.inl rfl) e
  | ext φ => obtain ⟨p, ⟨o, e⟩, st⟩ := x; exact ⟨st _ _ p fun o q => k _ _ (.inl rfl) q, ⟨o, k _ _ (.inl rfl) e⟩, st⟩
theorem HOk.lt (x : HOk P w H h) (e : H a = some o) : a < h.objs.size := (x a o e).lt
theorem HOk.fresh (x : HOk P w H h) (e : h.objs.size ≤ a) : H a = none := by
  cases q : H a with
  | none => rfl
  | some u => exact absurd (Nat.lt_of_lt_of_le (x.lt q) e) (Nat.lt_irrefl _)
theorem HOk.kept (x : HOk P w H h) (k : ∀ b u, h.get? b = some u → h'.get? b = some u) : HOk P w H h' := fun a o e =>
  (x a o e).stay (fun b u _ q => k b u q) (fun _ q => q) fun _ _ q => q
theorem HOk.laid (x : HOk P w H h) (k : ∀ b u, h.get? b = some u → h'.get? b = some u) (hp : h.objs.size ≤ a) (new : ObjOk P w (upd H a o) h' a o) : HOk P w (upd H a o) h' := fun b u e => by
  have hn := x.fresh hp
  by_cases hb : b = a
  · subst hb; rw [upd_same] at e; cases e; exact new
  · rw [upd_ne hb] at e
    exact (x b u e).stay (fun c v _ q => k c v q) (fun c q => by rw [upd_ne (ne_of_none q hn)]; exact q) fun c xs q => by rw [upd_ne (ne_of_none q hn)]; exact q
end
def Rd (H : Hp) (a : Addr) (u : HO) : Prop := H a = some u ∨ ∃ o, H a = some (.frz o u)
theorem Rd.of {H : Hp} {a : Addr} {u : HO} (h : H a = some u) : Rd H a u := .inl h
theorem Rd.ok {P : Program} {w : World} {H : Hp} {h : Heap} {a : Addr} {u : HO} (r : Rd H a u) (x : HOk P w H h) : ObjOk P w H h a u := by
  rcases r with r | ⟨o, r⟩
  · exact x a u r
  · obtain ⟨_, q⟩ := x a _ r
    exact q
def Mut : Option HO → Prop
  | some (.lst _) => True
  | some (.dK _) => True
  | some (.dT _) => True
  | some (.set _ _) => True
  | some (.ins _ _ _) => True
  | some (.ext _) => True
  | _ => False
section
variable {P : Program} {w : World} {H : Hp} {h h' : Heap} {x e : Addr} {o' : HO}
theorem HOk.write (ok : HOk P w H h) (mu : Mut (H x)) (he : e = x ∨ H e = some (.own x)) (k : ∀ b u, b ≠ e → h.get? b = some u → h'.get? b = some u) (heo : ∃ u, h'.get? e = some u)
    (new : ObjOk P w (upd H x o') h' x o') : HOk P w (upd H x o') h' := fun b u q => by
  have nown : ∀ c y, H c = some (.own y) → c ≠ x := fun c y r z => by subst z; rw [r] at mu; exact mu
  have ntup : ∀ c xs, H c = some (.tup xs) → c ≠ x := fun c xs r z => by subst z; rw [r] at mu; exact mu
  by_cases hb : b = x
  · subst hb; rw [upd_same] at q; cases q; exact new
  · rw [upd_ne hb] at q
    by_cases hbe : b = e
    · have q' : H b = some (.own x) := by
        rcases he with z | z
        · exact absurd (hbe.trans z) hb
        · rw [hbe]; exact z
      rw [q] at q'; cases q'
      obtain ⟨v, hv⟩ := heo
      exact ⟨v, by rw [hbe]; exact hv⟩
    · refine (ok b u q).stay (fun c v hc r => k c v ?_ r) (fun c r => by rw [upd_ne (nown c b r)]; exact r) fun c xs r => by rw [upd_ne (ntup c xs r)]; exact r
      rcases hc with rfl | hc
      · exact hbe
      · rintro rfl
        rcases he with z | z
        · exact nown c b hc z
        · rw [hc] at z; cases z; exact hb rfl
end
structure Un (fs ex : List Addr) (H H' : Hp) (h h' : Heap) : Prop where
  keep : ∀ b o, h.get? b = some o → H b = none → b ∉ fs → b ∉ ex → h'.get? b = some o
  slot : ∀ b o, h.get? b = some o → H b = none → b ∈ fs → b ∉ ex → ∃ sl, h'.get? b = some { o with slots := sl }
  free : ∀ b o, h.get? b = some o → H b = none → b ∉ ex → H' b = none
  there : ∀ b o, h.get? b = some o → b ∉ ex → ∃ o', h'.get? b = some o'
  tups : ∀ b xs, H b = some (.tup xs) → H' b = some (.tup xs)
  frzs : ∀ b o u, H b = some (.frz o u) → H' b = some (.frz o u)
  tbls : ∀ b ps, H b = some (.tbl ps) → ∃ more, H' b = some (.tbl (ps ++ more))
section
variable {fs fs' ex ex' : List Addr} {H H1 H2 : Hp} {h h1 h2 h' : Heap} {a x e : Addr} {o : HO}
theorem Un.any (u : Un fs ex H H1 h h1) {b : Addr} {ob : Obj} (q : h.get? b = some ob) (n : H b = none) (hx : b ∉ ex) : ∃ sl, h1.get? b = some { ob with slots := sl } := by
  by_cases hb : b ∈ fs
  · exact u.slot b ob q n hb hx
  · exact ⟨ob.slots, u.keep b ob q n hb hx⟩
theorem Un.trans (a : Un fs ex H H1 h h1) (b : Un fs ex H1 H2 h1 h2) : Un fs ex H H2 h h2 where
  keep := fun c ob q n hc hx => b.keep c ob (a.keep c ob q n hc hx) (a.free c ob q n hx) hc hx
  slot := fun c ob q n hc hx => by
    obtain ⟨sl, e1⟩ := a.slot c ob q n hc hx
    obtain ⟨sl', e2⟩ := b.slot c _ e1 (a.free c ob q n hx) hc hx
    exact ⟨sl', e2⟩
  free := fun c ob q n hx => by
    obtain ⟨o', e1⟩ := a.there c ob q hx
    exact b.free c o' e1 (a.free c ob q n hx) hx
  there := fun c ob q hx => by
    obtain ⟨o', e1⟩ := a.there c ob q hx
    exact b.there c o' e1 hx
  tups := fun c xs q => b.tups c xs (a.tups c xs q)
  frzs := fun c ob xs q => b.frzs c ob xs (a.frzs c ob xs q)
  tbls := fun c ps q => by
    obtain ⟨m1, e1⟩ := a.tbls c ps q
    obtain ⟨m2, e2⟩ := b.tbls c _ e1
    exact ⟨m1 ++ m2, by rw [e2, Array.append_assoc]⟩
theorem Un.kept (k : ∀ b u, h.get? b = some u → h'.get? b = some u) : Un fs ex H H h h' :=
  ⟨fun b ob q _ _ _ => k b ob q, fun b ob q _ _ _ => ⟨ob.slots, k b ob q⟩, fun _ _ _ n _ => n, fun b ob q _ => ⟨ob, k b ob q⟩, fun _ _ q => q, fun _ _ _ q => q, fun _ ps q => ⟨#[], by rw [q]; simp⟩⟩
theorem Un.refl : Un fs ex H H h h := Un.kept fun _ _ q => q
theorem Un.laid (k : ∀ b u, h.get? b = some u → h'.get? b = some u) (hp : h.objs.size ≤ a) (hn : H a = none) : Un fs ex H (upd H a o) h h' where
  keep := fun b u q _ _ _ => k b u q
  slot := fun b u q _ _ _ => ⟨u.slots, k b u q⟩
  free := fun b u q n _ => by rw [upd_ne (Nat.ne_of_lt (Nat.lt_of_lt_of_le (Heap.lt_size q) hp))]; exact n
  there := fun b u q _ => ⟨u, k b u q⟩
  tups := fun b xs q => by rw [upd_ne (ne_of_none q hn)]; exact q
  frzs := fun b u xs q => by rw [upd_ne (ne_of_none q hn)]; exact q
  tbls := fun b ps q => ⟨#[], by rw [upd_ne (ne_of_none q hn), q]; simp⟩
theorem Un.write (mu : Mut (H x)) (he : e = x ∨ H e = some (.own x)) (k : ∀ b u, b ≠ e → h.get? b = some u → h'.get? b = some u) (heo : ∃ u, h'.get? e = some u) : Un fs ex H (upd H x o) h h' := by
  have hx : ∀ b, H b = none → b ≠ x := fun b n z => by subst z; rw [n] at mu; exact mu
  have hb : ∀ b, H b = none → b ≠ e := fun b n z => by
    subst z
    rcases he with r | r
    · exact hx b n r
    · rw [n] at r; cases r
  have hm : ∀ b u, H b = some u → ¬ Mut (some u) → b ≠ x := fun b u q nm z => by subst z; rw [q] at mu; exact nm mu
  refine ⟨fun b u q n _ _ => k b u (hb b n) q, fun b u q n _ _ => ⟨u.slots, k b u (hb b n) q⟩, fun b u q n _ => by rw [upd_ne (hx b n)]; exact n, fun b u q _ => ?_,
    fun b xs q => by rw [upd_ne (hm b _ q fun z => z)]; exact q, fun b u xs q => by rw [upd_ne (hm b _ q fun z => z)]; exact q, fun b ps q => ⟨#[], by rw [upd_ne (hm b _ q fun z => z), q]; simp⟩⟩
  by_cases hbe : b = e
  · subst hbe; exact heo
  · exact ⟨u, k b u hbe q⟩
theorem Un.mono (u : Un fs ex H H1 h h1) (hs : ∀ b ∈ fs, b ∈ fs') (hx : ∀ b ∈ ex, b ∈ ex') : Un fs' ex' H H1 h h1 :=
  ⟨fun b ob q n hb he => u.keep b ob q n (fun z => hb (hs b z)) fun z => he (hx b z), fun _ _ q n _ he => u.any q n fun z => he (hx _ z), fun b ob q n he => u.free b ob q n fun z => he (hx b z), fun b ob q he => u.there b ob q fun z => he (hx b z), u.tups, u.frzs, u.tbls⟩
end
def trk (h : Heap) (H : Hp) : List Addr := (List.range h.objs.size).filter fun a => (H a).isSome
def hidT (h : Heap) (H : Hp) : Heap := PySem.W.hideAll h (trk h H)
theorem hidT_size (h : Heap) (H : Hp) : (hidT h H).objs.size = h.objs.size := PySem.W.hideAll_size _ _
theorem hidT_get {h : Heap} {H : Hp} {b : Addr} {o : Obj} (e : h.get? b = some o) (n : H b = none) : (hidT h H).get? b = some o :=
  PySem.W.hideAll_get _ e fun hm => by
    have q : (H b).isSome = true := (List.mem_filter.mp hm).2
    rw [n] at q; simp at q
theorem of_hidT {h : Heap} {H : Hp} {b : Addr} {o : Obj} (e : (hidT h H).get? b = some o) : h.get? b = some o ∧ H b = none := by
  have e' : h.get? b = some o := PySem.W.of_hideAll (trk h H) e
  refine ⟨e', ?_⟩
  cases q : H b with
  | none => rfl
  | some x =>
    have hm : b ∈ trk h H := List.mem_filter.mpr ⟨List.mem_range.mpr (Heap.lt_size e'), by simp [q]⟩
    have z : (hidT h H).get? b = none := PySem.W.hideAll_none (trk h H) hm
    rw [z] at e; cases e
def allNews (g h : Heap) (L : Addr) : List (Addr × Obj) := (List.range h.objs.size).filterMap fun a => if a = L ∨ (g.get? a).isSome = true then none else (h.get? a).map fun o => (a, o)
def rest (g h : Heap) (L d : Addr) : List (Addr × Obj) := (allNews g h L).filter fun p => decide (p.1 ≠ d)
end L2
namespace L2
open PySem PySem.Spec PyProof.Rows
structure Mod (K : PySem.W.Frag) (mg : Str → Option Value) (base : Heap) : Prop where
  kin : K.In base
  glob : base.Ns mainGlobals mg
  blt : ∃ mb, base.Ns builtinsNs mb ∧ ∀ x : Str, x ≠ "__name__" → mb x = bootBuiltins x
  nolimit : base.NoLimit
structure Cx where
  prog : Program
  w : World
  K : PySem.W.Frag
  mg : Str → Option Value
  base : Heap
  A : Around
  N : List Str
  s₀ : Shared
  H₀ : Hp
  env : Env
  outer : List Env
  stack : List Env
  ex : List Addr
  fn : Str → Bool
  calm : Bool
  pn : List (Addr × Obj)
  xe : Value → Shared → Prop
def frs (l : List Env) : List Addr := l.filterMap (·.frame)
abbrev Cx.fs (X : Cx) : List Addr := frs X.outer
def Vis (sc : Scope) (x : Str) : Prop := sc.names.lookup x = some .local ∨ sc.names.lookup x = some .cell ∨ sc.names.lookup x = some .free
def Loc (sc : Scope) (x : Str) : Prop := sc.names.lookup x = some .local ∨ sc.names.lookup x = some .cell
def Look (env : Env) (h : Heap) (m : Str → Option Value) (x : Str) (u : Value) : Prop :=
  (env.kindOf x = some .local ∧ m x = some u) ∨ ((env.kindOf x = some .cell ∨ env.kindOf x = some .free) ∧ ∃ c, env.cells.lookup x = some c ∧ h.IsCell c (some u))
structure Cx.Ok (X : Cx) : Prop where
  mod : Mod X.K X.mg X.base
  kind : X.env.scope.kind = .function
  glob : X.env.globals = mainGlobals
  blt : X.env.builtins = builtinsNs
  above : X.s₀.heap.objs.size ≤ X.env.locals
  inj : ∀ x y c, X.env.cells.lookup x = some c → X.env.cells.lookup y = some c → x = y
  has : ∀ x, (X.env.kindOf x = some .cell ∨ X.env.kindOf x = some .free) → ∃ c, X.env.cells.lookup x = some c
  cab : ∀ x c, X.fn x = true → X.env.cells.lookup x = some c → X.s₀.heap.objs.size ≤ c
  hd : X.calm = true → X.A.handled = none
  frames : X.A.frames = some X.stack
  stk : X.stack = X.outer ∨ (X.stack = X.env :: X.outer ∧ X.env.frame = some X.env.locals)
  exf : ∀ b ∈ X.ex, b ≠ X.env.locals ∧ ∀ x c, X.env.cells.lookup x = some c → c ≠ b
  bs : ∀ b o, X.base.get? b = some o → X.s₀.heap.get? b = some o ∧ X.H₀ b = none
  bsz : X.base.objs.size ≤ X.s₀.heap.objs.size
  noex : ∀ b o, X.base.get? b = some o → b ∉ X.ex
  exfs : ∀ b ∈ X.ex, b ∉ X.fs
  funs : X.s₀.heap.FunFrames X.base X.outer
  frf : ∀ b ∈ X.fs, X.H₀ b = none
structure Inv (X : Cx) (pins : List (Addr × Obj)) (σ : List (Option V)) (H : Hp) (s : Shared) : Prop where
  ok : X.Ok
  os : s.os = X.s₀.os
  bare : AllBare s.gens
  base : Un X.fs X.ex X.H₀ H X.s₀.heap s.heap
  loc : ∃ m, s.heap.Ns X.env.locals m ∧ ∀ (i : Nat) (x : Str) (v : V), X.N[i]? = some x → σ[i]? = some (some v) → Vis X.env.scope x → ∃ u, RelV v u ∧ Look X.env s.heap m x u
  cell : ∀ x c, X.env.cells.lookup x = some c → ∃ v, s.heap.IsCell c v
  free : H X.env.locals = none
  freeC : ∀ x c, X.env.cells.lookup x = some c → H c = none
  pin : ∀ p ∈ X.pn ++ pins, s.heap.get? p.1 = some p.2 ∧ H p.1 = none ∧ p.1 ≠ X.env.locals ∧ p.1 ∉ X.fs ∧ ∀ v, p.2.data ≠ .cell v
  hok : HOk X.prog X.w H s.heap
  len : σ.length = X.N.length
section
variable {X : Cx} {pins : List (Addr × Obj)} {σ : List (Option V)} {H H' : Hp} {s : Shared} {h' : Heap}
theorem Cx.Ok.nofr (ok : X.Ok) {b : Addr} {o : Obj} (e : X.base.get? b = some o) : b ∉ X.fs := fun hb => by
  have := (ok.funs.mem hb).1
  rw [e] at this; cases this
theorem Inv.bs (I : Inv X pins σ H s) : ∀ b o, X.base.get? b = some o → s.heap.get? b = some o ∧ H b = none := fun b o e =>
  ⟨I.base.keep b o (I.ok.bs b o e).1 (I.ok.bs b o e).2 (I.ok.nofr e) (I.ok.noex b o e), I.base.free b o (I.ok.bs b o e).1 (I.ok.bs b o e).2 (I.ok.noex b o e)⟩
theorem Inv.bk (I : Inv X pins σ H s) : ∀ b o, X.base.get? b = some o → s.heap.get? b = some o := fun b o e => (I.bs b o e).1
theorem Inv.mod (I : Inv X pins σ H s) : Mod X.K X.mg X.base := I.ok.mod
theorem Inv.kIn (I : Inv X pins σ H s) : X.K.In s.heap := I.ok.mod.kin.keeps I.bk
theorem Inv.nolimit (I : Inv X pins σ H s) : s.heap.NoLimit := I.ok.mod.nolimit.keeps I.bk
theorem Inv.lt (I : Inv X pins σ H s) : X.env.locals < s.heap.objs.size := let ⟨_, hn, _⟩ := I.loc; hn.lt
theorem Inv.sz (I : Inv X pins σ H s) : X.s₀.heap.objs.size ≤ s.heap.objs.size := Nat.le_trans I.ok.above (Nat.le_of_lt I.lt)
theorem Inv.nofs (I : Inv X pins σ H s) {a : Addr} (h : s.heap.objs.size ≤ a) : a ∉ X.fs := fun hb => by
  obtain ⟨_, o, ho, _⟩ := I.ok.funs.mem hb
  exact absurd (Nat.lt_of_lt_of_le (Heap.lt_size ho) (Nat.le_trans I.sz h)) (Nat.lt_irrefl _)
theorem Inv.cne (I : Inv X pins σ H s) : ∀ x c, X.env.cells.lookup x = some c → c ≠ X.env.locals := fun x c e z => by
  obtain ⟨v, o, ho, hd⟩ := I.cell x c e
  obtain ⟨m, ⟨o', es, ep, ho', hd', _⟩, _⟩ := I.loc
  rw [z, ho'] at ho; cases ho; rw [hd'] at hd; cases hd
theorem Inv.funs (I : Inv X pins σ H s) : s.heap.FunFrames X.base X.outer := by
  have all : ∀ (l : List Env), (∀ b ∈ frs l, b ∈ X.fs) → X.s₀.heap.FunFrames X.base l → s.heap.FunFrames X.base l := by
    intro l
    induction l with
    | nil => intro _ _; trivial
    | cons env r ih =>
      intro hs hl
      obtain ⟨hk, ⟨L, o, hf, hn, ho, hd⟩, hr⟩ := hl
      have hL : L ∈ X.fs := hs L (by unfold frs; rw [List.filterMap_cons, hf]; exact List.mem_cons_self)
      obtain ⟨sl, e⟩ := I.base.slot L o ho (I.ok.frf L hL) hL fun z => I.ok.exfs L z hL
      exact ⟨hk, ⟨L, _, hf, hn, e, hd⟩, ih (fun b hb => hs b (by unfold frs; rw [List.filterMap_cons, hf]; exact List.mem_cons_of_mem _ hb)) hr⟩
  exact all X.outer (fun _ hb => hb) I.ok.funs
theorem Inv.stack (I : Inv X pins σ H s) : s.heap.FunFrames X.base X.stack := by
  rcases I.ok.stk with e | ⟨e, hf⟩
  · rw [e]; exact I.funs
  · rw [e]
    obtain ⟨m, hn, _⟩ := I.loc
    refine .cons (by rw [I.ok.kind]; decide) hf hn ?_ I.funs
    exact Heap.get?_none_of_le (Nat.le_trans I.ok.bsz I.ok.above)
theorem Inv.stkSub (I : Inv X pins σ H s) : ∀ b ∈ frs X.stack, b ∈ X.env.locals :: X.fs := fun b hb => by
  rcases I.ok.stk with e | ⟨e, hf⟩
  · rw [e] at hb; exact List.mem_cons_of_mem _ hb
  · rw [e] at hb
    unfold frs at hb
    rw [List.filterMap_cons, hf] at hb
    exact hb
theorem Inv.stkFree (I : Inv X pins σ H s) : ∀ b ∈ frs X.stack, H b = none := fun b hb => by
  rcases List.mem_cons.mp (I.stkSub b hb) with e | hb
  · rw [e]; exact I.free
  · obtain ⟨_, o, ho, _⟩ := I.ok.funs.mem hb
    exact I.base.free b o ho (I.ok.frf b hb) fun z => I.ok.exfs b z hb
theorem Inv.step {g' : Array GenState} {t' : Nat} {d' : Drawn} {ch : List Addr} (I : Inv X pins σ H s)
    (hch : ∀ b ∈ ch, (b ∈ X.ex ∨ X.s₀.heap.objs.size ≤ b) ∧ b ≠ X.env.locals ∧ (∀ x c, X.env.cells.lookup x = some c → c ≠ b) ∧ ∀ p ∈ X.pn ++ pins, p.1 ≠ b)
    (keep : ∀ b o, b ≠ X.env.locals → b ∉ X.fs → b ∉ ch → s.heap.get? b = some o → H b = none → h'.get? b = some o)
    (slot : ∀ b o, b ≠ X.env.locals → b ∈ X.fs → b ∉ ch → s.heap.get? b = some o → H b = none → ∃ sl, h'.get? b = some { o with slots := sl }) (free : ∀ b o, b ∉ ch → s.heap.get? b = some o → H b = none → H' b = none)
    (there : ∀ b o, b ∉ ch → s.heap.get? b = some o → ∃ o', h'.get? b = some o')
    (tups : ∀ b xs, H b = some (.tup xs) → H' b = some (.tup xs)) (frzs : ∀ b o u, H b = some (.frz o u) → H' b = some (.frz o u)) (tbls : ∀ b ps, H b = some (.tbl ps) → ∃ more, H' b = some (.tbl (ps ++ more)))
    (ns : ∀ m, s.heap.Ns X.env.locals m → h'.Ns X.env.locals m) (hok : HOk X.prog X.w H' h') (hg : AllBare g') :
    Inv X pins σ H' { s with heap := h', gens := g', drawn := d', toks := t' } := by
  have neL : ∀ b o, X.s₀.heap.get? b = some o → b ≠ X.env.locals := fun b o e => Nat.ne_of_lt (Nat.lt_of_lt_of_le (Heap.lt_size e) I.ok.above)
  have neC : ∀ b o, X.s₀.heap.get? b = some o → b ∉ X.ex → b ∉ ch := fun b o e hx hb => by
    rcases (hch b hb).1 with z | z
    · exact hx z
    · exact absurd (Nat.lt_of_lt_of_le (Heap.lt_size e) z) (Nat.lt_irrefl _)
  have cellK : ∀ x c, X.env.cells.lookup x = some c → ∀ v, s.heap.IsCell c v → h'.IsCell c v := fun x c e v ⟨o, ho, hd⟩ => by
    have nch : c ∉ ch := fun z => (hch c z).2.2.1 x c e rfl
    by_cases hc : c ∈ X.fs
    · obtain ⟨sl, q⟩ := slot c o (I.cne x c e) hc nch ho (I.freeC x c e)
      exact ⟨_, q, hd⟩
    · exact ⟨o, keep c o (I.cne x c e) hc nch ho (I.freeC x c e), hd⟩
  refine ⟨I.ok, I.os, hg, ⟨fun b o e n hb hx => ?_, fun b o e n hb hx => ?_, fun b o e n hx => ?_, fun b o e hx => ?_, fun b xs e => tups b xs (I.base.tups b xs e), fun b o xs e => frzs b o xs (I.base.frzs b o xs e), fun b ps e => ?_⟩, ?_, fun x c e => ?_, ?_, fun x c e => ?_, fun p hp => ?_, hok, I.len⟩
  · exact keep b o (neL b o e) hb (neC b o e hx) (I.base.keep b o e n hb hx) (I.base.free b o e n hx)
  · obtain ⟨sl, e1⟩ := I.base.slot b o e n hb hx
    obtain ⟨sl', e2⟩ := slot b _ (neL b o e) hb (neC b o e hx) e1 (I.base.free b o e n hx)
    exact ⟨sl', e2⟩
  · obtain ⟨o', e1⟩ := I.base.there b o e hx
    exact free b o' (neC b o e hx) e1 (I.base.free b o e n hx)
  · obtain ⟨o', e1⟩ := I.base.there b o e hx
    exact there b o' (neC b o e hx) e1
  · obtain ⟨m1, e1⟩ := I.base.tbls b ps e
    obtain ⟨m2, e2⟩ := tbls b _ e1
    exact ⟨m1 ++ m2, by rw [e2, Array.append_assoc]⟩
  · obtain ⟨m, hn, hl⟩ := I.loc
    refine ⟨m, ns m hn, fun i x v e1 e2 e3 => ?_⟩
    obtain ⟨u, r, l⟩ := hl i x v e1 e2 e3
    refine ⟨u, r, ?_⟩
    rcases l with l | ⟨k, c, e, z⟩
    · exact .inl l
    · exact .inr ⟨k, c, e, cellK x c e _ z⟩
  · obtain ⟨v, z⟩ := I.cell x c e
    exact ⟨v, cellK x c e v z⟩
  · obtain ⟨m, ⟨o, _, _, ho, _⟩, _⟩ := I.loc
    exact free _ o (fun z => (hch _ z).2.1 rfl) ho I.free
  · obtain ⟨v, o, ho, hd⟩ := I.cell x c e
    exact free c o (fun z => (hch c z).2.2.1 x c e rfl) ho (I.freeC x c e)
  · obtain ⟨e, n, ne, nf, d⟩ := I.pin p hp
    have nch : p.1 ∉ ch := fun z => (hch p.1 z).2.2.2 p hp rfl
    exact ⟨keep p.1 p.2 ne nf nch e n, free p.1 p.2 nch e n, ne, nf, d⟩
theorem Inv.un {t' : Nat} (I : Inv X pins σ H s) (u : Un X.fs [] H H' s.heap h') (hok : HOk X.prog X.w H' h') : Inv X pins σ H' { s with heap := h', toks := t' } := by
  obtain ⟨m, ⟨o, es, ep, ho, r⟩, _⟩ := id I.loc
  obtain ⟨sl, hL⟩ := u.any ho I.free (by simp)
  exact I.step (g' := s.gens) (d' := s.drawn) (ch := []) (fun _ z => nomatch z) (fun b o _ hb _ e n => u.keep b o e n hb (by simp)) (fun b o _ hb _ e n => u.slot b o e n hb (by simp)) (fun b o _ e n => u.free b o e n (by simp)) (fun b o _ e => u.there b o e (by simp)) u.tups u.frzs u.tbls (fun m' hm => by
    obtain ⟨o', es', ep', ho', r'⟩ := hm
    rw [ho] at ho'; cases ho'
    exact ⟨_, es', ep', hL, r'⟩) hok I.bare
theorem Inv.call {g' : Array GenState} {t' : Nat} {d' : Drawn} {ch : List Addr} (I : Inv X pins σ H s) (u : Un (frs X.stack) ch H H' s.heap h') (hok : HOk X.prog X.w H' h') (hg : AllBare g')
    (hch : ∀ b ∈ ch, (b ∈ X.ex ∨ X.s₀.heap.objs.size ≤ b) ∧ b ≠ X.env.locals ∧ (∀ x c, X.env.cells.lookup x = some c → c ≠ b) ∧ ∀ p ∈ X.pn ++ pins, p.1 ≠ b) :
    Inv X pins σ H' { s with heap := h', gens := g', drawn := d', toks := t' } := by
  obtain ⟨m, ⟨o, es, ep, ho, r⟩, _⟩ := id I.loc
  obtain ⟨sl, hL⟩ := u.any ho I.free fun z => (hch _ z).2.1 rfl
  exact I.step (ch := ch) hch (fun b o hL hb hc e n => u.keep b o e n (fun z => (List.mem_cons.mp (I.stkSub b z)).elim hL hb) hc) (fun b o _ _ hc e n => u.any e n hc) (fun b o hc e n => u.free b o e n hc) (fun b o hc e => u.there b o e hc) u.tups u.frzs u.tbls (fun m' hm => by
    obtain ⟨o', es', ep', ho', r'⟩ := hm
    rw [ho] at ho'; cases ho'
    exact ⟨_, es', ep', hL, r'⟩) hok hg
theorem Inv.turned {t' : Nat} {it : Addr} (I : Inv X pins σ H s) (k : ∀ b o, b ≠ it → s.heap.get? b = some o → h'.get? b = some o) (hn : H it = none) (hL : it ≠ X.env.locals)
    (h1 : it ∈ X.ex ∨ X.s₀.heap.objs.size ≤ it) (h2 : ∀ x c, X.env.cells.lookup x = some c → c ≠ it) (h3 : ∀ p ∈ X.pn ++ pins, p.1 ≠ it) : Inv X pins σ H { s with heap := h', toks := t' } := by
  have nit : ∀ b u, H b = some u → b ≠ it := fun b u e z => by rw [z, hn] at e; cases e
  refine I.step (g' := s.gens) (d' := s.drawn) (ch := [it]) (fun b hb => ?_) (fun b o _ _ hc e _ => k b o (fun z => hc (by simp [z])) e) (fun b o _ _ hc e _ => ⟨o.slots, k b o (fun z => hc (by simp [z])) e⟩) (fun _ _ _ _ n => n)
    (fun b o hc e => ⟨o, k b o (fun z => hc (by simp [z])) e⟩) (fun _ _ e => e) (fun _ _ _ e => e) (fun b ps e => ⟨#[], by rw [e]; simp⟩) (fun m hm => ?_) (fun b u e => ?_) I.bare
  · have e : b = it := by simpa using hb
    subst e
    exact ⟨h1, hL, h2, h3⟩
  · obtain ⟨o, es, ep, ho, r⟩ := hm
    exact ⟨o, es, ep, k _ o (Ne.symm hL) ho, r⟩
  · refine (I.hok b u e).stay (fun c v hc q => k c v ?_ q) (fun _ q => q) fun _ _ q => q
    rcases hc with z | z
    · rw [z]; exact nit b u e
    · exact nit c _ z
theorem Inv.tok (I : Inv X pins σ H s) (t : Nat) : Inv X pins σ H { s with toks := t } := I.un (h' := s.heap) (t' := t) Un.refl I.hok
theorem Inv.kept {t' : Nat} (I : Inv X pins σ H s) (k : ∀ b u, s.heap.get? b = some u → h'.get? b = some u) : Inv X pins σ H { s with heap := h', toks := t' } := I.un (Un.kept k) (I.hok.kept k)
theorem Inv.laid {a : Addr} {o : HO} {t' : Nat} (I : Inv X pins σ H s) (k : ∀ b u, s.heap.get? b = some u → h'.get? b = some u) (hp : s.heap.objs.size ≤ a) (new : ObjOk X.prog X.w (upd H a o) h' a o) :
    Inv X pins σ (upd H a o) { s with heap := h', toks := t' } := I.un (Un.laid k hp (I.hok.fresh hp)) (I.hok.laid k hp new)
theorem Inv.write {x e : Addr} {o : HO} {t' : Nat} (I : Inv X pins σ H s) (mu : Mut (H x)) (he : e = x ∨ H e = some (.own x)) (k : ∀ b u, b ≠ e → s.heap.get? b = some u → h'.get? b = some u) (heo : ∃ u, h'.get? e = some u)
    (new : ObjOk X.prog X.w (upd H x o) h' x o) : Inv X pins σ (upd H x o) { s with heap := h', toks := t' } := I.un (Un.write mu he k heo) (I.hok.write mu he k heo new)
theorem Inv.pins_of {pins' : List (Addr × Obj)} (I : Inv X pins σ H s) (h : ∀ p ∈ pins', s.heap.get? p.1 = some p.2 ∧ H p.1 = none ∧ p.1 ≠ X.env.locals ∧ p.1 ∉ X.fs ∧ ∀ v, p.2.data ≠ .cell v) : Inv X pins' σ H s :=
  ⟨I.ok, I.os, I.bare, I.base, I.loc, I.cell, I.free, I.freeC, fun p hp => (List.mem_append.mp hp).elim (fun z => I.pin p (List.mem_append_left _ z)) (h p), I.hok, I.len⟩
theorem nodup_ix {N : List Str} (hN : N.Nodup) {i j : Nat} {x : Str} (a : N[i]? = some x) (b : N[j]? = some x) : i = j := by
  obtain ⟨h1, e1⟩ := List.getElem?_eq_some_iff.mp a
  obtain ⟨h2, e2⟩ := List.getElem?_eq_some_iff.mp b
  exact (List.getElem_inj hN).mp (e1.trans e2.symm)
theorem store_ok2 {M : Model} {A : Around} {E : Value → Shared → Prop} {i : Nat} {x : Str} {v : V} {u : Value} {Q : Unit → Shared → Prop} (I : Inv X pins σ H s) (hN : X.N.Nodup) (hi : X.N[i]? = some x) (hx : Loc X.env.scope x) (r : RelV v u)
    (h : ∀ s', Inv X pins (σ.set i (some v)) H s' → (∃ a, Heap.SameBut a s.heap s'.heap ∧ (a = X.env.locals ∨ X.env.cells.lookup x = some a)) → Q () s') (hf : X.fn x = true ∨ X.env.scope.names.lookup x = some .local := by first | exact .inl rfl | exact .inr rfl | assumption) : wpAny M A (storeName X.env x u) Q E s := by
  obtain ⟨m, hn, hl⟩ := id I.loc
  have hcls : (X.env.scope.kind == .class || (X.env.scope.kind == .module && X.env.locals != X.env.globals)) = false := by rw [I.ok.kind]; rfl
  have hiσ : i < σ.length := by rw [I.len]; exact (List.getElem?_eq_some_iff.mp hi).1
  have cne := I.cne
  have tracked : ∀ {a : Addr} {h' : Heap}, (∃ o, s.heap.get? a = some o ∧ H a = none) → Heap.SameBut a s.heap h' → HOk X.prog X.w H h' := fun {a h'} ha hs b ob e => by
    obtain ⟨_, _, hfree⟩ := ha
    refine (I.hok b ob e).stay (fun c w' hc q => (hs.2 c ?_).trans q) (fun _ q => q) fun _ _ q => q
    rintro rfl
    rcases hc with rfl | hc
    · rw [hfree] at e; cases e
    · rw [hfree] at hc; cases hc
  rcases hx with hk | hk
  · refine wpAny_storeName_local hk hn (fun h' hn' hs => ?_) hcls
    obtain ⟨oL, _, _, hoL, _⟩ := id hn
    refine h _ ⟨I.ok, I.os, I.bare, ⟨fun b o e n hb hx => ?_, fun b o e n hb hx => ?_, I.base.free, fun b o e hx => ?_, I.base.tups, I.base.frzs, I.base.tbls⟩, ⟨_, hn', fun j y v' e1 e2 e3 => ?_⟩, fun y c e => ?_, I.free, I.freeC, fun p hp => ?_, tracked ⟨oL, hoL, I.free⟩ hs, by simpa using I.len⟩ ⟨_, hs, .inl rfl⟩
    · exact (hs.2 b (Nat.ne_of_lt (Nat.lt_of_lt_of_le (Heap.lt_size e) I.ok.above))).trans (I.base.keep b o e n hb hx)
    · obtain ⟨sl, e1⟩ := I.base.slot b o e n hb hx
      exact ⟨sl, (hs.2 b (Nat.ne_of_lt (Nat.lt_of_lt_of_le (Heap.lt_size e) I.ok.above))).trans e1⟩
    · obtain ⟨o', e1⟩ := I.base.there b o e hx
      exact ⟨o', (hs.2 b (Nat.ne_of_lt (Nat.lt_of_lt_of_le (Heap.lt_size e) I.ok.above))).trans e1⟩
    · by_cases hj : j = i
      · subst hj
        rw [hi] at e1; cases e1
        rw [List.getElem?_set_self hiσ] at e2
        cases e2
        exact ⟨u, r, .inl ⟨hk, by simp⟩⟩
      · rw [List.getElem?_set_ne (Ne.symm hj)] at e2
        obtain ⟨u', r', q⟩ := hl j y v' e1 e2 e3
        refine ⟨u', r', ?_⟩
        rcases q with ⟨k, e⟩ | ⟨k, c, e, z⟩
        · refine .inl ⟨k, ?_⟩
          have : y ≠ x := fun e => hj (nodup_ix hN e1 (e ▸ hi))
          simp [this, e]
        · exact .inr ⟨k, c, e, z.sameBut hs (cne y c e)⟩
    · obtain ⟨w', z⟩ := I.cell y c e
      exact ⟨w', z.sameBut hs (cne y c e)⟩
    · obtain ⟨e, n, ne, nf, d⟩ := I.pin p hp
      exact ⟨(hs.2 p.1 ne).trans e, n, ne, nf, d⟩
  · have hfn : X.fn x = true := by
      rcases hf with z | z
      · exact z
      · rw [z] at hk; cases hk
    obtain ⟨c, hc⟩ := I.ok.has x (.inl hk)
    obtain ⟨w', z⟩ := I.cell x c hc
    refine wpAny_storeName_cell I.ok.kind hk hc z (fun h' hc' hs => ?_)
    obtain ⟨oc, hoc, hocd⟩ := id z
    refine h { s with heap := h' } ⟨I.ok, I.os, I.bare, ⟨fun b o e n hb hx => ?_, fun b o e n hb hx => ?_, I.base.free, fun b o e hx => ?_, I.base.tups, I.base.frzs, I.base.tbls⟩, ⟨m, hn.sameBut hs (Ne.symm (cne x c hc)), fun j y v' e1 e2 e3 => ?_⟩, fun y c' e => ?_, I.free, I.freeC, fun p hp => ?_, tracked ⟨oc, hoc, I.freeC x c hc⟩ hs, by simpa using I.len⟩ ⟨c, hs, .inr hc⟩
    · exact (hs.2 b (Nat.ne_of_lt (Nat.lt_of_lt_of_le (Heap.lt_size e) (I.ok.cab x c hfn hc)))).trans (I.base.keep b o e n hb hx)
    · obtain ⟨sl, e1⟩ := I.base.slot b o e n hb hx
      exact ⟨sl, (hs.2 b (Nat.ne_of_lt (Nat.lt_of_lt_of_le (Heap.lt_size e) (I.ok.cab x c hfn hc)))).trans e1⟩
    · obtain ⟨o', e1⟩ := I.base.there b o e hx
      exact ⟨o', (hs.2 b (Nat.ne_of_lt (Nat.lt_of_lt_of_le (Heap.lt_size e) (I.ok.cab x c hfn hc)))).trans e1⟩
    · by_cases hj : j = i
      · subst hj
        rw [hi] at e1; cases e1
        rw [List.getElem?_set_self hiσ] at e2
        cases e2
        exact ⟨u, r, .inr ⟨.inl hk, c, hc, hc'⟩⟩
      · rw [List.getElem?_set_ne (Ne.symm hj)] at e2
        obtain ⟨u', r', q⟩ := hl j y v' e1 e2 e3
        refine ⟨u', r', ?_⟩
        rcases q with q | ⟨k, c', e, z'⟩
        · exact .inl q
        · refine .inr ⟨k, c', e, z'.sameBut hs ?_⟩
          rintro rfl
          exact hj (nodup_ix hN e1 (I.ok.inj _ _ _ e hc ▸ hi))
    · by_cases hcc : c' = c
      · subst hcc; exact ⟨_, hc'⟩
      · obtain ⟨w2, z2⟩ := I.cell y c' e
        exact ⟨w2, z2.sameBut hs hcc⟩
    · obtain ⟨e, n, ne, nf, d⟩ := I.pin p hp
      refine ⟨(hs.2 p.1 ?_).trans e, n, ne, nf, d⟩
      intro q
      rw [q, hoc] at e
      have q' : oc = p.2 := Option.some.inj e
      exact d w' (by rw [← q']; exact hocd)
theorem store_ok {M : Model} {A : Around} {E : Value → Shared → Prop} {i : Nat} {x : Str} {v : V} {u : Value} {Q : Unit → Shared → Prop} (I : Inv X pins σ H s) (hN : X.N.Nodup) (hi : X.N[i]? = some x) (hx : Loc X.env.scope x) (r : RelV v u)
    (h : ∀ s', Inv X pins (σ.set i (some v)) H s' → Q () s') (hf : X.fn x = true ∨ X.env.scope.names.lookup x = some .local := by first | exact .inl rfl | exact .inr rfl | assumption) : wpAny M A (storeName X.env x u) Q E s :=
  store_ok2 I hN hi hx r (fun s' I' _ => h s' I') hf
theorem Inv.call' {s' : Shared} {ch : List Addr} (I : Inv X pins σ H s) (ho : s'.os = s.os) (u : Un (frs X.stack) ch H H' s.heap s'.heap) (hok : HOk X.prog X.w H' s'.heap) (hg : AllBare s'.gens)
    (hch : ∀ b ∈ ch, (b ∈ X.ex ∨ X.s₀.heap.objs.size ≤ b) ∧ b ≠ X.env.locals ∧ (∀ x c, X.env.cells.lookup x = some c → c ≠ b) ∧ ∀ p ∈ X.pn ++ pins, p.1 ≠ b) : Inv X pins σ H' s' := by
  obtain ⟨h', g', d', t', o'⟩ := s'
  have e : o' = s.os := ho
  subst e
  exact I.call (g' := g') (t' := t') (d' := d') u hok hg hch
end
abbrev XK := Value → Option Addr → Hp → Prop
abbrev St := List (Option V)
abbrev VK := V → Hp → Prop
abbrev TE := St → Hp → VK → Prop
abbrev TT := St → Hp → (Bool → Hp → Prop) → Prop
abbrev TA := St → Hp → (List V → Hp → Prop) → Prop
structure Ends where
  nx : St → Hp → Prop
  rt : VK
  bk : St → Hp → Prop := fun _ _ => False
  ct : St → Hp → Prop := fun _ _ => False
abbrev TS := Ends → St → Hp → Prop
def EP (X : Cx) (pins : List (Addr × Obj)) (σ : St) (Q : VK) (u : Value) (s' : Shared) : Prop := ∃ v H', Inv X pins σ H' s' ∧ RelV v u ∧ Q v H'
def TP (X : Cx) (pins : List (Addr × Obj)) (σ : St) (Q : Bool → Hp → Prop) (b : Bool) (s' : Shared) : Prop := ∃ H', Inv X pins σ H' s' ∧ Q b H'
def AP (X : Cx) (pins : List (Addr × Obj)) (σ : St) (Q : List V → Hp → Prop) (us : List Value) (s' : Shared) : Prop := ∃ vs H', Inv X pins σ H' s' ∧ Vals vs us ∧ Q vs H'
def SP (X : Cx) (pins : List (Addr × Obj)) (D : Ends) (f : Flow) (s' : Shared) : Prop :=
  match f with
  | .next => ∃ σ' H', Inv X pins σ' H' s' ∧ D.nx σ' H'
  | .brk => ∃ σ' H', Inv X pins σ' H' s' ∧ D.bk σ' H'
  | .cont => ∃ σ' H', Inv X pins σ' H' s' ∧ D.ct σ' H'
  | .ret u => ∃ v σ' H', Inv X pins σ' H' s' ∧ RelV v u ∧ D.rt v H'
def PE (X : Cx) (e : Expr) (t : TE) : Prop :=
  ∀ (pins : List (Addr × Obj)) (s : Shared) (σ : St) (H : Hp) (Q : VK), Inv X pins σ H s → t σ H Q → wpAny (model X.prog X.w) X.A (eval e X.env) (EP X pins σ Q) X.xe s
def PT (X : Cx) (e : Expr) (t : TT) : Prop :=
  ∀ (pins : List (Addr × Obj)) (s : Shared) (σ : St) (H : Hp) (Q : Bool → Hp → Prop), Inv X pins σ H s → t σ H Q → wpAny (model X.prog X.w) X.A (isTrue e X.env (eval e X.env)) (TP X pins σ Q) X.xe s
def PW (X : Cx) (e : Expr) (t : TT) : Prop :=
  ∀ (whole : Sem Value) (pins : List (Addr × Obj)) (s : Shared) (σ : St) (H : Hp) (Q : Bool → Hp → Prop), Inv X pins σ H s → t σ H Q → wpAny (model X.prog X.w) X.A (isTrue e X.env whole) (TP X pins σ Q) X.xe s
theorem PW.pt {X : Cx} {e : Expr} {t : TT} (h : PW X e t) : PT X e t := h _
def PA (X : Cx) (es : List Expr) (t : TA) : Prop :=
  ∀ (pos : Pos) (pins : List (Addr × Obj)) (s : Shared) (σ : St) (H : Hp) (Q : List V → Hp → Prop), Inv X pins σ H s → t σ H Q → wpAny (model X.prog X.w) X.A (spliced (backTo pos (starEach es X.env))) (AP X pins σ Q) X.xe s
def PS (X : Cx) (st : Stmt) (t : TS) : Prop :=
  ∀ (pins : List (Addr × Obj)) (s : Shared) (σ : St) (H : Hp) (D : Ends), Inv X pins σ H s → t D σ H → wpAny (model X.prog X.w) X.A (exec st X.env) (SP X pins D) X.xe s
def PSs (X : Cx) (st : List Stmt) (t : TS) : Prop :=
  ∀ (pins : List (Addr × Obj)) (s : Shared) (σ : St) (H : Hp) (D : Ends), Inv X pins σ H s → t D σ H → wpAny (model X.prog X.w) X.A (execs st X.env) (SP X pins D) X.xe s
theorem thn {α : Type} {t : Sem α} {Q Q' : α → Shared → Prop} {M : Model} {A : Around} {E : Value → Shared → Prop} {s : Shared} (h : wpAny M A t Q E s) (hQ : ∀ a s, Q a s → Q' a s) : wpAny M A t Q' E s := wpAny_mono h hQ fun _ _ x => x
end L2
namespace L2
open PySem PySem.Spec PyProof.Rows
section
variable {X : Cx}
theorem bin {a b : Expr} {ta tb : TE} (ha : PE X a ta) (hb : PE X b tb) {pins : List (Addr × Obj)} {s : Shared} {σ : St} {H : Hp} {R : V → V → Hp → Prop} (I : Inv X pins σ H s) (h : ta σ H fun x H1 => tb σ H1 fun y H2 => R x y H2)
    {α : Type} {Q : α → Shared → Prop} {f : Value → Value → Sem α}
    (hf : ∀ v u s2 x y H2, Inv X pins σ H2 s2 → RelV x v → RelV y u → R x y H2 → wpAny (model X.prog X.w) X.A (f v u) Q X.xe s2) :
    wpAny (model X.prog X.w) X.A (eval a X.env) (fun v s₁ => wpAny (model X.prog X.w) X.A (eval b X.env) (fun u s₂ => wpAny (model X.prog X.w) X.A (f v u) Q X.xe s₂) X.xe s₁) X.xe s := by
  refine thn (ha pins s σ H _ I h) fun v s1 ⟨x, H1, I1, r1, q1⟩ => ?_
  refine thn (hb pins s1 σ H1 _ I1 q1) fun u s2 ⟨y, H2, I2, r2, q2⟩ => ?_
  exact hf v u s2 x y H2 I2 r1 r2 q2
def tVar (i : Nat) : TE := fun σ H Q => ∃ v, σ[i]? = some (some v) ∧ Q v H
def tC (v : V) : TE := fun _ H Q => Q v H
theorem pe_var {i : Nat} {x : Str} {pos : Pos} (hN : X.N[i]? = some x) (hv : Vis X.env.scope x) (hd : (x == ("__debug__" : Str)) = false := by decide) (hcd : (x == ("__classdict__" : Str)) = false := by decide) : PE X (.Name x pos) (tVar i) := by
  intro pins s σ H Q I h
  obtain ⟨v, e, h⟩ := h
  obtain ⟨m, hn, hl⟩ := I.loc
  obtain ⟨u, r, l⟩ := hl i x v hN e hv
  have fin : EP X pins σ Q u s := ⟨v, H, I, r, h⟩
  rcases l with ⟨hk, hm⟩ | ⟨hk, c, hc, hcell⟩
  · exact wpAny_Name (wpAny_loadName_local I.ok.kind hk hn hm fin) hd
  · rcases hk with hk | hk
    · exact wpAny_Name (wpAny_loadName_cell I.ok.kind hk hc hcell fin) hd
    · exact wpAny_Name (wpAny_loadName_free I.ok.kind hk hc hcell fin hcd) hd
theorem pe_int {i j pos} : PE X (.Constant (.int i) j pos) (tC (.int i)) := fun _ _ _ H _ I h => wpAny_Constant_int ⟨.int i, H, I.tok _, ⟨_, rfl⟩, h⟩
theorem pe_bl {b j pos} : PE X (.Constant (.bool b) j pos) (tC (.bl b)) := fun _ _ _ H _ I h => Constant_bool ⟨.bl b, H, I, rfl, h⟩
theorem pe_non {j pos} : PE X (.Constant .none j pos) (tC .non) := fun _ _ _ H _ I h => Constant_none ⟨.non, H, I, rfl, h⟩
theorem pe_str {x j pos} : PE X (.Constant (.str x) j pos) (tC (.str x)) := fun _ _ _ H _ I h => Calls.Constant_str ⟨.str x, H, I.tok _, ⟨_, rfl⟩, h⟩
def Gl (X : Cx) (x : Str) : Prop := X.env.kindOf x = some .globalImplicit
theorem ld_glob {E : Value → Shared → Prop} {pins : List (Addr × Obj)} {s : Shared} {σ : St} {H : Hp} {x : Str} {u : Value} {pos : Pos} {Q : Value → Shared → Prop} (I : Inv X pins σ H s) (hg : Gl X x) (hm : X.mg x = some u) (h : Q u s)
    (hd : (x == ("__debug__" : Str)) = false := by decide) : wpAny (model X.prog X.w) X.A (eval (.Name x pos) X.env) Q E s :=
  Calls.Name_function_global I.ok.kind hg (Calls.loadGlobal_global (by rw [I.ok.glob]; exact I.mod.glob.keeps I.bk) hm h) hd
theorem ld_blt {E : Value → Shared → Prop} {pins : List (Addr × Obj)} {s : Shared} {σ : St} {H : Hp} {x : Str} {u : Value} {pos : Pos} {Q : Value → Shared → Prop} (I : Inv X pins σ H s) (hg : Gl X x) (hm : X.mg x = none) (hv : bootBuiltins x = some u) (h : Q u s)
    (hn : x ≠ "__name__" := by decide) (hd : (x == ("__debug__" : Str)) = false := by decide) : wpAny (model X.prog X.w) X.A (eval (.Name x pos) X.env) Q E s := by
  obtain ⟨mb, h1, h2⟩ := I.mod.blt
  exact Calls.Name_function_global I.ok.kind hg (Calls.loadGlobal_builtin (by rw [I.ok.glob]; exact I.mod.glob.keeps I.bk) hm (by rw [I.ok.blt]; exact h1.keeps I.bk) ((h2 x hn).trans hv) h) hd
theorem pe_glob {x : Str} {v : V} {u : Value} {pos : Pos} (hg : Gl X x) (hm : X.mg x = some u) (r : RelV v u) (hd : (x == ("__debug__" : Str)) = false := by decide) : PE X (.Name x pos) (tC v) :=
  fun _ _ _ H _ I h => ld_glob I hg hm ⟨v, H, I, r, h⟩ hd
theorem pe_bltn {x : Str} {v : V} {u : Value} {pos : Pos} (hg : Gl X x) (hm : X.mg x = none) (hv : bootBuiltins x = some u) (r : RelV v u) (hn : x ≠ "__name__" := by decide) (hd : (x == ("__debug__" : Str)) = false := by decide) : PE X (.Name x pos) (tC v) :=
  fun _ _ _ H _ I h => ld_blt I hg hm hv ⟨v, H, I, r, h⟩ hn hd
variable {a b : Expr} {ta tb : TE} {pos : Pos}
def tB (t : TE) : TT := fun σ H Q => t σ H fun x H1 => ∃ c, x = .bl c ∧ Q c H1
theorem pt_val {e : Expr} {t : TE} (h : PE X e t) (he : ∀ whole, isTrue e X.env whole = (do let v ← whole; standAt e.pos; holding [v] (truthy v)) := by intro _; rfl) : PT X e (tB t) := by
  intro pins s σ H Q I hw
  refine isTrue_plain (thn (h pins s σ H _ I hw) fun v s1 ⟨x, H1, I1, r1, q1⟩ => ?_) (he _)
  obtain ⟨d, rfl, q⟩ := q1
  cases r1
  exact wpAny_truthy_bool ⟨H1, I1, q⟩
variable {tA tB' : TT} {rest : List Expr}
def tOr (t u : TT) : TT := fun σ H Q => t σ H fun c H1 => if c = true then Q true H1 else u σ H1 Q
def tNot (t : TT) : TT := fun σ H Q => t σ H fun c H1 => Q (!c) H1
theorem pw_or1 (ha : PT X a tA) : PW X (.BoolOp .Or [a] pos) tA := by
  intro wh pins s σ H Q I h
  refine isTrue_or (thn (ha pins s σ H Q I h) fun c s1 e => ?_)
  cases c with
  | false => exact isTrue_or_nil e
  | true => exact e
theorem pw_or (ha : PT X a tA) (hb : PW X (.BoolOp .Or (b :: rest) pos) tB') : PW X (.BoolOp .Or (a :: b :: rest) pos) (tOr tA tB') := by
  intro wh pins s σ H Q I h
  refine isTrue_or (thn (ha pins s σ H _ I h) fun c s1 ⟨H1, I1, q1⟩ => ?_)
  cases c with
  | true => exact ⟨H1, I1, q1⟩
  | false => exact hb wh pins s1 σ H1 Q I1 q1
theorem pt_not (ha : PT X a tA) : PT X (.UnaryOp .Not a pos) (tNot tA) := by
  intro pins s σ H Q I h
  exact isTrue_not (ha pins s σ H (fun c H1 => Q (!c) H1) I h)
def tIf (t : TT) (ta tb : TE) : TE := fun σ H Q => t σ H fun c H1 => if c = true then ta σ H1 Q else tb σ H1 Q
theorem pe_ifExp {c : Expr} (hc : PT X c tA) (ha : PE X a ta) (hb : PE X b tb) : PE X (.IfExp c a b pos) (tIf tA ta tb) := by
  intro pins s σ H Q I h
  refine wpAny_IfExp (thn (hc pins s σ H _ I h) fun d s1 ⟨H1, I1, q1⟩ => ?_)
  cases d with
  | true => exact ha pins s1 σ H1 Q I1 q1
  | false => exact hb pins s1 σ H1 Q I1 q1
end
end L2
namespace L2
open PySem PySem.Spec PyProof.Rows
def SqL (K : PySem.W.Frag) (H : Hp) (a : Addr) (xs : List V) : Prop :=
  Rd H a (.lst xs) ∨
    ∃ (o : Obj) (its : Array Value) (n : Nat), K.lookup a = some o ∧ o.cls = .type "list" ∧ o.dict = none ∧ o.data = .seq its n ∧ its.size ≤ sizeLine ∧ Vals xs its.toList
def SqT (K : PySem.W.Frag) (H : Hp) (a : Addr) (xs : List V) : Prop :=
  Rd H a (.tup xs) ∨
    ∃ (o : Obj) (its : Array Value) (n : Nat), K.lookup a = some o ∧ o.cls = .type "tuple" ∧ o.data = .seq its n ∧ its.size ≤ sizeLine ∧ Vals xs its.toList
def absV : Value → Option V
  | .none => some .non
  | .bool b => some (.bl b)
  | .int i _ => some (.int i)
  | .str x _ => some (.str x)
  | .bytes b _ => some (.byt b)
  | .float b _ => some (.flt b)
  | .ref a => some (.ref a)
  | .type n => some (.ty n)
  | _ => none
theorem RelV.abs {x : V} {u : Value} (r : RelV x u) : absV u = some x := by
  cases x with
  | non => cases r; rfl
  | bl _ => cases r; rfl
  | int _ => obtain ⟨t, rfl⟩ := r; rfl
  | str _ => obtain ⟨t, rfl⟩ := r; rfl
  | byt _ => obtain ⟨t, rfl⟩ := r; rfl
  | flt _ => obtain ⟨t, rfl⟩ := r; rfl
  | ref _ => cases r; rfl
  | ty _ => cases r; rfl
theorem RelV.inj {x y : V} {u : Value} (r : RelV x u) (q : RelV y u) : x = y := Option.some.inj (r.abs.symm.trans q.abs)
theorem Vals.inj : ∀ {xs ys : List V} {us : List Value}, Vals xs us → Vals ys us → xs = ys
  | _, _, _, .nil, .nil => rfl
  | _, _, _, .cons r t, .cons r' t' => by rw [r.inj r', Vals.inj t t']
section
variable {X : Cx} {pins : List (Addr × Obj)} {σ : St} {H : Hp} {s : Shared} {a : Addr} {xs ys : List V}
theorem SqL.of {K : PySem.W.Frag} (h : H a = some (.lst xs)) : SqL K H a xs := .inl (.inl h)
theorem SqT.of {K : PySem.W.Frag} (h : H a = some (.tup xs)) : SqT K H a xs := .inl (.inl h)
theorem Inv.list (I : Inv X pins σ H s) (h : SqL X.K H a xs) : ∃ its : List Value, Vals xs its ∧ PlainL s.heap a its.toArray ∧ xs.length ≤ sizeLine := by
  rcases h with h | ⟨o, its, n, hk, hc, hd, hs, hz, r⟩
  · obtain ⟨z, its, n, r, e⟩ := h.ok I.hok
    exact ⟨its, r, ⟨_, n, e, rfl, rfl, rfl⟩, z⟩
  · refine ⟨its.toList, r, ⟨o, n, I.kIn a o hk, hc, hd, by simpa using hs⟩, ?_⟩
    have e := r.length
    simp only [Array.length_toList] at e
    omega
theorem Inv.tuple (I : Inv X pins σ H s) (h : SqT X.K H a xs) : ∃ its : List Value, Vals xs its ∧ IsTup s.heap a its.toArray ∧ xs.length ≤ sizeLine := by
  rcases h with h | ⟨o, its, n, hk, hc, hs, hz, r⟩
  · obtain ⟨z, its, r, p⟩ := h.ok I.hok
    exact ⟨its, r, p, z⟩
  · refine ⟨its.toList, r, ⟨o, I.kIn a o hk, hc, n, by simpa using hs⟩, ?_⟩
    have e := r.length
    simp only [Array.length_toList] at e
    omega
theorem Inv.list_inj (I : Inv X pins σ H s) (h : SqL X.K H a xs) (h' : SqL X.K H a ys) : xs = ys := by
  obtain ⟨its, r, ⟨o, n, e, _, _, d⟩, _⟩ := I.list h
  obtain ⟨its', r', ⟨o', n', e', _, _, d'⟩, _⟩ := I.list h'
  rw [e] at e'; cases e'
  rw [d] at d'
  injection d' with d1 _
  have : its = its' := by simpa using congrArg Array.toList d1
  subst this
  exact r.inj r'
end
abbrev Cx.wish (X : Cx) (E : Value → Shared → Prop) : Cx := { X with xe := E }
abbrev Cx.nox (X : Cx) : Cx := X.wish fun _ _ => False
theorem Cx.Ok.wish {X : Cx} (ok : X.Ok) (E : Value → Shared → Prop) : (X.wish E).Ok :=
  ⟨ok.mod, ok.kind, ok.glob, ok.blt, ok.above, ok.inj, ok.has, ok.cab, ok.hd, ok.frames, ok.stk, ok.exf, ok.bs, ok.bsz, ok.noex, ok.exfs, ok.funs, ok.frf⟩
theorem Cx.Ok.unwish {X : Cx} {E : Value → Shared → Prop} (ok : (X.wish E).Ok) : X.Ok :=
  ⟨ok.mod, ok.kind, ok.glob, ok.blt, ok.above, ok.inj, ok.has, ok.cab, ok.hd, ok.frames, ok.stk, ok.exf, ok.bs, ok.bsz, ok.noex, ok.exfs, ok.funs, ok.frf⟩
section
variable {X : Cx} {pins : List (Addr × Obj)} {σ : St} {H : Hp} {s : Shared} {E : Value → Shared → Prop}
theorem Inv.wish (I : Inv X pins σ H s) (E : Value → Shared → Prop) : Inv (X.wish E) pins σ H s := ⟨I.ok.wish E, I.os, I.bare, I.base, I.loc, I.cell, I.free, I.freeC, I.pin, I.hok, I.len⟩
theorem Inv.unwish (I : Inv (X.wish E) pins σ H s) : Inv X pins σ H s := ⟨I.ok.unwish, I.os, I.bare, I.base, I.loc, I.cell, I.free, I.freeC, I.pin, I.hok, I.len⟩
theorem SP.unwish {D : Ends} {f : Flow} {s' : Shared} (h : SP (X.wish E) pins D f s') : SP X pins D f s' := by
  cases f with
  | next => obtain ⟨σ', H', I, q⟩ := h; exact ⟨σ', H', I.unwish, q⟩
  | brk => obtain ⟨σ', H', I, q⟩ := h; exact ⟨σ', H', I.unwish, q⟩
  | cont => obtain ⟨σ', H', I, q⟩ := h; exact ⟨σ', H', I.unwish, q⟩
  | ret u => obtain ⟨v, σ', H', I, r, q⟩ := h; exact ⟨v, σ', H', I.unwish, r, q⟩
theorem PE.nox {e : Expr} {t : TE} (h : PE X.nox e t) : PE X e t := fun pins s σ H Q I hw =>
  wpAny_mono (h pins s σ H Q (I.wish _) hw) (fun _ _ ⟨v, H', I', r, q⟩ => ⟨v, H', I'.unwish, r, q⟩) fun _ _ z => False.elim z
theorem PT.nox {e : Expr} {t : TT} (h : PT X.nox e t) : PT X e t := fun pins s σ H Q I hw =>
  wpAny_mono (h pins s σ H Q (I.wish _) hw) (fun _ _ ⟨H', I', q⟩ => ⟨H', I'.unwish, q⟩) fun _ _ z => False.elim z
theorem PSs.nox {st : List Stmt} {t : TS} (h : PSs X.nox st t) : PSs X st t := fun pins s σ H D I hw =>
  wpAny_mono (h pins s σ H D (I.wish _) hw) (fun _ _ q => q.unwish) fun _ _ z => False.elim z
end
section
variable {X : Cx} {st : Stmt} {rest : List Stmt} {t u : TS} {e : Expr} {te : TE} {pos : Pos}
def tNext : TS := fun D σ H => D.nx σ H
def tSeq (t u : TS) : TS := fun D σ H => t { D with nx := u D } σ H
theorem pss_nil : PSs X [] tNext := fun _ _ σ H _ I h => wpAny_execs_nil ⟨σ, H, I, h⟩
theorem pss_cons (h1 : PS X st t) (h2 : PSs X rest u) : PSs X (st :: rest) (tSeq t u) := by
  intro pins s σ H D I h
  refine wpAny_execs_cons (thn (h1 pins s σ H { D with nx := u D } I h) fun f s1 q => ?_)
  cases f with
  | next =>
    obtain ⟨σ', H', I', q⟩ := q
    exact h2 pins s1 σ' H' D I' q
  | ret v => exact q
  | brk => exact q
  | cont => exact q
theorem pss_one (h1 : PS X st t) : PSs X [st] t := by
  intro pins s σ H D I h
  refine wpAny_execs_cons (thn (h1 pins s σ H D I h) fun f s1 q => ?_)
  cases f with
  | next => exact wpAny_execs_nil q
  | ret v => exact q
  | brk => exact q
  | cont => exact q
theorem Inv.quiet {pins : List (Addr × Obj)} {σ : St} {H : Hp} {s : Shared} (I : Inv X pins σ H s) : interactive X.env = false := by simp [interactive, I.ok.kind]
def tRet (te : TE) : TS := fun D σ H => te σ H D.rt
theorem ps_ret (he : PE X e te) : PS X (.Return (some e) pos) (tRet te) := by
  intro pins s σ H D I h
  exact wpAny_Return_some (thn (he pins s σ H _ I h) fun v s1 ⟨x, H1, I1, r1, q1⟩ => ⟨x, σ, H1, I1, r1, q1⟩)
def tIfS (c : TT) (t u : TS) : TS := fun D σ H => c σ H fun b H1 => if b = true then t D σ H1 else u D σ H1
theorem ps_if {c : Expr} {a b : List Stmt} {tc : TT} (hc : PT X c tc) (ha : PSs X a t) (hb : PSs X b u) : PS X (.If c a b pos) (tIfS tc t u) := by
  intro pins s σ H D I h
  refine wpAny_If (thn (hc pins s σ H _ I h) fun d s1 ⟨H1, I1, q1⟩ => ?_)
  cases d with
  | true => exact ha pins s1 σ H1 D I1 q1
  | false => exact hb pins s1 σ H1 D I1 q1
end
abbrev TG := V → St → Hp → (St → Hp → Prop) → Prop
abbrev TGs := List V → St → Hp → (St → Hp → Prop) → Prop
def PG (X : Cx) (target : Expr) (t : TG) : Prop :=
  ∀ (pins : List (Addr × Obj)) (s : Shared) (σ : St) (H : Hp) (v : V) (u : Value) (Q : St → Hp → Prop), Inv X pins σ H s → RelV v u → t v σ H Q →
    wpAny (model X.prog X.w) X.A (assign target X.env u) (fun _ s' => ∃ σ' H', Inv X pins σ' H' s' ∧ Q σ' H') X.xe s
def PGs (X : Cx) (ts : List Expr) (t : TGs) : Prop :=
  ∀ (pins : List (Addr × Obj)) (s : Shared) (σ : St) (H : Hp) (vs : List V) (us : List Value) (Q : St → Hp → Prop), Inv X pins σ H s → Vals vs us → t vs σ H Q →
    wpAny (model X.prog X.w) X.A (assignInOrder ((assignEach ts X.env).map (·.2)) us) (fun _ s' => ∃ σ' H', Inv X pins σ' H' s' ∧ Q σ' H') X.xe s
section
variable {X : Cx} {pos : Pos}
def gName (i : Nat) : TG := fun v σ H Q => Q (σ.set i (some v)) H
theorem pg_name {i : Nat} {x : Str} (hN : X.N.Nodup) (hi : X.N[i]? = some x) (hx : Loc X.env.scope x) (hf : X.fn x = true ∨ X.env.scope.names.lookup x = some .local := by first | exact .inl rfl | exact .inr rfl | assumption) : PG X (.Name x pos) (gName i) := by
  intro pins s σ H v u Q I r h
  exact wpAny_assign_Name (store_ok I hN hi hx r (fun s' I' => ⟨_, H, I', h⟩) hf)
def gNil : TGs := fun vs σ H Q => vs = [] ∧ Q σ H
def gCons (t : TG) (u : TGs) : TGs := fun vs σ H Q => ∃ v r, vs = v :: r ∧ t v σ H fun σ' H' => u r σ' H' Q
theorem pgs_nil : PGs X [] gNil := by
  intro pins s σ H vs us Q I r h
  obtain ⟨e, h⟩ := h
  subst e
  cases r
  exact assignInOrder_nil ⟨σ, H, I, h⟩
theorem pgs_cons {e : Expr} {es : List Expr} {t : TG} {u : TGs} (h1 : PG X e t) (h2 : PGs X es u)
    (hs : (assignEach (e :: es) X.env).map (·.2) = assign e X.env :: (assignEach es X.env).map (·.2) := by rfl) : PGs X (e :: es) (gCons t u) := by
  intro pins s σ H vs us Q I r h
  obtain ⟨v, vr, e1, h⟩ := h
  subst e1
  cases r with
  | cons r rr =>
    rw [hs]
    refine assignInOrder_cons (thn (h1 pins s σ H _ _ _ I r h) fun _ s1 ⟨σ1, H1, I1, q1⟩ => ?_)
    exact h2 pins s1 σ1 H1 _ _ Q I1 rr q1
def gTup (K : PySem.W.Frag) (n : Nat) (t : TGs) : TG := fun v σ H Q => ∃ a xs, v = .ref a ∧ SqT K H a xs ∧ xs.length = n ∧ t xs σ H Q
theorem pg_tup {es : List Expr} {k : Nat} {t : TGs} {n : Nat} (hc : X.calm = true) (h : PGs X es t)
    (hn : (assignEach es X.env).length = n := by rfl) (hst : (assignEach es X.env).findIdx? (·.1) = none := by rfl) : PG X (.Tuple es k pos) (gTup X.K n t) := by
  intro pins s σ H v u Q I r hw
  obtain ⟨a, xs, e1, hq, hl, hw⟩ := hw
  subst e1
  cases r
  obtain ⟨its, rv, ht, hz⟩ := I.tuple hq
  refine assign_Tuple_tuple (I.ok.hd hc) ht (by simp [hn, ← hl, rv.length]) hst fun h' hx => ?_
  have I1 : Inv X pins σ H { s with heap := h' } := I.kept (t' := s.toks) fun b o e => hx b o (Nat.ne_of_lt (Heap.lt_size e)) e
  exact h pins _ σ H xs _ Q I1 (by simpa using rv) hw
def tAsg (te : TE) (g : TG) : TS := fun D σ H => te σ H fun x H1 => g x σ H1 D.nx
theorem ps_set {i : Nat} {x : Str} {e : Expr} {te : TE} {pos' : Pos} (hN : X.N.Nodup) (hi : X.N[i]? = some x) (hx : Loc X.env.scope x) (he : PE X e te) (hs : swapsWith e (some (.Name x pos')) pos.line X.env = pure false := by rfl) (hf : X.fn x = true ∨ X.env.scope.names.lookup x = some .local := by first | exact .inl rfl | exact .inr rfl | assumption) :
    PS X (.Assign [.Name x pos'] e pos) (tAsg te (gName i)) := by
  intro pins s σ H D I h
  refine wpAny_Assign_Name (thn (he pins s σ H _ I h) fun v s1 ⟨y, H1, I1, r1, q1⟩ => ?_) hs
  exact store_ok I1 hN hi hx r1 (fun s2 I2 => ⟨_, H1, I2, q1⟩) hf
end
structure It where
  go : Nat → Hp → Prop
  yld : Nat → Hp → V → Hp → Prop
  stop : Nat → Hp → Prop
def FpOk (X : Cx) (pins : List (Addr × Obj)) (H : Hp) (b : Addr) : Prop :=
  H b = none ∧ b ≠ X.env.locals ∧ b ∉ X.fs ∧ (b ∈ X.ex ∨ X.s₀.heap.objs.size ≤ b) ∧ (∀ x c, X.env.cells.lookup x = some c → c ≠ b) ∧ ∀ p ∈ X.pn ++ pins, p.1 ≠ b
theorem Inv.fpOk {X : Cx} {pins : List (Addr × Obj)} {σ : St} {H H' : Hp} {s : Shared} {b : Addr} (I : Inv X pins σ H s) (hb : s.heap.objs.size ≤ b) (hn : H' b = none) : FpOk X pins H' b := by
  refine ⟨hn, Nat.ne_of_gt (Nat.lt_of_lt_of_le I.lt hb), I.nofs hb, .inr (Nat.le_trans I.sz hb), fun x c e z => ?_, fun p hp z => ?_⟩
  · obtain ⟨v, q⟩ := I.cell x c e
    exact absurd (Nat.lt_of_lt_of_le q.lt (by rw [z]; exact hb)) (Nat.lt_irrefl _)
  · exact absurd (Nat.lt_of_lt_of_le (Heap.lt_size (I.pin p hp).1) (by rw [z]; exact hb)) (Nat.lt_irrefl _)
structure Turn (P : Program) (w : World) (K : PySem.W.Frag) (tg : Expr) (J : It) (fp : List Addr) (it : Addr) (tn : Nat → Heap → Prop) : Prop where
  mem : it ∈ fp
  obj : ∀ i h, tn i h → ∀ b ∈ fp, ∃ o, h.get? b = some o ∧ ∀ v, o.data ≠ .cell v
  keep : ∀ i h h', tn i h → (∀ b ∈ fp, ∀ o, h.get? b = some o → h'.get? b = some o) → tn i h'
  item : ∀ (X : Cx), X.prog = P → X.w = w → X.K = K → X.calm = true → ∀ (i : Nat) (pins : List (Addr × Obj)) (s : Shared) (σ : St) (H : Hp) (E : Value → Shared → Prop), Inv X pins σ H s → (∀ b ∈ fp, FpOk X pins H b) → tn i s.heap → J.go i H →
    wpAny (model P w) X.A (pyNext (.ref it)) (fun r s1 => ∃ u, r = some u ∧
      wpAny (model P w) X.A (letOwnedTupleGo tg (.ref it) u) (fun _ s2 => ∃ x H', Inv X pins σ H' s2 ∧ RelV x u ∧ J.yld i H x H' ∧ tn (i + 1) s2.heap ∧ ∀ b ∈ fp, H' b = none) E s1) E s
  done : ∀ (X : Cx), X.prog = P → X.w = w → X.K = K → X.calm = true → ∀ (i : Nat) (pins : List (Addr × Obj)) (s : Shared) (σ : St) (H : Hp) (E : Value → Shared → Prop), Inv X pins σ H s → (∀ b ∈ fp, FpOk X pins H b) → tn i s.heap → J.stop i H →
    wpAny (model P w) X.A (pyNext (.ref it)) (fun r s1 => r = none ∧ Inv X pins σ H s1) E s
  self : ∀ (A : Around) (i : Nat) (s : Shared) (Q : Value → Shared → Prop) (E : Value → Shared → Prop), tn i s.heap → Q (.ref it) s → wpAny (model P w) A (pyIter (.ref it)) Q E s
abbrev TI := St → Hp → (It → Hp → Prop) → Prop
def PIE (X : Cx) (pins : List (Addr × Obj)) (σ : St) (tg : Expr) (R : It → Hp → Prop) (itv : Value) (s2 : Shared) : Prop :=
  ∃ (it : Addr) (fp : List Addr) (tn : Nat → Heap → Prop) (J : It) (H' : Hp), itv = .ref it ∧ Inv X pins σ H' s2 ∧ Turn X.prog X.w X.K tg J fp it tn ∧ tn 0 s2.heap ∧ (∀ b ∈ fp, FpOk X pins H' b) ∧ R J H'
def PI (X : Cx) (tg iter : Expr) (wi : TI) : Prop :=
  ∀ (pins : List (Addr × Obj)) (s : Shared) (σ : St) (H : Hp) (R : It → Hp → Prop), Inv X pins σ H s → wi σ H R →
    wpAny (model X.prog X.w) X.A (eval iter X.env) (fun v s1 => wpAny (model X.prog X.w) X.A (pyIter v) (PIE X pins σ tg R) X.xe s1) X.xe s
theorem go_of {M : Model} {A : Around} {E : Value → Shared → Prop} {s : Shared} {tg : Expr} {it : Addr} {u : Value} {o : Obj} {n : String} {vs : Array Value} {Q : Unit → Shared → Prop} (ho : s.heap.get? it = some o) (hc : o.cls = .type n) (hd : o.data = .fields vs)
    (hn : ["enumerate", "zip", "dict_itemiterator", "dict_reverseitemiterator", "odict_iterator", "itertools.zip_longest", "itertools.pairwise"].contains n = false) (hQ : Q () s) : wpAny M A (letOwnedTupleGo tg (.ref it) u) Q E s := by
  unfold letOwnedTupleGo
  cases tg <;> first
    | exact wpAny_pure hQ
    | (cases u <;> first
        | exact wpAny_pure hQ
        | (refine wpAny_bind (wpAny_load ho ?_)
           rw [hc, hd]
           show wpAny M A (if (["enumerate", "zip", "dict_itemiterator", "dict_reverseitemiterator", "odict_iterator", "itertools.zip_longest", "itertools.pairwise"].contains n && vs[0]? == some (rawInt _)) = true then _ else _) Q E s
           rw [if_neg (by intro h; rw [hn, Bool.false_and] at h; cases h)]
           exact wpAny_pure hQ))
def Itl (K : PySem.W.Frag) (a : Addr) : It :=
  ⟨fun i H => ∃ xs x, SqL K H a xs ∧ xs[i]? = some x, fun i H x H' => H' = H ∧ ∀ xs, SqL K H a xs → xs[i]? = some x, fun i H => ∃ xs, SqL K H a xs ∧ xs.length ≤ i⟩
def Itr (lo : Int) (n : Nat) : It := ⟨fun i _ => i < n, fun i H x H' => H' = H ∧ x = .int (lo + i), fun i _ => n ≤ i⟩
theorem turn_list {P : Program} {w : World} {K : PySem.W.Frag} {tg : Expr} (a it : Addr) : Turn P w K tg (Itl K a) [it] it (fun i h => h.IsListIter it a i) where
  mem := by simp
  obj := fun i h st b hb => by
    have e : b = it := by simpa using hb
    subst e
    obtain ⟨o, e, c, d⟩ := st
    exact ⟨o, e, fun v z => by rw [d] at z; cases z⟩
  keep := fun i h h' st k => st.at fun o e => k it (by simp) o e
  item := by
    intro X hP hw hK hc i pins s σ H E I hf st hg
    subst hP hw hK
    obtain ⟨xs, x, hq, hx⟩ := hg
    obtain ⟨its, rv, p, hz⟩ := I.list hq
    obtain ⟨u, hu, ru⟩ := rv.get hx
    obtain ⟨f0, f1, f2, f3, f4, f5⟩ := hf it (by simp)
    refine wpAny_pyNext_list_item st p.isList (x := u) (by simpa using hu) fun h' st' sb => ?_
    have I1 : Inv X pins σ H { s with heap := h' } := I.turned (t' := s.toks) (fun b o hb e => (sb.2 b hb).trans e) f0 f1 f3 f4 f5
    obtain ⟨o, e, c, d⟩ := id st'
    exact ⟨u, rfl, go_of (s := { s with heap := h' }) e c d (by decide) ⟨x, H, I1, ru, ⟨rfl, fun ys hy => by rw [I.list_inj hy hq]; exact hx⟩, st', fun b hb => (hf b hb).1⟩⟩
  done := by
    intro X hP hw hK hc i pins s σ H E I hf st hg
    subst hP hw hK
    obtain ⟨xs, hq, hx⟩ := hg
    obtain ⟨its, rv, p, hz⟩ := I.list hq
    obtain ⟨f0, f1, f2, f3, f4, f5⟩ := hf it (by simp)
    have hl := rv.length
    exact wpAny_pyNext_list_end (I.ok.hd hc) st p.isList (by simp; omega) fun h' eb => ⟨rfl, I.turned (t' := s.toks) (fun b o hb e => eb b o hb e) f0 f1 f3 f4 f5⟩
  self := fun _ _ _ _ _ st h => wpAny_pyIter_listiter st h
theorem turn_range {P : Program} {w : World} {K : PySem.W.Frag} {tg : Expr} (it : Addr) (lo : Int) (n : Nat) : Turn P w K tg (Itr lo n) [it] it (fun i h => IsRangeIter h it (lo + (i : Nat) * 1) ((n : Int) - (i : Nat)) 1) where
  mem := by simp
  obj := fun i h st b hb => by
    have e : b = it := by simpa using hb
    subst e
    exact ⟨_, st, fun v z => by
      have z' : Data.fields _ = Data.cell v := z
      cases z'⟩
  keep := fun i h h' st k => k it (by simp) _ st
  item := by
    intro X hP hw hK hc i pins s σ H E I hf st hg
    subst hP hw hK
    obtain ⟨f0, f1, f2, f3, f4, f5⟩ := hf it (by simp)
    have W := Walks.range (prog := X.prog) (w := X.w) (I.ok.hd hc) it lo 1 n
    refine W.item i s _ _ hg st fun v h' tk hv st' kk => ?_
    obtain ⟨t, rfl⟩ := hv
    have I1 : Inv X pins σ H { s with heap := h', toks := tk } := I.turned (fun b o hb e => kk b o (by simpa using hb) e) f0 f1 f3 f4 f5
    refine ⟨_, rfl, go_of (s := { s with heap := h', toks := tk }) (n := "range_iterator") st' rfl rfl (by decide) ⟨.int (lo + i), H, I1, ⟨t, ?_⟩, ⟨rfl, rfl⟩, st', fun b hb => (hf b hb).1⟩⟩
    rw [Int.mul_one]
  done := by
    intro X hP hw hK hc i pins s σ H E I hf st hg
    subst hP hw hK
    obtain ⟨f0, f1, f2, f3, f4, f5⟩ := hf it (by simp)
    exact wpAny_pyNext_range_end (I.ok.hd hc) st (by have : n ≤ i := hg; omega) fun h' eb => ⟨rfl, I.turned (t' := s.toks) (fun b o hb e => eb b o hb e) f0 f1 f3 f4 f5⟩
  self := fun _ _ _ _ _ st h => wpAny_pyIter_rangeiter st h
end L2
namespace L2
open PySem PySem.Spec PyProof.Rows
section
variable {X : Cx} {tg : Expr}
def iList (K : PySem.W.Frag) (tl : TE) : TI := fun σ H R => tl σ H fun x H1 => ∃ a, x = .ref a ∧ (∃ xs, SqL K H1 a xs) ∧ R (Itl K a) H1
theorem pi_list {l : Expr} {tl : TE} (hl : PE X l tl) : PI X tg l (iList X.K tl) := by
  intro pins s σ H R I h
  refine thn (hl pins s σ H _ I h) fun v s1 ⟨x, H1, I1, r1, q1⟩ => ?_
  obtain ⟨a, e, ⟨xs, hq⟩, q⟩ := q1
  subst e
  cases r1
  obtain ⟨its, rv, p, hz⟩ := I1.list hq
  refine wpAny_pyIter_list p.isList ?_
  refine ⟨s1.heap.objs.size, [s1.heap.objs.size], _, _, H1, rfl, I1.kept (t' := s1.toks) fun b o e => Heap.get?_push_of_some _ e, turn_list a _, ⟨_, Heap.get?_push_size _ rfl, rfl, rfl⟩, fun b hb => ?_, q⟩
  have e : b = s1.heap.objs.size := by simpa using hb
  subst e
  exact I1.fpOk (Nat.le_refl _) (I1.hok.fresh (Nat.le_refl _))
theorem range_it {pins : List (Addr × Obj)} {σ : St} {H : Hp} {s : Shared} {R : It → Hp → Prop} {E : Value → Shared → Prop} {lo hi : Int} {t u v : Tok} {tk : Nat} (I : Inv X pins σ H s) (h1 : -(2 ^ 62) ≤ lo) (h2 : lo < 2 ^ 62) (h3 : -(2 ^ 62) ≤ hi) (h4 : hi < 2 ^ 62)
    (q : R (Itr lo (hi - lo).toNat) H) : wpAny (model X.prog X.w) X.A (pyIter (.ref s.heap.objs.size)) (PIE X pins σ tg R) E { s with heap := s.heap.push { cls := .type "range", data := .fields #[.int lo t, .int hi u, .int 1 v] }, toks := tk } := by
  refine wpAny_pyIter_range (IsRange.new ..) (small_one h1 h2 h3 h4) ?_
  have I1 : Inv X pins σ H { s with heap := s.heap.push { cls := .type "range", data := .fields #[.int lo t, .int hi u, .int 1 v] }, toks := tk } := I.kept fun b o e => Heap.get?_push_of_some _ e
  refine ⟨(s.heap.push { cls := .type "range", data := .fields #[.int lo t, .int hi u, .int 1 v] }).objs.size, [(s.heap.push { cls := .type "range", data := .fields #[.int lo t, .int hi u, .int 1 v] }).objs.size], _, _, H, rfl,
    I1.kept (t' := tk) fun b o e => Heap.get?_push_of_some _ e, turn_range _ lo (hi - lo).toNat, ?_, fun b hb => ?_, q⟩
  · have e1 : lo + ((0 : Nat) : Int) * 1 = lo := by simp
    have e2 : (((hi - lo).toNat : Nat) : Int) - ((0 : Nat) : Int) = Builtin.Range.rangeSize lo hi 1 := by rw [rangeSize_one]; split <;> omega
    show IsRangeIter _ _ (lo + ((0 : Nat) : Int) * 1) ((((hi - lo).toNat : Nat) : Int) - ((0 : Nat) : Int)) 1
    rw [e1, e2]
    exact Heap.get?_push_size _ rfl
  · have e : b = (s.heap.push { cls := .type "range", data := .fields #[.int lo t, .int hi u, .int 1 v] }).objs.size := by simpa using hb
    subst e
    exact I1.fpOk (Nat.le_refl _) (I1.hok.fresh (Nat.le_refl _))
def iRng1 (ta : TA) : TI := fun σ H R => ta σ H fun vs H1 => ∃ j : Int, vs = [.int j] ∧ -(2 ^ 62) ≤ j ∧ j < 2 ^ 62 ∧ R (Itr 0 j.toNat) H1
theorem pi_range1 {a : Expr} {ta : TA} {p pos : Pos} (hg : Gl X "range") (hm : X.mg "range" = none) (ha : PA X [a] ta) (hs : starEach [a] X.env = [(false, eval a X.env)] := by rfl) : PI X tg (.Call (.Name "range" p) [a] [] pos) (iRng1 ta) := by
  intro pins s σ H R I h
  refine Call_ (ld_blt I hg hm boot_range (PyProof.Rows.callWith_type1 (thn (ha pos pins s σ H _ I h) fun us s1 ⟨vs, H1, I1, r1, q1⟩ => ?_) hs rfl))
  obtain ⟨j, e, q1, q2, q⟩ := q1
  subst e
  cases r1 with
  | cons r rr =>
    cases rr
    obtain ⟨t, rfl⟩ := r
    exact call_range_1 (range_it I1 (by omega) (by omega) q1 q2 (by simpa using q))
def tFor (wi : TI) (g : TG) (tb : TS) : TS := fun D σ H => wi σ H fun J H1 => ∃ W : Nat → Nat → St → Hp → Prop, (∃ m, W 0 m σ H1) ∧ ∀ i m σ H, W i m σ H →
  (J.stop i H ∧ D.nx σ H) ∨ (J.go i H ∧ ∃ N : St → Hp → Prop, (∀ σ' H', N σ' H' → ∃ m', m' < m ∧ W (i + 1) m' σ' H') ∧ ∀ x H', J.yld i H x H' → g x σ H' fun σ2 H2 => tb { D with nx := N, ct := N, bk := D.nx } σ2 H2)
def pinsAt (fp : List Addr) (h : Heap) : List (Addr × Obj) := fp.filterMap fun b => (h.get? b).map fun o => (b, o)
theorem mem_pinsAt {fp : List Addr} {h : Heap} {b : Addr} {o : Obj} (hb : b ∈ fp) (e : h.get? b = some o) : (b, o) ∈ pinsAt fp h := List.mem_filterMap.mpr ⟨b, hb, by rw [e]; rfl⟩
theorem of_pinsAt {fp : List Addr} {h : Heap} {p : Addr × Obj} (hp : p ∈ pinsAt fp h) : p.1 ∈ fp ∧ h.get? p.1 = some p.2 := by
  obtain ⟨b, hb, e⟩ := List.mem_filterMap.mp hp
  cases q : h.get? b with
  | none => rw [q] at e; cases e
  | some o =>
    rw [q] at e
    have e' : (b, o) = p := Option.some.inj e
    subst e'
    exact ⟨hb, q⟩
theorem Inv.pinned {pins : List (Addr × Obj)} {σ : St} {H : Hp} {s : Shared} {fp : List Addr} (I : Inv X pins σ H s) (hf : ∀ b ∈ fp, FpOk X pins H b) (ho : ∀ b ∈ fp, ∃ o, s.heap.get? b = some o ∧ ∀ v, o.data ≠ .cell v) : Inv X (pins ++ pinsAt fp s.heap) σ H s :=
  I.pins_of fun p hp => (List.mem_append.mp hp).elim (fun z => I.pin p (List.mem_append_right _ z)) fun z => by
    obtain ⟨hb, e⟩ := of_pinsAt z
    obtain ⟨f0, f1, f2, _⟩ := hf p.1 hb
    obtain ⟨o, e', d⟩ := ho p.1 hb
    rw [e] at e'; cases e'
    exact ⟨e, f0, f1, f2, d⟩
theorem Inv.unpinned {pins pl : List (Addr × Obj)} {σ : St} {H : Hp} {s : Shared} (I : Inv X (pins ++ pl) σ H s) : Inv X pins σ H s := I.pins_of fun p hp => I.pin p (List.mem_append_right _ (List.mem_append_left _ hp))
theorem ps_for {iter : Expr} {body : List Stmt} {wi : TI} {g : TG} {tb : TS} {pos : Pos} (hp : PassesOwn (model X.prog X.w) X.A X.env X.xe) (hc : X.calm = true) (hi : PI X tg iter wi) (hg : PG X tg g) (hb : PSs X body tb)
    (hs : ∀ x, foldedSetIterable iter X.env x = pure x := by intro _; rfl) : PS X (.For tg iter body [] pos) (tFor wi g tb) := by
  intro pins s σ H D I h
  refine wpAny_For (thn (hi pins s σ H _ I h) fun v s1 h1 => thn h1 fun itv s2 h2 => ?_) hs
  obtain ⟨it, fp, tn, J, H2, e, I2, T, st2, f2, W, ⟨m0, w0⟩, turn⟩ := h2
  subst e
  have stat : ∀ {H' : Hp}, (∀ b ∈ fp, H' b = none) → ∀ b ∈ fp, FpOk X pins H' b := fun hn b hb => ⟨hn b hb, (f2 b hb).2⟩
  refine codeAny_forLoop_any (fun n s' => ∃ i σ' H', Inv X pins σ' H' s' ∧ tn i s'.heap ∧ (∀ b ∈ fp, H' b = none) ∧ W i n σ' H') ?_ m0 ⟨0, σ, H2, I2, st2, fun b hb => (f2 b hb).1, w0⟩
  rintro n s3 ⟨i, σ3, H3, I3, st3, fr3, w3⟩
  rcases turn i n σ3 H3 w3 with ⟨stop, qn⟩ | ⟨go, N, hN, step⟩
  · refine wpAny_passesOwn hp (thn (T.done X rfl rfl rfl hc i pins s3 σ3 H3 X.xe I3 (stat fr3) st3 stop) fun r s4 ⟨hr, I4⟩ => ?_)
    subst hr
    exact wpAny_execs_nil ⟨σ3, H3, I4, qn⟩
  · refine wpAny_passesOwn hp (thn (T.item X rfl rfl rfl hc i pins s3 σ3 H3 X.xe I3 (stat fr3) st3 go) fun r s4 ⟨u, hr, h4⟩ => ?_)
    subst hr
    refine wpAny_passesOwn hp (thn h4 fun _ s5 ⟨x, H5, I5, r5, y5, st5, fr5⟩ => ?_)
    have I5' := I5.pinned (stat fr5) (T.obj _ _ st5)
    refine wpAny_passesOwn hp (thn (hg _ s5 σ3 H5 x u _ I5' r5 (step x H5 y5)) fun _ s6 ⟨σ6, H6, I6, q6⟩ => ?_)
    refine wpAny_passesOwn hp (thn (hb _ s6 σ6 H6 _ I6 q6) fun f s7 q7 => ?_)
    have again : ∀ {σ7 : St} {H7 : Hp}, Inv X (pins ++ pinsAt fp s5.heap) σ7 H7 s7 → N σ7 H7 → ∃ m, m < n ∧ ∃ i σ' H', Inv X pins σ' H' s7 ∧ tn i s7.heap ∧ (∀ b ∈ fp, H' b = none) ∧ W i m σ' H' := fun {σ7 H7} I7 n7 => by
      obtain ⟨m', hm, w7⟩ := hN σ7 H7 n7
      refine ⟨m', hm, i + 1, σ7, H7, I7.unpinned, T.keep _ _ _ st5 fun b hb o e => (I7.pin (b, o) (List.mem_append_right _ (List.mem_append_right _ (mem_pinsAt hb e)))).1, fun b hb => ?_, w7⟩
      obtain ⟨o, e, d⟩ := T.obj _ _ st5 b hb
      exact (I7.pin (b, o) (List.mem_append_right _ (List.mem_append_right _ (mem_pinsAt hb e)))).2.1
    cases f with
    | next => obtain ⟨σ7, H7, I7, n7⟩ := q7; exact again I7 n7
    | cont => obtain ⟨σ7, H7, I7, n7⟩ := q7; exact again I7 n7
    | brk => obtain ⟨σ7, H7, I7, q7⟩ := q7; exact ⟨σ7, H7, I7.unpinned, q7⟩
    | ret v => obtain ⟨x7, σ7, H7, I7, r7, q7⟩ := q7; exact ⟨x7, σ7, H7, I7.unpinned, r7, q7⟩
end
theorem for_list {K : PySem.W.Frag} {a : Addr} {xs : List V} {g : TG} {tb : TS} {D : Ends} {σ : St} {H : Hp} (Pv : Nat → St → Hp → Prop) (h0 : Pv 0 σ H) (hl : ∀ i σ H, i ≤ xs.length → Pv i σ H → SqL K H a xs)
    (hs : ∀ i x σ H, xs[i]? = some x → Pv i σ H → g x σ H fun σ2 H2 => tb { D with nx := Pv (i + 1), ct := Pv (i + 1), bk := D.nx } σ2 H2) (hd : ∀ σ H, Pv xs.length σ H → D.nx σ H) :
    ∃ W : Nat → Nat → St → Hp → Prop, (∃ m, W 0 m σ H) ∧ ∀ i m σ H, W i m σ H →
      ((Itl K a).stop i H ∧ D.nx σ H) ∨ ((Itl K a).go i H ∧ ∃ N : St → Hp → Prop, (∀ σ' H', N σ' H' → ∃ m', m' < m ∧ W (i + 1) m' σ' H') ∧ ∀ x H', (Itl K a).yld i H x H' → g x σ H' fun σ2 H2 => tb { D with nx := N, ct := N, bk := D.nx } σ2 H2) := by
  refine ⟨fun i m σ H => m = xs.length - i ∧ i ≤ xs.length ∧ Pv i σ H, ⟨xs.length, by simp, Nat.zero_le _, h0⟩, ?_⟩
  rintro i m σ H ⟨rfl, hi, p⟩
  have q := hl i σ H hi p
  by_cases hlt : i < xs.length
  · refine .inr ⟨⟨xs, xs[i], q, by simp [hlt]⟩, Pv (i + 1), fun σ' H' p' => ⟨xs.length - (i + 1), by omega, rfl, hlt, p'⟩, fun x H' y => ?_⟩
    obtain ⟨e, y⟩ := y
    subst e
    exact hs i x σ _ (y xs q) p
  · have e : i = xs.length := by omega
    subst e
    exact .inl ⟨⟨xs, q, Nat.le_refl _⟩, hd σ H p⟩
theorem for_range {lo : Int} {n : Nat} {g : TG} {tb : TS} {D : Ends} {σ : St} {H : Hp} (Pv : Nat → St → Hp → Prop) (h0 : Pv 0 σ H)
    (hs : ∀ i σ H, i < n → Pv i σ H → g (.int (lo + i)) σ H fun σ2 H2 => tb { D with nx := Pv (i + 1), ct := Pv (i + 1), bk := D.nx } σ2 H2) (hd : ∀ σ H, Pv n σ H → D.nx σ H) :
    ∃ W : Nat → Nat → St → Hp → Prop, (∃ m, W 0 m σ H) ∧ ∀ i m σ H, W i m σ H →
      ((Itr lo n).stop i H ∧ D.nx σ H) ∨ ((Itr lo n).go i H ∧ ∃ N : St → Hp → Prop, (∀ σ' H', N σ' H' → ∃ m', m' < m ∧ W (i + 1) m' σ' H') ∧ ∀ x H', (Itr lo n).yld i H x H' → g x σ H' fun σ2 H2 => tb { D with nx := N, ct := N, bk := D.nx } σ2 H2) := by
  refine ⟨fun i m σ H => m = n - i ∧ i ≤ n ∧ Pv i σ H, ⟨n, by simp, Nat.zero_le _, h0⟩, ?_⟩
  rintro i m σ H ⟨rfl, hi, p⟩
  by_cases hlt : i < n
  · refine .inr ⟨hlt, Pv (i + 1), fun σ' H' p' => ⟨n - (i + 1), by omega, rfl, hlt, p'⟩, fun x H' y => ?_⟩
    obtain ⟨e, y⟩ := y
    subst e y
    exact hs i σ _ hlt p
  · have e : i = n := by omega
    subst e
    exact .inl ⟨Nat.le_refl _, hd σ H p⟩
end L2
namespace L2
open PySem PySem.Spec PyProof.Rows
abbrev R2 := V → V → Hp → VK → Prop
def OpR (X : Cx) (f : Value → Value → Sem Value) (r : R2) : Prop :=
  ∀ (pins : List (Addr × Obj)) (s : Shared) (σ : St) (H : Hp) (x y : V) (v u : Value) (Q : VK), Inv X pins σ H s → RelV x v → RelV y u → r x y H Q →
    wpAny (model X.prog X.w) X.A (f v u) (EP X pins σ Q) X.xe s
def CallR (X : Cx) (f : Value) (r : List V → Hp → VK → Prop) : Prop :=
  ∀ (pins : List (Addr × Obj)) (s : Shared) (σ : St) (H : Hp) (xs : List V) (us : List Value) (Q : VK), Inv X pins σ H s → Vals xs us → r xs H Q →
    wpAny (model X.prog X.w) X.A (call f us) (EP X pins σ Q) X.xe s
def tOp (r : R2) (ta tb : TE) : TE := fun σ H Q => ta σ H fun x H1 => tb σ H1 fun y H2 => r x y H2 Q
def rI (C : Int → Int → Prop) (g : Int → Int → V) : R2 := fun x y H Q => ∃ i j, x = .int i ∧ y = .int j ∧ C i j ∧ Q (g i j) H
def rI0 (g : Int → Int → V) : R2 := fun x y H Q => ∃ i j, x = .int i ∧ y = .int j ∧ Q (g i j) H
section
variable {X : Cx} {a b c : Expr} {ta tb tc : TE} {pos : Pos}
theorem binT (ha : PE X a ta) (hb : PE X b tb) {pins : List (Addr × Obj)} {s : Shared} {σ : St} {H : Hp} {R : V → V → Hp → Prop} (I : Inv X pins σ H s)
    (h : ta σ H fun x H1 => tb σ H1 fun y H2 => R x y H2) {Q : Value → Shared → Prop} {f : Value → Value → Sem Value}
    (hf : ∀ v u s2 x y H2, Inv X pins σ H2 s2 → RelV x v → RelV y u → R x y H2 → wpAny (model X.prog X.w) X.A (f v u) Q X.xe s2) :
    wpAny (model X.prog X.w) X.A (eval a X.env) (fun v s₁ => wpAny (model X.prog X.w) X.A (eval b X.env) (fun u s₂ => wpAny (model X.prog X.w) X.A (f v u) Q X.xe s₂) X.xe s₁) X.xe s := by
  refine thn (ha pins s σ H _ I h) fun v s1 ⟨x, H1, I1, r1, q1⟩ => ?_
  refine thn (hb pins s1 σ H1 _ I1 q1) fun u s2 ⟨y, H2, I2, r2, q2⟩ => ?_
  exact hf v u s2 x y H2 I2 r1 r2 q2
theorem pe_op {op : Operator} {r : R2} (ho : OpR X (binaryOp op) r) (ha : PE X a ta) (hb : PE X b tb) : PE X (.BinOp a op b pos) (tOp r ta tb) := by
  intro pins s σ H Q I h
  exact wpAny_BinOp (binT ha hb I h fun v u s2 x y H2 I2 rx ry q => ho pins s2 σ H2 x y v u Q I2 rx ry q)
theorem opI {f : Value → Value → Sem Value} {C : Int → Int → Prop} {g : Int → Int → Int}
    (rule : ∀ (i j : Int) (t u : Tok) (s : Shared) (Q : Value → Shared → Prop) (E : Value → Shared → Prop), C i j → Q (.int (g i j) s.toks) { s with toks := s.toks + 1 } → wpAny (model X.prog X.w) X.A (f (.int i t) (.int j u)) Q E s) :
    OpR X f (rI C fun i j => .int (g i j)) := by
  intro pins s σ H x y v u Q I rx ry h
  obtain ⟨i, j, rfl, rfl, hc, q⟩ := h
  obtain ⟨t, rfl⟩ := rx
  obtain ⟨t', rfl⟩ := ry
  exact rule i j t t' s _ _ hc ⟨.int (g i j), H, I.tok _, ⟨_, rfl⟩, q⟩
theorem opI0 {f : Value → Value → Sem Value} {g : Int → Int → Int}
    (rule : ∀ (i j : Int) (t u : Tok) (s : Shared) (Q : Value → Shared → Prop) (E : Value → Shared → Prop), Q (.int (g i j) s.toks) { s with toks := s.toks + 1 } → wpAny (model X.prog X.w) X.A (f (.int i t) (.int j u)) Q E s) :
    OpR X f (rI0 fun i j => .int (g i j)) := by
  intro pins s σ H x y v u Q I rx ry h
  obtain ⟨i, j, rfl, rfl, q⟩ := h
  obtain ⟨t, rfl⟩ := rx
  obtain ⟨t', rfl⟩ := ry
  exact rule i j t t' s _ _ ⟨.int (g i j), H, I.tok _, ⟨_, rfl⟩, q⟩
theorem opB0 {f : Value → Value → Sem Value} {g : Int → Int → Bool}
    (rule : ∀ (i j : Int) (t u : Tok) (s : Shared) (Q : Value → Shared → Prop) (E : Value → Shared → Prop), Q (.bool (g i j)) s → wpAny (model X.prog X.w) X.A (f (.int i t) (.int j u)) Q E s) :
    OpR X f (rI0 fun i j => .bl (g i j)) := by
  intro pins s σ H x y v u Q I rx ry h
  obtain ⟨i, j, rfl, rfl, q⟩ := h
  obtain ⟨t, rfl⟩ := rx
  obtain ⟨t', rfl⟩ := ry
  exact rule i j t t' s _ _ ⟨.bl (g i j), H, I, rfl, q⟩
def CPow (i j : Int) : Prop := 0 ≤ j ∧ j ≤ 1000000 ∧ i.natAbs < 2 ^ 64
def CMul (i j : Int) : Prop := (-(2 ^ 64) < i ∧ i < 2 ^ 64) ∨ (-(2 ^ 64) < j ∧ j < 2 ^ 64)
theorem CMul.ok {i j : Int} (h : CMul i j) : IntMulOk i j := by
  rcases h with ⟨h1, h2⟩ | ⟨h1, h2⟩
  · exact .of_left (intBits_le_64 h1 h2)
  · exact .of_right (intBits_le_64 h1 h2)
theorem op_add : OpR X (binaryOp .Add) (rI0 fun i j => .int (i + j)) := opI0 fun _ _ _ _ _ _ _ q => add_int q
theorem op_mul : OpR X (binaryOp .Mult) (rI CMul fun i j => .int (i * j)) := opI fun _ _ _ _ _ _ _ hc q => mul_int q hc.ok
theorem op_mod : OpR X (binaryOp .Mod) (rI (fun _ j => 0 < j) fun i j => .int (i % j)) := opI fun i j _ _ _ _ _ hc q => by
  have h1 : (0 : Int) < j := hc
  exact mod_int' (by omega) (by rw [Int.fmod_eq_emod_of_nonneg i (by omega)]; exact q)
theorem op_pow : OpR X (binaryOp .Pow) (rI CPow fun i j => .int (i ^ j.toNat)) := opI fun _ _ _ _ _ _ _ hc q => pow_int_small hc.1 hc.2.1 hc.2.2 q
end
def scal : V → V → Bool
  | .non, .non => true | .non, .int _ => true | .int _, .non => true | .non, .bl _ => true | .bl _, .non => true | .non, .str _ => true | .str _, .non => true
  | .int _, .int _ => true | .bl _, .bl _ => true | .str _, .str _ => true | .byt _, .byt _ => true
  | .int _, .str _ => true | .str _, .int _ => true | .bl _, .str _ => true | .str _, .bl _ => true
  | _, _ => false
def rEq : R2 := fun x y H Q => scal x y = true ∧ Q (.bl (decide (x = y))) H
def rNe : R2 := fun x y H Q => scal x y = true ∧ Q (.bl (!decide (x = y))) H
theorem dec_int {i j : Int} : decide (V.int i = V.int j) = (i == j) := by
  rw [Bool.eq_iff_iff]
  simp
theorem dec_bl {i j : Bool} : decide (V.bl i = V.bl j) = (i == j) := by
  rw [Bool.eq_iff_iff]
  simp
theorem dec_str {i j : Str} : decide (V.str i = V.str j) = (i == j) := by
  rw [Bool.eq_iff_iff]
  simp
theorem dec_byt {i j : Array UInt8} : decide (V.byt i = V.byt j) = (i.toList == j.toList) := by
  rw [Bool.eq_iff_iff]
  cases i
  cases j
  simp
section
variable {X : Cx} {a b c : Expr} {ta tb tc : TE} {pos : Pos}
theorem fin_bl {pins : List (Addr × Obj)} {σ : St} {H : Hp} {s : Shared} {Q : VK} {k k' : Bool} (I : Inv X pins σ H s) (q : Q (.bl k) H) (e : k = k') : EP X pins σ Q (.bool k') s := by
  subst e
  exact ⟨.bl k, H, I, rfl, q⟩
theorem op_eq : OpR X (compareOp .Eq) rEq := by
  intro pins s σ H x y v u Q I rx ry h
  obtain ⟨hs, q⟩ := h
  cases x with
  | non =>
    cases rx
    cases y with
    | non => cases ry; exact PySem.EqNone.eq_none_none (fin_bl I q (by simp))
    | bl j => cases ry; exact PySem.EqNone.eq_none_bool (fin_bl I q (by simp))
    | int j => obtain ⟨t', rfl⟩ := ry; exact PySem.EqNone.eq_none_int (fin_bl I q (by simp))
    | str j => obtain ⟨t', rfl⟩ := ry; exact PySem.EqNone.eq_none_str (fin_bl I q (by simp))
    | _ => exact absurd (show false = true from hs) Bool.false_ne_true
  | bl i =>
    cases rx
    cases y with
    | non => cases ry; exact PySem.EqNone.eq_bool_none (fin_bl I q (by simp))
    | bl j => cases ry; exact eq_bool (fin_bl I q dec_bl)
    | str j => obtain ⟨t', rfl⟩ := ry; exact PySem.EqMixed.eq_bool_str (fin_bl I q (by simp))
    | _ => exact absurd (show false = true from hs) Bool.false_ne_true
  | int i =>
    obtain ⟨t, rfl⟩ := rx
    cases y with
    | non => cases ry; exact PySem.EqNone.eq_int_none (fin_bl I q (by simp))
    | int j => obtain ⟨t', rfl⟩ := ry; exact eq_int (fin_bl I q dec_int)
    | str j => obtain ⟨t', rfl⟩ := ry; exact PySem.EqMixed.eq_int_str (fin_bl I q (by simp))
    | _ => exact absurd (show false = true from hs) Bool.false_ne_true
  | str i =>
    obtain ⟨t, rfl⟩ := rx
    cases y with
    | non => cases ry; exact PySem.EqNone.eq_str_none (fin_bl I q (by simp))
    | bl j => cases ry; exact PySem.EqMixed.eq_str_bool (fin_bl I q (by simp))
    | int j => obtain ⟨t', rfl⟩ := ry; exact PySem.EqMixed.eq_str_int (fin_bl I q (by simp))
    | str j => obtain ⟨t', rfl⟩ := ry; exact eq_str (fin_bl I q dec_str)
    | _ => exact absurd (show false = true from hs) Bool.false_ne_true
  | byt i =>
    obtain ⟨t, rfl⟩ := rx
    cases y with
    | byt j => obtain ⟨t', rfl⟩ := ry; exact PySem.W.eq_bytes (fin_bl I q dec_byt)
    | _ => exact absurd (show false = true from hs) Bool.false_ne_true
  | _ => cases y <;> exact absurd (show false = true from hs) Bool.false_ne_true
theorem op_ne : OpR X (compareOp .NotEq) rNe := by
  intro pins s σ H x y v u Q I rx ry h
  obtain ⟨hs, q⟩ := h
  cases x with
  | non =>
    cases rx
    cases y with
    | non => cases ry; exact PySem.EqNone.ne_none_none (fin_bl I q (by simp))
    | bl j => cases ry; exact PySem.EqNone.ne_none_bool (fin_bl I q (by simp))
    | int j => obtain ⟨t', rfl⟩ := ry; exact PySem.EqNone.ne_none_int (fin_bl I q (by simp))
    | str j => obtain ⟨t', rfl⟩ := ry; exact PySem.EqNone.ne_none_str (fin_bl I q (by simp))
    | _ => exact absurd (show false = true from hs) Bool.false_ne_true
  | bl i =>
    cases rx
    cases y with
    | non => cases ry; exact PySem.EqNone.ne_bool_none (fin_bl I q (by simp))
    | bl j => cases ry; exact ne_bool (fin_bl I q (congrArg not dec_bl))
    | str j => obtain ⟨t', rfl⟩ := ry; exact PySem.EqMixed.ne_bool_str (fin_bl I q (by simp))
    | _ => exact absurd (show false = true from hs) Bool.false_ne_true
  | int i =>
    obtain ⟨t, rfl⟩ := rx
    cases y with
    | non => cases ry; exact PySem.EqNone.ne_int_none (fin_bl I q (by simp))
    | int j => obtain ⟨t', rfl⟩ := ry; exact ne_int (fin_bl I q (congrArg not dec_int))
    | str j => obtain ⟨t', rfl⟩ := ry; exact PySem.EqMixed.ne_int_str (fin_bl I q (by simp))
    | _ => exact absurd (show false = true from hs) Bool.false_ne_true
  | str i =>
    obtain ⟨t, rfl⟩ := rx
    cases y with
    | non => cases ry; exact PySem.EqNone.ne_str_none (fin_bl I q (by simp))
    | bl j => cases ry; exact PySem.EqMixed.ne_str_bool (fin_bl I q (by simp))
    | int j => obtain ⟨t', rfl⟩ := ry; exact PySem.EqMixed.ne_str_int (fin_bl I q (by simp))
    | str j => obtain ⟨t', rfl⟩ := ry; exact ne_str (fin_bl I q (congrArg not dec_str))
    | _ => exact absurd (show false = true from hs) Bool.false_ne_true
  | byt i =>
    obtain ⟨t, rfl⟩ := rx
    cases y with
    | byt j => obtain ⟨t', rfl⟩ := ry; exact PySem.W.ne_bytes (fin_bl I q (congrArg not dec_byt))
    | _ => exact absurd (show false = true from hs) Bool.false_ne_true
  | _ => cases y <;> exact absurd (show false = true from hs) Bool.false_ne_true
theorem op_lt : OpR X (compareOp .Lt) (rI0 fun i j => .bl (decide (i < j))) := opB0 fun _ _ _ _ _ _ _ q => lt_int q
theorem op_lt_str : OpR X (compareOp .Lt) (fun x y H Q => ∃ i j, x = .str i ∧ y = .str j ∧ Q (.bl (decide (i.cps.toList < j.cps.toList))) H) := by
  intro pins s σ H x y v u Q I rx ry h
  obtain ⟨i, j, rfl, rfl, q⟩ := h
  obtain ⟨t, rfl⟩ := rx
  obtain ⟨t', rfl⟩ := ry
  exact lt_str (fin_bl I q rfl)
theorem OpR.or {f : Value → Value → Sem Value} {r r' : R2} (h : OpR X f r) (h' : OpR X f r') : OpR X f (fun x y H Q => r x y H Q ∨ r' x y H Q) := by
  intro pins s σ H x y v u Q I rx ry q
  rcases q with q | q
  · exact h pins s σ H x y v u Q I rx ry q
  · exact h' pins s σ H x y v u Q I rx ry q
theorem nomark (b : Expr) {op : CmpOp} (h : op ≠ .In := by decide) (h2 : op ≠ .NotIn := by decide) : behindInMarks op b = false := by
  have e1 : (op == CmpOp.In) = false := by cases op <;> first | rfl | exact absurd rfl h
  have e2 : (op == CmpOp.NotIn) = false := by cases op <;> first | rfl | exact absurd rfl h2
  cases b <;> simp [behindInMarks, e1, e2]
theorem pe_cmpR {op : CmpOp} {r : R2} (ho : OpR X (compareOp op) r) (ha : PE X a ta) (hb : PE X b tb) (hm : behindInMarks op b = false) : PE X (.Compare a [op] [b] pos) (tOp r ta tb) := by
  intro pins s σ H Q I h
  exact wpAny_Compare1 (binT ha hb I h fun v u s2 x y H2 I2 rx ry q => ho pins s2 σ H2 x y v u Q I2 rx ry q) hm
def tTest (t : TE) : TT := fun σ H Q => t σ H fun x H' => ∃ k, x = .bl k ∧ Q k H'
theorem pt_cmpR {op : CmpOp} {r : R2} (ho : OpR X (compareOp op) r) (ha : PE X a ta) (hb : PE X b tb) (hm : behindInMarks op b = false) : PT X (.Compare a [op] [b] pos) (tTest (tOp r ta tb)) := by
  intro pins s σ H Q I h
  refine wpAny_isTrue_Compare1 (thn (ha pins s σ H _ I h) fun v s1 ⟨x, H1, I1, r1, q1⟩ => thn (hb pins s1 σ H1 _ I1 q1) fun u s2 ⟨y, H2, I2, r2, q2⟩ =>
    thn (ho pins s2 σ H2 x y v u _ I2 r1 r2 q2) fun c s3 ⟨z, H3, I3, r3, k, e, q3⟩ => ?_) hm
  subst e
  cases r3
  exact wpAny_truthy_bool ⟨H3, I3, q3⟩
theorem line63 : (sizeLine : Nat) < 2 ^ 63 := by rw [sizeLine_eq]; decide
theorem op_add_str : OpR X (binaryOp .Add) (fun x y H Q => ∃ i j, x = .str i ∧ y = .str j ∧ i.length + j.length ≤ sizeLine ∧ Q (.str (i ++ j)) H) := by
  intro pins s σ H x y v u Q I rx ry h
  obtain ⟨i, j, rfl, rfl, hz, q⟩ := h
  obtain ⟨t, rfl⟩ := rx
  obtain ⟨t', rfl⟩ := ry
  exact add_str (fun t' tk => ⟨.str (i ++ j), H, I.tok _, ⟨_, rfl⟩, q⟩) hz
theorem vals1 {x : V} {us : List Value} (r : Vals [x] us) : ∃ u, us = [u] ∧ RelV x u := by
  cases r with
  | cons r1 r2 => cases r2; exact ⟨_, rfl, r1⟩
theorem vals2 {x y : V} {us : List Value} (r : Vals [x, y] us) : ∃ u w', us = [u, w'] ∧ RelV x u ∧ RelV y w' := by
  cases r with
  | cons r1 r2 =>
    cases r2 with
    | cons r3 r4 => cases r4; exact ⟨_, _, rfl, r1, r3⟩
def LenV (K : PySem.W.Frag) (x : V) (H : Hp) (n : Nat) : Prop :=
  match x with
  | .str y => y.length ≤ sizeLine ∧ n = y.length
  | .byt y => y.size ≤ sizeLine ∧ n = y.size
  | .ref p => (∃ xs, SqL K H p xs ∧ n = xs.length) ∨ ∃ xs, SqT K H p xs ∧ n = xs.length
  | _ => False
theorem call_len : CallR X (.builtin "len") (fun xs H Q => ∃ x n, xs = [x] ∧ LenV X.K x H n ∧ Q (.int n) H) := by
  intro pins s σ H xs us Q I r h
  obtain ⟨x, n, rfl, e, q⟩ := h
  obtain ⟨u, rfl, rx⟩ := vals1 r
  have hl := line63
  have hs : sizeLine = 16777216 := sizeLine_eq
  cases x with
  | str y =>
    obtain ⟨t, rfl⟩ := rx
    obtain ⟨hy, e'⟩ : y.length ≤ sizeLine ∧ n = y.length := e
    subst e'
    exact len_str (by omega) ⟨.int _, H, I.tok _, ⟨_, rfl⟩, q⟩
  | byt y =>
    obtain ⟨t, rfl⟩ := rx
    obtain ⟨hy, e'⟩ : y.size ≤ sizeLine ∧ n = y.size := e
    subst e'
    exact PySem.W.len_bytes (by omega) ⟨.int _, H, I.tok _, ⟨_, rfl⟩, q⟩
  | ref p =>
    cases rx
    have e' : (∃ xs, SqL X.K H p xs ∧ n = xs.length) ∨ ∃ xs, SqT X.K H p xs ∧ n = xs.length := e
    rcases e' with ⟨xs, hx, e'⟩ | ⟨xs, hx, e'⟩
    · subst e'
      obtain ⟨its, r', pl, hz⟩ := I.list hx
      have hlen := r'.length
      exact Calls.call_len_list pl.isList (by simp only [List.size_toArray]; omega) ⟨.int xs.length, H, I.tok _, ⟨_, by simp only [List.size_toArray]; rw [hlen]⟩, q⟩
    · subst e'
      obtain ⟨its, r', pl, hz⟩ := I.tuple hx
      have hlen := r'.length
      exact len_tuple pl (by simp only [List.size_toArray]; omega) ⟨.int xs.length, H, I.tok _, ⟨_, by simp only [List.size_toArray]; rw [hlen]⟩, q⟩
  | _ => exact (show False from e).elim
end
end L2
namespace L2
open PySem PySem.Spec PyProof.Rows
structure ObjM (h : Heap) (x dx C : Addr) (mA : Str → Option Value) : Prop where
  obj : h.get? x = some (PySem.W.instObj C dx)
  ns : h.Ns1 dx mA
  ne : dx ≠ x
theorem lookIn_ns {h : Heap} {dx : Addr} {mA : Str → Option Value} (n : h.Ns1 dx mA) : ∃ od, h.get? dx = some od ∧ ∀ name, PySem.W.lookIn name od = some (mA name) := by
  obtain ⟨o, es, ep, ho, hd, hk, _, hm⟩ := n
  refine ⟨o, ho, fun name => ?_⟩
  have e := hm name
  unfold nsFind findBy at e
  rw [← Array.find?_toList] at e
  unfold PySem.W.lookIn
  rw [hd]
  dsimp only
  split
  · rename_i y q
    rw [q] at e
    exact congrArg some e
  · rename_i q
    rw [q] at e
    have a : es.toList.any (·.refKey) = false := by
      rw [List.any_eq_false]
      intro y hy
      obtain ⟨z, t, hkey⟩ := hk y (Array.mem_toList_iff.mp hy)
      simp [DictEntry.refKey, hkey]
    have a' : ¬ es.toList.any (·.refKey) = true := by rw [a]; exact Bool.false_ne_true
    rw [if_neg a']
    exact congrArg some e
theorem ObjM.look {h : Heap} {x dx C : Addr} {mA : Str → Option Value} (I : ObjM h x dx C mA) : ∃ od, PySem.W.InstAt h x (PySem.W.instObj C dx) C (some od) ∧ ∀ name, PySem.W.lookIn name od = some (mA name) :=
  let ⟨od, ho, hl⟩ := lookIn_ns I.ns
  ⟨od, ⟨I.obj, rfl, rfl, ho⟩, hl⟩
theorem RelO.some_of {v : V} {o : Option Value} (r : RelO (some v) o) : ∃ u, o = some u ∧ RelV v u := by
  cases o with
  | none => exact (show False from r).elim
  | some u => exact ⟨u, rfl, r⟩
theorem handed_of {v : V} {u : Value} (r : RelV v u) : PySem.W.handedIn u = true := by
  cases v with
  | non => cases (show u = Value.none from r); rfl
  | bl b => cases (show u = Value.bool b from r); rfl
  | int i => obtain ⟨t, e⟩ := (show ∃ t, u = Value.int i t from r); cases e; rfl
  | str x => obtain ⟨t, e⟩ := (show ∃ t, u = Value.str x t from r); cases e; rfl
  | byt b => obtain ⟨t, e⟩ := (show ∃ t, u = Value.bytes b t from r); cases e; rfl
  | flt b => obtain ⟨t, e⟩ := (show ∃ t, u = Value.float b t from r); cases e; rfl
  | ref a => cases (show u = Value.ref a from r); rfl
  | ty n => cases (show u = Value.type n from r); rfl
section
variable {P : Program} {w : World} {H H' : Hp} {h h' : Heap} {a C dx : Addr} {fs fs' : List (Str × V)}
theorem ins_get (hok : HOk P w H h) (e : H a = some (.ins C dx fs)) : ∃ mA, ObjM h a dx C mA ∧ (∀ f, RelO (fs.lookup f) (mA f)) ∧ PySem.Within mA (fs.map (·.1)) ∧ fs.length ≤ 1000 ∧ H dx = some (.own a) := by
  obtain ⟨d, z, ne, ob, mA, n, r, q⟩ := (show ObjOk P w H h a (.ins C dx fs) from hok a _ e)
  exact ⟨mA, ⟨ob, n, ne⟩, r, q, z, d⟩
end
structure Cls (K : PySem.W.Frag) (C : Addr) : Prop where
  pg : PySem.W.plainGet K C Str.empty = true
  hd : PySem.W.hasDictIn K C = true
  po : PySem.W.plainOver K C = true
  sa : PySem.W.findIn K (.ref C) "__setattr__" = some (some (.builtin "object.__setattr__"))
theorem Cls.get {K : PySem.W.Frag} {C : Addr} (c : Cls K C) (f : Str) : PySem.W.plainGet K C f = true := c.pg
def NoAttr (K : PySem.W.Frag) (C : Addr) (f : Str) : Prop := PySem.W.findIn K (.ref C) f = some none
section
variable {X : Cx} {pins : List (Addr × Obj)} {σ : St} {H : Hp} {s : Shared} {a C dx : Addr} {fs : List (Str × V)} {f : Str} {v : V} {A : Around} {E : Value → Shared → Prop}
theorem attr_of {prog : Program} {w : World} {env : Env} {e : Expr} {f : Str} {pos : Pos} {s : Shared} {Q : Value → Shared → Prop} (hb : attributeBase e f env (eval e env) = eval e env)
    (h : wpAny (model prog w) A (eval e env) (fun o s₁ => wpAny (model prog w) A (getAttr o f true) Q E s₁) E s) : wpAny (model prog w) A (eval (.Attribute e f pos) env) Q E s :=
  Attribute_any_ h (by rw [arm_eval_Attribute, hb])
end
section
variable {X : Cx} {pins : List (Addr × Obj)} {σ : St} {H : Hp} {s : Shared} {A : Around} {E : Value → Shared → Prop} {Q : Value → Shared → Prop} {c : Value} {b : Bool}
inductive TyOf (K : PySem.W.Frag) (H : Hp) : V → Value → Prop where
  | non : TyOf K H .non (.type "NoneType")
  | bl (x : Bool) : TyOf K H (.bl x) (.type "bool")
  | int (i : Int) : TyOf K H (.int i) (.type "int")
  | str (x : Str) : TyOf K H (.str x) (.type "str")
  | flt (x : UInt64) : TyOf K H (.flt x) (.type "float")
  | lst {a : Addr} {xs : List V} (e : H a = some (.lst xs)) : TyOf K H (.ref a) (.type "list")
  | frz {a : Addr} {o : Obj} {xs : List V} (e : H a = some (.frz o (.lst xs))) : TyOf K H (.ref a) (.type "list")
  | tup {a : Addr} {xs : List V} (e : H a = some (.tup xs)) : TyOf K H (.ref a) (.type "tuple")
  | dK {a : Addr} {kvs : List (Key × V)} (e : H a = some (.dK kvs)) : TyOf K H (.ref a) (.type "dict")
  | dT {a : Addr} {kvs : List (List Key × V)} (e : H a = some (.dT kvs)) : TyOf K H (.ref a) (.type "dict")
  | ins {a C dx : Addr} {fs : List (Str × V)} (e : H a = some (.ins C dx fs)) (cl : Cls K C) (ha : PySem.W.findIn K (.ref C) "__class__" = some (some (.builtin "object.__class__")))
      (hn : PySem.W.specialIn K (.builtin "object.__class__") "__get__" = some (some (.builtin "getset_descriptor.__get__"))) (htk : PySem.W.takesIn K (.builtin "object.__class__") = some true)
      (hm : PySem.W.mroIn K C (.type "object") = some true) : TyOf K H (.ref a) (.ref C)
theorem isinst_ok {x : V} {u t : Value} (I : Inv X pins σ H s) (rx : RelV x u) (ty : TyOf X.K H x t) (e : PySem.W.kitOne X.K t c = some b) (h : ∀ tk, Q (.bool b) { s with toks := tk }) :
    wpAny (model X.prog X.w) A (call (.builtin "isinstance") [u, c]) Q E s := by
  cases ty with
  | non => cases (show u = Value.none from rx); exact PySem.W.kia_one PySem.W.kitx_none I.kIn True.intro e (fun z => nomatch z) h
  | bl y => cases (show u = Value.bool y from rx); exact PySem.W.kia_one PySem.W.kitx_bool I.kIn True.intro e (fun z => nomatch z) h
  | int i => obtain ⟨t, q⟩ := (show ∃ t, u = Value.int i t from rx); cases q; exact PySem.W.kia_one PySem.W.kitx_int I.kIn True.intro e (fun z => nomatch z) h
  | str y => obtain ⟨t, q⟩ := (show ∃ t, u = Value.str y t from rx); cases q; exact PySem.W.kia_one PySem.W.kitx_str I.kIn True.intro e (fun z => nomatch z) h
  | flt y => obtain ⟨t, q⟩ := (show ∃ t, u = Value.float y t from rx); cases q; exact PySem.W.kia_one PySem.W.kitx_float I.kIn True.intro e (fun z => nomatch z) h
  | @lst a xs ea =>
    cases (show u = Value.ref a from rx)
    obtain ⟨_, _, n, _, h1⟩ := (show ObjOk X.prog X.w H s.heap a (.lst xs) from I.hok a _ ea)
    exact PySem.W.kia_one PySem.W.kitx_list I.kIn ⟨_, h1, rfl⟩ e (fun z => nomatch z) h
  | @frz a ob xs ea =>
    cases (show u = Value.ref a from rx)
    obtain ⟨_, _, _, n, _, h1⟩ := (show ObjOk X.prog X.w H s.heap a (.frz ob (.lst xs)) from I.hok a _ ea)
    exact PySem.W.kia_one PySem.W.kitx_list I.kIn ⟨_, h1, rfl⟩ e (fun z => nomatch z) h
  | @tup a xs ea =>
    cases (show u = Value.ref a from rx)
    obtain ⟨_, _, _, p⟩ := (show ObjOk X.prog X.w H s.heap a (.tup xs) from I.hok a _ ea)
    obtain ⟨o, h1, h2, _⟩ := p
    exact PySem.W.kia_one PySem.W.kitx_tuple I.kIn ⟨o, h1, h2⟩ e (fun z => nomatch z) h
  | @dK a kvs ea =>
    cases (show u = Value.ref a from rx)
    obtain ⟨_, _, vs, _, p⟩ := (show ObjOk X.prog X.w H s.heap a (.dK kvs) from I.hok a _ ea)
    obtain ⟨o, es, ep, h1, h2, _⟩ := p
    exact PySem.W.kia_one PySem.W.kitx_dict I.kIn ⟨o, h1, h2.1⟩ e (fun z => nomatch z) h
  | @dT a kvs ea =>
    cases (show u = Value.ref a from rx)
    obtain ⟨_, _, xs, _, o, es, ep, h1, h2, _⟩ := (show ObjOk X.prog X.w H s.heap a (.dT kvs) from I.hok a _ ea)
    exact PySem.W.kia_one PySem.W.kitx_dict I.kIn ⟨o, h1, h2.1⟩ e (fun z => nomatch z) h
  | @ins a C dx fs ea cl ha hn htk hm =>
    cases (show u = Value.ref a from rx)
    obtain ⟨mA, O, _⟩ := ins_get I.hok ea
    obtain ⟨od, J, _⟩ := O.look
    exact PySem.W.kia_one (PySem.W.kitx_own (cl.get _) cl.hd ha hn htk hm) I.kIn J e (fun z => nomatch z) h
end
end L2
namespace L2
open PySem PySem.Spec PyProof.Rows
structure Room (k : Nat) (A : Around) : Prop where
  hd : A.handled = none
  dp : A.depth + 3 * k + 5 < recursionLimit
  un : A.units + 16 * k + 200 < cLine
theorem Room.mono {j k : Nat} {A : Around} (r : Room k A) (h : j ≤ k) : Room j A := ⟨r.hd, by have := r.dp; omega, by have := r.un; omega⟩
theorem Room.deeper {k : Nat} {A : Around} (r : Room (k + 1) A) (env : Env) : Room k (A.deeper env) :=
  ⟨r.hd, by have := r.dp; show A.depth + 1 + 3 * k + 5 < _; omega, by have := r.un; show A.units + 3 + 16 * k + 200 < _; omega⟩
theorem Room.in1 {k : Nat} {A : Around} (r : Room (k + 1) A) : Room k A.in1 :=
  ⟨r.hd, by have := r.dp; show A.depth + 3 * k + 5 < _; omega, by have := r.un; show A.units + 1 + 16 * k + 200 < _; omega⟩
theorem make_depth {A : Around} {C : Addr} {us : List Value} {kw : List (Str × Value)} : (A.under (.builtin "type.__call__" ⟨.ref C :: us, kw⟩)).depth = A.depth + 1 := by
  first | rfl | simp [Around.under, Code.weight, Code.isCreation, Code.isGuard, Code.isCaller, Code.frames, Code.isFrame, guardIds]
theorem make_units {A : Around} {C : Addr} {us : List Value} {kw : List (Str × Value)} : (A.under (.builtin "type.__call__" ⟨.ref C :: us, kw⟩)).units = A.units + 1 := by
  first | rfl | simp [Around.under, Code.cUnits, Code.frames, Code.isFrame]
theorem Room.make {k : Nat} {A : Around} (r : Room (k + 1) A) (C : Addr) (us : List Value) (kw : List (Str × Value)) : Room k (A.under (.builtin "type.__call__" ⟨.ref C :: us, kw⟩)) :=
  ⟨r.hd, by have := r.dp; rw [make_depth]; omega, by have := r.un; rw [make_units]; omega⟩
theorem Room.depth {k : Nat} {A : Around} (r : Room k A) : A.depth < recursionLimit := by have := r.dp; omega
theorem Room.units {k : Nat} {A : Around} (r : Room k A) : A.units + 64 < cLine := by have := r.un; omega
def tNil : TA := fun _ H Q => Q [] H
def tCons (ta : TE) (tr : TA) : TA := fun σ H Q => ta σ H fun x H1 => tr σ H1 fun xs H2 => Q (x :: xs) H2
section
variable {X : Cx} {e : Expr} {es : List Expr} {te : TE} {t : TA} {pos : Pos}
theorem pa_nil : PA X [] tNil := fun _ _ _ _ H Q I h => Calls.spliced_nil ⟨[], H, I, .nil, h⟩
theorem pa_cons (ha : PE X e te) (hr : PA X es t) (hs : starEach (e :: es) X.env = (false, eval e X.env) :: starEach es X.env := by rfl) : PA X (e :: es) (tCons te t) := by
  intro pos pins s σ H Q I h
  rw [hs]
  show wpAny _ _ (spliced ((false, eval e X.env) :: backTo pos (starEach es X.env))) _ _ s
  refine Calls.spliced_cons (thn (ha pins s σ H _ I h) fun u s1 ⟨x, H1, I1, r1, q1⟩ => ?_)
  exact thn (hr pos pins s1 σ H1 _ I1 q1) fun us s2 ⟨xs, H2, I2, r2, q2⟩ => ⟨x :: xs, H2, I2, .cons r1 r2, q2⟩
def tTup (t : TA) : TE := fun σ H Q => t σ H fun xs H1 => xs.length ≤ sizeLine ∧ ∀ p, H1 p = none → Q (.ref p) (upd H1 p (.tup xs))
def tLst (t : TA) : TE := fun σ H Q => t σ H fun xs H1 => xs.length ≤ sizeLine ∧ ∀ p, H1 p = none → Q (.ref p) (upd H1 p (.lst xs))
theorem pe_tup {x1} (h : PA X es t) : PE X (.Tuple es x1 pos) (tTup t) := by
  intro pins s σ H Q I hq
  refine wpAny_Tuple_spliced (thn (h pos pins s σ H _ I hq) fun us s1 ⟨xs, H1, I1, r, z, q⟩ => ⟨by rw [← r.length]; exact z, ?_⟩)
  have hf : H1 s1.heap.objs.size = none := I1.hok.fresh (Nat.le_refl _)
  refine ⟨.ref s1.heap.objs.size, upd H1 s1.heap.objs.size (.tup xs), I1.laid (t' := s1.toks) (fun b u e => Heap.get?_push_of_some _ e) (Nat.le_refl _) ?_, rfl, q _ hf⟩
  exact ⟨z, us, r, ⟨_, Heap.get?_push_size _ rfl, rfl, _, rfl⟩⟩
theorem pe_lst (h : PA X es t) : PE X (.List es pos) (tLst t) := by
  intro pins s σ H Q I hq
  refine wpAny_List_spliced (thn (h pos pins s σ H _ I hq) fun us s1 ⟨xs, H1, I1, r, z, q⟩ => ⟨by rw [← r.length]; exact z, ?_⟩)
  have hf : H1 s1.heap.objs.size = none := I1.hok.fresh (Nat.le_refl _)
  refine ⟨.ref s1.heap.objs.size, upd H1 s1.heap.objs.size (.lst xs), I1.laid (t' := s1.toks) (fun b u e => Heap.get?_push_of_some _ e) (Nat.le_refl _) ?_, rfl, q _ hf⟩
  exact ⟨z, us, 0, r, Heap.get?_push_size _ rfl⟩
end
abbrev Sp := List V → Hp → VK → XK → Prop
abbrev CXT := List Env → Hp → Shared → XK → Value → Shared → Prop
structure Env0 (P : Program) (w : World) (K : PySem.W.Frag) (mg : Str → Option Value) (base : Heap) (A : Around) (outer : List Env) (s : Shared) (H : Hp) : Prop where
  frames : A.frames = some outer
  mod : Mod K mg base
  bs : ∀ b o, base.get? b = some o → s.heap.get? b = some o ∧ H b = none
  bsz : base.objs.size ≤ s.heap.objs.size
  funs : s.heap.FunFrames base outer
  frf : ∀ b ∈ frs outer, H b = none
  hok : HOk P w H s.heap
  bare : AllBare s.gens
def CE (outer : List Env) (P : Program) (w : World) (H : Hp) (s : Shared) (Q : VK) (u : Value) (s' : Shared) : Prop :=
  ∃ v H', s'.os = s.os ∧ AllBare s'.gens ∧ Un (frs outer) [] H H' s.heap s'.heap ∧ HOk P w H' s'.heap ∧ RelV v u ∧ Q v H'
def CR (CX : CXT) (outer : List Env) (P : Program) (w : World) (H : Hp) (s : Shared) (Q : VK) (E : XK) (r : Result) (s' : Shared) : Prop :=
  match r with
  | .ok (.ret u) => CE outer P w H s Q u s'
  | .ok _ => False
  | .error e => CX outer H s E e s'
structure FnOk (P : Program) (w : World) (K : PySem.W.Frag) (mg : Str → Option Value) (base : Heap) (CX : CXT) (k : Nat) (f : Addr) (fd : FuncData) (ps : List Str) (sp : Sp) : Prop where
  len : ∀ vs H Q E, sp vs H Q E → vs.length = ps.length
  run : ∀ (A : Around) (outer : List Env) (s : Shared) (H : Hp) (args : Args) (us : List Value) (vs : List V) (Q : VK) (E : XK), Room k A → Env0 P w K mg base A outer s H → BindsTo s fd args (ps.zip us) → Vals vs us → sp vs H Q E →
    codeAny (model P w) A (.call (.ref f) args) (CR CX outer P w H s Q E) s
theorem FnOk.mono {P : Program} {w : World} {K : PySem.W.Frag} {mg : Str → Option Value} {base : Heap} {CX : CXT} {j k : Nat} {f : Addr} {fd : FuncData} {ps : List Str} {sp : Sp} (F : FnOk P w K mg base CX j f fd ps sp) (h : j ≤ k) :
    FnOk P w K mg base CX k f fd ps sp := ⟨F.len, fun A outer s H args us vs Q E hr => F.run A outer s H args us vs Q E (hr.mono h)⟩
theorem FnOk.imp {P : Program} {w : World} {K : PySem.W.Frag} {mg : Str → Option Value} {base : Heap} {CX : CXT} {k : Nat} {f : Addr} {fd : FuncData} {ps : List Str} {sp sp' : Sp} (F : FnOk P w K mg base CX k f fd ps sp)
    (h : ∀ vs H Q E, sp' vs H Q E → sp vs H Q E) : FnOk P w K mg base CX k f fd ps sp' :=
  ⟨fun vs H Q E q => F.len vs H Q E (h _ _ _ _ q), fun A outer s H args us vs Q E hr he hb hv hs => F.run A outer s H args us vs Q E hr he hb hv (h _ _ _ _ hs)⟩
theorem Env0.make {P : Program} {w : World} {K : PySem.W.Frag} {mg : Str → Option Value} {base : Heap} {A : Around} {outer : List Env} {s : Shared} {H : Hp} (e : Env0 P w K mg base A outer s H) (C : Addr) (us : List Value) (kw : List (Str × Value)) :
    Env0 P w K mg base (A.under (.builtin "type.__call__" ⟨.ref C :: us, kw⟩)) outer s H := ⟨by first | exact e.frames | (simpa [Around.under, Code.envs, Code.isFrame, pushEnvs] using e.frames), e.mod, e.bs, e.bsz, e.funs, e.frf, e.hok, e.bare⟩
theorem Env0.in1 {P : Program} {w : World} {K : PySem.W.Frag} {mg : Str → Option Value} {base : Heap} {A : Around} {outer : List Env} {s : Shared} {H : Hp} (e : Env0 P w K mg base A outer s H) :
    Env0 P w K mg base A.in1 outer s H := ⟨e.frames, e.mod, e.bs, e.bsz, e.funs, e.frf, e.hok, e.bare⟩
section
variable {X : Cx} {pins : List (Addr × Obj)} {σ : St} {H : Hp} {s s' : Shared}
theorem Inv.env0 (I : Inv X pins σ H s) : Env0 X.prog X.w X.K X.mg X.base X.A X.stack s H :=
  ⟨I.ok.frames, I.ok.mod, I.bs, Nat.le_trans I.ok.bsz I.sz, I.stack, I.stkFree, I.hok, I.bare⟩
theorem Inv.after {Q : VK} {u : Value} (I : Inv X pins σ H s) (h : CE X.stack X.prog X.w H s Q u s') : EP X pins σ Q u s' := by
  obtain ⟨v, H', os, bare, un, hok, r, q⟩ := h
  obtain ⟨hh, g, d, t, os'⟩ := s'
  obtain rfl : os' = s.os := os
  exact ⟨v, H', I.call (h' := hh) (g' := g) (d' := d) (t' := t) (ch := []) un hok bare (fun b z => absurd z (by simp)), r, q⟩
end
def tCall (sp : Sp) (dvs : List V) (E : XK) (t : TA) : TE := fun σ H Q => t σ H fun vs H1 => sp (vs ++ dvs) H1 Q E
def Binds (K : PySem.W.Frag) (fd : FuncData) (ps : List Str) (ds : List Value) : Prop :=
  ∀ (s : Shared) (us : List Value), K.In s.heap → (us ++ ds).length = ps.length → BindsTo s fd ⟨us, []⟩ (ps.zip (us ++ ds))
theorem Binds.all {K : PySem.W.Frag} {fd : FuncData} {ps : List Str} (h : ∀ us : List Value, us.length = ps.length → bindArgs fd ⟨us, []⟩ = pure (ps.zip us)) : Binds K fd ps [] := fun s us _ hl => by
  rw [List.append_nil] at hl ⊢
  exact .of_eq (h us hl)
def Passes (CX : CXT) (X : Cx) (E : XK) : Prop := ∀ (pins : List (Addr × Obj)) (σ : St) (H : Hp) (s : Shared) (e : Value) (s' : Shared), Inv X pins σ H s → CX X.stack H s E e s' → X.xe e s'
section
variable {X : Cx} {CX : CXT} {k : Nat} {f C : Addr} {fd : FuncData} {ps : List Str} {sp : Sp} {dvs : List V} {ds : List Value} {E : XK} {x m : Str} {p pos apos : Pos} {e o : Expr} {es : List Expr} {ta : TE} {t : TA}
theorem run_fn {pins : List (Addr × Obj)} {σ : St} {H : Hp} {s : Shared} {Q : VK} {us : List Value} {vs : List V} (F : FnOk X.prog X.w X.K X.mg X.base CX k f fd ps sp) (hr : Room k X.A) (hb : Binds X.K fd ps ds) (hd : Vals dvs ds) (hx : Passes CX X E)
    (I : Inv X pins σ H s) (r : Vals vs us) (h : sp (vs ++ dvs) H Q E) : wpAny (model X.prog X.w) X.A (call (.ref f) us) (EP X pins σ Q) X.xe s := by
  have r2 : Vals (vs ++ dvs) (us ++ ds) := r.append hd
  have hl : (us ++ ds).length = ps.length := by rw [← r2.length]; exact F.len _ _ _ _ h
  refine wpAny_call (codeAny_mono (F.run X.A X.stack s H ⟨us, []⟩ (us ++ ds) (vs ++ dvs) Q E hr I.env0 (hb s us I.kIn hl) r2 h) fun r s' hq => ?_)
  cases r with
  | error e => exact hx pins σ H s e s' I hq
  | ok fl =>
    cases fl with
    | ret u => exact I.after hq
    | next => exact False.elim hq
    | brk => exact False.elim hq
    | cont => exact False.elim hq
theorem pe_call (F : FnOk X.prog X.w X.K X.mg X.base CX k f fd ps sp) (hr : Room k X.A) (hg : Gl X x) (hm : X.mg x = some (.ref f)) (hk : PySem.W.keepIn X.K (.ref f) = true) (hb : Binds X.K fd ps ds) (hd : Vals dvs ds) (hx : Passes CX X E)
    (ha : PA X (e :: es) t) (hdb : (x == ("__debug__" : Str)) = false := by decide) (he : starEach (e :: es) X.env = (false, eval e X.env) :: starEach es X.env := by rfl) (hpl : (backTo pos (starEach es X.env)).any (·.1) = false := by rfl) :
    PE X (.Call (.Name x p) (e :: es) [] pos) (tCall sp dvs E t) := by
  intro pins s σ H Q I h
  refine wpAny_Call_Name_kw (ld_glob I hg hm ?_ hdb)
  refine PySem.W.callWith_K (h₀ := X.base) I.ok.mod.kin hk (thn (ha pos pins s σ H _ I h) fun us s1 ⟨vs, H1, I1, r, q⟩ => ⟨I1.kIn, ?_⟩) he hpl
  exact run_fn F hr hb hd hx I1 r q
end
structure FnScope (N P : List Str) (sc : Scope) : Prop where
  kind : sc.kind = .function
  co : sc.isCoroutine = false
  gen : sc.isGenerator = false
  nd : N.Nodup
  pre : N.take P.length = P
  par : ∀ x ∈ P, sc.names.lookup x = some .local ∨ sc.names.lookup x = some .cell
  nofree : ∀ y ∈ sc.names, y.2 ≠ .free
theorem bindL_out {kindOf : Str → Option NameKind} {x : Str} : ∀ {binds : List (Str × Value)} {m : Str → Option Value}, (∀ v, (x, v) ∉ binds) → bindL kindOf binds m x = m x
  | [], _, _ => rfl
  | (n, v) :: r, m, h => by
    unfold bindL
    rw [bindL_out fun w hw => h w (List.mem_cons_of_mem _ hw)]
    split
    · have : x ≠ n := by rintro rfl; exact h v List.mem_cons_self
      simp [this]
    · rfl
theorem bindC_out {kindOf : Str → Option NameKind} {x : Str} : ∀ {binds : List (Str × Value)} {m : Str → Option Value}, (∀ v, (x, v) ∉ binds) → bindC kindOf binds m x = m x
  | [], _, _ => rfl
  | (n, v) :: r, m, h => by
    unfold bindC
    rw [bindC_out fun w hw => h w (List.mem_cons_of_mem _ hw)]
    split
    · rfl
    · have : x ≠ n := by rintro rfl; exact h v List.mem_cons_self
      simp [this]
theorem bindL_get {kindOf : Str → Option NameKind} {x : Str} {v : Value} : ∀ {P : List Str} {vs : List Value} {i : Nat} {m : Str → Option Value}, P.Nodup → P[i]? = some x → vs[i]? = some v → kindOf x = some .local →
    bindL kindOf (P.zip vs) m x = some v
  | [], _, _, _, _, h, _, _ => by simp at h
  | _ :: _, [], _, _, _, _, h, _ => by simp at h
  | p :: P, w :: vs, 0, m, nd, h1, h2, hk => by
    simp at h1 h2; subst h1; subst h2
    show bindL kindOf ((p, w) :: P.zip vs) m p = _
    unfold bindL
    rw [bindL_out fun v hv => (List.nodup_cons.mp nd).1 (List.of_mem_zip hv).1, if_pos hk]
    simp
  | p :: P, w :: vs, i + 1, m, nd, h1, h2, hk => by
    show bindL kindOf ((p, w) :: P.zip vs) m x = _
    unfold bindL
    exact bindL_get (i := i) (List.nodup_cons.mp nd).2 (by simpa using h1) (by simpa using h2) hk
theorem bindC_get {kindOf : Str → Option NameKind} {x : Str} {v : Value} : ∀ {P : List Str} {vs : List Value} {i : Nat} {m : Str → Option Value}, P.Nodup → P[i]? = some x → vs[i]? = some v → kindOf x ≠ some .local →
    bindC kindOf (P.zip vs) m x = some v
  | [], _, _, _, _, h, _, _ => by simp at h
  | _ :: _, [], _, _, _, _, h, _ => by simp at h
  | p :: P, w :: vs, 0, m, nd, h1, h2, hk => by
    simp at h1 h2; subst h1; subst h2
    show bindC kindOf ((p, w) :: P.zip vs) m p = _
    unfold bindC
    rw [bindC_out fun v hv => (List.nodup_cons.mp nd).1 (List.of_mem_zip hv).1, if_neg hk]
    simp
  | p :: P, w :: vs, i + 1, m, nd, h1, h2, hk => by
    show bindC kindOf ((p, w) :: P.zip vs) m x = _
    unfold bindC
    exact bindC_get (i := i) (List.nodup_cons.mp nd).2 (by simpa using h1) (by simpa using h2) hk
def start (N : List Str) (vs : List V) : St := vs.map some ++ List.replicate (N.length - vs.length) none
def cxOf (CX : CXT) (P : Program) (w : World) (K : PySem.W.Frag) (mg : Str → Option Value) (base : Heap) (N : List Str) (qual : Str) (scope : Scope) (f : Addr) (cd : Value) (A : Around) (outer : List Env) (s : Shared) (H : Hp) (E : XK) : Cx where
  prog := P
  w := w
  K := K
  mg := mg
  base := base
  A := A.deeper (envOfC qual scope s.heap.objs.size f cd)
  N := N
  s₀ := s
  H₀ := H
  env := envOfC qual scope s.heap.objs.size f cd
  outer := outer
  stack := envOfC qual scope s.heap.objs.size f cd :: outer
  ex := []
  calm := true
  fn := fun _ => true
  pn := []
  xe := fun e s' => wpAny (model P w) (A.deeper (envOfC qual scope s.heap.objs.size f cd)) (leaving (envOfC qual scope s.heap.objs.size f cd) e) (fun _ s'' => CX outer H s E e s'') (fun e' s'' => CX outer H s E e' s'') s'
theorem cell_has {sc : Scope} {n : Nat} {x : Str} (h : sc.names.lookup x = some .cell) : ∃ c, (cellsFrom n sc.names []).lookup x = some c := by
  have q := PySem.W.cellsFrom_some sc.names n [] (.inl h)
  exact Option.isSome_iff_exists.mp q
theorem inv_start {CX : CXT} {P : Program} {w : World} {K : PySem.W.Frag} {mg : Str → Option Value} {base : Heap} {N ps : List Str} {qual : Str} {scope : Scope} {f : Addr} {cd : Value} {A : Around} {outer : List Env} {s s1 : Shared} {H : Hp} {E : XK} {us : List Value} {vs : List V}
    (S : FnScope N ps scope) (hd : A.handled = none) (e0 : Env0 P w K mg base A outer s H) (hl : vs.length = ps.length) (r : Vals vs us)
    (x : InCallC s s.heap.objs.size (bindL (envOfC qual scope s.heap.objs.size f cd).kindOf (ps.zip us) fun _ => none) (cellsFrom (s.heap.objs.size + 1) scope.names []) (bindC (envOfC qual scope s.heap.objs.size f cd).kindOf (ps.zip us) fun _ => none) s1) :
    Inv (cxOf CX P w K mg base N qual scope f cd A outer s H E) [] (start N vs) H s1 := by
  have hpl : ps.length ≤ N.length := by have := congrArg List.length S.pre; rw [List.length_take] at this; omega
  obtain ⟨h1, tk, rfl, hk⟩ := x.done
  have noA : ∀ b : Addr, b ∉ (cxOf CX P w K mg base N qual scope f cd A outer s H E).ex := fun b z => absurd (show b ∈ ([] : List Addr) from z) (by simp)
  refine ⟨⟨e0.mod, S.kind, rfl, rfl, Nat.le_refl _, fun y z c h1 h2 => ?_, fun y hy => ?_, fun y c _ h => ?_, fun _ => hd, Around.frames_deeper e0.frames, .inr ⟨rfl, rfl⟩, fun b z => absurd z (noA b), e0.bs, e0.bsz, fun b _ _ => noA b, fun b z => absurd z (noA b), e0.funs, e0.frf⟩,
    rfl, e0.bare, Un.kept hk, ⟨_, x.toInCall.ns, fun i y v h1 h2 h3 => ?_⟩, fun y c h => ⟨_, x.cell y c h⟩, e0.hok.fresh (Nat.le_refl _), fun y c h => ?_, fun p hp => absurd (show p ∈ ([] : List (Addr × Obj)) from hp) (by simp), e0.hok.kept hk, ?_⟩
  · exact name_of_addr x.apart (PySem.mem_of_lookup h1) (PySem.mem_of_lookup h2)
  · have hy : scope.names.lookup y = some .cell ∨ scope.names.lookup y = some .free := hy
    rcases hy with hy | hy
    · exact cell_has hy
    · exact absurd rfl (S.nofree _ (PySem.mem_of_lookup hy))
  · exact Nat.le_of_lt (x.above y c (PySem.mem_of_lookup h))
  · have hi : i < vs.length := by
      unfold start at h2
      by_cases hi : i < vs.length
      · exact hi
      · rw [List.getElem?_append_right (by simpa using hi)] at h2
        rw [List.getElem?_replicate] at h2
        split at h2 <;> cases h2
    have ha : vs[i]? = some v := by
      unfold start at h2
      rw [List.getElem?_append_left (by simpa using hi), List.getElem?_map] at h2
      cases e : vs[i]? with
      | none => rw [e] at h2; cases h2
      | some a => rw [e] at h2; cases h2; rfl
    obtain ⟨u, hu, rv⟩ := r.get ha
    have hp : ps[i]? = some y := by
      rw [← S.pre, List.getElem?_take_of_lt (by omega)]; exact h1
    have ndP : ps.Nodup := by rw [← S.pre]; exact S.nd.sublist (List.take_sublist _ _)
    refine ⟨u, rv, ?_⟩
    rcases S.par y (List.mem_of_getElem? hp) with k | k
    · exact .inl ⟨k, bindL_get ndP hp hu k⟩
    · obtain ⟨c, e⟩ := cell_has (n := s.heap.objs.size + 1) k
      refine .inr ⟨.inl k, c, e, ?_⟩
      have q := x.cell y c e
      rw [bindC_get ndP hp hu (by show scope.names.lookup y ≠ _; rw [k]; decide)] at q
      exact q
  · exact e0.hok.fresh (Nat.le_of_lt (x.above y c (PySem.mem_of_lookup h)))
  · unfold start
    show _ = N.length
    rw [List.length_append, List.length_map, List.length_replicate]
    omega
theorem fn_of {CX : CXT} {P : Program} {w : World} {K : PySem.W.Frag} {mg : Str → Option Value} {base : Heap} {k : Nat} {f : Addr} {name qual : Str} {params : Arguments} {body : List Stmt} {scope : Scope} {dV kV doc pm cdv ct oc : Value} {an od : Option Addr}
    {osl : Array (Option Value)} {N ps : List Str} {sp : Sp} (lk : K.lookup f = some ⟨oc, od, .func (PySem.W.fnOf name qual params body scope dV kV doc pm an cdv ct), osl⟩) (hcd : PySem.W.codeIn K cdv qual = true) (S : FnScope N ps scope)
    (len : ∀ vs H Q E, sp vs H Q E → vs.length = ps.length)
    (hbody : ∀ (A : Around) (outer : List Env) (s : Shared) (H : Hp) (vs : List V) (Q : VK) (E : XK), Room k (A.deeper (envOfC qual scope s.heap.objs.size f cdv)) → sp vs H Q E →
      ∃ t, PSs (cxOf CX P w K mg base N qual scope f cdv A outer s H E) body t ∧ t { nx := fun _ H' => Q .non H', rt := Q } (start N vs) H) :
    FnOk P w K mg base CX (k + 1) f (PySem.W.fnOf name qual params body scope dV kV doc pm an cdv ct) ps sp := by
  refine ⟨len, fun A outer s H args us vs Q E hr e0 hb r hsp => ?_⟩
  have hl := len _ _ _ _ hsp
  have KX : K.In s.heap := e0.mod.kin.keeps fun b o e => (e0.bs b o e).1
  have lim : s.heap.NoLimit := e0.mod.nolimit.keeps fun b o e => (e0.bs b o e).1
  have hkind : ∀ y ∈ ps.zip us, scope.names.lookup y.1 = some .local ∨ (scope.names.lookup y.1 = some .cell ∧ ((cellsFrom (s.heap.objs.size + 1) scope.names []).lookup y.1).isSome = true) := fun ⟨n, v⟩ hy => by
    rcases S.par n (List.of_mem_zip hy).1 with q | q
    · exact .inl q
    · exact .inr ⟨q, PySem.W.cellsFrom_some _ _ _ (.inl q)⟩
  refine codeAny_call_function hr.depth (KX _ _ lk) rfl S.co S.gen rfl (PySem.W.codeRec_of KX hcd) (hb _ _ _ _ ?_)
  refine wpAny_newFunctionEnv_cells S.kind hkind fun env he s1 x => ?_
  subst he
  refine ⟨lim.keeps x.toInCall.keep, codeAny_func ?_⟩
  obtain ⟨t, ht, hq⟩ := hbody A outer s H vs Q E (hr.deeper _) hsp
  have I : Inv (cxOf CX P w K mg base N qual scope f cdv A outer s H E) [] (start N vs) H s1 := inv_start S hr.hd e0 hl r x
  refine wpAny_mono (ht [] s1 (start N vs) H _ I hq) (fun fl s' hs => ?_) fun e s' hs => hs
  have fin : ∀ {σ' : St} {H' : Hp} {v : V} {u : Value}, Inv (cxOf CX P w K mg base N qual scope f cdv A outer s H E) [] σ' H' s' → RelV v u → Q v H' → CE outer P w H s Q u s' :=
    fun {σ' H' v u} J rv q => ⟨v, H', J.os, J.bare, J.base, J.hok, rv, q⟩
  cases fl with
  | ret u =>
    obtain ⟨v, σ', H', J, rv, q⟩ := hs
    exact fin J rv q
  | next =>
    obtain ⟨σ', H', J, q⟩ := hs
    exact fin (v := V.non) (u := Value.none) J rfl q
  | brk =>
    obtain ⟨_, _, _, q⟩ := hs
    exact False.elim q
  | cont =>
    obtain ⟨_, _, _, q⟩ := hs
    exact False.elim q
end L2
namespace L2
open PySem PySem.Spec PyProof.Rows
section
variable {X : Cx} {x : Str} {p pos : Pos} {e : Expr} {es : List Expr} {t : TA} {id T : String} {r : List V → Hp → VK → Prop}
def tCB (r : List V → Hp → VK → Prop) (t : TA) : TE := fun σ H Q => t σ H fun vs H1 => r vs H1 Q
theorem pe_callB (hc : CallR X (.builtin id) r) (hg : Gl X x) (hm : X.mg x = none) (hv : bootBuiltins x = some (.builtin id)) (ha : PA X (e :: es) t) (hn : x ≠ "__name__" := by decide) (hdb : (x == ("__debug__" : Str)) = false := by decide)
    (he : starEach (e :: es) X.env = (false, eval e X.env) :: starEach es X.env := by rfl) (hpl : (backTo pos (starEach es X.env)).any (·.1) = false := by rfl) : PE X (.Call (.Name x p) (e :: es) [] pos) (tCB r t) := by
  intro pins s σ H Q I h
  refine wpAny_Call_Name_kw (ld_blt I hg hm hv ?_ hn hdb)
  exact PyProof.Rows.callWith_builtin1 (thn (ha pos pins s σ H _ I h) fun us s1 ⟨vs, H1, I1, r1, q1⟩ => hc pins s1 σ H1 vs us Q I1 r1 q1) he hpl
theorem pe_callTy (hc : CallR X (.type T) r) (hg : Gl X x) (hm : X.mg x = none) (hv : bootBuiltins x = some (.type T)) (ha : PA X (e :: es) t) (hn : x ≠ "__name__" := by decide) (hdb : (x == ("__debug__" : Str)) = false := by decide)
    (he : starEach (e :: es) X.env = (false, eval e X.env) :: starEach es X.env := by rfl) (hpl : (backTo pos (starEach es X.env)).any (·.1) = false := by rfl) : PE X (.Call (.Name x p) (e :: es) [] pos) (tCB r t) := by
  intro pins s σ H Q I h
  refine wpAny_Call_Name_kw (ld_blt I hg hm hv ?_ hn hdb)
  exact PyProof.Rows.callWith_type1 (thn (ha pos pins s σ H _ I h) fun us s1 ⟨vs, H1, I1, r1, q1⟩ => hc pins s1 σ H1 vs us Q I1 r1 q1) he hpl
end
end L2
namespace HT
open PySem PyProof.Rows
section
variable {prog : Program} {w : World} {A : Around} {E : Value → Shared → Prop} {s : Shared}
theorem cat_tup {t b : Addr} {vs ws : List Value} {Q : Value → Shared → Prop} (ht : IsTup s.heap t vs.toArray) (hb : IsTup s.heap b ws.toArray) (hv : vs ≠ [])
    (h1 : ws = [] → Q (.ref t) s) (h2 : ws ≠ [] → Q (.ref s.heap.objs.size) { s with heap := s.heap.push { cls := .type "tuple", data := .seq (vs ++ ws).toArray } })
    (hsz : vs.length + ws.length ≤ sizeLine) : wpAny (model prog w) A (binaryOp .Add (.ref t) (.ref b)) Q E s := by
  obtain ⟨⟨cls, dd, data, sl⟩, ho, hc, n, hd⟩ := id ht
  obtain ⟨⟨cls2, dd2, data2, sl2⟩, ho2, hc2, n2, hd2⟩ := id hb
  simp only at hc hd hc2 hd2
  subst hc hd hc2 hd2
  have e : vs.toArray ++ ws.toArray = (vs ++ ws).toArray := by simp
  by_cases hw : ws = []
  · exact concat_meets ⟨_, ho, rfl⟩ ⟨_, ho2, rfl⟩ noFill_tuple_add seq_tuple_add PySem.F.slot_tuple_add PySem.F.entry_tuple_add (PySem.F.args_tuple_add_2 _ _)
      (tuple_addW1 t b vs.toArray ws.toArray n n2 dd dd2 sl sl2 (by simpa using hv) (by simp [hw])) ⟨ho, ho2, h1 hw⟩
  · refine concat_meets ⟨_, ho, rfl⟩ ⟨_, ho2, rfl⟩ noFill_tuple_add seq_tuple_add PySem.F.slot_tuple_add PySem.F.entry_tuple_add (PySem.F.args_tuple_add_2 _ _)
      (tuple_addW2 t b vs.toArray ws.toArray n n2 dd dd2 sl sl2 (by simpa using hv) (by simpa using hw) (by rw [List.size_toArray, List.size_toArray]; exact hsz)) ⟨ho, ho2, ?_⟩
    rw [e]
    exact h2 hw
def sIx (n d : Nat) : Option Int → Nat
  | none => d
  | some v => if v < 0 then (v + (n : Int)).toNat else min v.toNat n
theorem sIx_le (n d : Nat) (hd : d ≤ n) (o : Option Int) : sIx n d o ≤ n := by
  cases o with
  | none => exact hd
  | some v =>
    show (if v < 0 then (v + (n : Int)).toNat else min v.toNat n) ≤ n
    by_cases hv : v < 0
    · rw [if_pos hv]; omega
    · rw [if_neg hv]; exact Nat.min_le_right _ _
theorem clip_eq (v : Int) (n d : Nat) : (if v < 0 then max (v + (n : Int)) 0 else min v (n : Int)) = ((sIx n d (some v) : Nat) : Int) := by
  show (if v < 0 then max (v + (n : Int)) 0 else min v (n : Int)) = (((if v < 0 then (v + (n : Int)).toNat else min v.toNat n) : Nat) : Int)
  by_cases hv : v < 0
  · simp only [if_pos hv]; omega
  · simp only [if_neg hv]; omega
theorem adjust_gen (lo hi : Option Int) (n : Nat) : Builtin.Slice.sliceAdjust lo hi 1 (n : Int) = (((sIx n 0 lo : Nat) : Int), ((sIx n n hi : Nat) : Int)) := by
  have h1 : ¬ ((1 : Int) < 0) := by omega
  unfold Builtin.Slice.sliceAdjust
  simp only [h1, if_false]
  refine Prod.ext ?_ ?_
  · cases lo with
    | none => rfl
    | some v => exact clip_eq v n 0
  · cases hi with
    | none => rfl
    | some v => exact clip_eq v n n
theorem places_gen (i j : Nat) : Builtin.Slice.slicePlaces (i : Int) (j : Int) 1 = j - i := by
  unfold Builtin.Slice.slicePlaces
  have h1 : (1 : Int) > 0 := by omega
  simp only [h1, if_true, Int.ediv_one]
  split <;> omega
theorem slicePart_ {v : Value} {o : Option Int} {Q : Option Int → Shared → Prop} (p : IsPart v o) (h : Q o s) : wpAny (model prog w) A (Builtin.Slice.slicePartIndex v) Q E s := by
  cases p with
  | none => exact slicePart_none h
  | int i t => exact slicePart_int h
theorem sliceApplied_gen {sl : Addr} {vl vu : Value} {lo hi : Option Int} {n : Nat} {Q : Int × Int × Nat → Shared → Prop} (hs : s.heap.IsSliceOf sl vl vu .none) (pl : IsPart vl lo) (pu : IsPart vu hi)
    (h : Q (((sIx n 0 lo : Nat) : Int), 1, sIx n n hi - sIx n 0 lo) s) : wpAny (model prog w) A (Builtin.Slice.sliceApplied (.ref sl) (pure (n : Int))) Q E s := by
  obtain ⟨os, hos, hcs, hds⟩ := id hs
  unfold Builtin.Slice.sliceApplied Builtin.Slice.sliceFields
  refine wpAny_bind (wpAny_bind (wpAny_field hos hds (x := vl) rfl (wpAny_bind (wpAny_field hos hds (x := vu) rfl (wpAny_bind (wpAny_field hos hds (x := .none) rfl (wpAny_pure ?_)))))))
  refine wpAny_bind (slicePart_none ?_)
  show wpAny _ _ (if ((1 : Int) == 0) = true then _ else _) _ _ s
  rw [if_neg (by decide)]
  refine wpAny_bind (slicePart_ pl (wpAny_bind (slicePart_ pu (wpAny_bind (wpAny_pure ?_)))))
  show wpAny _ _ (match Builtin.Slice.sliceAdjust lo hi 1 (n : Int) with | (lo, hi) => pure (lo, (1 : Int), Builtin.Slice.slicePlaces lo hi 1)) _ _ s
  rw [adjust_gen lo hi n]
  show wpAny _ _ (pure (((sIx n 0 lo : Nat) : Int), (1 : Int), Builtin.Slice.slicePlaces ((sIx n 0 lo : Nat) : Int) ((sIx n n hi : Nat) : Int) 1)) _ _ s
  rw [places_gen]
  exact wpAny_pure h
theorem pick_gen (xs : Array Value) (i k : Nat) : ((List.range k).filterMap fun (m : Nat) => xs[((i : Int) + (m : Int) * 1).toNat]?).toArray = ((xs.toList.drop i).take k).toArray := by
  have e : (fun (m : Nat) => xs[((i : Int) + (m : Int) * 1).toNat]?) = fun m => xs[i + m]? := by
    funext m
    have : ((i : Int) + (m : Int) * 1).toNat = i + m := by omega
    rw [this]
  rw [e]
  have := pick_run xs i k
  rw [List.filterMap_map] at this
  have e2 : ((fun x => xs[x]?) ∘ fun x => i + x) = fun m => xs[i + m]? := rfl
  rw [e2] at this
  rw [this]
theorem getItem_tuple_cut {t sl : Addr} {items : Array Value} {vl vu : Value} {lo hi : Option Int} {Q : Value → Shared → Prop} (ht : IsTup s.heap t items) (hs : s.heap.IsSliceOf sl vl vu .none) (pl : IsPart vl lo) (pu : IsPart vu hi)
    (hw : ¬ (sIx items.size 0 lo = 0 ∧ sIx items.size items.size hi = items.size))
    (h : Q (.ref s.heap.objs.size) { s with heap := s.heap.push { cls := .type "tuple", data := .seq ((items.toList.drop (sIx items.size 0 lo)).take (sIx items.size items.size hi - sIx items.size 0 lo)).toArray } })
    (hsz : items.size ≤ sizeLine) : wpAny (model prog w) A (getItem (.ref t) (.ref sl)) Q E s := by
  have htake : sizeOk (.seq ((items.toList.drop (sIx items.size 0 lo)).take (sIx items.size items.size hi - sIx items.size 0 lo)).toArray) := by
    show ((items.toList.drop (sIx items.size 0 lo)).take (sIx items.size items.size hi - sIx items.size 0 lo)).toArray.size ≤ sizeLine
    rw [List.size_toArray, List.length_take, List.length_drop, Array.length_toList]
    omega
  have hj : sIx items.size items.size hi ≤ items.size := sIx_le _ _ (Nat.le_refl _) hi
  obtain ⟨os, hos, hcs, hds⟩ := id hs
  have hTs : s.TypeIs (.ref sl) "slice" := ⟨os, hos, hcs⟩
  unfold getItem
  try with_reducible refine wpAny_holding ?_
  first | refine wpAny_bind (wpAny_pure ?_) | skip
  refine wpAny_bind (wpAny_sequenceKey ht.typeIs (by decide) ?_)
  refine wpAny_bind (wpAny_callSpecial?_slot (name := Str.ofString "__getitem__") ht.typeIs PyProof.Rows.slot_tuple_getitem
    (wpAny_call_entry PyProof.Rows.slot_tuple_getitem ht.typeIs entry_tuple_getitem ?_ (args_tuple_getitem _ _)))
  show wpAny _ _ (Builtin.Tuple.tupleItemsOf (.ref t) >>= _) _ _ s
  refine wpAny_bind (tupleItemsOf_ ht ?_)
  refine wpAny_bind (wpAny_typeOf hTs ?_)
  rw [if_pos (by decide)]
  refine wpAny_bind (sliceApplied_gen hs pl pu ?_)
  have hno : ¬ ((((sIx items.size 0 lo : Nat) : Int) == 0 && (1 : Int) == 1 && (sIx items.size items.size hi - sIx items.size 0 lo) == items.size) = true) := by
    intro q
    rw [Bool.and_eq_true, Bool.and_eq_true] at q
    have q1 : ((sIx items.size 0 lo : Nat) : Int) = 0 := eq_of_beq q.1.1
    have q2 : sIx items.size items.size hi - sIx items.size 0 lo = items.size := eq_of_beq q.2
    exact hw ⟨by omega, by omega⟩
  show wpAny _ _ (if (((sIx items.size 0 lo : Nat) : Int) == 0 && (1 : Int) == 1 && (sIx items.size items.size hi - sIx items.size 0 lo) == items.size) = true then _ else _) _ _ s
  rw [if_neg hno, pick_gen]
  first
    | exact wpAny_bind (m := Builtin.Tuple.tupleExact _) (wpAny_newObj_type (wpAny_pure ⟨_, rfl, wpAny_pure h⟩) htake)
    | exact wpAny_bind (m := Builtin.Tuple.tupleExact _) (wpAny_newObj_type (wpAny_bind (wpAny_pure (wpAny_pure ⟨_, rfl, wpAny_pure h⟩))) htake)
    | exact wpAny_bind (wpAny_bind (m := Builtin.Tuple.tupleExact _) (wpAny_newObj_type (wpAny_pure (wpAny_pure ⟨_, rfl, wpAny_pure h⟩)) htake))
    | exact wpAny_bind (wpAny_bind (m := Builtin.Tuple.tupleExact _) (wpAny_newObj_type (wpAny_pure ⟨_, rfl, wpAny_pure h⟩) htake))
end
end HT
namespace L2
open PySem PySem.Spec PyProof.Rows
abbrev TO := St → Hp → (Option Int → Hp → Prop) → Prop
def PO (X : Cx) (e : Option Expr) (t : TO) : Prop :=
  ∀ (pins : List (Addr × Obj)) (s : Shared) (σ : St) (H : Hp) (Q : Option Int → Hp → Prop), Inv X pins σ H s → t σ H Q →
    wpAny (model X.prog X.w) X.A (evalPart e X.env) (fun u s' => ∃ o H', Inv X pins σ H' s' ∧ IsPart u o ∧ Q o H') X.xe s
def tNoPart : TO := fun _ H Q => Q none H
def tPart (t : TE) : TO := fun σ H Q => t σ H fun x H1 => ∃ i, x = .int i ∧ Q (some i) H1
section
variable {X : Cx} {e : Expr} {te : TE} {lo hi : Option Expr} {tl th : TO} {pos p2 : Pos}
theorem po_none : PO X none tNoPart := by
  intro pins s σ H Q I h
  rw [evalPart_none]
  exact wpAny_pure ⟨none, H, I, .none, h⟩
theorem po_some (h : PE X e te) : PO X (some e) (tPart te) := by
  intro pins s σ H Q I hw
  rw [evalPart_some]
  refine thn (h pins s σ H _ I hw) fun u s1 ⟨x, H1, I1, r1, q1⟩ => ?_
  obtain ⟨i, rfl, q⟩ := q1
  obtain ⟨t, rfl⟩ := r1
  exact ⟨some i, H1, I1, .int i t, q⟩
def SlR (X : Cx) (r : V → Option Int → Option Int → Hp → VK → Prop) : Prop :=
  ∀ (pins : List (Addr × Obj)) (s : Shared) (σ : St) (H : Hp) (x : V) (v vl vu : Value) (lo hi : Option Int) (sl : Addr) (Q : VK), Inv X pins σ H s → RelV x v → s.heap.IsSliceOf sl vl vu .none → IsPart vl lo → IsPart vu hi → r x lo hi H Q →
    ∃ T id, typeLookup (.type T) "__getitem__" = pure (some (.builtin id)) ∧ s.TypeIs v T ∧ wpAny (model X.prog X.w) X.A (getItem v (.ref sl)) (EP X pins σ Q) X.xe s
theorem SlR.or {r r' : V → Option Int → Option Int → Hp → VK → Prop} (h : SlR X r) (h' : SlR X r') : SlR X (fun x lo hi H Q => r x lo hi H Q ∨ r' x lo hi H Q) := by
  intro pins s σ H x v vl vu lo hi sl Q I rx hs pl pu q
  rcases q with q | q
  · exact h pins s σ H x v vl vu lo hi sl Q I rx hs pl pu q
  · exact h' pins s σ H x v vl vu lo hi sl Q I rx hs pl pu q
def tSl (r : V → Option Int → Option Int → Hp → VK → Prop) (te : TE) (tl th : TO) : TE := fun σ H Q => te σ H fun x H1 => tl σ H1 fun l H2 => th σ H2 fun u H3 => r x l u H3 Q
theorem pe_slice {r : V → Option Int → Option Int → Hp → VK → Prop} (hr : SlR X r) (he : PE X e te) (hl : PO X lo tl) (hu : PO X hi th) : PE X (.Subscript e (.Slice lo hi none p2) pos) (tSl r te tl th) := by
  intro pins s σ H Q I h
  refine Subscript_ (thn (he pins s σ H _ I h) fun v s1 ⟨x, H1, I1, r1, q1⟩ => ?_)
  refine wpAny_Slice (thn (hl pins s1 σ H1 _ I1 q1) fun vl s2 ⟨l, H2, I2, pl, q2⟩ => thn (hu pins s2 σ H2 _ I2 q2) fun vu s3 ⟨u, H3, I3, pu, q3⟩ => ?_)
  rw [evalPart_none]
  refine wpAny_pure ?_
  have I4 : Inv X pins σ H3 { s3 with heap := s3.heap.push { cls := .type "slice", data := .fields #[vl, vu, .none] } } := I3.kept (t' := s3.toks) fun b ob q => Heap.get?_push_of_some _ q
  obtain ⟨T, id, hT, ht, hg⟩ := hr pins { s3 with heap := s3.heap.push { cls := .type "slice", data := .fields #[vl, vu, .none] } } σ H3 x v vl vu l u s3.heap.objs.size Q I4 r1 (Heap.IsSliceOf.new ..) pl pu q3
  show wpAny (model X.prog X.w) X.A (subscriptTail e (.Slice lo hi none p2) v (.ref s3.heap.objs.size)) (EP X pins σ Q) X.xe { s3 with heap := s3.heap.push { cls := .type "slice", data := .fields #[vl, vu, .none] } }
  exact tail_any (ops := [.ref s3.heap.objs.size, v]) ht hT hg (by with_unfolding_all rfl)
def cutV (xs : List V) (lo hi : Option Int) : List V := (xs.drop (HT.sIx xs.length 0 lo)).take (HT.sIx xs.length xs.length hi - HT.sIx xs.length 0 lo)
theorem cutV_length (xs : List V) (lo hi : Option Int) : (cutV xs lo hi).length ≤ xs.length := by
  unfold cutV
  rw [List.length_take, List.length_drop]
  omega
def rSlT (K : PySem.W.Frag) : V → Option Int → Option Int → Hp → VK → Prop := fun x lo hi H Q => ∃ a xs, x = .ref a ∧ SqT K H a xs ∧
  ¬ (HT.sIx xs.length 0 lo = 0 ∧ HT.sIx xs.length xs.length hi = xs.length) ∧ ∀ p, H p = none → Q (.ref p) (upd H p (.tup (cutV xs lo hi)))
theorem sl_tup : SlR X (rSlT X.K) := by
  intro pins s σ H x v vl vu lo hi sl Q I rx hs pl pu h
  obtain ⟨a, xs, rfl, hx, hw, q⟩ := h
  cases rx
  obtain ⟨its, r, ht, hz⟩ := I.tuple hx
  have hlen : its.toArray.size = xs.length := by rw [List.size_toArray]; exact r.length.symm
  refine ⟨"tuple", _, PyProof.Rows.slot_tuple_getitem.lookup, ht.typeIs, ?_⟩
  refine HT.getItem_tuple_cut ht hs pl pu (by rw [hlen]; exact hw) ?_ (by rw [hlen]; exact hz)
  rw [hlen]
  refine ⟨.ref s.heap.objs.size, _, I.laid (t' := s.toks) (o := .tup (cutV xs lo hi)) (fun b ob q => Heap.get?_push_of_some _ q) (Nat.le_refl _) ?_, rfl, q _ (I.hok.fresh (Nat.le_refl _))⟩
  exact ⟨Nat.le_trans (cutV_length xs lo hi) hz, _, (r.drop (HT.sIx xs.length 0 lo)).take (HT.sIx xs.length xs.length hi - HT.sIx xs.length 0 lo), IsTup.new _ _⟩
def rCatT (K : PySem.W.Frag) : R2 := fun x y H Q => ∃ a b xs ys, x = .ref a ∧ y = .ref b ∧ SqT K H a xs ∧ SqT K H b ys ∧ xs ≠ [] ∧ xs.length + ys.length ≤ sizeLine ∧
  (ys = [] → Q (.ref a) H) ∧ (ys ≠ [] → ∀ p, H p = none → Q (.ref p) (upd H p (.tup (xs ++ ys))))
theorem Vals.nil_iff {xs : List V} {us : List Value} (r : Vals xs us) : us = [] ↔ xs = [] := by
  cases r with
  | nil => simp
  | cons _ _ => simp
theorem op_catT : OpR X (binaryOp .Add) (rCatT X.K) := by
  intro pins s σ H x y v u Q I rx ry h
  obtain ⟨a, b, xs, ys, rfl, rfl, ha, hb, hx, hz, q1, q2⟩ := h
  cases rx
  cases ry
  obtain ⟨its, r1, p1, _⟩ := I.tuple ha
  obtain ⟨its2, r2, p2, _⟩ := I.tuple hb
  refine HT.cat_tup p1 p2 (fun z => hx (r1.nil_iff.mp z)) (fun z => ⟨.ref a, H, I, rfl, q1 (r2.nil_iff.mp z)⟩) (fun z => ?_) (by rw [← r1.length, ← r2.length]; exact hz)
  refine ⟨.ref s.heap.objs.size, _, I.laid (t' := s.toks) (o := .tup (xs ++ ys)) (fun b ob q => Heap.get?_push_of_some _ q) (Nat.le_refl _) ?_, rfl, q2 (fun w => z (r2.nil_iff.mpr w)) _ (I.hok.fresh (Nat.le_refl _))⟩
  exact ⟨by rw [List.length_append]; exact hz, _, r1.append r2, IsTup.new _ _⟩
end
end L2
namespace L2
open PySem PySem.Spec PyProof.Rows
def ixN (n : Nat) (i : Int) : Option Nat := if 0 ≤ i then (if i < n then some i.toNat else none) else if -(n : Int) ≤ i then some (i + n).toNat else none
def atI {α : Type} (xs : List α) (i : Int) : Option α := (ixN xs.length i).bind fun j => xs[j]?
theorem ixN_seq {n : Nat} {i : Int} {j : Nat} (h : ixN n i = some j) : seqIndex? i n = some j ∧ j < n ∧ -(n : Int) ≤ i ∧ i < n := by
  unfold ixN at h
  by_cases h0 : 0 ≤ i
  · rw [if_pos h0] at h
    by_cases h1 : i < n
    · rw [if_pos h1] at h
      have e : i.toNat = j := Option.some.inj h
      exact ⟨by rw [seqIndex_of h0 h1, e], by omega, by omega, h1⟩
    · rw [if_neg h1] at h; cases h
  · rw [if_neg h0] at h
    by_cases h1 : -(n : Int) ≤ i
    · rw [if_pos h1] at h
      have e : (i + n).toNat = j := Option.some.inj h
      exact ⟨by rw [seqIndex_neg (by omega) h1, e], by omega, h1, by omega⟩
    · rw [if_neg h1] at h; cases h
theorem atI_get {α : Type} {xs : List α} {i : Int} {v : α} (h : atI xs i = some v) : ∃ j, seqIndex? i xs.length = some j ∧ xs[j]? = some v ∧ j < xs.length ∧ -(xs.length : Int) ≤ i ∧ i < xs.length := by
  unfold atI at h
  cases e : ixN xs.length i with
  | none => rw [e] at h; cases h
  | some j =>
    rw [e] at h
    obtain ⟨h1, h2, h3, h4⟩ := ixN_seq e
    exact ⟨j, h1, h, h2, h3, h4⟩
theorem atI_nat {α : Type} {xs : List α} {j : Nat} {v : α} (h : xs[j]? = some v) : atI xs (j : Int) = some v := by
  have hj : j < xs.length := (List.getElem?_eq_some_iff.mp h).1
  have e : ixN xs.length (j : Int) = some j := by
    unfold ixN
    rw [if_pos (by omega), if_pos (by omega)]; simp
  unfold atI; rw [e]; exact h
def PlainIx (b : Expr) : Prop := ∀ o i, subscripted b false o i = operate [o, i] (getItem o i)
def IxR (X : Cx) (r : R2) : Prop :=
  ∀ (value slice : Expr) (pins : List (Addr × Obj)) (s : Shared) (σ : St) (H : Hp) (x y : V) (v u : Value) (Q : VK), Inv X pins σ H s → RelV x v → RelV y u → r x y H Q →
    subscripted slice false v u = operate [v, u] (getItem v u) → wpAny (model X.prog X.w) X.A (subscriptTail value slice v u) (EP X pins σ Q) X.xe s
def MtR (X : Cx) (id : String) (r : V → List V → Hp → VK → Prop) : Prop :=
  ∀ (pins : List (Addr × Obj)) (s : Shared) (σ : St) (H : Hp) (x : V) (xs : List V) (v : Value) (us : List Value) (Q : VK), Inv X pins σ H s → RelV x v → Vals xs us → r x xs H Q →
    wpAny (model X.prog X.w) X.A (call (.builtin id) (v :: us)) (EP X pins σ Q) X.xe s
section
variable {X : Cx} {a b : Expr} {ta tb : TE} {pos : Pos}
theorem IxR.or {r r' : R2} (h : IxR X r) (h' : IxR X r') : IxR X (fun x y H Q => r x y H Q ∨ r' x y H Q) := by
  intro value slice pins s σ H x y v u Q I rx ry q hs
  rcases q with q | q
  · exact h value slice pins s σ H x y v u Q I rx ry q hs
  · exact h' value slice pins s σ H x y v u Q I rx ry q hs
theorem MtR.or {id : String} {r r' : V → List V → Hp → VK → Prop} (h : MtR X id r) (h' : MtR X id r') : MtR X id (fun x xs H Q => r x xs H Q ∨ r' x xs H Q) := by
  intro pins s σ H x xs v us Q I rx rs q
  rcases q with q | q
  · exact h pins s σ H x xs v us Q I rx rs q
  · exact h' pins s σ H x xs v us Q I rx rs q
theorem pe_ix {r : R2} (hr : IxR X r) (ha : PE X a ta) (hb : PE X b tb) (hs : PlainIx b) : PE X (.Subscript a b pos) (tOp r ta tb) := by
  intro pins s σ H Q I h
  exact Subscript_ (binT ha hb I h fun v u s2 x y H2 I2 rx ry q => hr a b pins s2 σ H2 x y v u Q I2 rx ry q (hs _ _))
def rIxL (K : PySem.W.Frag) : R2 := fun x y H Q => ∃ p xs i v, x = .ref p ∧ y = .int i ∧ SqL K H p xs ∧ atI xs i = some v ∧ Q v H
def rIxT (K : PySem.W.Frag) : R2 := fun x y H Q => ∃ p xs i v, x = .ref p ∧ y = .int i ∧ SqT K H p xs ∧ atI xs i = some v ∧ Q v H
def rIxS : R2 := fun x y H Q => ∃ z i c, x = .str z ∧ y = .int i ∧ z.length ≤ sizeLine ∧ atI z.cps.toList i = some c ∧ Q (.str ⟨#[c]⟩) H
theorem ix_list : IxR X (rIxL X.K) := by
  intro value slice pins s σ H x y v u Q I rx ry h hs
  obtain ⟨p, xs, i, z, rfl, rfl, hq, he, q⟩ := h
  cases rx
  obtain ⟨t, rfl⟩ := ry
  obtain ⟨its, r, pl, hz⟩ := I.list hq
  obtain ⟨j, h1, h2, h3, h4, h5⟩ := atI_get he
  obtain ⟨w, ew, rw'⟩ := r.get h2
  have hl := r.length
  have hn := line63
  have fin : EP X pins σ Q w s := ⟨z, H, I, rw', q⟩
  by_cases h0 : 0 ≤ i
  · have hj : i.toNat = j := by
      rw [seqIndex_of h0 h5] at h1
      exact Option.some.inj h1
    exact item_listR pl.isList h0 (by omega) (by rw [hj]; simpa using ew) fin hs
  · have hj : (i + (its.toArray.size : Int)).toNat = j := by
      rw [seqIndex_neg (by omega) h4] at h1
      rw [List.size_toArray, ← hl]
      exact Option.some.inj h1
    exact subscriptTail_builtinR (x := w) pl.isList.typeIs slot_list_getitem.lookup
      (wpAny_getItem_list_neg (Q := fun r s' => r = w ∧ EP X pins σ Q r s') pl.isList (by omega) (by rw [List.size_toArray] <;> omega) (by omega) (by rw [hj]; simpa using ew) ⟨rfl, fin⟩) hs
theorem ix_tup : IxR X (rIxT X.K) := by
  intro value slice pins s σ H x y v u Q I rx ry h hs
  obtain ⟨p, xs, i, z, rfl, rfl, hq, he, q⟩ := h
  cases rx
  obtain ⟨t, rfl⟩ := ry
  obtain ⟨its, r, pl, hz⟩ := I.tuple hq
  obtain ⟨j, h1, h2, h3, h4, h5⟩ := atI_get he
  obtain ⟨w, ew, rw'⟩ := r.get h2
  have hl := r.length
  have hn := line63
  have fin : EP X pins σ Q w s := ⟨z, H, I, rw', q⟩
  exact subscriptTail_builtinR (x := w) pl.typeIs slot_tuple_getitem.lookup
    (getItem_tuple (j := j) (Q := fun r s' => r = w ∧ EP X pins σ Q r s') pl (by omega) (by omega) (by rw [List.size_toArray, ← hl]; exact h1) (by simpa using ew) ⟨rfl, fin⟩) hs
theorem ix_str : IxR X rIxS := by
  intro value slice pins s σ H x y v u Q I rx ry h hs
  obtain ⟨z, i, c, rfl, rfl, hz, he, q⟩ := h
  obtain ⟨t, rfl⟩ := rx
  obtain ⟨t', rfl⟩ := ry
  obtain ⟨j, h1, h2, h3, h4, h5⟩ := atI_get he
  have hl : z.cps.toList.length = z.length := by simp [Str.length]
  rw [hl] at h1 h4 h5
  have hn := line63
  exact tail_any (typeIs_str s z t) slot_str_getitem.lookup (getItem_str (c := c) (by
    have e1 : decide (i < -(2 ^ 63 : Int)) = false := decide_eq_false (by omega)
    have e2 : decide (i ≥ 2 ^ 63) = false := decide_eq_false (by omega)
    rw [e1, e2, Bool.or_false]) (by rw [h1]; simpa using h2) ⟨.str ⟨#[c]⟩, H, I.tok _, ⟨_, rfl⟩, q⟩) hs
def rIx (K : PySem.W.Frag) : R2 := fun x y H Q => rIxL K x y H Q ∨ rIxT K x y H Q ∨ rIxS x y H Q
theorem ix_seq : IxR X (rIx X.K) := ix_list.or (ix_tup.or ix_str)
theorem Inv.lst {pins : List (Addr × Obj)} {σ : St} {H : Hp} {s : Shared} {p : Addr} {xs : List V} (I : Inv X pins σ H s) (h : H p = some (.lst xs)) :
    ∃ (its : List Value) (n : Nat), Vals xs its ∧ s.heap.get? p = some { cls := .type "list", data := .seq its.toArray n } ∧ xs.length ≤ sizeLine := by
  obtain ⟨z, its, n, r, e⟩ := I.hok p _ h
  exact ⟨its, n, r, e, z⟩
theorem slice_bounds (lo hi : Option Int) (n : Nat) : (sliceBounds lo hi none n).1 = ((HT.sIx n 0 lo : Nat) : Int) ∧ (sliceBounds lo hi none n).2.1 = ((HT.sIx n n hi : Nat) : Int) ∧ (sliceBounds lo hi none n).2.2 = 1 := by
  refine ⟨?_, ?_, rfl⟩
  · cases lo with
    | none => simp [sliceBounds, HT.sIx]
    | some i =>
      simp only [sliceBounds, HT.sIx, Option.getD_none, show (1 : Int) > 0 by decide, if_true]
      by_cases h : i < 0
      · simp only [h, if_true] <;> omega
      · simp only [h, if_false] <;> omega
  · cases hi with
    | none => simp [sliceBounds, HT.sIx]
    | some i =>
      simp only [sliceBounds, HT.sIx, Option.getD_none, show (1 : Int) > 0 by decide, if_true]
      by_cases h : i < 0
      · simp only [h, if_true] <;> omega
      · simp only [h, if_false] <;> omega
theorem slicePick_cut (its : List Value) (lo hi : Option Int) : slicePick its.toArray lo hi none = ((its.drop (HT.sIx its.length 0 lo)).take (HT.sIx its.length its.length hi - HT.sIx its.length 0 lo)).toArray := by
  obtain ⟨h1, h2, h3⟩ := slice_bounds lo hi its.toArray.size
  unfold slicePick
  rw [h1, h2, h3]
  simp only [sliceRange_one, pick_run, List.size_toArray] <;> rfl
def rSlL (K : PySem.W.Frag) : V → Option Int → Option Int → Hp → VK → Prop := fun x lo hi H Q => ∃ a xs, x = .ref a ∧ SqL K H a xs ∧ ∀ p, H p = none → Q (.ref p) (upd H p (.lst (cutV xs lo hi)))
theorem sl_list : SlR X (rSlL X.K) := by
  intro pins s σ H x v vl vu lo hi sl Q I rx hs pl pu h
  obtain ⟨a, xs, rfl, hx, q⟩ := h
  cases rx
  obtain ⟨its, r, ht, hz⟩ := I.list hx
  have hlen := r.length
  refine ⟨"list", _, slot_list_getitem.lookup, ht.isList.typeIs, ?_⟩
  refine wpAny_getItem_list_slice ht.isList hs pl pu .none (by simp) ?_ (by rw [List.size_toArray] <;> omega)
  rw [slicePick_cut, ← hlen]
  refine ⟨.ref s.heap.objs.size, _, I.laid (t' := s.toks) (o := .lst (cutV xs lo hi)) (fun b ob q => Heap.get?_push_of_some _ q) (Nat.le_refl _) ?_, rfl, q _ (I.hok.fresh (Nat.le_refl _))⟩
  exact ⟨Nat.le_trans (cutV_length xs lo hi) hz, _, 0, (r.drop (HT.sIx xs.length 0 lo)).take (HT.sIx xs.length xs.length hi - HT.sIx xs.length 0 lo), Heap.get?_push_size _ rfl⟩
theorem CallR.or {f : Value} {r r' : List V → Hp → VK → Prop} (h : CallR X f r) (h' : CallR X f r') : CallR X f (fun xs H Q => r xs H Q ∨ r' xs H Q) := by
  intro pins s σ H xs us Q I rs q
  rcases q with q | q
  · exact h pins s σ H xs us Q I rs q
  · exact h' pins s σ H xs us Q I rs q
theorem call_list_of : CallR X (.type "list") (fun xs H Q => ∃ p ys, xs = [.ref p] ∧ (SqL X.K H p ys ∨ SqT X.K H p ys) ∧ ∀ l, H l = none → Q (.ref l) (upd H l (.lst ys))) := by
  intro pins s σ H xs us Q I r h
  obtain ⟨p, ys, rfl, hq, q⟩ := h
  obtain ⟨u, rfl, rx⟩ := vals1 r
  cases rx
  have fin : ∀ (its : List Value), Vals ys its → ys.length ≤ sizeLine → ∀ (h' : Heap) (c' : Nat), (∀ b o', s.heap.get? b = some o' → h'.get? b = some o') →
      h'.get? s.heap.objs.size = some { cls := .type "list", dict := none, data := .seq its.toArray c', slots := #[] } → EP X pins σ Q (.ref s.heap.objs.size) { s with heap := h' } := fun its r' hz h' c' kp e =>
    ⟨.ref s.heap.objs.size, _, I.laid (t' := s.toks) kp (Nat.le_refl _) (show ObjOk X.prog X.w _ h' _ (.lst ys) from ⟨hz, its, c', r', e⟩), rfl, q _ (I.hok.fresh (Nat.le_refl _))⟩
  rcases hq with hq | hq
  · obtain ⟨its, r', pl, hz⟩ := I.list hq
    have hlen := r'.length
    obtain ⟨o, ho, hc, n, hd⟩ := pl.isList
    exact call_list_seq p (.inl rfl) ho hc hd (fun h' c' kp e => fin its r' hz h' c' kp e) (by simp only [List.size_toArray] <;> omega)
  · obtain ⟨its, r', pl, hz⟩ := I.tuple hq
    have hlen := r'.length
    obtain ⟨o, ho, hc, n, hd⟩ := pl
    exact call_list_seq p (.inr rfl) ho hc hd (fun h' c' kp e => fin its r' hz h' c' kp e) (by simp only [List.size_toArray] <;> omega)
variable {o e : Expr} {es : List Expr} {to : TE} {t : TA} {name : Str} {apos cpos : Pos} {T id : String} {r : V → List V → Hp → VK → Prop}
end
end L2
namespace L2
open PySem PySem.Spec PyProof.Rows
def MtM (X : Cx) (id : String) (r : V → List V → Hp → VK → Prop) : Prop :=
  ∀ (pins : List (Addr × Obj)) (s : Shared) (σ : St) (H : Hp) (x : V) (xs : List V) (v : Value) (us : List Value) (Q : VK), Inv X pins σ H s → RelV x v → Vals xs us → r x xs H Q →
    wpAny (model X.prog X.w) X.A (call (.builtin id) (v :: us)) (EP X pins σ Q) X.xe s
theorem Vals.one : ∀ {x : V} {us : List Value}, Vals [x] us → ∃ u, us = [u] ∧ RelV x u
  | _, _, .cons r .nil => ⟨_, rfl, r⟩
theorem Vals.rep {xs : List V} {us : List Value} (h : Vals xs us) : ∀ k : Nat, Vals (List.replicate k xs).flatten (List.replicate k us).flatten
  | 0 => .nil
  | k + 1 => by
    rw [List.replicate_succ, List.replicate_succ, List.flatten_cons, List.flatten_cons]
    exact Vals.append h (Vals.rep h k)
theorem foldl_rep (its : List Value) : ∀ (k : Nat) (acc : List Value),
    List.foldl (fun x1 x2 => x1 ++ x2) acc.toArray (List.replicate k its.toArray) = (acc ++ (List.replicate k its).flatten).toArray
  | 0, acc => by simp
  | k + 1, acc => by
    have e : acc.toArray ++ its.toArray = (acc ++ its).toArray := by simp
    have e2 : (acc ++ its) ++ (List.replicate k its).flatten = acc ++ (List.replicate (k + 1) its).flatten := by
      rw [List.replicate_succ, List.flatten_cons, List.append_assoc]
    rw [← e2, ← foldl_rep its k (acc ++ its), ← e, List.replicate_succ, List.foldl_cons]
section
variable {X : Cx} {pins : List (Addr × Obj)} {σ : St} {H : Hp} {s : Shared} {l b : Addr} {xs ys zs : List V}
theorem Inv.lset {its its' : List Value} {n : Nat} {f : Array Value → Array Value} {t' : Nat} (I : Inv X pins σ H s) (hH : H l = some (.lst xs))
    (e : s.heap.get? l = some { cls := .type "list", data := .seq its.toArray n }) (hf : f its.toArray = its'.toArray) (hv : Vals ys its') (hz : ys.length ≤ sizeLine) :
    Inv X pins σ (upd H l (.lst ys)) { s with heap := s.heap.update l (Obj.mapSeq f), toks := t' } := by
  have q := PySem.IsL.update e f
  rw [hf] at q
  refine I.write (x := l) (e := l) (by rw [hH]; exact trivial) (.inl rfl) (fun b' u hb hu => (Heap.get?_update_other s.heap (Obj.mapSeq f) (Ne.symm hb)).trans hu) ⟨_, q⟩ ?_
  exact ⟨hz, its', _, hv, q⟩
theorem Inv.lnew {its : List Value} {t' : Nat} (I : Inv X pins σ H s) (hv : Vals ys its) (hz : ys.length ≤ sizeLine) :
    Inv X pins σ (upd H s.heap.objs.size (.lst ys)) { s with heap := s.heap.push { cls := .type "list", data := .seq its.toArray }, toks := t' } :=
  I.laid (fun _ _ q => Heap.get?_push_of_some _ q) (Nat.le_refl _) ⟨hz, its, 0, hv, Heap.get?_push_size _ rfl⟩
theorem Inv.fresh (I : Inv X pins σ H s) : H s.heap.objs.size = none := I.hok.fresh (Nat.le_refl _)
theorem Inv.lstM (I : Inv X pins σ H s) (hH : H l = some (.lst xs)) : xs.length ≤ sizeLine ∧ ∃ (its : List Value) (n : Nat), Vals xs its ∧ xs.length = its.length ∧ s.heap.get? l = some { cls := .type "list", data := .seq its.toArray n } := by
  obtain ⟨z, its, n, r, e⟩ := I.hok l _ hH
  exact ⟨z, its, n, r, r.length, e⟩
theorem notLongL {n : Nat} (h : n ≤ sizeLine) : Builtin.List.listTooLong n = false := by
  unfold Builtin.List.listTooLong
  exact decide_eq_false (by omega)
end
section
variable {X : Cx}
def rAppend : V → List V → Hp → VK → Prop := fun x vs H Q => ∃ l xs y, x = .ref l ∧ vs = [y] ∧ H l = some (.lst xs) ∧ xs.length < sizeLine ∧ Q .non (upd H l (.lst (xs ++ [y])))
theorem mt_append : MtM X "list.append" rAppend := by
  intro pins s σ H x vs v us Q I rx rv h
  obtain ⟨l, xs, y, rfl, rfl, hH, hz, q⟩ := h
  cases rx
  obtain ⟨u, rfl, ru⟩ := rv.one
  obtain ⟨z, its, n, r, hl, e⟩ := I.lstM hH
  refine call_meets F.slot_list_append ⟨_, e, rfl⟩ F.entry_list_append (F.args_list_append_2 _ _) (PySem.list_append l its.toArray n u (by rw [List.size_toArray]; omega)) ⟨e, ?_⟩
  refine ⟨.non, _, I.lset (its' := its ++ [u]) hH e (by simp) (r.append (.cons ru .nil)) ?_, rfl, q⟩
  rw [List.length_append, List.length_singleton]
  omega
def rCat : R2 := fun x y H Q => ∃ l b xs zs, x = .ref l ∧ y = .ref b ∧ H l = some (.lst xs) ∧ H b = some (.lst zs) ∧ xs.length + zs.length ≤ sizeLine ∧ ∀ p, H p = none → Q (.ref p) (upd H p (.lst (xs ++ zs)))
theorem op_cat : OpR X (binaryOp .Add) rCat := by
  intro pins s σ H x y v u Q I rx ry h
  obtain ⟨l, b, xs, zs, rfl, rfl, hH, hB, hz, q⟩ := h
  cases rx
  cases ry
  obtain ⟨z, its, n, r, hl, e⟩ := I.lstM hH
  obtain ⟨z2, its2, n2, r2, hl2, e2⟩ := I.lstM hB
  refine PySem.P.add_list e e2 ?_ (by rw [List.size_toArray, List.size_toArray]; omega)
  have ea : its.toArray ++ its2.toArray = (its ++ its2).toArray := by simp
  rw [ea]
  exact ⟨.ref _, _, I.lnew (t' := s.toks) (r.append r2) (by rw [List.length_append]; omega), rfl, q _ I.fresh⟩
def rRep : R2 := fun x y H Q => ∃ l k xs, x = .ref l ∧ y = .int k ∧ H l = some (.lst xs) ∧ -(2 ^ 63) ≤ k ∧ k < 2 ^ 63 ∧ xs.length * k.toNat ≤ sizeLine ∧
  ∀ p, H p = none → Q (.ref p) (upd H p (.lst (List.replicate k.toNat xs).flatten))
theorem len_rep {α : Type} (xs : List α) (k : Nat) : (List.replicate k xs).flatten.length = k * xs.length := by
  induction k with
  | zero => simp
  | succ k ih => rw [List.replicate_succ, List.flatten_cons, List.length_append, ih, Nat.succ_mul, Nat.add_comm]
theorem op_rep : OpR X (binaryOp .Mult) rRep := by
  intro pins s σ H x y v u Q I rx ry h
  obtain ⟨l, k, xs, rfl, rfl, hH, h1, h2, hz, q⟩ := h
  cases rx
  obtain ⟨t, rfl⟩ := ry
  obtain ⟨z, its, n, r, hl, e⟩ := I.lstM hH
  have hlen : its.toArray.size * k.toNat ≤ sizeLine := by rw [List.size_toArray, ← hl]; exact hz
  have hcap : ¬ its.toArray.size * k.toNat > (2 ^ 63 - 1) / 8 := by
    have : (sizeLine : Nat) ≤ (2 ^ 63 - 1) / 8 := by decide
    omega
  have hfit : ¬ (!Builtin.List.listFitsIndex k) = true := by
    rw [fitsIndex_both h1 h2]
    exact Bool.false_ne_true
  have hlong : ¬ Builtin.List.listTooLong (its.toArray.size * k.toNat) = true := by
    rw [notLongL hlen]
    exact Bool.false_ne_true
  have hnew : List.foldl (fun x1 x2 => x1 ++ x2) #[] (List.replicate (if its.toArray.isEmpty = true then 0 else k.toNat) its.toArray) = (List.replicate k.toNat its).flatten.toArray := by
    have f0 : ∀ m : Nat, List.foldl (fun x1 x2 => x1 ++ x2) #[] (List.replicate m its.toArray) = (List.replicate m its).flatten.toArray := fun m => by
      have := foldl_rep its m []
      rw [List.nil_append] at this
      exact this
    rw [f0]
    cases its with
    | nil => simp
    | cons a r' => rw [if_neg (by simp)]
  refine wpAny_binaryOp_repeat_ref (T := "list") (U := "int") (by decide) ⟨_, e, rfl⟩ (fun s' => typeIs_int s' k t) noFill_list_mul F.fills_int_mul F.slot_int_rmul repeat_list F.slot_int_index.lookup
    (call_meets F.slot_int_rmul (typeIs_int s k t) F.entry_int_rmul (F.args_int_rmul_2 _ _) (int___rmul___int_list k t l its.toArray n)
      ⟨e, rfl, ⟨_, e, rfl⟩, call_meets F.slot_list_mul ⟨_, e, rfl⟩ F.entry_list_mul (F.args_list_mul_2 _ _) (AutoListH.list___mul___list_int_3 l its.toArray n k t hfit hcap hlong) ⟨e, ?_⟩⟩)
  rw [hnew]
  exact ⟨.ref _, _, I.lnew (t' := s.toks) (r.rep k.toNat) (by rw [len_rep, Nat.mul_comm]; exact hz), rfl, q _ I.fresh⟩
end
section
variable {prog : Program} {w : World} {A : Around} {E : Value → Shared → Prop} {s : Shared}
set_option maxRecDepth 100000 in
end
end L2
namespace L2
open PySem PySem.Spec PyProof.Rows
section
variable {κ : Type} [DecidableEq κ]
def valV (kvs : List (κ × V)) (k : κ) : Option V := (kvs.find? fun kv => decide (kv.1 = k)).map (·.2)
def dropK (kvs : List (κ × V)) (k : κ) : List (κ × V) := kvs.filter fun kv => decide (kv.1 ≠ k)
theorem valV_pos {p : κ × V} {r : List (κ × V)} {k : κ} (e : p.1 = k) : valV (p :: r) k = some p.2 := by simp [valV, List.find?_cons, e]
theorem valV_neg {p : κ × V} {r : List (κ × V)} {k : κ} (e : ¬ p.1 = k) : valV (p :: r) k = valV r k := by simp [valV, List.find?_cons, e]
theorem RelO.getD {o : Option V} {u : Option Value} {d : V} {d' : Value} (r : RelO o u) (rd : RelV d d') : RelV (o.getD d) (u.getD d') := by
  cases o with
  | none => cases u with
    | none => exact rd
    | some _ => exact (show False from r).elim
  | some _ => cases u with
    | none => exact (show False from r).elim
    | some _ => exact r
theorem KV.val {kvs : List (κ × V)} {vs : List (κ × Value)} (r : KV kvs vs) (k : κ) : RelO (valV kvs k) (valueAt vs k) := by
  unfold KV at r
  induction r with
  | nil => exact True.intro
  | @cons p q ps qs h t ih =>
    obtain ⟨h1, h2⟩ := h
    by_cases e : p.1 = k
    · have e' : q.1 = k := h1.symm.trans e
      have b : valueAt (q :: qs) k = some q.2 := by simp [valueAt, List.find?_cons, e']
      rw [valV_pos e, b]; exact h2
    · have e' : ¬ q.1 = k := fun z => e (h1.trans z)
      have b : valueAt (q :: qs) k = valueAt qs k := by simp [valueAt, List.find?_cons, e']
      rw [valV_neg e, b]; exact ih
theorem KV.any {kvs : List (κ × V)} {vs : List (κ × Value)} (r : KV kvs vs) (k : κ) : (kvs.any fun kv => decide (kv.1 = k)) = vs.any fun kv => decide (kv.1 = k) := by
  unfold KV at r
  induction r with
  | nil => rfl
  | cons h t ih => rw [List.any_cons, List.any_cons, ih, h.1]
theorem KV.drop {kvs : List (κ × V)} {vs : List (κ × Value)} (r : KV kvs vs) (k : κ) : KV (dropK kvs k) (without vs k) := by
  unfold KV at r ⊢
  unfold dropK without
  induction r with
  | nil => exact .nil
  | @cons p q ps qs h t ih =>
    obtain ⟨h1, h2⟩ := h
    rw [List.filter_cons, List.filter_cons]
    by_cases e : p.1 = k
    · have a : ¬ decide (p.1 ≠ k) = true := by simp [e]
      have b : ¬ decide (q.1 ≠ k) = true := by simp [h1.symm.trans e]
      rw [if_neg a, if_neg b]; exact ih
    · have e' : ¬ q.1 = k := fun z => e (h1.trans z)
      have a : decide (p.1 ≠ k) = true := by simp [e]
      have b : decide (q.1 ≠ k) = true := by simp [e']
      rw [if_pos a, if_pos b]; exact .cons ⟨h1, h2⟩ ih
theorem KV.length {kvs : List (κ × V)} {vs : List (κ × Value)} (r : KV kvs vs) : kvs.length = vs.length := Paired.length r
end
abbrev KT (H : Hp) : List (List Key × V) → List (List Key × Addr × Value) → Prop := Paired fun p q => p.1 = q.1 ∧ H q.2.1 = some (.tup (p.1.map kV)) ∧ RelV p.2 q.2.2
theorem KT.val {H : Hp} {kvs : List (List Key × V)} {xs : List (List Key × Addr × Value)} (r : KT H kvs xs) (k : List Key) : RelO (valV kvs k) ((atKey xs k).map (·.2)) := by
  induction r with
  | nil => exact True.intro
  | @cons p q ps qs h t ih =>
    obtain ⟨h1, _, h2⟩ := h
    by_cases e : p.1 = k
    · have e' : q.1 = k := h1.symm.trans e
      have b : atKey (q :: qs) k = some q.2 := by simp [atKey, List.find?_cons, e']
      rw [valV_pos e, b]; exact h2
    · have e' : ¬ q.1 = k := fun z => e (h1.trans z)
      have b : atKey (q :: qs) k = atKey qs k := by simp [atKey, List.find?_cons, e']
      rw [valV_neg e, b]; exact ih
theorem KT.keeps {H H' : Hp} {kvs : List (List Key × V)} {xs : List (List Key × Addr × Value)} (r : KT H kvs xs) (ht : ∀ b ys, H b = some (.tup ys) → H' b = some (.tup ys)) : KT H' kvs xs :=
  Paired.mapP r fun _ _ z => ⟨z.1, ht _ _ z.2.1, z.2.2⟩
section
variable {P : Program} {w : World} {H : Hp} {h : Heap} {a : Addr}
theorem rd_of {u : HO} (ok : HOk P w H h) (e : Rd H a u) : ObjOk P w H h a u := e.ok ok
theorem dk_rd {kvs : List (Key × V)} (ok : HOk P w H h) (e : Rd H a (.dK kvs)) : kvs.length ≤ sizeLine ∧ (a == sysModules) = false ∧ ∃ vs, KV kvs vs ∧ h.DictOf (mixKind P w) a vs :=
  show ObjOk P w H h a (.dK kvs) from rd_of ok e
end
section
variable {X : Cx} {pins : List (Addr × Obj)} {σ : St} {H : Hp} {s : Shared} {a : Addr} {kvs : List (Key × V)} {k : Key} {u : Value} {A : Around} {E : Value → Shared → Prop}
theorem d_len {Q : Value → Shared → Prop} (I : Inv X pins σ H s) (e : Rd H a (.dK kvs)) (h : ∀ t s', Inv X pins σ H s' → Q (.int kvs.length t) s') : wpAny (model X.prog X.w) A (call (.builtin "len") [.ref a]) Q E s := by
  obtain ⟨z, hd, vs, rel, dd⟩ := dk_rd I.hok e
  refine call_len_dict hd dd (by rw [← rel.length]; rw [sizeLine_eq] at z; omega) ?_
  rw [← rel.length]
  exact h _ _ (I.tok _)
end
end L2
namespace Att
open PySem PySem.W PySem.Calls PyProof.Rows
theorem ints_of_wellAll {P : Params} {h : Heap} : ∀ (ns : List Int) (vs : List Value), WellAll P h vs (ns.map WData.int) → IntsAre vs ns := by
  intro ns
  induction ns with
  | nil =>
    intro vs w
    rw [List.map_nil] at w
    cases w
    exact .nil
  | cons n ns ih =>
    intro vs w
    rw [List.map_cons] at w
    cases w with
    | cons a b =>
      cases a
      exact .cons _ _ (ih _ b)
theorem script_of {l : OpenLaw} {n : Nat} (hn : l.most = some n) {P : Params} {h : Heap} {args : List WData} {vals : List Value}
    (hpre : l.row.toRowW.claim.pre args = true) (hwl : WellAll P h vals args) :
    ∃ a vs ns, vals = [Value.ref a] ∧ args = [WData.list (ns.map WData.int)] ∧ h.get? a = some { cls := .type "list", data := .seq vs.toArray } ∧ IntsAre vs ns ∧ ns.length ≤ n := by
  have hsh : WShape.hasAll [] args [.list .int] = true := (pre_splitW hpre).1
  have hc : l.pre.holds [] { args := args } = true := (pre_splitW hpre).2
  obtain ⟨d, r, rfl, h1, h2⟩ := hasAllW_cons hsh
  obtain rfl := hasAllW_nil h2
  obtain ⟨xs, rfl, h3⟩ := hasW_list h1
  obtain ⟨ns, rfl⟩ := items_int h3
  have hlen : ns.length ≤ n := by
    unfold OpenLaw.pre at hc
    have h4 : (WTm.not (.lt (.lit (.int (n : Int))) (.len (.arg 0)))).holds [] { args := [.list (ns.map .int)] } = true := by
      have h4 := (holds_andW hc).1
      rw [hn] at h4
      exact h4
    have h5 := condW_of h4 (w_not (w_lt w_lit (w_len_list (w_arg rfl))))
    rw [List.length_map] at h5
    refine Nat.le_of_not_lt fun q => ?_
    have q' : (n : Int) < ((ns.length : Nat) : Int) := by omega
    first
      | (rw [decide_eq_true q'] at h5; exact absurd h5 (by decide))
      | (simp at h5; omega)
  cases hwl with
  | cons w1 w2 =>
    cases w2
    cases w1 with
    | list ho hall => exact ⟨_, _, ns, rfl, rfl, ho, ints_of_wellAll ns _ hall, hlen⟩
theorem post_true (l : OpenLaw) (args : List WData) : l.row.toRowW.claim.post args (.bool true) args = true :=
  postW_of (r := l.row.toRowW) (X := (true == true))
    (show WShape.has [] (.bool true) .bool = true by first | rfl | decide | simp [WShape.has, WShape.arms, WShape.armsAll])
    (show (WTm.eq .res (.lit (.bool true))).value [] { args := args, res := some (.bool true), after := args } = some (.bool (true == true)) from w_eq_bool (w_res rfl) w_lit) rfl
theorem attach_call {l : OpenLaw} {n : Nat} {q : Program} {loose : List Str} {XP : (Str → Option Value) → Heap → Prop} {YP : World → Heap → Prop} {d : DefRec}
    (hn : l.most = some n) (hdf : d.params.defaults = [])
    (call : ∀ (w : World) (s₀ s₁ : Shared) (mg mb : Str → Option Value) (fa : Addr) (o : Obj) (pm cd doc : Value) (a : Addr) (vs : List Value) (ns : List Int),
      Ground q loose [] XP w s₀ mg mb s₁.heap → YP w s₁.heap →
      s₁.heap.get? fa = some o → o.data = .func (docDef d.name d.params d.body d.scope pm cd doc) → s₁.heap.CodeRec cd d.name → mg d.name = some (.ref fa) →
      s₁.heap.get? a = some { cls := .type "list", data := .seq vs.toArray } → IntsAre vs ns → ns.length ≤ n → s₁.gens = #[] →
      codeAny (model l.prog w) callerA (.call (.ref fa) ⟨[.ref a], []⟩) (fun r s' => r = .ok (.ret (.bool true)) ∧ OldK s₁.heap s'.heap ∧ s'.os = s₁.os ∧ AllBare s'.gens) s₁) :
    WalkO q loose XP YP l.row.toRowW d [] (fun f vs => PySem.call f vs) := by
  intro w s₀ s₁ mg mb G Y fa o pm cd doc dV kV ho hd hcd hD hmg hg args vals as hpre hlay hrd hwl hlo
  obtain rfl : dV = .none := Dflts.none hD hdf
  obtain rfl : kV = .none := Dflts.noKw hD
  obtain ⟨a, vs, ns, rfl, rfl, hobj, hints, hlen⟩ := script_of hn hpre hwl
  refine enter_call (codeAny_mono (call w s₀ s₁ mg mb fa o pm cd doc a vs ns G Y ho (fd_plain hd) hcd hmg hobj hints hlen hg) fun r s' hq => ?_)
  obtain ⟨rfl, h2, h3, h4⟩ := hq
  exact ⟨.inl ⟨.bool true, .bool true, [], rfl, fun _ => rfl, .bool true, post_true l _, fun _ => ⟨List.Pairwise.nil, fun _ hm => (nomatch hm)⟩⟩, h2, h3, h4⟩
end Att
namespace L2
open PySem PySem.Spec PyProof.Rows
theorem vals_ints : ∀ {vs : List Value} {ns : List Int}, IntsAre vs ns → Vals (ns.map V.int) vs
  | _, _, .nil => .nil
  | _, _, .cons n t h => .cons ⟨t, rfl⟩ (vals_ints h)
def Only (H : Hp) : Prop := ∀ b, H b = none ∨ ∃ o xs, H b = some (.frz o (.lst xs))
theorem law_call {P : Program} {w : World} {K : PySem.W.Frag} {mg mb : Str → Option Value} {CX : CXT} {k : Nat} {fa a : Addr} {fd : FuncData} {x : Str} {sp : Sp} {s₁ : Shared} {vs : List Value} {ns : List Int}
    (KX : K.In s₁.heap) (hns : s₁.heap.Ns mainGlobals mg) (hb : s₁.heap.Ns builtinsNs mb) (hbb : ∀ x : Str, x ≠ "__name__" → mb x = bootBuiltins x) (hlim : s₁.heap.NoLimit) (hg : s₁.gens = #[])
    (ha : s₁.heap.get? a = some { cls := .type "list", data := .seq vs.toArray }) (hi : IntsAre vs ns) (hl : ns.length ≤ sizeLine) (hr : Room k callerA)
    (F : ∀ base : Heap, K.In base → base.Ns mainGlobals mg → FnOk P w K mg base CX k fa fd [x] sp) (hbind : ∀ (s : Shared) (u : Value), BindsTo s fd ⟨[u], []⟩ [(x, u)])
    (hsp : ∀ H : Hp, Only H → SqL K H a (ns.map V.int) → sp [.ref a] H (fun v _ => v = .bl true) fun _ _ _ => False)
    (hCX : ∀ H e s', CX [] H s₁ (fun _ _ _ => False) e s' → False) :
    codeAny (model P w) callerA (.call (.ref fa) ⟨[.ref a], []⟩) (fun r s' => r = .ok (.ret (.bool true)) ∧ OldK s₁.heap s'.heap ∧ s'.os = s₁.os ∧ AllBare s'.gens) s₁ := by
  have rv := vals_ints hi
  have lenV := hi.length
  have core : ∀ H : Hp, Only H → SqL K H a (ns.map V.int) → HOk P w H s₁.heap → (∀ b, H b ≠ none → b = a) → (H a ≠ none → K.lookup a = none) →
      codeAny (model P w) callerA (.call (.ref fa) ⟨[.ref a], []⟩) (fun r s' => r = .ok (.ret (.bool true)) ∧ OldK s₁.heap s'.heap ∧ s'.os = s₁.os ∧ AllBare s'.gens) s₁ := by
    intro H hO hS hok hA hK
    have base_of : ∀ {b : Addr} {o : Obj}, s₁.heap.get? b = some o → H b = none → (hidT s₁.heap H).get? b = some o := fun e n => hidT_get e n
    have noA : ∀ {b : Addr} {o : Obj} {es : Array DictEntry} {ep : Nat}, s₁.heap.get? b = some o → o.data = .dict es ep → H b = none := fun {b o es ep} e d => by
      cases q : H b with
      | none => rfl
      | some u =>
        have e' : b = a := hA b (by rw [q]; simp)
        subst e'
        rw [ha] at e; cases e
        have d' : Data.seq vs.toArray _ = Data.dict es ep := d
        cases d'
    have nsK : ∀ {b : Addr} {m : Str → Option Value}, s₁.heap.Ns b m → (hidT s₁.heap H).Ns b m := fun {b m} ⟨o, es, ep, e, d, r⟩ => ⟨o, es, ep, base_of e (noA e d), d, r⟩
    have hKb : K.In (hidT s₁.heap H) := fun b o e => base_of (KX b o e) (by
      cases q : H b with
      | none => rfl
      | some u =>
        have e' : b = a := hA b (by rw [q]; simp)
        subst e'
        rw [hK (by rw [q]; simp)] at e; cases e)
    have hM : Mod K mg (hidT s₁.heap H) := ⟨hKb, nsK hns, ⟨mb, nsK hb, hbb⟩, let ⟨mc, h1, h2⟩ := hlim; ⟨mc, nsK h1, h2⟩⟩
    have e0 : Env0 P w K mg (hidT s₁.heap H) callerA [] s₁ H := ⟨rfl, hM, fun b o e => of_hidT e, Nat.le_of_eq (hidT_size _ _), trivial, fun b hb => absurd (show b ∈ ([] : List Addr) from hb) (by simp), hok, .of_eq hg⟩
    refine codeAny_mono ((F _ hKb (nsK hns)).run callerA [] s₁ H ⟨[.ref a], []⟩ [.ref a] [.ref a] _ _ hr e0 (hbind s₁ (.ref a)) (.cons rfl .nil) (hsp H hO hS)) fun r s' h => ?_
    cases r with
    | error e => exact (hCX H e s' h).elim
    | ok fl =>
      cases fl with
      | next => exact False.elim h
      | brk => exact False.elim h
      | cont => exact False.elim h
      | ret u =>
        obtain ⟨v, H', os, bare, un, hok', r', q⟩ := h
        have q' : v = .bl true := q
        subst q'
        obtain rfl : u = Value.bool true := r'
        refine ⟨rfl, OldK.of_keep fun b o e => ?_, os, bare⟩
        cases q : H b with
        | none => exact un.keep b o e q (by intro z; exact absurd (show b ∈ ([] : List Addr) from z) (by simp)) (by simp)
        | some u =>
          rcases hO b with z | ⟨ob, xs, z⟩
          · rw [q] at z; cases z
          · have z2 := un.frzs b ob _ z
            obtain ⟨e1, _⟩ := hok b _ z
            obtain ⟨e2, _⟩ := hok' b _ z2
            rw [e] at e1; cases e1
            exact e2
  cases hk : K.lookup a with
  | some o =>
    have e := KX a o hk
    rw [ha] at e
    cases e
    refine core (fun _ => none) (fun _ => .inl rfl) (.inr ⟨_, vs.toArray, _, hk, rfl, rfl, rfl, by rw [List.size_toArray, lenV]; exact hl, by simpa using rv⟩) (fun b u z => by have z' : (none : Option HO) = some u := z; cases z') (fun b z => absurd rfl z) fun z => absurd rfl z
  | none =>
    refine core (fun b => if b = a then some (.frz { cls := .type "list", data := .seq vs.toArray } (.lst (ns.map V.int))) else none) (fun b => ?_) (.inl (.inr ⟨{ cls := .type "list", data := .seq vs.toArray }, if_pos rfl⟩)) (fun b u z => ?_) (fun b z => ?_) fun _ => hk
    · by_cases hb : b = a
      · exact .inr ⟨_, _, if_pos hb⟩
      · exact .inl (if_neg hb)
    · by_cases hb : b = a
      · have z' := (if_pos hb).symm.trans z
        cases z'
        subst hb
        exact ⟨ha, by rw [List.length_map]; exact hl, vs, _, rv, ha⟩
      · have z' := (if_neg hb).symm.trans z
        cases z'
    · by_cases hb : b = a
      · exact hb
      · exact absurd (if_neg hb) z
end L2
namespace L2
open PySem PySem.Spec PyProof.Rows
abbrev KOf {K : PySem.W.Frag} {h : Heap} (_ : K.In h) : PySem.W.Frag := K
theorem walk_of {l : PySem.W.OpenLaw} {n k : Nat} {q : Program} {loose : List Str} {XP : (Str → Option Value) → Heap → Prop} {YP : World → Heap → Prop} {d : DefRec} {K : Params → PySem.W.Frag} {CX : World → CXT} {sp : World → Sp} {x : Str}
    (hn : l.most = some n) (hn2 : n ≤ sizeLine) (hdf : d.params.defaults = []) (hr : Room k callerA)
    (hY : ∀ (w : World) (h : Heap), YP w h → (K w.params).In h)
    (F : ∀ (w : World) (mg : Str → Option Value) (fa : Addr) (h : Heap), (K w.params).In h → h.Ns mainGlobals mg → mg d.name = some (.ref fa) →
      ∃ fd : FuncData, (∀ (s : Shared) (u : Value), BindsTo s fd ⟨[u], []⟩ [(x, u)]) ∧
        ∀ base : Heap, (K w.params).In base → base.Ns mainGlobals mg → FnOk l.prog w (K w.params) mg base (CX w) k fa fd [x] (sp w))
    (hsp : ∀ (w : World) (H : Hp) (a : Addr) (ns : List Int), ns.length ≤ n → Only H → SqL (K w.params) H a (ns.map V.int) → sp w [.ref a] H (fun v _ => v = .bl true) fun _ _ _ => False)
    (hCX : ∀ (w : World) (H : Hp) (s : Shared) (e : Value) (s' : Shared), CX w [] H s (fun _ _ _ => False) e s' → False) :
    PySem.W.WalkO q loose XP YP l.row.toRowW d [] (fun f vs => PySem.call f vs) := by
  refine Att.attach_call hn hdf fun w s₀ s₁ mg mb fa o pm cd doc a vs ns G Y ho hd hcd hmg hobj hints hlen hg => ?_
  have KX := hY w _ Y
  obtain ⟨fd, hb, hF⟩ := F w mg fa _ KX G.T.g hmg
  exact law_call KX G.T.g G.T.b G.T.builtins G.T.nolimit hg hobj hints (Nat.le_trans hlen hn2) hr hF hb (fun H hO hS => hsp w H a ns hlen hO hS) fun H e s' => hCX w H s₁ e s'
theorem walk_ofK {l : PySem.W.OpenLaw} {n k : Nat} {q : Program} {loose : List Str} {XP : (Str → Option Value) → Heap → Prop} {YP : World → Heap → Prop} {d : DefRec} {K : Params → PySem.W.Frag} {CX : CXT} {sp : PySem.W.Frag → Sp} {x : Str}
    (hn : l.most = some n) (hn2 : n ≤ sizeLine) (hdf : d.params.defaults = []) (hr : Room k callerA)
    (hY : ∀ (w : World) (h : Heap), YP w h → (K w.params).In h)
    (F : ∀ (w : World) (mg : Str → Option Value) (fa : Addr) (h : Heap), (K w.params).In h → h.Ns mainGlobals mg → mg d.name = some (.ref fa) →
      ∃ fd : FuncData, (∀ (s : Shared) (u : Value), BindsTo s fd ⟨[u], []⟩ [(x, u)]) ∧
        ∀ base : Heap, (K w.params).In base → base.Ns mainGlobals mg → FnOk l.prog w (K w.params) mg base CX k fa fd [x] (sp (K w.params)))
    (hsp : ∀ (K : PySem.W.Frag) (H : Hp) (a : Addr) (ns : List Int), ns.length ≤ n → Only H → SqL K H a (ns.map V.int) → sp K [.ref a] H (fun v _ => v = .bl true) fun _ _ _ => False)
    (hCX : ∀ (H : Hp) (s : Shared) (e : Value) (s' : Shared), CX [] H s (fun _ _ _ => False) e s' → False) :
    PySem.W.WalkO q loose XP YP l.row.toRowW d [] (fun f vs => PySem.call f vs) :=
  walk_of (K := K) (CX := fun _ => CX) (sp := fun w => sp (K w.params)) hn hn2 hdf hr hY F (fun w H a ns h1 h2 h3 => hsp (K w.params) H a ns h1 h2 h3) fun _ H s e s' => hCX H s e s'
end L2
namespace L2
open PySem PySem.Spec PyProof.Rows
def inClass (s : Stmt) (j : Nat) : Stmt := match s with
  | .ClassDef _ _ _ body _ _ _ _ _ _ _ => body.getD j (.Pass ⟨0, 0, 0, 0⟩)
  | _ => .Pass ⟨0, 0, 0, 0⟩
def defArgs (s : Stmt) : Arguments := match s with
  | .FunctionDef _ a _ _ _ _ _ _ _ _ => a
  | _ => { posonlyargs := [], args := [], vararg := none, kwonlyargs := [], kw_defaults := [], kwarg := none, defaults := [] }
def defBody (s : Stmt) : List Stmt := match s with
  | .FunctionDef _ _ b _ _ _ _ _ _ _ => b
  | _ => []
def defScope (s : Stmt) : Scope := match s with
  | .FunctionDef _ _ _ _ _ _ sc _ _ _ => sc
  | _ => { kind := .function, names := [], isGenerator := false, isCoroutine := false }
abbrev CX0 : CXT := fun _ _ _ _ _ _ => False
abbrev E0 : XK := fun _ _ _ => False
theorem pass0 {X : Cx} : Passes CX0 X E0 := fun _ _ _ _ _ _ _ h => h.elim
structure Fun (K : PySem.W.Frag) (x qual : Str) (st : Stmt) (f : Addr) (fd : FuncData) : Prop where
  ex : ∃ (oc : Value) (od : Option Addr) (kV doc pm : Value) (an : Option Addr) (cdv ct : Value) (osl : Array (Option Value)),
    fd = PySem.W.fnOf x qual (defArgs st) (defBody st) (defScope st) .none kV doc pm an cdv ct ∧ K.lookup f = some ⟨oc, od, .func fd, osl⟩ ∧ PySem.W.codeIn K cdv qual = true
  kp : PySem.W.keepIn K (.ref f) = true
section
variable {P : Program} {w : World} {K : PySem.W.Frag} {mg : Str → Option Value} {base : Heap}
theorem Fun.ok {x qual : Str} {st : Stmt} {f : Addr} {fd : FuncData} {N ps : List Str} {k : Nat} {sp : Sp} (F : Fun K x qual st f fd) (S : FnScope N ps (defScope st)) (len : ∀ vs H Q E, sp vs H Q E → vs.length = ps.length)
    (hbody : ∀ (cdv : Value) (A : Around) (outer : List Env) (s : Shared) (H : Hp) (vs : List V) (Q : VK) (E : XK), Room k (A.deeper (envOfC qual (defScope st) s.heap.objs.size f cdv)) → sp vs H Q E →
      ∃ t, PSs (cxOf CX0 P w K mg base N qual (defScope st) f cdv A outer s H E).nox (defBody st) t ∧ t { nx := fun _ H' => Q .non H', rt := Q } (start N vs) H) : FnOk P w K mg base CX0 (k + 1) f fd ps sp := by
  obtain ⟨oc, od, kV, doc, pm, an, cdv, ct, osl, rfl, lk, hcd⟩ := F.ex
  refine fn_of lk hcd S len fun A outer s H vs Q E hr hsp => ?_
  obtain ⟨t, h, q⟩ := hbody cdv A outer s H vs Q E hr hsp
  exact ⟨t, h.nox, q⟩
theorem Fun.binds {x qual : Str} {st : Stmt} {f : Addr} {fd : FuncData} {ps : List Str} (F : Fun K x qual st f fd)
    (h : ∀ (kV doc pm : Value) (an : Option Addr) (cdv ct : Value) (us : List Value), us.length = ps.length → bindArgs (PySem.W.fnOf x qual (defArgs st) (defBody st) (defScope st) .none kV doc pm an cdv ct) ⟨us, []⟩ = pure (ps.zip us)) : Binds K fd ps [] := by
  obtain ⟨oc, od, kV, doc, pm, an, cdv, ct, osl, rfl, lk, hcd⟩ := F.ex
  exact .all (h kV doc pm an cdv ct)
theorem fun_mk {x qual : Str} {st : Stmt} {f : Addr} {oc : Value} {od an : Option Addr} {osl : Array (Option Value)} {kV doc pm cdv ct : Value} (l : K.lookup f = some ⟨oc, od, .func (PySem.W.fnOf x qual (defArgs st) (defBody st) (defScope st) .none kV doc pm an cdv ct), osl⟩)
    (c : PySem.W.codeIn K cdv qual = true) (k : PySem.W.keepIn K (.ref f) = true) : Fun K x qual st f (PySem.W.fnOf x qual (defArgs st) (defBody st) (defScope st) .none kV doc pm an cdv ct) := ⟨⟨oc, od, kV, doc, pm, an, cdv, ct, osl, rfl, l, c⟩, k⟩
end
section
variable {X : Cx}
theorem pv (i : Nat) {x : Str} {pos : Pos} (hN : X.N[i]? = some x := by rfl) (hv : Vis X.env.scope x := by first | exact Or.inl rfl | exact Or.inr (Or.inl rfl) | exact Or.inr (Or.inr rfl)) (hd : (x == ("__debug__" : Str)) = false := by decide)
    (hcd : (x == ("__classdict__" : Str)) = false := by decide) : PE X (.Name x pos) (tVar i) := pe_var hN hv hd hcd
end
theorem ite2 {c A B : Prop} [Decidable c] (h1 : c → A) (h2 : ¬ c → B) : if c then A else B := by
  by_cases h : c
  · rw [if_pos h]
    exact h1 h
  · rw [if_neg h]
    exact h2 h
def Same (H H' : Hp) : Prop := ∀ b o, H b = some o → H' b = some o
theorem Same.refl (H : Hp) : Same H H := fun _ _ h => h
theorem Same.trans {H H1 H2 : Hp} (a : Same H H1) (b : Same H1 H2) : Same H H2 := fun c o h => b c o (a c o h)
theorem Same.free {H H' : Hp} (e : Same H H') {l : Addr} (h : H' l = Option.none) : H l = Option.none := by
  cases q : H l with
  | none => rfl
  | some o =>
    rw [e l o q] at h
    cases h
theorem Same.seq {K : PySem.W.Frag} {H H' : Hp} {a : Addr} {xs : List V} (e : Same H H') (h : SqL K H a xs) : SqL K H' a xs := by
  rcases h with (h | ⟨o, h⟩) | h
  · exact .inl (.inl (e _ _ h))
  · exact .inl (.inr ⟨o, e _ _ h⟩)
  · exact .inr h
section
variable {X : Cx}
theorem call_lenD : CallR X (.builtin "len") (fun xs H Q => ∃ a kvs, xs = [V.ref a] ∧ H a = some (.dK kvs) ∧ Q (.int kvs.length) H) := by
  intro pins s σ H xs us Q I r h
  obtain ⟨a, kvs, rfl, ha, q⟩ := h
  obtain ⟨u, rfl, ru⟩ := vals1 r
  cases ru
  exact d_len I (.inl ha) fun t s' I' => ⟨.int kvs.length, H, I', ⟨t, rfl⟩, q⟩
end
end L2
namespace Tx
open PySem PySem.Builtin PySem.Builtin.Str PySem.StrLaws PyProof.Rows
end Tx
namespace L2
open PySem PySem.Spec PyProof.Rows
abbrev NoE : Value → Shared → Prop := fun _ _ => False
section
variable {prog : Program} {w : World} {A : Around} {R : Result → Shared → Prop} {s : Shared}
theorem compLoop_any {elt target iter : Expr} {ifs : List Expr} {scope : Scope} {pos : Pos} {it acc : Value} {env : Env} (I : Nat → Shared → Prop)
    (turn : ∀ n s, I n s → wpAny (model prog w) A (pyNext it) (fun r s₁ => match r with
      | none => R (.ok .next) s₁
      | some v => wpAny (model prog w) A (letOwnedTupleGo target it v) (fun _ s₂ => wpAny (model prog w) A (assign target env v) (fun _ s₃ =>
          wpAny (model prog w) A (forIn ifs true fun c r => if r = true then do let ok ← isTrue c env (eval c env); pure (ForInStep.yield ok) else pure (ForInStep.yield r)) (fun ok s₄ =>
            if ok = true then wpAny (model prog w) A (eval elt env) (fun x s₅ => wpAny (model prog w) A (call (.builtin "list.append") [acc, x]) (fun _ s₆ => ∃ m, m < n ∧ I m s₆) NoE s₅) NoE s₄
            else ∃ m, m < n ∧ I m s₄) NoE s₃) NoE s₂) NoE s₁) NoE s)
    (n : Nat) (h : I n s) : codeAny (model prog w) A (.compLoop (.ListComp elt [⟨target, iter, ifs, 0⟩] scope pos) 0 it acc env) R s := by
  refine codeAny_loop rfl I (fun n s hI => ?_) n h
  show wpAny _ A ((compTurn (.ListComp elt [⟨target, iter, ifs, 0⟩] scope pos) 0 it acc env).onRaise (fun x => do noteFrame x env; theTreesLotGoes x)) _ _ s
  refine wpAny_noted ?_
  rw [compTurn_list]
  refine wpAny_noRaise ?_
  refine wpAny_bind (wpAny_standAt (wpAny_bind (wpAny_mono (turn n s hI) (fun r s₁ h₁ => ?_) fun _ _ h' => h')))
  cases r with
  | none => exact wpAny_pure h₁
  | some v =>
    refine wpAny_bind (wpAny_mono h₁ (fun _ s₂ h₂ => wpAny_bind (wpAny_mono h₂ (fun _ s₃ h₃ => wpAny_bind (wpAny_mono h₃ (fun ok s₄ h₄ => ?_) fun _ _ h' => h')) fun _ _ h' => h')) fun _ _ h' => h')
    cases ok with
    | false => exact wpAny_pure ⟨rfl, h₄⟩
    | true => exact wpAny_bind (wpAny_bind (wpAny_mono h₄ (fun x s₅ h₅ => wpAny_bind (wpAny_mono h₅ (fun _ s₆ h₆ => wpAny_pure (wpAny_pure ⟨rfl, h₆⟩)) fun _ _ h' => h')) fun _ _ h' => h'))
end
def clos (env : Env) : List (Str × NameKind) → List (Str × Addr) → List (Str × Addr)
  | [], cs => cs
  | (n, k) :: r, cs => clos env r (if (k == NameKind.free) = true then (n, (env.cells.lookup n).getD 0) :: cs else cs)
theorem closureFor_clos {scope : Scope} {env : Env} (h : ∀ y ∈ scope.names, y.2 = NameKind.free → ∃ c, env.cells.lookup y.1 = some c) : closureFor scope env = pure (clos env scope.names []) := by
  have all : ∀ (l : List (Str × NameKind)) (cs : List (Str × Addr)), (∀ y ∈ l, y.2 = NameKind.free → ∃ c, env.cells.lookup y.1 = some c) →
      (forIn l cs fun (x : Str × NameKind) (cs : List (Str × Addr)) => (if (x.2 == NameKind.free) = true then do let a ← cellOf env x.1; pure (ForInStep.yield ((x.1, a) :: cs)) else pure (ForInStep.yield cs) : Sem (ForInStep (List (Str × Addr))))) = pure (clos env l cs) := by
    intro l
    induction l with
    | nil => intro cs _; rfl
    | cons y l ih =>
      intro cs hy
      obtain ⟨n, k⟩ := y
      rw [List.forIn_cons]
      by_cases hk : (k == NameKind.free) = true
      · obtain ⟨c, hc⟩ := hy (n, k) List.mem_cons_self (by simpa using hk)
        have e1 : cellOf env n = pure c := by unfold cellOf; rw [hc]
        have e2 : clos env ((n, k) :: l) cs = clos env l ((n, c) :: cs) := by
          show clos env l (if (k == NameKind.free) = true then (n, (env.cells.lookup n).getD 0) :: cs else cs) = _
          rw [if_pos hk, hc]; rfl
        rw [e2, ← ih ((n, c) :: cs) fun z hz => hy z (List.mem_cons_of_mem _ hz)]
        simp only [hk, if_true, e1, pure_bind]
      · have e2 : clos env ((n, k) :: l) cs = clos env l cs := by
          show clos env l (if (k == NameKind.free) = true then (n, (env.cells.lookup n).getD 0) :: cs else cs) = _
          rw [if_neg hk]
        rw [e2, ← ih cs fun z hz => hy z (List.mem_cons_of_mem _ hz)]
        have hk' : (k == NameKind.free) = false := by simpa using hk
        simp only [hk', Bool.false_eq_true, if_false, pure_bind]
  have e := all scope.names [] h
  unfold closureFor
  first
    | (rw [show (pure (clos env scope.names []) : Sem (List (Str × Addr))) = (pure (clos env scope.names []) >>= fun cs => pure cs) from rfl, ← e]; rfl)
    | (simp only [bind_pure]; exact e)
    | (simpa using e)
theorem clos_look {env : Env} {x : Str} {c : Addr} : ∀ {l : List (Str × NameKind)} {cs : List (Str × Addr)}, (∀ y ∈ l, y.2 = NameKind.free → ∃ c, env.cells.lookup y.1 = some c) →
    (∀ y d, cs.lookup y = some d → env.cells.lookup y = some d) → (clos env l cs).lookup x = some c → env.cells.lookup x = some c
  | [], _, _, hc, h => hc x c h
  | (n, k) :: r, cs, hy, hc, h => by
    refine clos_look (l := r) (cs := if (k == NameKind.free) = true then (n, (env.cells.lookup n).getD 0) :: cs else cs) (fun z hz => hy z (List.mem_cons_of_mem _ hz)) (fun y d q => ?_) h
    by_cases hk : (k == NameKind.free) = true
    · rw [if_pos hk] at q
      obtain ⟨c', hc'⟩ := hy (n, k) List.mem_cons_self (by simpa using hk)
      rw [hc', List.lookup_cons] at q
      by_cases e : (y == n) = true
      · rw [e] at q
        have e' : y = n := by simpa using e
        rw [e', hc']; exact q
      · have e' : (y == n) = false := by simpa using e
        rw [e'] at q
        exact hc y d q
    · rw [if_neg hk] at q
      exact hc y d q
theorem clos_has {env : Env} {x : Str} : ∀ {l : List (Str × NameKind)} {cs : List (Str × Addr)}, ((x, NameKind.free) ∈ l ∨ ∃ c, cs.lookup x = some c) → ∃ c, (clos env l cs).lookup x = some c
  | [], _, h => by
    rcases h with h | h
    · cases h
    · exact h
  | (n, k) :: r, cs, h => by
    refine clos_has (l := r) (cs := if (k == NameKind.free) = true then (n, (env.cells.lookup n).getD 0) :: cs else cs) ?_
    rcases h with h | ⟨c, h⟩
    · rcases List.mem_cons.mp h with e | e
      · cases e
        refine .inr ?_
        rw [if_pos (by rfl), List.lookup_cons, beq_self_eq_true]
        exact ⟨_, rfl⟩
      · exact .inl e
    · refine .inr ?_
      by_cases hk : (k == NameKind.free) = true
      · rw [if_pos hk, List.lookup_cons]
        by_cases e : (x == n) = true
        · rw [e]; exact ⟨_, rfl⟩
        · have e' : (x == n) = false := by simpa using e
          rw [e']; exact ⟨c, h⟩
      · rw [if_neg hk]; exact ⟨c, h⟩
theorem lookup_relabel_free {env : Env} : ∀ {names : List (Str × NameKind)} {x : Str}, names.lookup x = some .free →
    (names.map fun (n, k) => if (k == NameKind.free && env.scope.kind == .function && env.kindOf n == some .cell) then (n, NameKind.cell) else (n, k)).lookup x = some .cell ∨
    (names.map fun (n, k) => if (k == NameKind.free && env.scope.kind == .function && env.kindOf n == some .cell) then (n, NameKind.cell) else (n, k)).lookup x = some .free
  | [], _, h => by simp at h
  | (n, k) :: r, x, h => by
    have ih := @lookup_relabel_free env r x
    rw [List.map_cons]
    show List.lookup x ((if (k == NameKind.free && env.scope.kind == .function && env.kindOf n == some .cell) = true then (n, NameKind.cell) else (n, k)) :: _) = _ ∨ List.lookup x ((if (k == NameKind.free && env.scope.kind == .function && env.kindOf n == some .cell) = true then (n, NameKind.cell) else (n, k)) :: _) = _
    cases hx : x == n with
    | true =>
      simp only [List.lookup_cons, hx] at h
      cases h
      by_cases hc : (NameKind.free == NameKind.free && env.scope.kind == .function && env.kindOf n == some .cell) = true
      · rw [if_pos hc]; exact .inl (by simp only [List.lookup_cons, hx])
      · rw [if_neg hc]; exact .inr (by simp only [List.lookup_cons, hx])
    | false =>
      simp only [List.lookup_cons, hx] at h
      by_cases hc : (k == NameKind.free && env.scope.kind == .function && env.kindOf n == some .cell) = true
      · rw [if_pos hc]; simp only [List.lookup_cons, hx]; exact ih h
      · rw [if_neg hc]; simp only [List.lookup_cons, hx]; exact ih h
theorem relabel_cf {env : Env} : ∀ {names : List (Str × NameKind)} {x : Str}, (∀ y ∈ names, y.2 ≠ NameKind.cell) →
    ((names.map fun (n, k) => if (k == NameKind.free && env.scope.kind == .function && env.kindOf n == some .cell) then (n, NameKind.cell) else (n, k)).lookup x = some .cell ∨
    (names.map fun (n, k) => if (k == NameKind.free && env.scope.kind == .function && env.kindOf n == some .cell) then (n, NameKind.cell) else (n, k)).lookup x = some .free) → (x, NameKind.free) ∈ names
  | [], _, _, h => by rcases h with h | h <;> simp at h
  | (n, k) :: r, x, hn, h => by
    have ih := @relabel_cf env r x fun y hy => hn y (List.mem_cons_of_mem _ hy)
    have hk := hn (n, k) List.mem_cons_self
    rw [List.map_cons] at h
    by_cases hc : (k == NameKind.free && env.scope.kind == .function && env.kindOf n == some .cell) = true
    · have hk1 : k = NameKind.free := by
        rw [Bool.and_eq_true, Bool.and_eq_true] at hc
        simpa using hc.1.1
      simp only [hc, if_true, List.lookup_cons] at h
      cases hx : x == n with
      | true => have e : x = n := by simpa using hx
                rw [e, hk1]; exact List.mem_cons_self
      | false => rw [hx] at h; exact List.mem_cons_of_mem _ (ih h)
    · have hc' : (k == NameKind.free && env.scope.kind == .function && env.kindOf n == some .cell) = false := by simpa using hc
      simp only [hc', Bool.false_eq_true, if_false, List.lookup_cons] at h
      cases hx : x == n with
      | true =>
        rw [hx] at h
        have e : x = n := by simpa using hx
        rcases h with h | h
        · exact absurd (Option.some.inj h) hk
        · rw [e, Option.some.inj h]; exact List.mem_cons_self
      | false => rw [hx] at h; exact List.mem_cons_of_mem _ (ih h)
def cxComp (X : Cx) (Nc : List Str) (scope : Scope) (cl : List (Str × Addr)) (C : Addr) (s : Shared) (H : Hp) (ex : List Addr) : Cx where
  prog := X.prog
  w := X.w
  K := X.K
  mg := X.mg
  base := X.base
  A := X.A
  N := Nc
  s₀ := s
  H₀ := H
  env := compEnvC scope cl C X.env
  outer := X.stack
  stack := X.stack
  ex := ex
  fn := fun _ => false
  calm := X.calm
  pn := []
  xe := NoE
def pickS (js : List (Option Nat)) (σ : St) : St := js.map fun o => match o with
  | none => none
  | some j => (σ[j]?).getD none
structure CompOk (X : Cx) (Nc : List Str) (js : List (Option Nat)) (scope : Scope) : Prop where
  kind : scope.kind = .function
  nocell : ∀ y ∈ scope.names, y.2 ≠ NameKind.cell
  names : ∀ y ∈ scope.names, y.2 = NameKind.local → scope.names.lookup y.1 = some NameKind.local
  free : ∀ y ∈ scope.names, y.2 = NameKind.free → X.env.kindOf y.1 = some NameKind.cell ∨ X.env.kindOf y.1 = some NameKind.free
  len : js.length = Nc.length
  map : ∀ (i : Nat) (y : Str) (j : Nat), Nc[i]? = some y → js[i]? = some (some j) → X.N[j]? = some y ∧ scope.names.lookup y = some NameKind.free
def compB (sc : Scope) (N Nc : List Str) (js : List (Option Nat)) (scope : Scope) : Bool :=
  scope.kind == .function && scope.names.all (fun y => y.2 != NameKind.cell) && scope.names.all (fun y => y.2 != NameKind.local || scope.names.lookup y.1 == some NameKind.local) &&
  scope.names.all (fun y => y.2 != NameKind.free || sc.names.lookup y.1 == some NameKind.cell || sc.names.lookup y.1 == some NameKind.free) && js.length == Nc.length &&
  (Nc.zip js).all (fun p => match p.2 with | none => true | some j => N[j]? == some p.1 && scope.names.lookup p.1 == some NameKind.free)
theorem compOk_of {X : Cx} {sc : Scope} {N Nc : List Str} {js : List (Option Nat)} {scope : Scope} (hsc : X.env.scope = sc) (hN : X.N = N) (h : compB sc N Nc js scope = true) : CompOk X Nc js scope := by
  unfold compB at h
  rw [Bool.and_eq_true, Bool.and_eq_true, Bool.and_eq_true, Bool.and_eq_true, Bool.and_eq_true] at h
  obtain ⟨⟨⟨⟨⟨h1, h2⟩, h3⟩, h4⟩, h5⟩, h6⟩ := h
  rw [List.all_eq_true] at h2 h3 h4 h6
  have h5' : js.length = Nc.length := by simpa using h5
  refine ⟨by simpa using h1, fun y hy => by simpa using h2 y hy, fun y hy e => ?_, fun y hy e => ?_, h5', fun i y j e1 e2 => ?_⟩
  · have q := h3 y hy
    rw [e] at q
    simpa using q
  · have q := h4 y hy
    rw [e] at q
    show X.env.scope.names.lookup y.1 = _ ∨ X.env.scope.names.lookup y.1 = _
    rw [hsc]
    simpa using q
  · have hm : (y, some j) ∈ Nc.zip js := by
      refine List.mem_of_getElem? (i := i) ?_
      rw [List.getElem?_zip_eq_some]
      exact ⟨e1, e2⟩
    have q := h6 _ hm
    simp only [Bool.and_eq_true, beq_iff_eq] at q
    rw [hN]
    exact q
def PTs (X : Cx) (ifs : List Expr) (t : TT) : Prop :=
  ∀ (pins : List (Addr × Obj)) (s : Shared) (σ : St) (H : Hp) (Q : Bool → Hp → Prop), Inv X pins σ H s → t σ H Q →
    wpAny (model X.prog X.w) X.A (forIn ifs true fun c r => if r = true then do let ok ← isTrue c X.env (eval c X.env); pure (ForInStep.yield ok) else pure (ForInStep.yield r)) (TP X pins σ Q) X.xe s
def tYes : TT := fun _ H Q => Q true H
theorem pts_nil {X : Cx} : PTs X [] tYes := fun pins s σ H Q I h => wpAny_tests_nil ⟨H, I, h⟩
def tComp (js : List (Option Nat)) (wi : TI) (g : TG) (tt : TT) (te : TE) : TE := fun σ H Q => wi σ H fun J H1 => ∀ D, H1 D = none → ∃ W : Nat → Nat → St → Hp → List V → Prop, (∃ m, W 0 m (pickS js σ) (upd H1 D (.lst [])) []) ∧
  ∀ i m σ' H' ys, W i m σ' H' ys → H' D = some (.lst ys) ∧ ((J.stop i H' ∧ Q (.ref D) H') ∨ (J.go i H' ∧ ys.length < sizeLine ∧ ∀ x H2, J.yld i H' x H2 → g x σ' H2 fun σ2 H3 => tt σ2 H3 fun b H4 =>
    if b = true then te σ2 H4 fun v H5 => H5 D = some (.lst ys) ∧ ∃ m', m' < m ∧ W (i + 1) m' σ2 (upd H5 D (.lst (ys ++ [v]))) (ys ++ [v]) else ∃ m', m' < m ∧ W (i + 1) m' σ2 H4 ys))
section
variable {X : Cx} {elt target iter : Expr} {ifs : List Expr} {scope : Scope} {pos : Pos} {Nc : List Str} {js : List (Option Nat)} {wi : TI} {g : TG} {tt : TT} {te : TE}
theorem comp_block {pins : List (Addr × Obj)} {σ : St} {H2 : Hp} {s₂ : Shared} {E : Value → Shared → Prop} {it : Addr} {fp : List Addr} {tn : Nat → Heap → Prop} {J : It} {Q : VK} {RR : Value → Addr → Result → Shared → Prop} (ok : CompOk X Nc js scope) (hc : X.calm = true)
    (hg : ∀ C cl s H ex, PG (cxComp X Nc scope cl C s H ex) target g) (ht : ∀ C cl s H ex, PTs (cxComp X Nc scope cl C s H ex) ifs tt) (he : ∀ C cl s H ex, PE (cxComp X Nc scope cl C s H ex) elt te)
    (I2 : Inv X pins σ H2 s₂) (T : Turn X.prog X.w X.K target J fp it tn) (st2 : tn 0 s₂.heap) (f2 : ∀ b ∈ fp, FpOk X pins H2 b)
    (h : ∀ D, H2 D = none → ∃ W : Nat → Nat → St → Hp → List V → Prop, (∃ m, W 0 m (pickS js σ) (upd H2 D (.lst [])) []) ∧
      ∀ i m σ' H' ys, W i m σ' H' ys → H' D = some (.lst ys) ∧ ((J.stop i H' ∧ Q (.ref D) H') ∨ (J.go i H' ∧ ys.length < sizeLine ∧ ∀ x H2, J.yld i H' x H2 → g x σ' H2 fun σ2 H3 => tt σ2 H3 fun b H4 =>
        if b = true then te σ2 H4 fun v H5 => H5 D = some (.lst ys) ∧ ∃ m', m' < m ∧ W (i + 1) m' σ2 (upd H5 D (.lst (ys ++ [v]))) (ys ++ [v]) else ∃ m', m' < m ∧ W (i + 1) m' σ2 H4 ys)))
    (hRR : ∀ (D C : Addr) (s' : Shared) (H' : Hp) (m : Str → Option Value), Inv X pins σ H' s' → s'.heap.Ns C m → FpOk X pins H' C → Q (.ref D) H' → RR (.ref D) C (.ok .next) s') :
    wpAny (model X.prog X.w) X.A (newList []) (fun acc s₃ => wpAny (model X.prog X.w) X.A (newFunctionEnv scope X.env.globals (clos X.env scope.names []) [] X.env.qual none .none (some X.env)) (fun cenv s₄ =>
      codeAny (model X.prog X.w) X.A (.compStart (.ListComp elt [⟨target, iter, ifs, 0⟩] scope pos) 0 (.ref it) acc { cenv with scope := relabel scope X.env }) (RR acc cenv.locals) s₄) E s₃) E s₂ := by
  have hfr : ∀ y ∈ scope.names, y.2 = NameKind.free → ∃ c, X.env.cells.lookup y.1 = some c := fun y hy e => I2.ok.has y.1 (ok.free y hy e)
  refine wpAny_newObj_type (wpAny_newFunctionEnv ok.nocell (by intro y hy; simp at hy) (fun h₁ hns₁ hsb₁ => ?_) ok.kind)
  dsimp only at hns₁ hsb₁ ⊢
  generalize hHL : s₂.heap.push { cls := .type "list", dict := none, data := .seq ([] : List Value).toArray } = HL at hns₁ hsb₁ ⊢
  have hC : HL.objs.size = s₂.heap.objs.size + 1 := by rw [← hHL, Heap.size_push]
  have hCle : s₂.heap.objs.size ≤ HL.objs.size := by rw [hC]; exact Nat.le_succ _
  have hDC : s₂.heap.objs.size ≠ HL.objs.size := by rw [hC]; exact Nat.ne_of_lt (Nat.lt_succ_self _)
  have old : ∀ b o, s₂.heap.get? b = some o → h₁.get? b = some o := fun b o e => hsb₁.extBut b o (Nat.ne_of_lt (Nat.lt_of_lt_of_le (Heap.lt_size e) hCle)) (Heap.get?_push_of_some _ (hHL ▸ Heap.get?_push_of_some _ e))
  have hacc : h₁.get? s₂.heap.objs.size = some { cls := .type "list", dict := none, data := .seq ([] : List Value).toArray } := hsb₁.extBut _ _ hDC (Heap.get?_push_of_some _ (hHL ▸ Heap.get?_push_size _ rfl))
  have hD0 : H2 s₂.heap.objs.size = none := I2.hok.fresh (Nat.le_refl _)
  have hC0 : H2 HL.objs.size = none := I2.hok.fresh hCle
  obtain ⟨W, ⟨m0, w0⟩, turn⟩ := h _ hD0
  have hlook : ∀ x c, (clos X.env scope.names []).lookup x = some c → X.env.cells.lookup x = some c := fun x c e => clos_look hfr (fun y d q => by simp at q) e
  have hlt : ∀ b ∈ fp, b < s₂.heap.objs.size := fun b hb => let ⟨o, e, _⟩ := T.obj 0 _ st2 b hb; Heap.lt_size e
  have okc : (cxComp X Nc scope (clos X.env scope.names []) HL.objs.size s₂ H2 fp).Ok := by
    refine ⟨I2.ok.mod, by show scope.kind = _; exact ok.kind, I2.ok.glob, I2.ok.blt, hCle, fun x y c e1 e2 => I2.ok.inj x y c (hlook x c e1) (hlook y c e2), fun x hx => ?_, fun x c z _ => absurd z Bool.false_ne_true, I2.ok.hd, I2.ok.frames, .inl rfl, fun b hb => ⟨?_, fun x c e => (f2 b hb).2.2.2.2.1 x c (hlook x c e)⟩,
      I2.bs, Nat.le_trans I2.ok.bsz I2.sz, fun b o e hb => ?_, fun b hb z => ?_, I2.stack, I2.stkFree⟩
    · exact clos_has (.inl (relabel_cf ok.nocell hx))
    · exact Nat.ne_of_lt (Nat.lt_of_lt_of_le (hlt b hb) hCle)
    · rcases (f2 b hb).2.2.2.1 with z | z
      · exact I2.ok.noex b o e z
      · exact absurd (Nat.lt_of_lt_of_le (Heap.lt_size e) (Nat.le_trans I2.ok.bsz z)) (Nat.lt_irrefl _)
    · rcases List.mem_cons.mp (I2.stkSub b z) with e | e
      · exact (f2 b hb).2.1 e
      · exact (f2 b hb).2.2.1 e
  have fpc : ∀ {H' : Hp}, (∀ b ∈ fp, H' b = none) → ∀ b ∈ fp, FpOk (cxComp X Nc scope (clos X.env scope.names []) HL.objs.size s₂ H2 fp) [] H' b := fun {H'} hn b hb =>
    ⟨hn b hb, (okc.exf b hb).1, okc.exfs b hb, .inl hb, (okc.exf b hb).2, fun p hp => absurd (show p ∈ ([] : List (Addr × Obj)) from hp) (by simp)⟩
  have Ic : Inv (cxComp X Nc scope (clos X.env scope.names []) HL.objs.size s₂ H2 fp) [] (pickS js σ) (upd H2 s₂.heap.objs.size (.lst [])) { s₂ with heap := h₁, toks := s₂.toks + ([] : List (Str × Value)).length } := by
    refine ⟨okc, rfl, I2.bare, Un.laid old (Nat.le_refl _) hD0, ⟨_, hns₁, fun i x v e1 e2 e3 => ?_⟩, fun x c e => ?_, ?_, fun x c e => ?_, fun p hp => absurd (show p ∈ ([] : List (Addr × Obj)) from hp) (by simp), ?_, ?_⟩
    · have e1' : Nc[i]? = some x := e1
      unfold pickS at e2
      rw [List.getElem?_map] at e2
      cases ej : js[i]? with
      | none => rw [ej] at e2; simp at e2
      | some oj =>
        rw [ej] at e2
        cases oj with
        | none => simp at e2
        | some j =>
          have e2' : (σ[j]?).getD none = some v := by simpa using e2
          have e2'' : σ[j]? = some (some v) := by
            cases q : σ[j]? with
            | none => rw [q] at e2'; simp at e2'
            | some z => rw [q] at e2'; simp at e2'; rw [e2']
          obtain ⟨hN, hF⟩ := ok.map i x j e1' ej
          have hmem : (x, NameKind.free) ∈ scope.names := PySem.mem_of_lookup hF
          have hkX := ok.free _ hmem rfl
          obtain ⟨m, hn, hl⟩ := I2.loc
          have hvis : Vis X.env.scope x := by
            rcases hkX with z | z
            · exact .inr (.inl z)
            · exact .inr (.inr z)
          obtain ⟨u, ru, lk⟩ := hl j x v hN e2'' hvis
          refine ⟨u, ru, .inr ?_⟩
          rcases lk with ⟨k1, _⟩ | ⟨_, c, ec, ic⟩
          · have k1' : X.env.kindOf x = some NameKind.local := k1
            rcases hkX with z | z
            · rw [z] at k1'; cases k1'
            · rw [z] at k1'; cases k1'
          · obtain ⟨c', hc'⟩ := clos_has (env := X.env) (l := scope.names) (cs := []) (x := x) (.inl hmem)
            have e' := hlook x c' hc'
            rw [ec] at e'
            cases e'
            exact ⟨lookup_relabel_free hF, c, hc', ic.keeps old⟩
    · obtain ⟨v, q⟩ := I2.cell x c (hlook x c e)
      exact ⟨v, q.keeps old⟩
    · show upd H2 s₂.heap.objs.size (.lst []) HL.objs.size = none
      rw [upd_ne (Ne.symm hDC)]; exact hC0
    · obtain ⟨v, q⟩ := I2.cell x c (hlook x c e)
      rw [upd_ne (Nat.ne_of_lt q.lt)]
      exact I2.freeC x c (hlook x c e)
    · exact I2.hok.laid old (Nat.le_refl _) ⟨Nat.zero_le _, [], _, .nil, hacc⟩
    · show (pickS js σ).length = Nc.length
      unfold pickS
      rw [List.length_map]; exact ok.len
  have back : ∀ {σ' : St} {H' : Hp} {s' : Shared}, Inv (cxComp X Nc scope (clos X.env scope.names []) HL.objs.size s₂ H2 fp) [] σ' H' s' → Inv X pins σ H' s' := fun {σ' H' s'} I4 =>
    I2.call' (ch := fp) I4.os I4.base I4.hok I4.bare fun b hb => ⟨(f2 b hb).2.2.2.1, (f2 b hb).2.1, (f2 b hb).2.2.2.2.1, (f2 b hb).2.2.2.2.2⟩
  have st1 : tn 0 h₁ := T.keep 0 _ _ st2 fun b _ o e => old b o e
  have loop : ∀ s₃ : Shared, s₃ = { s₂ with heap := h₁, toks := s₂.toks + ([] : List (Str × Value)).length } →
      codeAny (model X.prog X.w) X.A (.compLoop (.ListComp elt [⟨target, iter, ifs, 0⟩] scope pos) 0 (.ref it) (.ref s₂.heap.objs.size) (compEnvC scope (clos X.env scope.names []) HL.objs.size X.env))
        (RR (.ref s₂.heap.objs.size) HL.objs.size) s₃ := by
    rintro s₃ rfl
    refine compLoop_any (fun n s' => ∃ i σ' H' ys, Inv (cxComp X Nc scope (clos X.env scope.names []) HL.objs.size s₂ H2 fp) [] σ' H' s' ∧ tn i s'.heap ∧ (∀ b ∈ fp, H' b = none) ∧ W i n σ' H' ys) ?_ m0
      ⟨0, pickS js σ, _, [], Ic, st1, fun b hb => by rw [upd_ne (Nat.ne_of_lt (hlt b hb))]; exact (f2 b hb).1, w0⟩
    rintro n s3 ⟨i, σ3, H3, ys, I3, st3, fr3, w3⟩
    obtain ⟨hD3, tn3⟩ := turn i n σ3 H3 ys w3
    rcases tn3 with ⟨stop, q⟩ | ⟨go, hys, step⟩
    · refine thn (T.done (cxComp X Nc scope (clos X.env scope.names []) HL.objs.size s₂ H2 fp) rfl rfl rfl hc i [] s3 σ3 H3 NoE I3 (fpc fr3) st3 stop) fun r s4 ⟨hr, I4⟩ => ?_
      subst hr
      obtain ⟨m4, n4, _⟩ := I4.loc
      exact hRR _ _ s4 H3 m4 (back I4) n4 (I2.fpOk hCle I4.free) q
    · refine thn (T.item (cxComp X Nc scope (clos X.env scope.names []) HL.objs.size s₂ H2 fp) rfl rfl rfl hc i [] s3 σ3 H3 NoE I3 (fpc fr3) st3 go) fun r s4 ⟨u, hr, h4⟩ => ?_
      subst hr
      refine thn h4 fun _ s5 ⟨x, H5, I5, r5, y5, st5, fr5⟩ => ?_
      have I5' := I5.pinned (fpc fr5) (T.obj _ _ st5)
      have fin : ∀ {σ7 : St} {H7 : Hp} {s7 : Shared} {zs : List V} {m' : Nat}, Inv (cxComp X Nc scope (clos X.env scope.names []) HL.objs.size s₂ H2 fp) ([] ++ pinsAt fp s5.heap) σ7 H7 s7 → m' < n → W (i + 1) m' σ7 H7 zs →
          ∃ m, m < n ∧ ∃ i σ' H' ys, Inv (cxComp X Nc scope (clos X.env scope.names []) HL.objs.size s₂ H2 fp) [] σ' H' s7 ∧ tn i s7.heap ∧ (∀ b ∈ fp, H' b = none) ∧ W i m σ' H' ys := fun {σ7 H7 s7 zs m'} I7 hm w7 => by
        refine ⟨m', hm, i + 1, σ7, H7, zs, I7.unpinned, T.keep _ _ _ st5 fun b hb o e => (I7.pin (b, o) (List.mem_append_right _ (List.mem_append_right _ (mem_pinsAt hb e)))).1, fun b hb => ?_, w7⟩
        obtain ⟨o, e, d⟩ := T.obj _ _ st5 b hb
        exact (I7.pin (b, o) (List.mem_append_right _ (List.mem_append_right _ (mem_pinsAt hb e)))).2.1
      refine thn (hg _ _ _ _ _ _ s5 σ3 H5 x u _ I5' r5 (step x H5 y5)) fun _ s6 ⟨σ6, H6, I6, q6⟩ => ?_
      refine thn (ht _ _ _ _ _ _ s6 σ6 H6 _ I6 q6) fun b s7 ⟨H7, I7, q7⟩ => ?_
      cases b with
      | false =>
        obtain ⟨m', hm, w7⟩ := q7
        exact fin I7 hm w7
      | true =>
        refine thn (he _ _ _ _ _ _ s7 σ6 H7 _ I7 q7) fun v s8 ⟨y, H8, I8, r8, hD8, m', hm, w8⟩ => ?_
        refine thn (mt_append _ s8 σ6 H8 (.ref s₂.heap.objs.size) [y] (.ref s₂.heap.objs.size) [v] (fun _ H9 => H9 = upd H8 s₂.heap.objs.size (.lst (ys ++ [y]))) I8 rfl (.cons r8 .nil) ⟨_, ys, y, rfl, rfl, hD8, hys, rfl⟩) fun v9 s9 ⟨_, H9, I9, _, e9⟩ => ?_
        subst e9
        exact fin I9 hm w8
  exact codeAny_compStart_list (loop _ rfl) (T.self X.A 0 _ _ _ st1 (loop _ rfl))
theorem pe_comp (ok : CompOk X Nc js scope) (hc : X.calm = true) (hi : PI X target iter wi)
    (hg : ∀ C cl s H ex, PG (cxComp X Nc scope cl C s H ex) target g) (ht : ∀ C cl s H ex, PTs (cxComp X Nc scope cl C s H ex) ifs tt) (he : ∀ C cl s H ex, PE (cxComp X Nc scope cl C s H ex) elt te)
    (hs : ∀ x, foldedSetIterable iter X.env x = pure x := by intro _; rfl) : PE X (.ListComp elt [⟨target, iter, ifs, 0⟩] scope pos) (tComp js wi g tt te) := by
  intro pins s σ H Q I h
  have hfr : ∀ y ∈ scope.names, y.2 = NameKind.free → ∃ c, X.env.cells.lookup y.1 = some c := fun y hy e => I.ok.has y.1 (ok.free y hy e)
  rw [eval_ListComp]
  refine wpAny_comprehension_free (use := none) rfl hs (closureFor_clos hfr) ok.kind ok.names (thn (hi pins s σ H _ I h) fun v s1 h1 => thn h1 fun itv s2 h2 => ?_)
  obtain ⟨it, fp, tn, J, H2, e, I2, T, st2, f2, h⟩ := h2
  subst e
  refine comp_block (RR := fun acc C => compPost (model X.prog X.w) X.A X.xe none (EP X pins σ Q) acc C) (Q := Q) ok hc hg ht he I2 T st2 f2 h ?_
  intro D C s' H' m I' n' fC q
  refine ⟨m, n', fun h' sb => ⟨.ref D, H', ?_, rfl, q⟩⟩
  exact I'.turned (t' := s'.toks) (fun b o hb e => (sb.2 b hb).trans e) fC.1 fC.2.1 fC.2.2.2.1 fC.2.2.2.2.1 fC.2.2.2.2.2
end
section
variable {js : List (Option Nat)} {g : TG} {tt : TT} {te : TE} {σ : St} {H : Hp} {Q : VK}
def CompW (J : It) (js : List (Option Nat)) (g : TG) (tt : TT) (te : TE) (σ : St) (H : Hp) (Q : VK) : Prop :=
  ∀ D, H D = none → ∃ W : Nat → Nat → St → Hp → List V → Prop, (∃ m, W 0 m (pickS js σ) (upd H D (.lst [])) []) ∧
  ∀ i m σ' H' ys, W i m σ' H' ys → H' D = some (.lst ys) ∧ ((J.stop i H' ∧ Q (.ref D) H') ∨ (J.go i H' ∧ ys.length < sizeLine ∧ ∀ x H2, J.yld i H' x H2 → g x σ' H2 fun σ2 H3 => tt σ2 H3 fun b H4 =>
    if b = true then te σ2 H4 fun v H5 => H5 D = some (.lst ys) ∧ ∃ m', m' < m ∧ W (i + 1) m' σ2 (upd H5 D (.lst (ys ++ [v]))) (ys ++ [v]) else ∃ m', m' < m ∧ W (i + 1) m' σ2 H4 ys))
structure Src (J : It) (n : Nat) (f : Nat → V) (Ok : Hp → Prop) : Prop where
  go : ∀ i H, i < n → Ok H → J.go i H
  yld : ∀ i H x H', i < n → Ok H → J.yld i H x H' → H' = H ∧ x = f i
  stop : ∀ H, Ok H → J.stop n H
theorem src_list {K : PySem.W.Frag} {a : Addr} {xs : List V} : Src (Itl K a) xs.length (fun i => (xs[i]?).getD .non) (fun H => SqL K H a xs) :=
  ⟨fun i H hi h => ⟨xs, xs[i], h, by simp [hi]⟩, fun i H x H' hi h y => ⟨y.1, by rw [y.2 xs h]; rfl⟩, fun H h => ⟨xs, h, Nat.le_refl _⟩⟩
theorem src_range {lo : Int} {n : Nat} : Src (Itr lo n) n (fun i => .int (lo + i)) (fun _ => True) :=
  ⟨fun i H hi _ => hi, fun i H x H' hi _ y => y, fun H _ => Nat.le_refl _⟩
theorem comp_by {J : It} {n : Nat} {f : Nat → V} {Ok : Hp → Prop} (S : Src J n f Ok) (hn : n ≤ sizeLine) (Pv : Addr → Nat → St → Hp → List V → Prop) (h0 : ∀ D, H D = none → Pv D 0 (pickS js σ) (upd H D (.lst [])) [])
    (hk : ∀ D i σ' H' ys, H D = none → i ≤ n → Pv D i σ' H' ys → Ok H' ∧ H' D = some (.lst ys) ∧ ys.length ≤ i)
    (hs : ∀ D i σ' H' ys (R : St → Hp → List V → Prop), H D = none → i < n → Pv D i σ' H' ys → (∀ a b c, Pv D (i + 1) a b c → R a b c) → g (f i) σ' H' fun σ2 H3 => tt σ2 H3 fun b H4 =>
      if b = true then te σ2 H4 fun v H5 => H5 D = some (.lst ys) ∧ R σ2 (upd H5 D (.lst (ys ++ [v]))) (ys ++ [v]) else R σ2 H4 ys)
    (hd : ∀ D σ' H' ys, H D = none → Pv D n σ' H' ys → Q (.ref D) H') : CompW J js g tt te σ H Q := by
  intro D hD
  refine ⟨fun i m σ' H' ys => m = n - i ∧ i ≤ n ∧ Pv D i σ' H' ys, ⟨n, by simp, Nat.zero_le _, h0 D hD⟩, ?_⟩
  rintro i m σ' H' ys ⟨rfl, hi, p⟩
  obtain ⟨q1, q2, q3⟩ := hk D i σ' H' ys hD hi p
  refine ⟨q2, ?_⟩
  by_cases hlt : i < n
  · refine .inr ⟨S.go i H' hlt q1, by omega, fun x H2 y => ?_⟩
    obtain ⟨rfl, rfl⟩ := S.yld i H' x H2 hlt q1 y
    exact hs D i σ' _ ys (fun σ2 H3 ys' => ∃ m', m' < n - i ∧ (m' = n - (i + 1) ∧ i + 1 ≤ n ∧ Pv D (i + 1) σ2 H3 ys')) hD hlt p fun a b c r => ⟨n - (i + 1), by omega, rfl, hlt, r⟩
  · have e : i = n := by omega
    subst e
    exact .inl ⟨S.stop H' q1, hd D σ' H' ys hD p⟩
end
end L2
namespace L2
open PySem PySem.Spec PyProof.Rows
section
variable {X : Cx}
def clsV : V → Option Value
  | .ty n => some (.type n)
  | .ref a => some (.ref a)
  | _ => none
theorem clsV_rel {c : V} {u v : Value} (h : clsV c = some u) (r : RelV c v) : v = u := by
  cases c with
  | ty n => cases h; exact r
  | ref a => cases h; exact r
  | _ => cases h
def rIsi (K : PySem.W.Frag) : List V → Hp → VK → Prop := fun xs H Q => ∃ x c u t b, xs = [x, c] ∧ clsV c = some u ∧ TyOf K H x t ∧ PySem.W.kitOne K t u = some b ∧ Q (.bl b) H
theorem call_isinst : CallR X (.builtin "isinstance") (rIsi X.K) := by
  intro pins s σ H xs us Q I r h
  obtain ⟨x, c, u, t, b, rfl, hu, ty, e, q⟩ := h
  obtain ⟨v, u', rfl, rv, ru'⟩ := vals2 r
  cases clsV_rel hu ru'
  exact isinst_ok I rv ty e fun tk => ⟨.bl b, H, I.tok _, rfl, q⟩
def rSlS : V → Option Int → Option Int → Hp → VK → Prop := fun x lo hi H Q => ∃ z, x = .str z ∧ z.length ≤ sizeLine ∧ Q (.str (Txt.slice z lo hi)) H
theorem sl_str : SlR X rSlS := by
  intro pins s σ H x v vl vu lo hi sl Q I rx hs pl pu h
  obtain ⟨z, rfl, hz, q⟩ := h
  obtain ⟨t, rfl⟩ := rx
  obtain ⟨o, ho, hc, hd⟩ := hs
  refine ⟨"str", _, PySem.F.slot_str_getitem.lookup, typeIs_str _ _ _, ?_⟩
  have fin : ∀ (l u : Option Int) (t' : Tok) (k : Nat), Q (.str (Txt.slice z l u)) H → EP X pins σ Q (.str (Txt.slice z l u) t') { s with toks := k } := fun l u t' k q => ⟨.str _, H, I.tok _, ⟨_, rfl⟩, q⟩
  cases pl with
  | none =>
    cases pu with
    | none => exact wpAny_getItem_str_slice (l := none) (u := none) (st := none) ⟨o, ho, hc, hd⟩ rfl (post_val_or_str ⟨Nat.le_trans (Txt.slice_le z _ _) hz, fun t' k => fin _ _ t' k q⟩)
    | int j uj => exact wpAny_getItem_str_slice (l := none) (u := some (j, uj)) (st := none) ⟨o, ho, hc, hd⟩ rfl (post_val_or_str ⟨Nat.le_trans (Txt.slice_le z _ _) hz, fun t' k => fin _ _ t' k q⟩)
  | int i ui =>
    cases pu with
    | none => exact wpAny_getItem_str_slice (l := some (i, ui)) (u := none) (st := none) ⟨o, ho, hc, hd⟩ rfl (post_val_or_str ⟨Nat.le_trans (Txt.slice_le z _ _) hz, fun t' k => fin _ _ t' k q⟩)
    | int j uj => exact wpAny_getItem_str_slice (l := some (i, ui)) (u := some (j, uj)) (st := none) ⟨o, ho, hc, hd⟩ rfl (post_val_or_str ⟨Nat.le_trans (Txt.slice_le z _ _) hz, fun t' k => fin _ _ t' k q⟩)
end
end L2
namespace L2
open PySem PySem.Spec PyProof.Rows
theorem boot_lenT : bootBuiltins "len" = some (.builtin "len") := by decide +kernel
theorem boot_isinstanceT : bootBuiltins "isinstance" = some (.builtin "isinstance") := by decide +kernel
theorem boot_listT : bootBuiltins "list" = some (.type "list") := by decide +kernel
theorem boot_ValueErrorT : bootBuiltins "ValueError" = some (.type "ValueError") := by decide +kernel
section
variable {X : Cx}
def rAddS : R2 := fun x y H Q => ∃ i j, x = .str i ∧ y = .str j ∧ i.length + j.length ≤ sizeLine ∧ Q (.str (i ++ j)) H
def rAddI : R2 := rI0 fun i j => .int (i + j)
def rAddA (K : PySem.W.Frag) : R2 := fun x y H Q => rAddI x y H Q ∨ rAddS x y H Q ∨ rCat x y H Q ∨ rCatT K x y H Q
theorem op_addA : OpR X (binaryOp .Add) (rAddA X.K) := op_add.or (op_add_str.or (op_cat.or op_catT))
theorem rAddA_int {K : PySem.W.Frag} {i j : Int} {H : Hp} {Q : VK} : rAddA K (.int i) (.int j) H Q ↔ Q (.int (i + j)) H := by
  constructor
  · rintro (⟨a, b, e1, e2, q⟩ | ⟨a, b, e1, _⟩ | ⟨a, b, _, _, e1, _⟩ | ⟨a, b, _, _, e1, _⟩)
    · cases e1; cases e2; exact q
    · cases e1
    · cases e1
    · cases e1
  · exact fun q => .inl ⟨i, j, rfl, rfl, q⟩
theorem rAddA_str {K : PySem.W.Frag} {i j : Str} {H : Hp} {Q : VK} : rAddA K (.str i) (.str j) H Q ↔ (i.length + j.length ≤ sizeLine ∧ Q (.str (i ++ j)) H) := by
  constructor
  · rintro (⟨a, b, e1, _⟩ | ⟨a, b, e1, e2, q⟩ | ⟨a, b, _, _, e1, _⟩ | ⟨a, b, _, _, e1, _⟩)
    · cases e1
    · cases e1; cases e2; exact q
    · cases e1
    · cases e1
  · exact fun q => .inr (.inl ⟨i, j, rfl, rfl, q⟩)
theorem rEq_int {i j : Int} {H : Hp} {Q : VK} : rEq (.int i) (.int j) H Q ↔ Q (.bl (decide (i = j))) H := by
  unfold rEq
  have e : decide (V.int i = V.int j) = decide (i = j) := by
    by_cases h : i = j
    · subst h; simp
    · simp [h]
  rw [e]
  exact ⟨fun h => h.2, fun h => ⟨rfl, h⟩⟩
def rLenA (K : PySem.W.Frag) : List V → Hp → VK → Prop := fun xs H Q => (∃ x n, xs = [x] ∧ LenV K x H n ∧ Q (.int n) H) ∨ ∃ a kvs, xs = [V.ref a] ∧ H a = some (.dK kvs) ∧ Q (.int kvs.length) H
theorem call_lenA : CallR X (.builtin "len") (rLenA X.K) := call_len.or call_lenD
theorem rLenA_lst {K : PySem.W.Frag} {a : Addr} {xs : List V} {H : Hp} {Q : VK} (h : SqL K H a xs) (q : Q (.int xs.length) H) : rLenA K [.ref a] H Q := .inl ⟨.ref a, xs.length, rfl, .inl ⟨xs, h, rfl⟩, q⟩
def rSlA (K : PySem.W.Frag) : V → Option Int → Option Int → Hp → VK → Prop := fun x lo hi H Q => rSlS x lo hi H Q ∨ rSlL K x lo hi H Q ∨ rSlT K x lo hi H Q
theorem sl_any : SlR X (rSlA X.K) := sl_str.or (sl_list.or sl_tup)
theorem rIx_str {K : PySem.W.Frag} {z : Str} {i : Int} {H : Hp} {Q : VK} : rIx K (.str z) (.int i) H Q ↔ (z.length ≤ sizeLine ∧ ∃ c, atI z.cps.toList i = some c ∧ Q (.str ⟨#[c]⟩) H) := by
  constructor
  · rintro (⟨p, xs, j, v, e1, _⟩ | ⟨p, xs, j, v, e1, _⟩ | ⟨y, j, c, e1, e2, h1, h2, q⟩)
    · cases e1
    · cases e1
    · cases e1; cases e2; exact ⟨h1, c, h2, q⟩
  · rintro ⟨h1, c, h2, q⟩
    exact .inr (.inr ⟨z, i, c, rfl, rfl, h1, h2, q⟩)
theorem rIx_lst {K : PySem.W.Frag} {a : Addr} {xs : List V} {i : Int} {v : V} {H : Hp} {Q : VK} (h : SqL K H a xs) (e : atI xs i = some v) (q : Q v H) : rIx K (.ref a) (.int i) H Q := .inl ⟨a, xs, i, v, rfl, rfl, h, e, q⟩
theorem rI_int {C : Int → Int → Prop} {g : Int → Int → V} {i j : Int} {H : Hp} {Q : VK} : rI C g (.int i) (.int j) H Q ↔ (C i j ∧ Q (g i j) H) := by
  constructor
  · rintro ⟨a, b, e1, e2, q⟩; cases e1; cases e2; exact q
  · exact fun q => ⟨i, j, rfl, rfl, q⟩
theorem exBl {k : Bool} {P : Bool → Prop} : (∃ c, V.bl k = V.bl c ∧ P c) ↔ P k := by
  constructor
  · rintro ⟨c, e, q⟩; cases e; exact q
  · exact fun q => ⟨k, rfl, q⟩
theorem exInt {k : Int} {P : Int → Prop} : (∃ c, V.int k = V.int c ∧ P c) ↔ P k := by
  constructor
  · rintro ⟨c, e, q⟩; cases e; exact q
  · exact fun q => ⟨k, rfl, q⟩
theorem exSlot {v : V} {P : V → Prop} : (∃ x, some (some v) = some (some x) ∧ P x) ↔ P v := by
  constructor
  · rintro ⟨c, e, q⟩; cases e; exact q
  · exact fun q => ⟨v, rfl, q⟩
end
theorem Same.upd {H : Hp} {a : Addr} {o : HO} (h : H a = none) : Same H (upd H a o) := fun b u e => by rw [upd_ne (ne_of_none e h)]; exact e
theorem Same.tup {K : PySem.W.Frag} {H H' : Hp} {a : Addr} {xs : List V} (e : Same H H') (h : SqT K H a xs) : SqT K H' a xs := by
  rcases h with (h | ⟨o, h⟩) | h
  · exact .inl (.inl (e _ _ h))
  · exact .inl (.inr ⟨o, e _ _ h⟩)
  · exact .inr h
theorem TyOf.same {K : PySem.W.Frag} {H H' : Hp} {x : V} {t : Value} (s : Same H H') (h : TyOf K H x t) : TyOf K H' x t := by
  cases h with
  | non => exact .non
  | bl b => exact .bl b
  | int i => exact .int i
  | str z => exact .str z
  | flt z => exact .flt z
  | lst e => exact .lst (s _ _ e)
  | frz e => exact .frz (s _ _ e)
  | tup e => exact .tup (s _ _ e)
  | dK e => exact .dK (s _ _ e)
  | dT e => exact .dT (s _ _ e)
  | ins e cl ha hn htk hm => exact .ins (s _ _ e) cl ha hn htk hm
section
variable {X : Cx} {st : Stmt} {rest : List Stmt} {t u : TS}
def tMid (t u : TS) : TS := fun D σ H => ∃ M : St → Hp → Prop, t { D with nx := M } σ H ∧ ∀ σ' H', M σ' H' → u D σ' H'
theorem pss_mid (h1 : PS X st t) (h2 : PSs X rest u) : PSs X (st :: rest) (tMid t u) := by
  intro pins s σ H D I h
  obtain ⟨M, q1, q2⟩ := h
  refine wpAny_execs_cons (thn (h1 pins s σ H { D with nx := M } I q1) fun f s1 q => ?_)
  cases f with
  | next =>
    obtain ⟨σ', H', I', q⟩ := q
    exact h2 pins s1 σ' H' D I' (q2 σ' H' q)
  | ret v => exact q
  | brk => exact q
  | cont => exact q
end
end L2
namespace L2
open PySem PySem.Spec PyProof.Rows
theorem exRef {k : Addr} {P : Addr → Prop} : (∃ c, V.ref k = V.ref c ∧ P c) ↔ P k := by
  constructor
  · rintro ⟨c, e, q⟩; cases e; exact q
  · exact fun q => ⟨k, rfl, q⟩
theorem rNe_int {i j : Int} {H : Hp} {Q : VK} : rNe (.int i) (.int j) H Q ↔ Q (.bl (!decide (i = j))) H := by
  unfold rNe
  have e : decide (V.int i = V.int j) = decide (i = j) := by
    by_cases h : i = j
    · subst h; simp
    · simp [h]
  rw [e]
  exact ⟨fun h => h.2, fun h => ⟨rfl, h⟩⟩
theorem atI_in {α : Type} {xs : List α} {i : Int} (h0 : 0 ≤ i) (h1 : i < xs.length) : ∃ v, atI xs i = some v ∧ v ∈ xs ∧ xs[i.toNat]? = some v := by
  have hk : i.toNat < xs.length := by omega
  refine ⟨xs[i.toNat], ?_, List.getElem_mem hk, List.getElem?_eq_getElem hk⟩
  unfold atI ixN
  rw [if_pos h0, if_pos h1]
  exact List.getElem?_eq_getElem hk
theorem mod_lt' {i j : Int} (h : 0 < j) : 0 ≤ i % j ∧ i % j < j := ⟨Int.emod_nonneg _ (by omega), Int.emod_lt_of_pos _ h⟩
theorem ite_ft {A B : Prop} : (if false = true then A else B) = B := if_neg Bool.false_ne_true
theorem ite_tf {A B : Prop} : (if true = false then A else B) = B := if_neg (by decide)
theorem newO {H : Hp} {p : Addr} (hp : H p = none) (o : HO) : ∃ H', upd H p o = H' ∧ Same H H' ∧ H' p = some o := ⟨_, rfl, Same.upd hp, upd_same⟩
def ForW (J : It) (g : TG) (tb : TS) (D : Ends) (σ : St) (H : Hp) : Prop := ∃ W : Nat → Nat → St → Hp → Prop, (∃ m, W 0 m σ H) ∧ ∀ i m σ H, W i m σ H →
  (J.stop i H ∧ D.nx σ H) ∨ (J.go i H ∧ ∃ N : St → Hp → Prop, (∀ σ' H', N σ' H' → ∃ m', m' < m ∧ W (i + 1) m' σ' H') ∧ ∀ x H', J.yld i H x H' → g x σ H' fun σ2 H2 => tb { D with nx := N, ct := N, bk := D.nx } σ2 H2)
theorem tFor_eq {wi : TI} {g : TG} {tb : TS} {D : Ends} {σ : St} {H : Hp} : tFor wi g tb D σ H = wi σ H fun J H1 => ForW J g tb D σ H1 := rfl
theorem tComp_eq {js : List (Option Nat)} {wi : TI} {g : TG} {tt : TT} {te : TE} {σ : St} {H : Hp} {Q : VK} : tComp js wi g tt te σ H Q = wi σ H fun J H1 => CompW J js g tt te σ H1 Q := rfl
theorem comp_1 {J : It} {n : Nat} {f : Nat → V} {Ok : Hp → Prop} {js : List (Option Nat)} {te : TE} {σ : St} {H : Hp} {Q : VK} (S : Src J n f Ok) (hn : n ≤ sizeLine) (σr : St) (hσ : pickS js σ = none :: σr) (Pr : Nat → V → Prop)
    (hOk : ∀ H', Same H H' → Ok H') (hs : ∀ i H' (R : V → Hp → Prop), i < n → Same H H' → (∀ v H'', Same H' H'' → Pr i v → R v H'') → te (some (f i) :: σr) H' R)
    (hd : ∀ D H' ys, H D = none → Same H H' → H' D = some (.lst ys) → ys.length = n → (∀ i v, ys[i]? = some v → Pr i v) → Q (.ref D) H') : CompW J js (gName 0) tYes te σ H Q := by
  refine comp_by S hn (fun D i σ' H' ys => (∃ a, σ' = a :: σr) ∧ Same H H' ∧ H' D = some (.lst ys) ∧ ys.length = i ∧ ∀ j v, ys[j]? = some v → Pr j v) ?_ ?_ ?_ ?_
  · intro D hD
    exact ⟨⟨none, hσ⟩, Same.upd hD, upd_same, rfl, fun j v e => by simp at e⟩
  · rintro D i σ' H' ys hD hi ⟨_, s, h, hl, _⟩
    exact ⟨hOk _ s, h, Nat.le_of_eq hl⟩
  · rintro D i σ' H' ys R hD hi ⟨⟨a, rfl⟩, s, h, hl, hp⟩ hR
    show te (some (f i) :: σr) H' _
    refine hs i H' _ hi s fun v H'' s2 pv => ⟨s2 _ _ h, hR _ _ _ ⟨⟨_, rfl⟩, ?_, upd_same, by simp [hl], fun j v' e => ?_⟩⟩
    · intro b o e
      rw [upd_ne (ne_of_none e hD)]
      exact s2 b o (s b o e)
    · rw [List.getElem?_append] at e
      split at e
      · exact hp j v' e
      · rename_i hj
        have e1 : j = ys.length := by
          have := (List.getElem?_eq_some_iff.mp e).1
          simp at this; omega
        subst e1
        simp at e
        subst e
        rw [hl]; exact pv
  · rintro D σ' H' ys hD ⟨_, s, h, hl, hp⟩
    exact hd D H' ys hD s h hl hp
section
variable {K : PySem.W.Frag} {H : Hp} {Q : VK}
def NotStr (K : PySem.W.Frag) (H : Hp) (x : V) : Prop := ∃ t, TyOf K H x t ∧ PySem.W.kitOne K t (.type "str") = some false
theorem NotStr.same {H' : Hp} {x : V} (s : Same H H') (h : NotStr K H x) : NotStr K H' x := let ⟨t, a, b⟩ := h; ⟨t, a.same s, b⟩
end
end L2
namespace L2
open PySem PySem.Spec PyProof.Rows
theorem kit_list_list {K : PySem.W.Frag} : PySem.W.kitOne K (.type "list") (.type "list") = some true := by kernel_rfl
section
variable {K : PySem.W.Frag} {H : Hp} {Q : VK}
def rListOf (K : PySem.W.Frag) : List V → Hp → VK → Prop := fun xs H Q => ∃ p ys, xs = [.ref p] ∧ (SqL K H p ys ∨ SqT K H p ys) ∧ ∀ l, H l = none → Q (.ref l) (upd H l (.lst ys))
end
mutual
inductive Den (K : PySem.W.Frag) (H : Hp) : V → PyData → Prop
  | non : Den K H .non .none
  | bl (b : Bool) : Den K H (.bl b) (.bool b)
  | int (i : Int) : Den K H (.int i) (.int i)
  | str (x : Str) : Den K H (.str x) (.str x)
  | lst {a : Addr} {xs : List V} {ds : List PyData} : SqL K H a xs → DenAll K H xs ds → Den K H (.ref a) (.list ds)
  | tup {a : Addr} {xs : List V} {ds : List PyData} : SqT K H a xs → DenAll K H xs ds → Den K H (.ref a) (.tuple ds)
inductive DenAll (K : PySem.W.Frag) (H : Hp) : List V → List PyData → Prop
  | nil : DenAll K H [] []
  | cons {x : V} {xs : List V} {d : PyData} {ds : List PyData} : Den K H x d → DenAll K H xs ds → DenAll K H (x :: xs) (d :: ds)
end
theorem denStrs {K : PySem.W.Frag} {H : Hp} : ∀ ys : List Str, DenAll K H (ys.map V.str) (ys.map PyData.str)
  | [] => .nil
  | y :: ys => .cons (.str y) (denStrs ys)
theorem denBls {K : PySem.W.Frag} {H : Hp} : ∀ ys : List Bool, DenAll K H (ys.map V.bl) (ys.map PyData.bool)
  | [] => .nil
  | y :: ys => .cons (.bl y) (denBls ys)
def rEqD (K : PySem.W.Frag) : R2 := fun x y H Q => ∃ d e, Den K H x d ∧ Den K H y e ∧ SeqAt.shaped d = true ∧ SeqAt.shaped e = true ∧ Q (.bl (PyData.eqv d e)) H
def rNeD (K : PySem.W.Frag) : R2 := fun x y H Q => ∃ d e, Den K H x d ∧ Den K H y e ∧ SeqAt.shaped d = true ∧ SeqAt.shaped e = true ∧ Q (.bl (!PyData.eqv d e)) H
def rEqH (K : PySem.W.Frag) : R2 := fun x y H Q => rEq x y H Q ∨ rEqD K x y H Q
def rNeH (K : PySem.W.Frag) : R2 := fun x y H Q => rNe x y H Q ∨ rNeD K x y H Q
section
variable {K : PySem.W.Frag} {H : Hp} {Q : VK}
theorem rEqH_int {i j : Int} : rEqH K (.int i) (.int j) H Q ↔ Q (.bl (decide (i = j))) H := by
  constructor
  · rintro (h | ⟨d, e, h1, h2, _, _, q⟩)
    · exact rEq_int.mp h
    · cases h1; cases h2
      rw [show decide (i = j) = PyData.eqv (.int i) (.int j) from by simp only [PyData.eqv]; by_cases z : i = j <;> simp [z]]; exact q
  · exact fun q => .inl (rEq_int.mpr q)
theorem rNeH_int {i j : Int} : rNeH K (.int i) (.int j) H Q ↔ Q (.bl (!decide (i = j))) H := by
  constructor
  · rintro (h | ⟨d, e, h1, h2, _, _, q⟩)
    · exact rNe_int.mp h
    · cases h1; cases h2
      rw [show decide (i = j) = PyData.eqv (.int i) (.int j) from by simp only [PyData.eqv]; by_cases z : i = j <;> simp [z]]; exact q
  · exact fun q => .inl (rNe_int.mpr q)
mutual
theorem eqv_self : ∀ d : PyData, SeqAt.shaped d = true → PyData.eqv d d = true
  | .none, _ => rfl
  | .bool b, _ => by simp [PyData.eqv]
  | .int i, _ => by simp [PyData.eqv]
  | .str x, _ => by simp [PyData.eqv]
  | .list xs, h => by
    simp only [PyData.eqv]
    exact eqvAll_self xs (by unfold SeqAt.shaped at h; simpa [PyData.canLay0] using (Bool.and_eq_true_iff.mp h).1)
  | .tuple xs, h => by
    simp only [PyData.eqv]
    exact eqvAll_self xs (by unfold SeqAt.shaped at h; simpa [PyData.canLay0] using (Bool.and_eq_true_iff.mp h).1)
  | .dict _, h => by unfold SeqAt.shaped at h; simp [PyData.canLay0] at h
theorem eqvAll_self : ∀ ds : List PyData, PyData.canLayAll0 ds = true → PyData.eqvAll ds ds = true
  | [], _ => rfl
  | d :: ds, h => by
    simp only [PyData.canLayAll0, Bool.and_eq_true] at h
    simp only [PyData.eqvAll, Bool.and_eq_true]
    exact ⟨eqv_self' d h.1, eqvAll_self ds h.2⟩
theorem eqv_self' : ∀ d : PyData, PyData.canLay0 d = true → PyData.eqv d d = true
  | .none, _ => rfl
  | .bool b, _ => by simp [PyData.eqv]
  | .int i, _ => by simp [PyData.eqv]
  | .str x, _ => by simp [PyData.eqv]
  | .list xs, h => by
    simp only [PyData.eqv]
    exact eqvAll_self xs (by simpa [PyData.canLay0] using h)
  | .tuple xs, h => by
    simp only [PyData.eqv]
    exact eqvAll_self xs (by simpa [PyData.canLay0] using h)
  | .dict _, h => by simp [PyData.canLay0] at h
end
theorem rNeD_same {x y : V} {d : PyData} (h1 : Den K H x d) (h2 : Den K H y d) (hs : SeqAt.shaped d = true) (q : Q (.bl false) H) : rNeH K x y H Q := .inr ⟨d, d, h1, h2, hs, hs, by rw [eqv_self d hs]; exact q⟩
theorem rIsi_lst {a : Addr} {xs : List V} (h : H a = some (.lst xs)) (q : Q (.bl true) H) : rIsi K [.ref a, .ty "list"] H Q := ⟨_, _, _, _, _, rfl, rfl, .lst h, kit_list_list, q⟩
end
section
variable {X : Cx}
theorem call_listOf : CallR X (.type "list") (rListOf X.K) := call_list_of
mutual
theorem Den.reads {pins : List (Addr × Obj)} {σ : St} {H : Hp} {s : Shared} (I : Inv X pins σ H s) : ∀ {x : V} {d : PyData} {u : Value}, Den X.K H x d → RelV x u → ∃ as, Reads s.heap u d as
  | _, _, _, .non, r => by cases r; exact ⟨_, .none⟩
  | _, _, _, .bl b, r => by cases r; exact ⟨_, .bool b⟩
  | _, _, _, .int i, r => by obtain ⟨t, rfl⟩ := r; exact ⟨_, .int i t⟩
  | _, _, _, .str x, r => by obtain ⟨t, rfl⟩ := r; exact ⟨_, .str x t⟩
  | _, _, _, .lst h hs, r => by
    cases r
    obtain ⟨its, rv, pl, _⟩ := I.list h
    obtain ⟨o, ho, hc, n, hd⟩ := pl.isList
    obtain ⟨as, ra⟩ := DenAll.reads I hs rv
    exact ⟨_, .list ho hc hd (by simpa using ra)⟩
  | _, _, _, .tup h hs, r => by
    cases r
    obtain ⟨its, rv, pl, _⟩ := I.tuple h
    obtain ⟨o, ho, hc, n, hd⟩ := pl
    obtain ⟨as, ra⟩ := DenAll.reads I hs rv
    exact ⟨_, .tuple ho hc hd (by simpa using ra)⟩
theorem DenAll.reads {pins : List (Addr × Obj)} {σ : St} {H : Hp} {s : Shared} (I : Inv X pins σ H s) : ∀ {xs : List V} {ds : List PyData} {us : List Value}, DenAll X.K H xs ds → Vals xs us → ∃ as, ReadsAll s.heap us ds as
  | _, _, _, .nil, r => by cases r; exact ⟨_, .nil⟩
  | _, _, _, .cons h hs, r => by
    cases r with
    | cons r1 r2 =>
      obtain ⟨as, ra⟩ := Den.reads I h r1
      obtain ⟨bs, rb⟩ := DenAll.reads I hs r2
      exact ⟨_, .cons ra rb⟩
end
theorem op_eqD (hu : X.A.units + 64 < cLine) : OpR X (compareOp .Eq) (rEqD X.K) := by
  intro pins s σ H x y v u Q I rx ry h
  obtain ⟨d, e, h1, h2, s1, s2, q⟩ := h
  obtain ⟨as, ra⟩ := h1.reads I rx
  obtain ⟨bs, rb⟩ := h2.reads I ry
  exact eq_dataH ra rb s1 s2 hu ⟨.bl _, H, I, rfl, q⟩
theorem op_neD (hu : X.A.units + 64 < cLine) : OpR X (compareOp .NotEq) (rNeD X.K) := by
  intro pins s σ H x y v u Q I rx ry h
  obtain ⟨d, e, h1, h2, s1, s2, q⟩ := h
  obtain ⟨as, ra⟩ := h1.reads I rx
  obtain ⟨bs, rb⟩ := h2.reads I ry
  exact ne_dataH ra rb s1 s2 hu ⟨.bl _, H, I, rfl, q⟩
theorem op_eqH (hu : X.A.units + 64 < cLine) : OpR X (compareOp .Eq) (rEqH X.K) := op_eq.or (op_eqD hu)
theorem op_neH (hu : X.A.units + 64 < cLine) : OpR X (compareOp .NotEq) (rNeH X.K) := op_ne.or (op_neD hu)
variable {K : PySem.W.Frag}
theorem op_eqK (hu : X.A.units + 64 < cLine) (h : X.K = K) : OpR X (compareOp .Eq) (rEqH K) := h ▸ op_eqH hu
end
end L2
namespace L2
open PySem PySem.Spec PyProof.Rows PySem.W
end L2
namespace L2
open PySem PySem.Spec PyProof.Rows
section
variable {X : Cx}
def rLtS : R2 := fun x y H Q => ∃ i j, x = .str i ∧ y = .str j ∧ Q (.bl (decide (i.cps.toList < j.cps.toList))) H
def rLtA : R2 := fun x y H Q => rI0 (fun i j => .bl (decide (i < j))) x y H Q ∨ rLtS x y H Q
theorem op_ltA : OpR X (compareOp .Lt) rLtA := op_lt.or op_lt_str
theorem rLtA_int {i j : Int} {H : Hp} {Q : VK} : rLtA (.int i) (.int j) H Q ↔ Q (.bl (decide (i < j))) H := by
  constructor
  · rintro (⟨a, b, e1, e2, q⟩ | ⟨a, b, e1, _⟩)
    · cases e1; cases e2; exact q
    · cases e1
  · exact fun q => .inl ⟨i, j, rfl, rfl, q⟩
end
end L2
namespace L2
open PySem PySem.Spec PyProof.Rows
end L2
namespace L2
open PySem PySem.Spec PyProof.Rows PySem.W
def Ite (K : PySem.W.Frag) (a : Addr) : It :=
  ⟨fun i H => ∃ xs x, SqL K H a xs ∧ xs[i]? = some x, fun i H x H' => ∃ p v, H p = none ∧ (∀ xs, SqL K H a xs → xs[i]? = some v) ∧ x = .ref p ∧ H' = upd H p (.tup [.int i, v]), fun i H => ∃ xs, SqL K H a xs ∧ xs.length ≤ i⟩
def iEnum (K : PySem.W.Frag) (ta : TA) : TI := fun σ H R => ta σ H fun vs H1 => ∃ a, vs = [.ref a] ∧ (∃ xs, SqL K H1 a xs) ∧ R (Ite K a) H1
section
variable {X : Cx} {pins : List (Addr × Obj)} {σ : St} {H : Hp} {s : Shared} {h' : Heap} {tg : Expr}
theorem Inv.turned2 {t' : Nat} {e it : Addr} (I : Inv X pins σ H s) (k : ∀ b o, b ≠ e → b ≠ it → s.heap.get? b = some o → h'.get? b = some o) (f1 : FpOk X pins H e) (f2 : FpOk X pins H it) : Inv X pins σ H { s with heap := h', toks := t' } := by
  obtain ⟨a0, a1, a2, a3, a4, a5⟩ := f1
  obtain ⟨b0, b1, b2, b3, b4, b5⟩ := f2
  have ne : ∀ b u, H b = some u → b ≠ e := fun b u q z => by rw [z, a0] at q; cases q
  have nit : ∀ b u, H b = some u → b ≠ it := fun b u q z => by rw [z, b0] at q; cases q
  refine I.step (g' := s.gens) (d' := s.drawn) (ch := [e, it]) (fun b hb => ?_) (fun b o _ _ hc q _ => k b o (fun z => hc (by simp [z])) (fun z => hc (by simp [z])) q) (fun b o _ _ hc q _ => ⟨o.slots, k b o (fun z => hc (by simp [z])) (fun z => hc (by simp [z])) q⟩) (fun _ _ _ _ n => n)
    (fun b o hc q => ⟨o, k b o (fun z => hc (by simp [z])) (fun z => hc (by simp [z])) q⟩) (fun _ _ q => q) (fun _ _ _ q => q) (fun b ps q => ⟨#[], by rw [q]; simp⟩) (fun m hm => ?_) (fun b u q => ?_) I.bare
  · rcases List.mem_cons.mp hb with z | z
    · subst z; exact ⟨a3, a1, a4, a5⟩
    · rw [List.mem_singleton.mp z]; exact ⟨b3, b1, b4, b5⟩
  · obtain ⟨o, es, ep, ho, r⟩ := hm
    exact ⟨o, es, ep, k _ o (Ne.symm a1) (Ne.symm b1) ho, r⟩
  · refine (I.hok b u q).stay (fun c v hc z => k c v ?_ ?_ z) (fun _ z => z) fun _ _ z => z
    · rcases hc with z | z
      · rw [z]; exact ne b u q
      · exact ne c _ z
    · rcases hc with z | z
      · rw [z]; exact nit b u q
      · exact nit c _ z
theorem turn_enum {P : Program} {w : World} {K : PySem.W.Frag} {elts : List Expr} {x1 : Nat} {pos : Pos} (a e it : Addr) (hei : e ≠ it) : Turn P w K (.Tuple elts x1 pos) (Ite K a) [e, it] e (fun i h => (∃ old, IsEnum h e it i old) ∧ h.IsListIter it a i) where
  mem := by simp
  obj := fun i h st b hb => by
    obtain ⟨⟨old, he⟩, o, e1, c, d⟩ := st
    rcases List.mem_cons.mp hb with z | z
    · subst z; exact ⟨_, he, fun v z => by cases z⟩
    · rw [List.mem_singleton.mp z]; exact ⟨o, e1, fun v z => by rw [d] at z; cases z⟩
  keep := fun i h h' st k => by
    obtain ⟨⟨old, he⟩, hit⟩ := st
    exact ⟨⟨old, k e (by simp) _ he⟩, hit.at fun o q => k it (by simp) o q⟩
  item := by
    intro X hP hw hK hc i pins s σ H E I hf st hg
    subst hP hw hK
    obtain ⟨⟨old, he⟩, hit⟩ := st
    obtain ⟨xs, x, hq, hx⟩ := hg
    obtain ⟨its, rv, p, hz⟩ := I.list hq
    obtain ⟨u, hu, ru⟩ := rv.get hx
    refine wpAny_pyNext_enum_item he hit p.isList (x := u) (by simpa using hu) hei fun h' ho hit' hT hsz hk => ?_
    refine ⟨_, rfl, ?_⟩
    refine wpAny_letOwnedTupleGo_enum ho fun h2 he2 hs2 => ?_
    have hfr : H s.heap.objs.size = none := I.hok.fresh (Nat.le_refl _)
    have helt : e < s.heap.objs.size := Heap.lt_size he
    have hilt : it < s.heap.objs.size := by obtain ⟨_, z, _⟩ := hit; exact Heap.lt_size z
    have hL := Heap.get?_push_size s.heap (o := { cls := .type "tuple", data := .seq #[.int i s.toks, u] }) rfl
    have I1 : Inv X pins σ (upd H s.heap.objs.size (.tup [.int i, x])) { s with heap := s.heap.push { cls := .type "tuple", data := .seq #[.int i s.toks, u] }, toks := s.toks + 1 } :=
      I.laid (t' := s.toks + 1) (fun b o q => Heap.get?_push_of_some _ q) (Nat.le_refl _) ⟨by simp only [List.length_cons, List.length_nil]; decide, [.int i s.toks, u], .cons ⟨_, rfl⟩ (.cons ru .nil), ⟨_, hL, rfl, _, rfl⟩⟩
    have up : ∀ b, b < s.heap.objs.size → upd H s.heap.objs.size (.tup [.int i, x]) b = H b := fun b hb => upd_ne (Nat.ne_of_lt hb)
    have fp : ∀ b, b < s.heap.objs.size → FpOk X pins H b → FpOk X pins (upd H s.heap.objs.size (.tup [.int i, x])) b := fun b hb ⟨c0, c1, c2, c3, c4, c5⟩ => ⟨by rw [up b hb]; exact c0, c1, c2, c3, c4, c5⟩
    have I2 : Inv X pins σ (upd H s.heap.objs.size (.tup [.int i, x])) { s with heap := h2, toks := s.toks + 1 } := by
      refine I1.turned2 (h' := h2) (t' := s.toks + 1) (fun b o h1 h3 q => ?_) (fp e helt (hf e (by simp))) (fp it hilt (hf it (by simp)))
      rw [hs2.2 b h1]
      by_cases z : b = s.heap.objs.size
      · subst z
        have q' : (s.heap.push { cls := .type "tuple", data := .seq #[.int i s.toks, u] }).get? s.heap.objs.size = some o := q
        rw [hL] at q'; rw [← q']; exact hT
      · have q' : s.heap.get? b = some o := by
          have q2 : (s.heap.push { cls := .type "tuple", data := .seq #[.int i s.toks, u] }).get? b = some o := q
          rw [Heap.get?_push_ne _ _ _ z] at q2; exact q2
        exact hk b o h1 h3 q'
    exact ⟨.ref s.heap.objs.size, _, I2, rfl, ⟨s.heap.objs.size, x, hfr, fun ys hy => by rw [I.list_inj hy hq]; exact hx, rfl, rfl⟩, ⟨⟨_, by simpa using he2⟩, hit'.at fun o y => (hs2.2 it hei.symm).trans y⟩, fun b hb => by
      have hb' : b < s.heap.objs.size := by
        rcases List.mem_cons.mp hb with z | z
        · rw [z]; exact helt
        · rw [List.mem_singleton.mp z]; exact hilt
      rw [up b hb']; exact (hf b hb).1⟩
  done := by
    intro X hP hw hK hc i pins s σ H E I hf st hg
    subst hP hw hK
    obtain ⟨⟨old, he⟩, hit⟩ := st
    obtain ⟨xs, hq, hx⟩ := hg
    obtain ⟨its, rv, p, hz⟩ := I.list hq
    have hl := rv.length
    exact wpAny_pyNext_enum_end (I.ok.hd hc) he hit p.isList (by simp; omega) fun h' hk => ⟨rfl, I.turned2 (t' := s.toks) (fun b o h1 h3 q => hk b o h3 q) (hf e (by simp)) (hf it (by simp))⟩
  self := fun _ _ _ _ _ st h => by
    obtain ⟨⟨old, he⟩, _⟩ := st
    exact wpAny_pyIter_enum he h
theorem boot_enumerateT : bootBuiltins "enumerate" = some (.type "enumerate") := by decide +kernel
theorem pi_enum {a : Expr} {ta : TA} {p pos : Pos} {elts : List Expr} {x1 : Nat} {tpos : Pos} (hg : Gl X "enumerate") (hm : X.mg "enumerate" = none) (ha : PA X [a] ta) (hs : starEach [a] X.env = [(false, eval a X.env)] := by rfl) : PI X (.Tuple elts x1 tpos) (.Call (.Name "enumerate" p) [a] [] pos) (iEnum X.K ta) := by
  intro pins s σ H R I h
  refine Call_ (ld_blt I hg hm boot_enumerateT (PyProof.Rows.callWith_type1 (thn (ha pos pins s σ H _ I h) fun us s1 ⟨vs, H1, I1, r1, q1⟩ => ?_) hs rfl))
  obtain ⟨l, e, ⟨xs, hq⟩, q⟩ := q1
  subst e
  cases r1 with
  | cons r rr =>
    cases rr
    cases r
    obtain ⟨its, rv, pl, hz⟩ := I1.list hq
    refine call_enumerate_list pl.isList fun h' he hit hsz hk => ?_
    refine wpAny_pyIter_enum he ?_
    have I2 := I1.kept (t' := s1.toks) hk
    refine ⟨s1.heap.objs.size + 1, [s1.heap.objs.size + 1, s1.heap.objs.size], _, _, H1, rfl, I2, turn_enum l _ _ (Nat.succ_ne_self _), ⟨⟨_, he⟩, hit⟩, fun b hb => ?_, q⟩
    have hb' : s1.heap.objs.size ≤ b := by
      rcases List.mem_cons.mp hb with z | z
      · rw [z]; exact Nat.le_succ _
      · rw [List.mem_singleton.mp z]; exact Nat.le_refl _
    exact I1.fpOk hb' (I1.hok.fresh hb')
end
end L2
namespace L2
open PySem PySem.Spec PyProof.Rows PySem.W
structure FunD (K : PySem.W.Frag) (x qual : Str) (st : Stmt) (f : Addr) (fd : FuncData) (T : Addr) (ds : List Value) : Prop where
  ex : ∃ (oc : Value) (od : Option Addr) (kV doc pm : Value) (an : Option Addr) (cdv ct : Value) (osl : Array (Option Value)) (oT : Obj) (nT : Nat),
    fd = PySem.W.fnOf x qual (defArgs st) (defBody st) (defScope st) (.ref T) kV doc pm an cdv ct ∧ K.lookup f = some ⟨oc, od, .func fd, osl⟩ ∧ PySem.W.codeIn K cdv qual = true ∧ K.lookup T = some oT ∧ oT.data = .seq ds.toArray nT
  kp : PySem.W.keepIn K (.ref f) = true
section
variable {P : Program} {w : World} {K : PySem.W.Frag} {mg : Str → Option Value} {base : Heap}
theorem FunD.ok {x qual : Str} {st : Stmt} {f : Addr} {fd : FuncData} {T : Addr} {ds : List Value} {N ps : List Str} {k : Nat} {sp : Sp} (F : FunD K x qual st f fd T ds) (S : FnScope N ps (defScope st)) (len : ∀ vs H Q E, sp vs H Q E → vs.length = ps.length)
    (hbody : ∀ (cdv : Value) (A : Around) (outer : List Env) (s : Shared) (H : Hp) (vs : List V) (Q : VK) (E : XK), Room k (A.deeper (envOfC qual (defScope st) s.heap.objs.size f cdv)) → sp vs H Q E →
      ∃ t, PSs (cxOf CX0 P w K mg base N qual (defScope st) f cdv A outer s H E).nox (defBody st) t ∧ t { nx := fun _ H' => Q .non H', rt := Q } (start N vs) H) : FnOk P w K mg base CX0 (k + 1) f fd ps sp := by
  obtain ⟨oc, od, kV, doc, pm, an, cdv, ct, osl, oT, nT, rfl, lk, hcd, _⟩ := F.ex
  refine fn_of lk hcd S len fun A outer s H vs Q E hr hsp => ?_
  obtain ⟨t, h, q⟩ := hbody cdv A outer s H vs Q E hr hsp
  exact ⟨t, h.nox, q⟩
theorem FunD.binds {x qual : Str} {st : Stmt} {f : Addr} {fd : FuncData} {T : Addr} {ds : List Value} {ps : List Str} (es : List Value) (F : FunD K x qual st f fd T ds)
    (h : ∀ (kV doc pm : Value) (an : Option Addr) (cdv ct : Value) (us : List Value), (us ++ es).length = ps.length → ∃ k, bindArgs (PySem.W.fnOf x qual (defArgs st) (defBody st) (defScope st) (.ref T) kV doc pm an cdv ct) ⟨us, []⟩ = seqItems? (.ref T) >>= k ∧ k (some ds.toArray) = pure (ps.zip (us ++ es))) : Binds K fd ps es := by
  obtain ⟨oc, od, kV, doc, pm, an, cdv, ct, osl, oT, nT, rfl, lk, hcd, lT, hT⟩ := F.ex
  intro s us X hl
  obtain ⟨k, h1, h2⟩ := h kV doc pm an cdv ct us hl
  exact PySem.W.binds_K X rfl lT hT h1 h2
end
end L2
namespace L2
open PySem PySem.Spec PyProof.Rows PySem.W
end L2
namespace L2
open PySem PySem.Spec PyProof.Rows PySem.W
section
variable {α β : Type}
def TOk (n : Nat) (P : α → Prop) : KasT α → Prop
  | .ret a => P a
  | .ask i j k => i < n ∧ j < n ∧ ∀ b, TOk n P (k b)
def kRun (lt : Nat → Nat → Bool) : KasT α → α
  | .ret a => a
  | .ask i j k => kRun lt (k (lt i j))
theorem TOk.run {n : Nat} {P : α → Prop} {lt : Nat → Nat → Bool} : ∀ {t : KasT α}, TOk n P t → P (kRun lt t)
  | .ret _, h => h
  | .ask i j k, h => show P (kRun lt (k (lt i j))) from TOk.run (h.2.2 (lt i j))
theorem TOk.bind {n : Nat} {P : α → Prop} {R : β → Prop} {f : α → KasT β} (hf : ∀ a, P a → TOk n R (f a)) : ∀ {t : KasT α}, TOk n P t → TOk n R (t.bind f)
  | .ret _, h => hf _ h
  | .ask i j k, h => ⟨h.1, h.2.1, fun b => TOk.bind hf (h.2.2 b)⟩
end
def PermN (n : Nat) (p : Array Nat) : Prop := p.Perm (List.toArray (List.range n))
theorem PermN.list {n : Nat} {p : Array Nat} (h : PermN n p) : p.toList.Perm (List.range n) := Array.perm_iff_toList_perm.mp h
theorem PermN.lt {n : Nat} {p : Array Nat} (h : PermN n p) (hn : 0 < n) (i : Nat) : p.getD i 0 < n := by
  by_cases hi : i < p.size
  · have h1 : p[i] ∈ List.range n := h.list.mem_iff.mp (by simp)
    have e : p.getD i 0 = p[i] := by simp [Array.getD, hi]
    rw [e]; exact List.mem_range.mp h1
  · have e : p.getD i 0 = 0 := by simp [Array.getD, hi]
    rw [e]; exact hn
end L2
namespace L2
open PySem PySem.Spec PyProof.Rows PySem.W
end L2
namespace L2
open PySem PySem.Spec PyProof.Rows PySem.W
end L2
namespace L2
open PySem PySem.Spec PySem.W PyProof.Rows
theorem PermN.size {n : Nat} {p : Array Nat} (h : PermN n p) : p.size = n := by
  have := Array.Perm.size_eq h; simpa using this
theorem PermN.inj {n : Nat} {p : Array Nat} (h : PermN n p) {i j : Nat} (hi : i < n) (hj : j < n) (e : i ≠ j) : p.getD i 0 ≠ p.getD j 0 := by
  have nd : p.toList.Nodup := (h.list.nodup_iff).mpr List.nodup_range
  have hs := h.size
  rw [List.nodup_iff_pairwise_ne, List.pairwise_iff_getElem] at nd
  have e1 : p.getD i 0 = p[i]'(by omega) := by simp [Array.getD, show i < p.size by omega]
  have e2 : p.getD j 0 = p[j]'(by omega) := by simp [Array.getD, show j < p.size by omega]
  rw [e1, e2]
  rcases Nat.lt_or_gt_of_ne e with q | q
  · exact nd i j (by simpa using (by omega : i < p.size)) (by simpa using (by omega : j < p.size)) q
  · exact Ne.symm (nd j i (by simpa using (by omega : j < p.size)) (by simpa using (by omega : i < p.size)) q)
def CodeAtH (H : Hp) (q : Str) (cv : Value) : Prop := ∃ c' o vs t, cv = .ref c' ∧ H c' = some (.frz o (.own c')) ∧ o.data = .fields vs ∧ vs[1]? = some (.str q t)
def LamT (T : Addr) (q : Str) (H : Hp) : Prop := ∃ ps, H T = some (.tbl ps) ∧ TriplesOk ps.toList ∧ ∀ pos cv, codeAmong pos ps.toList = some cv → CodeAtH H q cv
abbrev Ex (H H' : Hp) : Prop := ∀ a o, H a = some o → H' a = some o
theorem CodeAtH.mono {q : Str} {cv : Value} {H H' : Hp} (h : CodeAtH H q cv) (k : Ex H H') : CodeAtH H' q cv := let ⟨c', o, vs, t, a, b, r⟩ := h; ⟨c', o, vs, t, a, k _ _ b, r⟩
theorem LamT.mono {T : Addr} {q : Str} {H H' : Hp} (h : LamT T q H) (k : Ex H H') : LamT T q H' := let ⟨ps, a, b, c⟩ := h; ⟨ps, k _ _ a, b, fun pos cv e => (c pos cv e).mono k⟩
section
variable {X : Cx} {pins : List (Addr × Obj)} {σ : St} {H : Hp} {s : Shared}
structure Mine (X : Cx) (pins : List (Addr × Obj)) (a : Addr) : Prop where
  s0 : X.s₀.heap.objs.size ≤ a
  loc : a ≠ X.env.locals
  cell : ∀ x c, X.env.cells.lookup x = some c → c ≠ a
  pin : ∀ p ∈ X.pn ++ pins, p.1 ≠ a
  fs : a ∉ X.fs
theorem Inv.mine (I : Inv X pins σ H s) {a : Addr} (h : s.heap.objs.size ≤ a) : Mine X pins a :=
  ⟨Nat.le_trans I.sz h, Nat.ne_of_gt (Nat.lt_of_lt_of_le I.lt h), fun x c e z => by
    obtain ⟨v, q⟩ := I.cell x c e
    exact absurd (Nat.lt_of_lt_of_le q.lt h) (by rw [z]; exact Nat.lt_irrefl _), fun p hp z => by
    obtain ⟨e, _⟩ := I.pin p hp
    exact absurd (Nat.lt_of_lt_of_le (Heap.lt_size e) h) (by rw [z]; exact Nat.lt_irrefl _), I.nofs h⟩
theorem Inv.adopt {t' : Nat} {a : Addr} {o : HO} {h' : Heap} (I : Inv X pins σ H s) (hn : H a = none) (hm : Mine X pins a) (k : ∀ b u, b ≠ a → s.heap.get? b = some u → h'.get? b = some u)
    (new : ObjOk X.prog X.w (upd H a o) h' a o) : Inv X pins σ (upd H a o) { s with heap := h', toks := t' } := by
  have na : ∀ b u, H b = some u → b ≠ a := fun b u e z => by rw [z, hn] at e; cases e
  refine I.step (g' := s.gens) (d' := s.drawn) (ch := [a]) (fun b hb => ?_) (fun b o _ _ hc e _ => k b o (fun z => hc (by simp [z])) e) (fun b o _ _ hc e _ => ⟨o.slots, k b o (fun z => hc (by simp [z])) e⟩)
    (fun b _ hc _ n => by rw [upd_ne (fun z => hc (by simp [z]))]; exact n) (fun b o hc e => ⟨o, k b o (fun z => hc (by simp [z])) e⟩) (fun b _ e => by rw [upd_ne (na b _ e)]; exact e) (fun b _ _ e => by rw [upd_ne (na b _ e)]; exact e)
    (fun b ps e => ⟨#[], by rw [upd_ne (na b _ e), e]; simp⟩) (fun m hm' => ?_) (fun b u e => ?_) I.bare
  · have e : b = a := by simpa using hb
    subst e
    exact ⟨.inr hm.s0, hm.loc, hm.cell, hm.pin⟩
  · obtain ⟨ob, es, ep, ho, r⟩ := hm'
    exact ⟨ob, es, ep, k _ ob (Ne.symm hm.loc) ho, r⟩
  · by_cases hb : b = a
    · subst hb; rw [upd_same] at e; cases e; exact new
    · rw [upd_ne hb] at e
      refine (I.hok b u e).stay (fun c v hc q => k c v ?_ q) (fun c q => by rw [upd_ne (na c _ q)]; exact q) fun c xs q => by rw [upd_ne (na c _ q)]; exact q
      rcases hc with z | z
      · rw [z]; exact hb
      · exact na c _ z
end
end L2
namespace L2
open PySem PySem.Spec PySem.W PyProof.Rows
section
variable {prog : Program} {w : World} {A : Around} {E : Value → Shared → Prop} {s : Shared} {K : PySem.W.Frag} {x C : Addr} {ox : Obj} {od : Option Obj} {name : Str} {expr : Bool} {Q : Value → Shared → Prop}
theorem bga_bind (self : Value) : bindSpecial (.builtin "BaseException.__getattribute__") self = pure (.builtin "BaseException.__getattribute__", [self]) := by kernel_rfl
theorem bga_plain : plainId "BaseException.__getattribute__" = true := by decide +kernel
theorem bga_kind : builtinKind "BaseException.__getattribute__" = some .slot := by decide +kernel
theorem bga_split : splitId "BaseException.__getattribute__" = some ("BaseException", "__getattribute__") := by decide +kernel
theorem bga_ne : (Value.builtin "BaseException.__getattribute__" == Value.builtin "object.__getattribute__") = false := by decide +kernel
theorem xget_open {fill : Bool} {tk : Tok} {Q : Value → Shared → Prop} (X : K.In s.heap) (I : InstAt s.heap x ox C od) (hga : findIn K (.ref C) "__getattribute__" = some (some (.builtin "BaseException.__getattribute__"))) (hgt : findIn K (.ref C) "__getattr__" = some none) (hb : mroIn K C (.type "BaseException") = some true)
    (h : wpAny (model prog w) A.in1 (Builtin.«object.__getattribute__» ⟨[.ref x, .str name tk], []⟩) (fun fin s' => ∃ v, fin = .done (.ret v) ∧ wpAny (model prog w) A (handedOut v) Q E s') (fun _ _ => False) s) :
    wpAny (model prog w) A (getAttrBy (.ref x) (.str name tk) fill expr) Q E s := by
  obtain ⟨hp, g, d, t, os⟩ := s
  have L0 := I.type (M := model prog w)
  have L1 := looks_findIn (M := model prog w) X hga
  have L2 := looks_findIn (M := model prog w) X hgt
  have L3 : Looks (model prog w) hp (isInstance (.ref x) (.type "BaseException")) true := L0.andThen (looks_mroIn X hb)
  unfold getAttrBy
  refine wpAny_holding (wpAny_bind (L0.at (wpAny_bind (L1.at ?_))))
  show wpAny _ _ (if (onTheHeap (.ref C) && (Value.builtin "BaseException.__getattribute__" == Value.builtin "object.__getattribute__")) = true then _ else getAttrByItsOwn (.ref x) (.str name tk) (.ref C) (.builtin "BaseException.__getattribute__") fill expr) _ _ _
  rw [bga_ne, Bool.and_false, if_neg Bool.false_ne_true]
  unfold getAttrByItsOwn
  refine wpAny_bind (L2.at ?_)
  refine wpAny_bind (wpAny_attempt (wpAny_holding ?_))
  have e0 : callGetattribute (.ref x) (.str name tk) (.builtin "BaseException.__getattribute__") expr = boundAndCalled (.builtin "BaseException.__getattribute__") (.ref x) (.str name tk) := by
    unfold callGetattribute
    rw [show (expr && onTheHeap (.builtin "BaseException.__getattribute__")) = false from by cases expr <;> rfl, if_neg Bool.false_ne_true]
  rw [e0]
  unfold boundAndCalled
  rw [bga_bind]
  refine wpAny_bind (wpAny_pure ?_)
  show wpAny (model prog w) A (call (.builtin "BaseException.__getattribute__") [.ref x, .str name tk]) _ _ _
  refine wpAny_call ?_
  refine codeAny_call_builtin bga_plain PySem.F.entry_bexc_ga ?_
  refine check_slot (M := model prog w) (s := ⟨hp, g, d, t, os⟩) (i := "BaseException.__getattribute__") (owner := "BaseException") (n := "__getattribute__") (self := .ref x) (rest := [.str name tk]) (kw := []) bga_kind bga_split L3 (PySem.F.args_bexc_ga _ _) ?_
  refine wpAny_mono h (fun fin s' hv => ?_) fun _ _ z => z.elim
  obtain ⟨v, rfl, hv⟩ := hv
  exact hv
theorem xget_value {v : Value} (X : K.In s.heap) (I : InstAt s.heap x ox C od) (hga : findIn K (.ref C) "__getattribute__" = some (some (.builtin "BaseException.__getattribute__"))) (hgt : findIn K (.ref C) "__getattr__" = some none) (hb : mroIn K C (.type "BaseException") = some true)
    (hf : findObj K C od name = some (.value v)) (hh : handedIn v = true) (h : Q v { s with toks := s.toks + 1 }) : wpAny (model prog w) A (getAttr (.ref x) name expr) Q E s := by
  unfold getAttr
  refine wpAny_bind (wpAny_mkText (xget_open (s := { s with toks := s.toks + 1 }) X I hga hgt hb ?_))
  obtain ⟨hp, g, d, t, os⟩ := s
  have L0 := I.type (M := model prog w)
  have L3 := looks_find (M := model prog w) X I hf
  unfold Builtin.«object.__getattribute__»
  refine wpAny_bind (wpAny_pure (wpAny_bind (wpAny_pure (wpAny_bind (L0.at (wpAny_bind (L3.at ?_)))))))
  refine wpAny_pure ⟨v, rfl, ?_⟩
  rw [handedOut_of hh]; exact wpAny_pure h
end
end L2
namespace L2
open PySem PySem.Spec PySem.W PyProof.Rows PySem.Builtin PySem.Builtin.ObjectAttr
theorem co_V : classOwn (.type "ValueError") "__setattr__" = pure none := by kernel_rfl
theorem co_E : classOwn (.type "Exception") "__setattr__" = pure none := by kernel_rfl
theorem co_B : classOwn (.type "BaseException") "__setattr__" = pure none := by kernel_rfl
theorem rl_V (self : Value) (l : List Value) : refuseLoop self "__setattr__" (.type "ValueError" :: l) = refuseLoop self "__setattr__" l := by
  unfold refuseLoop
  simp only [List.forIn_cons]
  rw [co_V]
  rfl
theorem rl_E (self : Value) (l : List Value) : refuseLoop self "__setattr__" (.type "Exception" :: l) = refuseLoop self "__setattr__" l := by
  unfold refuseLoop
  simp only [List.forIn_cons]
  rw [co_E]
  rfl
theorem rl_B (self : Value) (l : List Value) : refuseLoop self "__setattr__" (.type "BaseException" :: l) = refuseLoop self "__setattr__" l := by
  unfold refuseLoop
  simp only [List.forIn_cons]
  rw [co_B]
  rfl
def exOnly : List Value → Bool
  | .ref _ :: r => exOnly r
  | [.type a, .type b, .type c, .type d] => a == "ValueError" && b == "Exception" && c == "BaseException" && d == "object"
  | _ => false
theorem refuse_ex (self : Value) : ∀ {l : List Value}, exOnly l = true → refuseLoop self "__setattr__" l = pure ()
  | .ref c :: r, e => by rw [refuseLoop_ref]; exact refuse_ex self (by cases r <;> first | exact e | cases e)
  | [.type a, .type b, .type c, .type d], e => by
    have e' : (a == "ValueError" && b == "Exception" && c == "BaseException" && d == "object") = true := e
    rw [Bool.and_eq_true, Bool.and_eq_true, Bool.and_eq_true] at e'
    obtain ⟨⟨⟨h1, h2⟩, h3⟩, h4⟩ := e'
    rw [beq_iff_eq.mp h1, beq_iff_eq.mp h2, beq_iff_eq.mp h3, beq_iff_eq.mp h4, rl_V, rl_E, rl_B]
    exact PySem.F.store_object.passes self
theorem ex_has : ∀ {l : List Value}, exOnly l = true → l.contains (.type "object") = true ∧ l.isEmpty = false
  | .ref c :: r, e => ⟨by rw [List.contains_cons, (ex_has (l := r) (by cases r <;> first | exact e | cases e)).1, Bool.or_true], rfl⟩
  | [.type a, .type b, .type c, .type d], e => by
    have e' : (a == "ValueError" && b == "Exception" && c == "BaseException" && d == "object") = true := e
    rw [Bool.and_eq_true] at e'
    refine ⟨?_, rfl⟩
    rw [beq_iff_eq.mp e'.2]; simp
def exOver (K : PySem.W.Frag) (C : Addr) : Bool := (clsIn K C).any fun cd => exOnly cd.mro
section
variable {prog : Program} {w : World} {A : Around} {E : Value → Shared → Prop} {s : Shared} {K : PySem.W.Frag} {x C : Addr} {R : Result → Shared → Prop}
theorem osa_openX {ox : Obj} {od : Option Obj} {name : Str} {tk : Tok} {v : Value} {r : Option Value} (X : K.In s.heap) (I : InstAt s.heap x ox C od) (hp : exOver K C = true) (ht : takerIn K C name = some r)
    (h : ∀ b, wpAny (model prog w) A.in1 (match r with | some a => setByDescriptor a (.ref x) v | none => storeInOwnDict (.ref x) (.ref C) (.str name tk) name v b)
      (fun fin s' => match fin with | .done f => R (.ok f) s' | .again c' => c'.quiet = true ∧ codeAny (model prog w) A c' R s') (fun e s' => R (.error e) s') s) :
    codeAny (model prog w) A (.call (.builtin "object.__setattr__") ⟨[.ref x, .str name tk, v], []⟩) R s := by
  have SF := PySem.F.store_object
  obtain ⟨cd, hc, ho⟩ := any_some hp
  have ne : cd.mro.isEmpty = false := (ex_has ho).2
  have sub : Looks (model prog w) s.heap (isInstance (.ref x) (.type "object")) true := I.type.andThen (looks_mroIn X (by unfold mroIn; rw [hc, Option.bind_some, if_neg (by rw [ne]; decide), (ex_has ho).1]))
  refine codeAny_call_builtin SF.slot.plain SF.entry (@check_slot (model prog w) _ _ s "object.__setattr__" "object" "__setattr__" (.ref x) [.str name tk, v] [] _ SF.kind SF.split sub (SF.args (.ref x) (.str name tk) v) ?_)
  obtain ⟨attr, ha, hr⟩ := Option.bind_eq_some_iff.mp ht
  have hm : Looks (model prog w) s.heap (mroOf (.ref C)) cd.mro := (looks_clsIn X hc).andThen .now
  have L3 : Looks (model prog w) s.heap (storeTaker? attr) r := by
    cases attr with
    | none => cases hr; exact .now
    | some a =>
      obtain ⟨b, hb, rfl⟩ := Option.map_eq_some_iff.mp hr
      refine (looks_takesIn X hb).andThen ?_
      cases b <;> exact .now
  rw [osa_eq, refuse_eq]
  refine wpAny_bind (wpAny_bind (I.type.here (wpAny_bind (hm.here ?_))))
  rw [refuse_ex _ ho]
  refine wpAny_pure (wpAny_bind (I.type.here (wpAny_bind ((looks_findIn X ha).here (wpAny_bind (L3.here ?_))))))
  exact h _
end
end L2
namespace L2
open PySem PySem.Spec PySem.W PyProof.Rows PySem.Builtin PySem.Builtin.ObjectAttr
section
variable {prog : Program} {w : World} {A : Around} {E : Value → Shared → Prop} {s : Shared} {K : PySem.W.Frag} {x C : Addr} {name : Str} {v : Value}
theorem xset_first {vs : Array Value} {sl : Array (Option Value)} {Q : Unit → Shared → Prop} (X : K.In s.heap) (hx : s.heap.get? x = some ⟨.ref C, none, .fields vs, sl⟩)
    (hs : PySem.W.findIn K (.ref C) "__setattr__" = some (some (.builtin "object.__setattr__"))) (hp : exOver K C = true) (ht : PySem.W.takerIn K C name = some none) (hh : PySem.W.hasDictIn K C = true)
    (h : ∀ h', h'.get? x = some ⟨.ref C, some s.heap.objs.size, .fields vs, sl⟩ → h'.Ns1 s.heap.objs.size (fun y => if y = name then some v else none) → (∀ b o, b ≠ x → s.heap.get? b = some o → h'.get? b = some o) → Q () { s with heap := h', toks := s.toks + 2 }) :
    wpAny (model prog w) A (setAttr (.ref x) name v) Q E s := by
  have J : InstAt s.heap x ⟨.ref C, none, .fields vs, sl⟩ C none := ⟨hx, rfl, rfl, True.intro⟩
  have hxs : x < s.heap.objs.size := Heap.lt_size hx
  refine PySem.W.set_plain X J hs (osa_openX (s := { s with toks := s.toks + 1 }) (r := none) X J hp ht fun b => ?_)
  obtain ⟨cd, hc, hd'⟩ := PySem.W.any_some hh
  refine wpAny_bind (wpAny_pure (wpAny_bind (wpAny_bind (wpAny_loadPart hx (wpAny_bind (PySem.W.Looks.here (s := { s with toks := s.toks + 1 }) (PySem.W.looks_clsIn X hc) ?_))))))
  rw [hd']
  show wpAny (model prog w) A.in1 (alloc { cls := .type "dict", data := .dict #[] } >>= fun d => update x (fun o => { o with dict := some d }) >>= fun _ => dictMade (.ref C) x d) _ _ _
  have hne : x ≠ s.heap.objs.size := Nat.ne_of_lt hxs
  have hx1 : (s.heap.push { cls := .type "dict", data := .dict #[] }).get? x = some ⟨.ref C, none, .fields vs, sl⟩ := Heap.get?_push_of_some _ hx
  have hx2 : ((s.heap.push { cls := .type "dict", data := .dict #[] }).update x (fun o => { o with dict := some s.heap.objs.size })).get? x = some ⟨.ref C, some s.heap.objs.size, .fields vs, sl⟩ := Heap.get?_update_self (fun o : Obj => { o with dict := some s.heap.objs.size }) hx1 rfl
  have e1 : ((s.heap.push { cls := .type "dict", data := .dict #[] }).update x (fun o => { o with dict := some s.heap.objs.size })).get? s.heap.objs.size = some { cls := .type "dict", data := .dict #[] } := by
    rw [Heap.get?_update_ne _ _ _ _ (Ne.symm hne)]; exact Heap.get?_push_size s.heap rfl
  have e3 : ((s.heap.push { cls := .type "dict", data := .dict #[] }).update x (fun o => { o with dict := some s.heap.objs.size })).Ns s.heap.objs.size (fun _ => none) := ⟨_, #[], _, e1, rfl, (fun e he => absurd he (by simp)), fun _ => rfl⟩
  refine wpAny_bind (wpAny_alloc (wpAny_bind (wpAny_update hx1 ?_)))
  refine wpAny_pure (a := some s.heap.objs.size) ?_
  show wpAny (model prog w) A.in1 (storeInDict s.heap.objs.size (.str name s.toks) name v) _ _ _
  refine wpAny_bind (wpAny_pure (wpAny_bind ?_))
  refine wpAny_nsSet1 (Heap.Ns1.of_empty e3) fun h' hn2 hs2 => ?_
  obtain ⟨oD, esD, epD, hoD, hdD, hcD⟩ := hn2.count (PySem.Within.cons (ns := []) name v fun y hy => absurd rfl hy)
  refine wpAny_bind (wpAny_lookBehind hoD (by rw [hdD]; exact pastItsLine_dict (Nat.le_trans hcD (by rw [List.length_cons]; exact Nat.succ_le_succ (Nat.zero_le _)))) ?_)
  refine wpAny_pure (h h' ((hs2.2 _ hne).trans hx2) hn2 fun b o hb e => ?_)
  rw [hs2.2 _ (Nat.ne_of_lt (Heap.lt_size e)), Heap.get?_update_ne _ _ _ _ hb]
  exact Heap.get?_push_of_some _ e
end
end L2
namespace L2
open PySem PySem.Spec PySem.W PySem.Calls PyProof.Rows PySem.Builtin PySem.Builtin.ObjectAttr
abbrev bmV : List Value := [.type "ValueError", .type "Exception", .type "BaseException", .type "object"]
def xcIn (K : PySem.W.Frag) (C : Addr) : Bool := match K.lookup C with
  | some ⟨.type "type", _, .cls cd, sl⟩ => (match cd.mro, sl.toList with
    | .ref C' :: bm, [_, _, _, _, some (.builtin n), _] => C' == C && n == "ValueError.__new__" && !cd.hasDel && !cd.abstract && tailIn K bmV bm && specialIn K (.ref C) "__call__" == some (some (.builtin "type.__call__")) && instIn K (.ref C) (.type "type") == some true
    | _, _ => false)
  | _ => false
structure XMakes (M : Model) (h : Heap) (C : Addr) : Prop where
  cls : ∃ (nm q : Str) (N : Addr) (bs bm : List Value) (hdct : Bool) (sn : List Str) (sub : List Value) (col : Option Bool) (dd : Option Addr) (k0 k1 k2 k3 k5 : Option Value), h.get? C = some (excClassObj nm q C N bs bm hdct sn sub false col dd k0 k1 k2 k3 k5 "ValueError.__new__") ∧ OwnTail h bmV bm
  call : Looks M h (specialOf (.ref C) "__call__") (some (.builtin "type.__call__"))
  typ : Looks M h (isInstance (.ref C) (.type "type")) true
theorem xmakes_of {K : PySem.W.Frag} {M : Model} {h : Heap} (X : K.In h) {C : Addr} (q : xcIn K C = true) : XMakes M h C := by
  unfold xcIn at q
  split at q
  · rename_i dd cd sl ho
    split at q
    · rename_i C' bm k0 k1 k2 k3 n k5 hm hs
      simp only [Bool.and_eq_true, beq_iff_eq, Bool.not_eq_true'] at q
      obtain ⟨⟨⟨⟨⟨⟨rfl, rfl⟩, hdel⟩, hab⟩, ht⟩, hcall⟩, hins⟩ := q
      obtain ⟨nm, bs, mro, ns, qn, hd, sn, sub, ab, col, del⟩ := cd
      dsimp only at hm hdel hab
      subst hm hdel hab
      have hsl : sl = #[k0, k1, k2, k3, some (.builtin "ValueError.__new__"), k5] := by
        obtain ⟨l⟩ := sl
        simp only at hs
        rw [hs]
      subst hsl
      exact ⟨⟨nm, qn, ns, bs, bm, hd, sn, sub, col, dd, k0, k1, k2, k3, k5, X _ _ ho, tail_of_in X ht⟩, looks_specialIn X hcall, looks_instIn X hins⟩
    · cases q
  · cases q
abbrev tupO (rest : List Value) : Obj := { cls := .type "tuple", data := .seq rest.toArray }
abbrev excO (C T : Addr) : Obj := { cls := .ref C, data := .fields #[.ref T, .none, .none, .none, .bool false, .none] }
section
variable {prog : Program} {w : World} {A : Around} {K : PySem.W.Frag} {C : Addr} {R : Result → Shared → Prop} {h : Heap} {g : Array GenState} {d : Drawn} {t : Nat} {os : OsState}
theorem make_exc {rest : List Value} {fI : Addr} (X : K.In h) (Y : XMakes (model prog w) h C) (hi : findIn K (.ref C) "__init__" = some (some (.ref fI))) (hf : typeIn K (.ref fI) = some (.type "function")) (hrest : rest.length ≤ sizeLine)
    (hq : codeAny (model prog w) (A.under (.builtin "type.__call__" ⟨.ref C :: rest, []⟩)) (.call (.ref fI) ⟨.ref (h.objs.size + 1) :: rest, []⟩) (InitBack (h.objs.size + 1) R) ⟨(h.push (tupO rest)).push (excO C h.objs.size), g, d, t, os⟩) :
    codeAny (model prog w) A (.call (.ref C) ⟨rest, []⟩) R ⟨h, g, d, t, os⟩ := by
  obtain ⟨⟨nm, qn, N, bs, bm, hdct, sn, sub, col, dd, k0, k1, k2, k3, k5, hC, T⟩, call, typ⟩ := Y
  have Fn := PySem.F.excBase_ValueError
  have hBn : bmV.contains (.type "ValueError") = true := by decide +kernel
  refine codeAny_of_tree ?_
  show wpAny _ _ (callAny (.ref C) _) _ _ _
  refine nd_load hC ?_
  show wpAny _ _ (callAny.viaDunder (.ref C) _) _ _ _
  unfold callAny.viaDunder
  refine wpAny_bind (call.at ?_)
  dsimp only
  rw [tc_bind]
  refine wpAny_bind (wpAny_pure (wpAny_bind (wpAny_pure ?_)))
  refine wpAny_pure (a := Fin.again (.call (.builtin "type.__call__") ⟨.ref C :: rest, []⟩)) (And.intro rfl ?_)
  refine codeAny_call_builtin_at (Code.quiet_builtin _ (by decide +kernel)) entry_typeCall (check_slot tc_kind tc_split typ (tc_args _ _ _) ?_)
  repeat (first | with_reducible refine wpAny_loadPart_at hC ?_ | with_reducible refine wpAny_madeBy_exc hC ?_ | wp_step)
  refine codeAny_call_builtin_code (Code.quiet_builtin _ Fn.quiet) (wpAny_check_new_subU Fn hBn T hC ?_)
  refine codeAny_exc_new_subU Fn hBn Fn T hC ?_ hrest
  show wpAny _ _ _ _ _ _
  have k : ∀ b o, h.get? b = some o → ((h.push (tupO rest)).push (excO C h.objs.size)).get? b = some o := fun b o e => Heap.get?_push_of_some _ (Heap.get?_push_of_some _ e)
  have hC₁ := k _ _ hC
  have hget : ((h.push (tupO rest)).push (excO C h.objs.size)).get? (h.objs.size + 1) = some (excO C h.objs.size) := by heap_get
  have hcC : (Value.ref C :: bm).contains (.ref C) = true := by simp
  have t1 : Looks (model prog w) ((h.push (tupO rest)).push (excO C h.objs.size)) (typeOf (.ref (h.objs.size + 1))) (.ref C) := (Looks.ld hget).andThen .now
  have i1 := (looks_findIn (M := model prog w) X hi).keeps k
  have b1 := (bind_fn (M := model prog w) X (.ref (h.objs.size + 1)) hf).keeps k
  unfold isInstance callSpecial? specialOf
  refine wpAny_bind (wpAny_bind (t1.at (wpAny_isSubtype_exc hC₁ ?_)))
  rw [hcC]
  simp only [Bool.not_true, Bool.false_eq_true, if_false]
  refine wpAny_bind (wpAny_holding (wpAny_bind (wpAny_bind (t1.at (i1.at ?_)))))
  refine wpAny_holding (wpAny_bind (b1.at ?_))
  refine wpAny_bind (wpAny_call (codeAny_mono hq fun r s' z => ?_))
  rcases r with e | (v | _ | _ | _) <;> first | exact z | exact z.elim | skip
  obtain ⟨rfl, z⟩ := z
  exact wpAny_pure (wpAny_pure z)
end
end L2
namespace L2
open PySem PySem.Spec PySem.W PySem.Calls PyProof.Rows PySem.Builtin PySem.Builtin.ObjectAttr
structure XCls (K : PySem.W.Frag) (C : Addr) : Prop where
  ga : findIn K (.ref C) "__getattribute__" = some (some (.builtin "BaseException.__getattribute__"))
  gt : findIn K (.ref C) "__getattr__" = some none
  bx : mroIn K C (.type "BaseException") = some true
  hd : hasDictIn K C = true
  cc : findIn K (.ref C) "__class__" = some (some (.builtin "object.__class__"))
  cg : specialIn K (.builtin "object.__class__") "__get__" = some (some (.builtin "getset_descriptor.__get__"))
  ct : takesIn K (.builtin "object.__class__") = some true
  mo : mroIn K C (.type "object") = some true
  sa : findIn K (.ref C) "__setattr__" = some (some (.builtin "object.__setattr__"))
  ov : exOver K C = true
  xc : xcIn K C = true
theorem findObj_dataX {K : PySem.W.Frag} {C : Addr} {od : Option Obj} {name : Str} {a g : Value} (hc : (clsIn K C).isSome = true) (ha : findIn K (.ref C) name = some (some a)) (hg : specialIn K a "__get__" = some (some g)) (ht : takesIn K a = some true) : findObj K C od name = some (.bind g a) := by
  obtain ⟨cd, hc⟩ := Option.isSome_iff_exists.mp hc
  unfold findObj
  rw [hc, Option.bind_some, ha, Option.bind_some]
  simp [hg, ht]
section
variable {prog : Program} {w : World} {A : Around} {E : Value → Shared → Prop} {s : Shared} {K : PySem.W.Frag} {x C : Addr} {ox : Obj} {od : Option Obj}
theorem xclass {Q : Option Value → Shared → Prop} (Y : XCls K C) (X : K.In s.heap) (I : InstAt s.heap x ox C od) (h : Q (some (.ref C)) { s with toks := s.toks + 1 }) : wpAny (model prog w) A (getAttr? (.ref x) "__class__") Q E s := by
  have hf : findObj K C od "__class__" = some (.bind (.builtin "getset_descriptor.__get__") (.builtin "object.__class__")) := findObj_dataX (by obtain ⟨cd, hc, _⟩ := any_some Y.hd; rw [hc]; rfl) Y.cc Y.cg Y.ct
  unfold getAttr? getAttrBy?
  refine wpAny_bind (wpAny_mkText (wpAny_bind (wpAny_attempt (xget_open (s := { s with toks := s.toks + 1 }) X I Y.ga Y.gt Y.bx ?_))))
  obtain ⟨hp, g, d, t, os⟩ := s
  have L0 := I.type (M := model prog w)
  have L3 := looks_find (M := model prog w) X I hf
  unfold Builtin.«object.__getattribute__»
  refine wpAny_bind (wpAny_pure (wpAny_bind (wpAny_pure (wpAny_bind (L0.at (wpAny_bind (L3.at ?_)))))))
  show wpAny _ _ (holding [Value.builtin "object.__class__"] (call (.builtin "getset_descriptor.__get__") [.builtin "object.__class__", .ref x, .ref C]) >>= ret) _ _ _
  refine wpAny_bind (wpAny_holding (wpAny_call (class_get (s := ⟨hp, g, d, t + 1, os⟩) X I Y.mo ?_)))
  refine wpAny_pure ⟨_, rfl, ?_⟩
  rw [handedOut_of (v := .ref C) rfl]
  exact wpAny_pure (wpAny_pure h)
theorem kitx_exc (Y : XCls K C) : KitX K (.ref x) (.ref C) (fun h => InstAt h x ox C od) where
  ty := fun _ _ _ I => I.type
  it := fun _ _ X _ => by
    obtain ⟨cdD, hcD, _⟩ := any_some Y.hd
    unfold clsIn at hcD
    split at hcD
    · rename_i c' d' cd' sl' ho
      intro A' Q' E' s' k q
      unfold isType loadHead
      exact wpAny_bind (wpAny_loadPart (k _ _ (X _ _ ho)) (wpAny_pure q))
    · cases hcD
  ne := fun h tp dd its n sl X htp => by
    obtain ⟨cdD, hcD, _⟩ := any_some Y.hd
    refine Bool.eq_false_iff.mpr fun q => ?_
    have e : C = tp := Value.ref.inj (beq_iff_eq.mp q)
    subst e
    unfold clsIn at hcD
    split at hcD
    · rename_i c' d' cd' sl' ho
      have z := (X _ _ ho).symm.trans htp
      cases z
    · cases hcD
  ca := fun X I k => xclass Y X I k
end
end L2
namespace L2
open PySem PySem.Spec PySem.W PyProof.Rows
def ExcO (x C : Addr) (od : Option Addr) : HO := .ext fun h => ∃ vs sl, h.get? x = some ⟨.ref C, od, .fields vs, sl⟩
theorem exc_ok {P : Program} {w : World} {H : Hp} {h : Heap} {x C : Addr} {od : Option Addr} {vs : Array Value} {sl : Array (Option Value)} (e : h.get? x = some ⟨.ref C, od, .fields vs, sl⟩) : ObjOk P w H h x (ExcO x C od) :=
  ⟨⟨vs, sl, e⟩, ⟨_, e⟩, fun h1 h2 p k => let ⟨vs, sl, e⟩ := p; ⟨vs, sl, k _ e⟩⟩
theorem exc_get {P : Program} {w : World} {H : Hp} {h : Heap} {x C : Addr} {od : Option Addr} (ok : HOk P w H h) (e : H x = some (ExcO x C od)) : ∃ vs sl, h.get? x = some ⟨.ref C, od, .fields vs, sl⟩ := (ok x _ e).1
structure MkX (K : PySem.W.Frag) (C f : Addr) : Prop where
  xc : xcIn K C = true
  init : PySem.W.findIn K (.ref C) "__init__" = some (some (.ref f))
  fn : PySem.W.isFn K (.ref f) = true
  kp : PySem.W.keepIn K (.ref C) = true
def tMakeX (C : Addr) (sp : Sp) (dvs : List V) (E : XK) (t : TA) : TE := fun σ H Q => t σ H fun vs H1 => vs.length ≤ 1000 ∧ ∀ x, H1 x = none → sp (.ref x :: (vs ++ dvs)) (upd H1 x (ExcO x C none)) (fun v H2 => v = .non ∧ Q (.ref x) H2) E
section
variable {X : Cx} {CX : CXT} {k : Nat} {f C : Addr} {fd : FuncData} {ps : List Str} {sp : Sp} {dvs : List V} {ds : List Value} {E : XK} {x m : Str} {p pos apos : Pos} {e o : Expr} {es : List Expr} {ta tv : TE} {t : TA}
theorem run_makeX {pins : List (Addr × Obj)} {σ : St} {H : Hp} {s : Shared} {Q : VK} {us : List Value} {vs : List V} (M : MkX X.K C f) (F : FnOk X.prog X.w X.K X.mg X.base CX k f fd ps sp) (hr : Room (k + 1) X.A) (hb : Binds X.K fd ps ds) (hd : Vals dvs ds)
    (hx : Passes CX X E) (I : Inv X pins σ H s) (r : Vals vs us) (hvl : vs.length ≤ 1000)
    (h : ∀ x, H x = none → sp (.ref x :: (vs ++ dvs)) (upd H x (ExcO x C none)) (fun v H2 => v = .non ∧ Q (.ref x) H2) E) :
    wpAny (model X.prog X.w) X.A (call (.ref C) us) (EP X pins σ Q) X.xe s := by
  have hq := h (s.heap.objs.size + 1) (I.hok.fresh (Nat.le_succ _))
  have e2 : ((s.heap.push (tupO us)).push (excO C s.heap.objs.size)).get? (s.heap.objs.size + 1) = some (excO C s.heap.objs.size) := by
    have := Heap.get?_push_size (s.heap.push (tupO us)) (o := excO C s.heap.objs.size) rfl
    rwa [Heap.size_push] at this
  have I1 := I.kept (t' := s.toks) (h' := s.heap.push (tupO us)) fun b u q => Heap.get?_push_of_some _ q
  have I2 : Inv X pins σ (upd H (s.heap.objs.size + 1) (ExcO (s.heap.objs.size + 1) C none)) { s with heap := (s.heap.push (tupO us)).push (excO C s.heap.objs.size) } :=
    I1.laid (t' := s.toks) (a := s.heap.objs.size + 1) (o := ExcO (s.heap.objs.size + 1) C none) (fun b u q => Heap.get?_push_of_some _ q) (Nat.le_of_eq (Heap.size_push _ _)) (exc_ok e2)
  have r2 : Vals (V.ref (s.heap.objs.size + 1) :: (vs ++ dvs)) (Value.ref (s.heap.objs.size + 1) :: (us ++ ds)) := .cons rfl (r.append hd)
  have hl : (Value.ref (s.heap.objs.size + 1) :: us ++ ds).length = ps.length := by
    have e := r2.length
    rw [F.len _ _ _ _ hq] at e
    exact e.symm
  have hrest : us.length ≤ sizeLine := Nat.le_trans (by rw [← r.length]; exact hvl) (by decide)
  have main : codeAny (model X.prog X.w) X.A (.call (.ref C) ⟨us, []⟩) (fun r s' => match r with | .ok (.ret v) => EP X pins σ Q v s' | .ok _ => False | .error e => X.xe e s') s := by
    have kin := I.kIn
    obtain ⟨hh, g, d, tk, os⟩ := s
    refine make_exc (fI := f) kin (xmakes_of kin M.xc) M.init (beq_iff_eq.mp M.fn) hrest (codeAny_mono (F.run _ X.stack _ _ ⟨Value.ref (hh.objs.size + 1) :: us, []⟩ (Value.ref (hh.objs.size + 1) :: (us ++ ds)) _ _ E (hr.make C us [])
      (I2.env0.make C us []) (hb _ (Value.ref (hh.objs.size + 1) :: us) I2.kIn hl) r2 hq) fun r s' hq' => ?_)
    cases r with
    | error e => exact hx pins σ _ _ e s' I2 hq'
    | ok fl =>
      cases fl with
      | ret u =>
        obtain ⟨v, H', I3, rv, ev, q3⟩ := I2.after hq'
        subst ev
        exact ⟨rv, ⟨V.ref (hh.objs.size + 1), H', I3, rfl, q3⟩⟩
      | next => exact False.elim hq'
      | brk => exact False.elim hq'
      | cont => exact False.elim hq'
  exact wpAny_call main
theorem pe_makeX (M : MkX X.K C f) (F : FnOk X.prog X.w X.K X.mg X.base CX k f fd ps sp) (hr : Room (k + 1) X.A) (hg : Gl X x) (hm : X.mg x = some (.ref C)) (hb : Binds X.K fd ps ds) (hd : Vals dvs ds) (hx : Passes CX X E)
    (ha : PA X (e :: es) t) (hdb : (x == ("__debug__" : Str)) = false := by decide) (he : starEach (e :: es) X.env = (false, eval e X.env) :: starEach es X.env := by rfl) (hpl : (backTo pos (starEach es X.env)).any (·.1) = false := by rfl) :
    PE X (.Call (.Name x p) (e :: es) [] pos) (tMakeX C sp dvs E t) := by
  intro pins s σ H Q I h
  refine wpAny_Call_Name_kw (ld_glob I hg hm ?_ hdb)
  refine PySem.W.callWith_K (h₀ := X.base) I.ok.mod.kin M.kp (thn (ha pos pins s σ H _ I h) fun us s1 ⟨vs, H1, I1, r, hl, q⟩ => ⟨I1.kIn, ?_⟩) he hpl
  exact run_makeX M F hr hb hd hx I1 r hl q
def sFldX (K : PySem.W.Frag) (ta tv : TE) (f : Str) : TS := fun D σ H => tv σ H fun y H1 => ta σ H1 fun x H2 => ∃ a C, x = .ref a ∧ H2 a = some (ExcO a C none) ∧ XCls K C ∧ NoAttr K C f ∧
  ∀ d, H2 d = none → D.nx σ (upd (upd H2 a (ExcO a C (some d))) d (.xd [(f, y)]))
theorem ps_fldX {f : Str} {value : Expr} {pos' : Pos} (ha : PE X o ta) (hv : PE X value tv) (hs : swapsWith value (some (.Attribute o f pos')) pos.line X.env = pure false) : PS X (.Assign [.Attribute o f pos'] value pos) (sFldX X.K ta tv f) := by
  intro pins s σ H D I h
  refine plainObj_wpAny_Assign_Attribute (thn (hv pins s σ H _ I h) fun u s1 ⟨y, H1, I1, ry, q⟩ => thn (ha pins s1 σ H1 _ I1 q) fun ov s2 ⟨x, H2, I2, rx, a, C, ex, ea, c, n, q2⟩ => ?_) hs
  subst ex
  obtain rfl : ov = Value.ref a := rx
  obtain ⟨vs, sl, hx⟩ := exc_get I2.hok ea
  refine xset_first I2.kIn hx c.sa c.ov (by unfold takerIn; rw [show findIn X.K (.ref C) f = some none from n]; rfl) c.hd fun h' g1 g2 g3 => ?_
  have hda : s2.heap.objs.size ≠ a := Nat.ne_of_gt (Heap.lt_size hx)
  have I3 := I2.write (t' := s2.toks + 2) (x := a) (e := a) (o := ExcO a C (some s2.heap.objs.size)) (h' := h') (by rw [ea]; trivial) (.inl rfl) (fun b u hb e => g3 b u hb e) ⟨_, g1⟩ (exc_ok g1)
  have hn : upd H2 a (ExcO a C (some s2.heap.objs.size)) s2.heap.objs.size = none := by rw [upd_ne hda]; exact I2.hok.fresh (Nat.le_refl _)
  have I4 := I3.adopt (t' := s2.toks + 2) (a := s2.heap.objs.size) (o := .xd [(f, y)]) (h' := h') hn (I2.mine (Nat.le_refl _)) (fun b u _ e => e) ⟨_, g2, fun g => by
    by_cases z : g = f
    · rw [z]
      show RelO (List.lookup f [(f, y)]) (if f = f then some u else none)
      rw [if_pos rfl, List.lookup_cons, beq_self_eq_true]; exact ry
    · show RelO (List.lookup g [(f, y)]) (if g = f then some u else none)
      rw [if_neg z, List.lookup_cons, beq_eq_false_iff_ne.mpr z]; exact True.intro⟩
  exact ⟨σ, _, I4, q2 _ (I2.hok.fresh (Nat.le_refl _))⟩
def tFldX (K : PySem.W.Frag) (ta : TE) (f : Str) : TE := fun σ H Q => ta σ H fun x H1 => ∃ a C d fs v, x = .ref a ∧ H1 a = some (ExcO a C (some d)) ∧ H1 d = some (.xd fs) ∧ XCls K C ∧ NoAttr K C f ∧ fs.lookup f = some v ∧ Q v H1
theorem exc_inst {P : Program} {w : World} {H : Hp} {h : Heap} {x C d : Addr} {fs : List (Str × V)} (ok : HOk P w H h) (e : H x = some (ExcO x C (some d))) (ed : H d = some (.xd fs)) : ∃ (ox od : Obj) (mA : Str → Option Value), InstAt h x ox C (some od) ∧ (∀ f, RelO (fs.lookup f) (mA f)) ∧ ∀ name, PySem.W.lookIn name od = some (mA name) := by
  obtain ⟨vs, sl, hx⟩ := exc_get ok e
  obtain ⟨mA, n, r⟩ := ok d _ ed
  obtain ⟨od, ho, hl⟩ := lookIn_ns n
  exact ⟨_, od, mA, ⟨hx, rfl, rfl, ho⟩, r, hl⟩
theorem pe_fldX {f : Str} (he : PE X e ta) (hb : attributeBase e f X.env (eval e X.env) = eval e X.env) : PE X (.Attribute e f pos) (tFldX X.K ta f) := by
  intro pins s σ H Q I h
  refine attr_of hb (thn (he pins s σ H _ I h) fun u s1 ⟨x, H1, I1, rx, a, C, d, fs, v, ex, ea, ed, c, n, l, q⟩ => ?_)
  subst ex
  obtain rfl : u = Value.ref a := rx
  obtain ⟨ox, od, mA, J, r, hl⟩ := exc_inst I1.hok ea ed
  obtain ⟨u, hu, ru⟩ := RelO.some_of (v := v) (o := mA f) (by rw [← l]; exact r f)
  exact xget_value I1.kIn J c.ga c.gt c.bx (PySem.W.findObj_own c.hd n rfl (by rw [hl, hu])) (handed_of ru) ⟨v, H1, I1.tok _, ru, q⟩
def rIsiX (K : PySem.W.Frag) : List V → Hp → VK → Prop := fun xs H Q => ∃ a C d fs c u b, xs = [.ref a, c] ∧ clsV c = some u ∧ H a = some (ExcO a C (some d)) ∧ H d = some (.xd fs) ∧ XCls K C ∧ PySem.W.kitOne K (.ref C) u = some b ∧ Q (.bl b) H
def rIsiN (K : PySem.W.Frag) : List V → Hp → VK → Prop := fun xs H Q => ∃ a C c u b, xs = [.ref a, c] ∧ clsV c = some u ∧ H a = some (ExcO a C none) ∧ XCls K C ∧ PySem.W.kitOne K (.ref C) u = some b ∧ Q (.bl b) H
def rIsiA (K : PySem.W.Frag) : List V → Hp → VK → Prop := fun xs H Q => rIsi K xs H Q ∨ (rIsiX K xs H Q ∨ rIsiN K xs H Q)
theorem call_isinstX : CallR X (.builtin "isinstance") (rIsiX X.K) := by
  intro pins s σ H xs us Q I r h
  obtain ⟨a, C, d, fs, c, u, b, rfl, hu, ea, ed, xc, e, q⟩ := h
  obtain ⟨v, u', rfl, rv, ru'⟩ := vals2 r
  cases clsV_rel hu ru'
  cases rv
  obtain ⟨ox, od, mA, J, _⟩ := exc_inst I.hok ea ed
  exact kia_one (kitx_exc xc) I.kIn J e (fun z => nomatch z) fun tk => ⟨.bl b, H, I.tok _, rfl, q⟩
theorem call_isinstN : CallR X (.builtin "isinstance") (rIsiN X.K) := by
  intro pins s σ H xs us Q I r h
  obtain ⟨a, C, c, u, b, rfl, hu, ea, xc, e, q⟩ := h
  obtain ⟨v, u', rfl, rv, ru'⟩ := vals2 r
  cases clsV_rel hu ru'
  cases rv
  obtain ⟨vs, sl, hx⟩ := exc_get I.hok ea
  have J : InstAt s.heap a ⟨.ref C, none, .fields vs, sl⟩ C none := ⟨hx, rfl, rfl, True.intro⟩
  exact kia_one (kitx_exc xc) I.kIn J e (fun z => nomatch z) fun tk => ⟨.bl b, H, I.tok _, rfl, q⟩
theorem call_isinstA : CallR X (.builtin "isinstance") (rIsiA X.K) := CallR.or call_isinst (CallR.or call_isinstX call_isinstN)
end
end L2
namespace L2
open PySem PySem.Spec PySem.W PySem.Calls PyProof.Rows
def xcIn0 (K : PySem.W.Frag) (C : Addr) : Bool := match K.lookup C with
  | some ⟨.type "type", _, .cls cd, sl⟩ => (match cd.mro, sl.toList with
    | .ref C' :: bm, [_, _, _, _, some (.builtin n), _] => C' == C && n == "ValueError.__new__" && !cd.hasDel && !cd.abstract && tailIn K bmV bm && specialIn K (.ref C) "__call__" == some (some (.builtin "type.__call__")) && instIn K (.ref C) (.type "type") == some true && nsOkIn K cd.ns && nsIn K cd.ns "__init__" == some none
    | _, _ => false)
  | _ => false
structure XMakes0 (M : Model) (h : Heap) (C : Addr) : Prop where
  cls : ∃ (nm q : Str) (N : Addr) (bs bm : List Value) (hdct : Bool) (sn : List Str) (sub : List Value) (col : Option Bool) (dd : Option Addr) (k0 k1 k2 k3 k5 : Option Value) (mN : Str → Option Value), h.get? C = some (excClassObj nm q C N bs bm hdct sn sub false col dd k0 k1 k2 k3 k5 "ValueError.__new__") ∧ OwnTail h bmV bm ∧ h.Ns N mN ∧ mN "__init__" = none
  call : Looks M h (specialOf (.ref C) "__call__") (some (.builtin "type.__call__"))
  typ : Looks M h (isInstance (.ref C) (.type "type")) true
theorem xmakes0_of {K : PySem.W.Frag} {M : Model} {h : Heap} (X : K.In h) {C : Addr} (q : xcIn0 K C = true) : XMakes0 M h C := by
  unfold xcIn0 at q
  split at q
  · rename_i dd cd sl ho
    split at q
    · rename_i C' bm k0 k1 k2 k3 n k5 hm hs
      simp only [Bool.and_eq_true, beq_iff_eq, Bool.not_eq_true'] at q
      obtain ⟨⟨⟨⟨⟨⟨⟨⟨rfl, rfl⟩, hdel⟩, hab⟩, ht⟩, hcall⟩, hins⟩, hok⟩, hni⟩ := q
      obtain ⟨nm, bs, mro, ns, qn, hd, sn, sub, ab, col, del⟩ := cd
      dsimp only at hm hdel hab hok hni
      subst hm hdel hab
      have hsl : sl = #[k0, k1, k2, k3, some (.builtin "ValueError.__new__"), k5] := by
        obtain ⟨l⟩ := sl
        simp only at hs
        rw [hs]
      subst hsl
      exact ⟨⟨nm, qn, ns, bs, bm, hd, sn, sub, col, dd, k0, k1, k2, k3, k5, _, X _ _ ho, tail_of_in X ht, .of_isNs (isNs_of_in X hok), nsMap_none_of_in X hok hni⟩, looks_specialIn X hcall, looks_instIn X hins⟩
    · cases q
  · cases q
section
variable {prog : Program} {w : World} {A : Around} {C : Addr} {R : Result → Shared → Prop} {h : Heap} {g : Array GenState} {d : Drawn} {t : Nat} {os : OsState}
theorem make_exc0 (Y : XMakes0 (model prog w) h C)
    (hq : ∀ h' T, (∀ b o, h.get? b = some o → h'.get? b = some o) → h'.get? (h.objs.size + 1) = some (excO C T) → R (.ok (.ret (.ref (h.objs.size + 1)))) ⟨h', g, d, t, os⟩) :
    codeAny (model prog w) A (.call (.ref C) ⟨[], []⟩) R ⟨h, g, d, t, os⟩ := by
  obtain ⟨⟨nm, qn, N, bs, bm, hdct, sn, sub, col, dd, k0, k1, k2, k3, k5, mN, hC, T, hn, hni⟩, call, typ⟩ := Y
  have F := PySem.F.excBase_ValueError
  have hBn : bmV.contains (.type "ValueError") = true := by decide +kernel
  refine codeAny_of_tree ?_
  show wpAny _ _ (callAny (.ref C) _) _ _ _
  refine nd_load hC ?_
  show wpAny _ _ (callAny.viaDunder (.ref C) _) _ _ _
  unfold callAny.viaDunder
  refine wpAny_bind (call.at ?_)
  dsimp only
  rw [tc_bind]
  refine wpAny_bind (wpAny_pure (wpAny_bind (wpAny_pure ?_)))
  refine wpAny_pure (a := Fin.again (.call (.builtin "type.__call__") ⟨[.ref C], []⟩)) (And.intro rfl ?_)
  refine codeAny_call_builtin_at (Code.quiet_builtin _ (by decide +kernel)) entry_typeCall (check_slot tc_kind tc_split typ (tc_args _ _ _) ?_)
  repeat (first | with_reducible refine wpAny_loadPart_at hC ?_ | with_reducible refine wpAny_madeBy_exc hC ?_ | wp_step)
  refine codeAny_call_builtin_code (Code.quiet_builtin _ F.quiet) (wpAny_check_new_subU F hBn T hC ?_)
  refine codeAny_exc_new_subU F hBn F T hC ?_ (Nat.zero_le _)
  show wpAny _ _ _ _ _ _
  have k : ∀ b o, h.get? b = some o → ((h.push (tupO [])).push (excO C h.objs.size)).get? b = some o := fun b o e => Heap.get?_push_of_some _ (Heap.get?_push_of_some _ e)
  have hC₁ := k _ _ hC
  have hn₁ : ((h.push (tupO [])).push (excO C h.objs.size)).Ns N mN := hn.keeps k
  have hget : ((h.push (tupO [])).push (excO C h.objs.size)).get? (h.objs.size + 1) = some (excO C h.objs.size) := by heap_get
  have hcC : (Value.ref C :: bm).contains (.ref C) = true := by simp
  have T₁ := T.keeps k
  have t1 : Looks (model prog w) ((h.push (tupO [])).push (excO C h.objs.size)) (typeOf (.ref (h.objs.size + 1))) (.ref C) := (Looks.ld hget).andThen .now
  unfold isInstance callSpecial? specialOf
  refine wpAny_bind (wpAny_bind (t1.at (wpAny_isSubtype_exc hC₁ ?_)))
  rw [hcC]
  simp only [Bool.not_true, Bool.false_eq_true, if_false]
  refine wpAny_bind (wpAny_holding (wpAny_bind (wpAny_bind (t1.at ?_))))
  refine wpAny_typeLookup_tail hC₁ hn₁ T₁ F.mroIs F.init.lookup ?_
  rw [hni]
  refine wpAny_holding (wpAny_bind (wpAny_of_eq (F.init.bind _) ?_))
  refine wpAny_bind (wpAny_call (codeAny_call_builtin F.init.plain F.initEntry (wpAny_check_init_subU F T₁ hC₁ hget rfl ?_)))
  wp_walk
  refine hq _ (h.objs.size + 2) (fun b o hb => ?_) ?_
  · rw [Heap.get?_update_other _ _ (Nat.ne_of_gt (Nat.lt_succ_of_lt (Heap.lt_size hb)))]
    exact Heap.get?_push_of_some _ (Heap.get?_push_of_some _ (Heap.get?_push_of_some _ hb))
  · rw [Heap.get?_update_self _ (Heap.get?_push_of_some _ hget) rfl]
    simp only [Heap.size_push]
    rfl
end
structure MkX0 (K : PySem.W.Frag) (C : Addr) : Prop where
  xc : xcIn0 K C = true
  kp : PySem.W.keepIn K (.ref C) = true
def tMakeX0 (C : Addr) : TE := fun _ H Q => ∀ x, H x = none → Q (.ref x) (upd H x (ExcO x C none))
theorem pe_makeX0 {X : Cx} {C : Addr} {x : Str} {p pos : Pos} (M : MkX0 X.K C) (hg : Gl X x) (hm : X.mg x = some (.ref C)) (hdb : (x == ("__debug__" : Str)) = false := by decide) : PE X (.Call (.Name x p) [] [] pos) (tMakeX0 C) := by
  intro pins s σ H Q I h
  refine wpAny_Call_Name_kw (ld_glob I hg hm ?_ hdb)
  have kin := I.kIn
  refine PySem.W.callWith_K0 kin M.kp ?_
  have main : codeAny (model X.prog X.w) X.A (.call (.ref C) ⟨[], []⟩) (fun r s' => match r with | .ok (.ret v) => EP X pins σ Q v s' | .ok _ => False | .error e => X.xe e s') s := by
    obtain ⟨hh, g, d, tk, os⟩ := s
    refine make_exc0 (xmakes0_of kin M.xc) fun h' T k1 e1 => ?_
    have I2 := I.laid (t' := tk) (a := hh.objs.size + 1) (o := ExcO (hh.objs.size + 1) C none) (h' := h') k1 (Nat.le_succ _) (exc_ok e1)
    exact ⟨V.ref (hh.objs.size + 1), _, I2, rfl, h _ (I.hok.fresh (Nat.le_succ _))⟩
  exact wpAny_call main
end L2
namespace L2
open PySem PySem.Spec PySem.W PySem.Calls PyProof.Rows
structure XOk (K : PySem.W.Frag) (C f : Addr) (m : Str) : Prop where
  c : XCls K C
  mx : MkX K C f
  no : NoAttr K C m
structure XOk0 (K : PySem.W.Frag) (C : Addr) : Prop where
  c : XCls K C
  mx : MkX0 K C
def xclsIn (K : PySem.W.Frag) (C : Addr) : Bool :=
  findIn K (.ref C) "__getattribute__" == some (some (.builtin "BaseException.__getattribute__")) && findIn K (.ref C) "__getattr__" == some none && mroIn K C (.type "BaseException") == some true && hasDictIn K C &&
  findIn K (.ref C) "__class__" == some (some (.builtin "object.__class__")) && specialIn K (.builtin "object.__class__") "__get__" == some (some (.builtin "getset_descriptor.__get__")) && takesIn K (.builtin "object.__class__") == some true &&
  mroIn K C (.type "object") == some true && findIn K (.ref C) "__setattr__" == some (some (.builtin "object.__setattr__")) && exOver K C && xcIn K C
theorem XCls.of_in {K : PySem.W.Frag} {C : Addr} (q : xclsIn K C = true) : XCls K C := by
  unfold xclsIn at q
  simp only [Bool.and_eq_true, beq_iff_eq] at q
  obtain ⟨⟨⟨⟨⟨⟨⟨⟨⟨⟨h1, h2⟩, h3⟩, h4⟩, h5⟩, h6⟩, h7⟩, h8⟩, h9⟩, h10⟩, h11⟩ := q
  exact ⟨h1, h2, h3, h4, h5, h6, h7, h8, h9, h10, h11⟩
def xokIn (K : PySem.W.Frag) (C f : Addr) (m : Str) : Bool := xclsIn K C && findIn K (.ref C) "__init__" == some (some (.ref f)) && isFn K (.ref f) && keepIn K (.ref C) && findIn K (.ref C) m == some none
theorem XOk.of_in {K : PySem.W.Frag} {C f : Addr} {m : Str} (q : xokIn K C f m = true) : XOk K C f m := by
  unfold xokIn at q
  simp only [Bool.and_eq_true, beq_iff_eq] at q
  obtain ⟨⟨⟨⟨h1, h2⟩, h3⟩, h4⟩, h5⟩ := q
  exact ⟨.of_in h1, ⟨(XCls.of_in h1).xc, h2, h3, h4⟩, h5⟩
def xok0In (K : PySem.W.Frag) (C : Addr) : Bool := xclsIn K C && xcIn0 K C && keepIn K (.ref C)
theorem XOk0.of_in {K : PySem.W.Frag} {C : Addr} (q : xok0In K C = true) : XOk0 K C := by
  unfold xok0In at q
  simp only [Bool.and_eq_true] at q
  obtain ⟨⟨h1, h2⟩, h3⟩ := q
  exact ⟨.of_in h1, h2, h3⟩
def kiTab (K : PySem.W.Frag) (cs : List Addr) (us : List Value) (b : Nat → Nat → Bool) : Prop := ∀ i j c u, cs[i]? = some c → us[j]? = some u → kitOne K (.ref c) u = some (b i j)
def kiTabIn (K : PySem.W.Frag) (cs : List Addr) (us : List Value) (b : Nat → Nat → Bool) : Bool :=
  (List.range cs.length).all fun i => (List.range us.length).all fun j => match cs[i]?, us[j]? with | some c, some u => kitOne K (.ref c) u == some (b i j) | _, _ => true
theorem kiTab_of {K : PySem.W.Frag} {cs : List Addr} {us : List Value} {b : Nat → Nat → Bool} (q : kiTabIn K cs us b = true) : kiTab K cs us b := by
  intro i j c u hc hu
  unfold kiTabIn at q
  have h1 := List.all_eq_true.mp q i (List.mem_range.mpr (List.getElem?_eq_some_iff.mp hc).1)
  have h2 := List.all_eq_true.mp h1 j (List.mem_range.mpr (List.getElem?_eq_some_iff.mp hu).1)
  rw [hc, hu] at h2
  simpa using h2
def ErrF (H : Hp) (x C : Addr) (m : Str) (v : V) : Prop := ∃ d, H x = some (ExcO x C (some d)) ∧ H d = some (.xd [(m, v)])
theorem ErrF.same {H H' : Hp} {x C : Addr} {m : Str} {v : V} (s : Same H H') (h : ErrF H x C m v) : ErrF H' x C m v := let ⟨d, a, b⟩ := h; ⟨d, s _ _ a, s _ _ b⟩
def spXI (C : Addr) (m : Str) : Sp := fun vs H Q _ => ∃ x v, vs = [.ref x, v] ∧ H x = some (ExcO x C none) ∧ ∀ d, H d = none → Q .non (upd (upd H x (ExcO x C (some d))) d (.xd [(m, v)]))
theorem makeX_go {C : Addr} {m : Str} {E : XK} {t : TA} {σ : St} {H : Hp} {v : V} {Q : VK} (ht : ∀ R : List V → Hp → Prop, R [v] H → t σ H R) (h : ∀ x H', Same H H' → H x = none → ErrF H' x C m v → Q (.ref x) H') : tMakeX C (spXI C m) [] E t σ H Q := by
  refine ht _ ⟨show 1 ≤ 1000 by decide, fun x hx => ⟨x, v, rfl, upd_same, fun d hd => ⟨rfl, ?_⟩⟩⟩
  have hxd : d ≠ x := fun z => by rw [z, upd_same] at hd; cases hd
  rw [upd_ne hxd] at hd
  refine h x _ (fun b o e => ?_) hx ⟨d, ?_, upd_same⟩
  · have hbx : b ≠ x := fun z => by rw [z, hx] at e; cases e
    have hbd : b ≠ d := fun z => by rw [z, hd] at e; cases e
    rw [upd_ne hbd, upd_ne hbx, upd_ne hbx]; exact e
  · rw [upd_ne hxd.symm, upd_same]
theorem fldX_go {K : PySem.W.Frag} {ta : TE} {m : Str} {σ : St} {H : Hp} {Q : VK} {x C f : Addr} {v : V} (O : XOk K C f m) (e : ErrF H x C m v) (hta : ∀ R : VK, R (.ref x) H → ta σ H R) (q : Q v H) : tFldX K ta m σ H Q := by
  obtain ⟨d, h1, h2⟩ := e
  exact hta _ ⟨x, C, d, _, v, rfl, h1, h2, O.c, O.no, by rw [List.lookup_cons, beq_self_eq_true], q⟩
theorem isiX_go {K : PySem.W.Frag} {H : Hp} {Q : VK} {x C : Addr} {m : Str} {v c : V} {u : Value} {b : Bool} (O : XCls K C) (e : ErrF H x C m v) (hu : clsV c = some u) (hk : kitOne K (.ref C) u = some b) (q : Q (.bl b) H) : rIsiA K [.ref x, c] H Q := by
  obtain ⟨d, h1, h2⟩ := e
  exact .inr (.inl ⟨x, C, d, _, c, u, b, rfl, hu, h1, h2, O, hk, q⟩)
theorem isiN_go {K : PySem.W.Frag} {H : Hp} {Q : VK} {x C : Addr} {c : V} {u : Value} {b : Bool} (O : XCls K C) (e : H x = some (ExcO x C none)) (hu : clsV c = some u) (hk : kitOne K (.ref C) u = some b) (q : Q (.bl b) H) : rIsiA K [.ref x, c] H Q :=
  .inr (.inr ⟨x, C, c, u, b, rfl, hu, e, O, hk, q⟩)
theorem pe_fldXK {X : Cx} {K : PySem.W.Frag} {e : Expr} {ta : TE} {f : Str} {pos : Pos} (hK : X.K = K) (he : PE X e ta) (hb : attributeBase e f X.env (eval e X.env) = eval e X.env) : PE X (.Attribute e f pos) (tFldX K ta f) := hK ▸ pe_fldX he hb
end L2
namespace L2
open PySem PySem.Spec PySem.W PySem.Calls PyProof.Rows
theorem for_enum {K : PySem.W.Frag} {a : Addr} {xs : List V} {g : TG} {tb : TS} {D : Ends} {σ : St} {H : Hp} (Pv : Nat → St → Hp → Prop) (h0 : Pv 0 σ H) (hl : ∀ i σ H, i ≤ xs.length → Pv i σ H → SqL K H a xs)
    (hs : ∀ i x σ H p, xs[i]? = some x → Pv i σ H → H p = none → g (.ref p) σ (upd H p (.tup [.int i, x])) fun σ2 H2 => tb { D with nx := Pv (i + 1), ct := Pv (i + 1), bk := D.nx } σ2 H2) (hd : ∀ σ H, Pv xs.length σ H → D.nx σ H) :
    ∃ W : Nat → Nat → St → Hp → Prop, (∃ m, W 0 m σ H) ∧ ∀ i m σ H, W i m σ H →
      ((Ite K a).stop i H ∧ D.nx σ H) ∨ ((Ite K a).go i H ∧ ∃ N : St → Hp → Prop, (∀ σ' H', N σ' H' → ∃ m', m' < m ∧ W (i + 1) m' σ' H') ∧ ∀ x H', (Ite K a).yld i H x H' → g x σ H' fun σ2 H2 => tb { D with nx := N, ct := N, bk := D.nx } σ2 H2) := by
  refine ⟨fun i m σ H => m = xs.length - i ∧ i ≤ xs.length ∧ Pv i σ H, ⟨xs.length, by simp, Nat.zero_le _, h0⟩, ?_⟩
  rintro i m σ H ⟨rfl, hi, p⟩
  have q := hl i σ H hi p
  by_cases hlt : i < xs.length
  · refine .inr ⟨⟨xs, xs[i], q, by simp [hlt]⟩, Pv (i + 1), fun σ' H' p' => ⟨xs.length - (i + 1), by omega, rfl, hlt, p'⟩, ?_⟩
    rintro x H' ⟨pp, w, hpn, hw, rfl, rfl⟩
    exact hs i w σ H pp (hw xs q) p hpn
  · have e : i = xs.length := by omega
    subst e
    exact .inl ⟨⟨xs, q, Nat.le_refl _⟩, hd σ H p⟩
mutual
theorem Den.same {K : PySem.W.Frag} {H H' : Hp} (s : Same H H') : ∀ {x : V} {d : PyData}, Den K H x d → Den K H' x d
  | _, _, .non => .non
  | _, _, .bl b => .bl b
  | _, _, .int i => .int i
  | _, _, .str z => .str z
  | _, _, .lst h a => .lst (s.seq h) (DenAll.same s a)
  | _, _, .tup h a => .tup (s.tup h) (DenAll.same s a)
theorem DenAll.same {K : PySem.W.Frag} {H H' : Hp} (s : Same H H') : ∀ {xs : List V} {ds : List PyData}, DenAll K H xs ds → DenAll K H' xs ds
  | _, _, .nil => .nil
  | _, _, .cons a b => .cons (Den.same s a) (DenAll.same s b)
end
theorem denRep {K : PySem.W.Frag} {H : Hp} {x : V} {d : PyData} (h : Den K H x d) : ∀ n : Nat, DenAll K H (List.replicate n x) (List.replicate n d)
  | 0 => .nil
  | n + 1 => .cons h (denRep h n)
def ErrI (H : Hp) (x C : Addr) : Option (Str × V) → Prop
  | some (m, v) => ErrF H x C m v
  | none => H x = some (ExcO x C none)
theorem ErrI.same {H H' : Hp} {x C : Addr} (s : Same H H') : ∀ {o : Option (Str × V)}, ErrI H x C o → ErrI H' x C o
  | some (_, _), h => ErrF.same s h
  | none, h => s _ _ h
theorem isiE_go {K : PySem.W.Frag} {H : Hp} {Q : VK} {x C : Addr} {o : Option (Str × V)} {c : V} {u : Value} {b : Bool} (O : XCls K C) (e : ErrI H x C o) (hu : clsV c = some u) (hk : kitOne K (.ref C) u = some b) (q : Q (.bl b) H) : rIsiA K [.ref x, c] H Q :=
  match o, e with
  | some (_, _), e => isiX_go O e hu hk q
  | none, e => isiN_go O e hu hk q
def AllE (H : Hp) : List Addr → List (Addr × Option (Str × V)) → Prop
  | [], [] => True
  | x :: xs, e :: es => ErrI H x e.1 e.2 ∧ AllE H xs es
  | _, _ => False
theorem AllE.same {H H' : Hp} (s : Same H H') : ∀ {xs : List Addr} {es : List (Addr × Option (Str × V))}, AllE H xs es → AllE H' xs es
  | [], [], _ => trivial
  | _ :: _, _ :: _, ⟨a, b⟩ => ⟨a.same s, AllE.same s b⟩
  | [], _ :: _, h => h
  | _ :: _, [], h => h
theorem AllE.len {H : Hp} : ∀ {xs : List Addr} {es : List (Addr × Option (Str × V))}, AllE H xs es → xs.length = es.length
  | [], [], _ => rfl
  | _ :: _, _ :: _, ⟨_, b⟩ => congrArg (· + 1) b.len
  | [], _ :: _, h => h.elim
  | _ :: _, [], h => h.elim
theorem AllE.get {H : Hp} : ∀ {xs : List Addr} {es : List (Addr × Option (Str × V))} {i : Nat} {e : Addr × Option (Str × V)}, AllE H xs es → es[i]? = some e → ∃ x, xs[i]? = some x ∧ ErrI H x e.1 e.2
  | _ :: _, _ :: _, 0, _, ⟨a, _⟩, h => by cases h; exact ⟨_, rfl, a⟩
  | _ :: _, _ :: _, i + 1, _, ⟨_, b⟩, h => AllE.get (i := i) b (by simpa using h)
  | [], _ :: _, _, _, h, _ => h.elim
  | _ :: _, [], _, _, h, _ => h.elim
end L2
namespace L2
open PySem
theorem vis0 {a b c : Prop} (h : a) : a ∨ b ∨ c := Or.inl h
theorem vis1 {a b c : Prop} (h : b) : a ∨ b ∨ c := Or.inr (Or.inl h)
theorem vis2 {a b c : Prop} (h : c) : a ∨ b ∨ c := Or.inr (Or.inr h)
end L2
namespace K05
open PySem L2 Tx
def top (i : Nat) : Stmt := PySem.Challenge.pw_mostwise_k05_refusals.main.body.getD i (.Pass ⟨0, 0, 0, 0⟩)
abbrev s_c_NoStatement_init : Stmt := inClass (top 2) 0
abbrev n_c_NoStatement_init : List Str := ["self", "found"]
theorem sc_c_NoStatement_init : FnScope n_c_NoStatement_init ["self", "found"] (defScope s_c_NoStatement_init) := ⟨rfl, rfl, rfl, by decide +kernel, rfl, by decide +kernel, by decide +kernel⟩
abbrev s_c_NoRow_init : Stmt := inClass (top 3) 0
abbrev n_c_NoRow_init : List Str := ["self", "found"]
theorem sc_c_NoRow_init : FnScope n_c_NoRow_init ["self", "found"] (defScope s_c_NoRow_init) := ⟨rfl, rfl, rfl, by decide +kernel, rfl, by decide +kernel, by decide +kernel⟩
abbrev s_c_NoThing_init : Stmt := inClass (top 4) 0
abbrev n_c_NoThing_init : List Str := ["self", "found"]
theorem sc_c_NoThing_init : FnScope n_c_NoThing_init ["self", "found"] (defScope s_c_NoThing_init) := ⟨rfl, rfl, rfl, by decide +kernel, rfl, by decide +kernel, by decide +kernel⟩
abbrev s_c_Doubled_init : Stmt := inClass (top 5) 0
abbrev n_c_Doubled_init : List Str := ["self", "found"]
theorem sc_c_Doubled_init : FnScope n_c_Doubled_init ["self", "found"] (defScope s_c_Doubled_init) := ⟨rfl, rfl, rfl, by decide +kernel, rfl, by decide +kernel, by decide +kernel⟩
abbrev s_c_NoLabel_init : Stmt := inClass (top 6) 0
abbrev n_c_NoLabel_init : List Str := ["self", "found"]
theorem sc_c_NoLabel_init : FnScope n_c_NoLabel_init ["self", "found"] (defScope s_c_NoLabel_init) := ⟨rfl, rfl, rfl, by decide +kernel, rfl, by decide +kernel, by decide +kernel⟩
abbrev s_c_NoFact_init : Stmt := inClass (top 7) 0
abbrev n_c_NoFact_init : List Str := ["self", "found"]
theorem sc_c_NoFact_init : FnScope n_c_NoFact_init ["self", "found"] (defScope s_c_NoFact_init) := ⟨rfl, rfl, rfl, by decide +kernel, rfl, by decide +kernel, by decide +kernel⟩
abbrev s_c_NoBeat_init : Stmt := inClass (top 8) 0
abbrev n_c_NoBeat_init : List Str := ["self", "found"]
theorem sc_c_NoBeat_init : FnScope n_c_NoBeat_init ["self", "found"] (defScope s_c_NoBeat_init) := ⟨rfl, rfl, rfl, by decide +kernel, rfl, by decide +kernel, by decide +kernel⟩
abbrev s_c_TooMany_init : Stmt := inClass (top 9) 0
abbrev n_c_TooMany_init : List Str := ["self", "count"]
theorem sc_c_TooMany_init : FnScope n_c_TooMany_init ["self", "count"] (defScope s_c_TooMany_init) := ⟨rfl, rfl, rfl, by decide +kernel, rfl, by decide +kernel, by decide +kernel⟩
abbrev s_c_Ring_init : Stmt := inClass (top 10) 0
abbrev n_c_Ring_init : List Str := ["self", "chain"]
theorem sc_c_Ring_init : FnScope n_c_Ring_init ["self", "chain"] (defScope s_c_Ring_init) := ⟨rfl, rfl, rfl, by decide +kernel, rfl, by decide +kernel, by decide +kernel⟩
abbrev s_c_StillOpen_init : Stmt := inClass (top 11) 0
abbrev n_c_StillOpen_init : List Str := ["self", "found"]
theorem sc_c_StillOpen_init : FnScope n_c_StillOpen_init ["self", "found"] (defScope s_c_StillOpen_init) := ⟨rfl, rfl, rfl, by decide +kernel, rfl, by decide +kernel, by decide +kernel⟩
abbrev s_c_Decided_init : Stmt := inClass (top 12) 0
abbrev n_c_Decided_init : List Str := ["self", "found"]
theorem sc_c_Decided_init : FnScope n_c_Decided_init ["self", "found"] (defScope s_c_Decided_init) := ⟨rfl, rfl, rfl, by decide +kernel, rfl, by decide +kernel, by decide +kernel⟩
abbrev s_c_NoStand_init : Stmt := inClass (top 13) 0
abbrev n_c_NoStand_init : List Str := ["self", "found"]
theorem sc_c_NoStand_init : FnScope n_c_NoStand_init ["self", "found"] (defScope s_c_NoStand_init) := ⟨rfl, rfl, rfl, by decide +kernel, rfl, by decide +kernel, by decide +kernel⟩
abbrev s_d_l_cell : Stmt := top 16
abbrev n_d_l_cell : List Str := ["_law_script", "_law_k"]
theorem sc_d_l_cell : FnScope n_d_l_cell ["_law_script", "_law_k"] (defScope s_d_l_cell) := ⟨rfl, rfl, rfl, by decide +kernel, rfl, by decide +kernel, by decide +kernel⟩
abbrev s_d_l_mixed : Stmt := top 17
abbrev n_d_l_mixed : List Str := ["_law_cell_here", "_law_k", "_law_number"]
theorem sc_d_l_mixed : FnScope n_d_l_mixed ["_law_cell_here", "_law_k"] (defScope s_d_l_mixed) := ⟨rfl, rfl, rfl, by decide +kernel, rfl, by decide +kernel, by decide +kernel⟩
abbrev s_d_l_errors : Stmt := top 18
abbrev n_d_l_errors : List Str := ["_law_thing", "_law_count", "_law_chain", "_law_some"]
theorem sc_d_l_errors : FnScope n_d_l_errors ["_law_thing", "_law_count", "_law_chain"] (defScope s_d_l_errors) := ⟨rfl, rfl, rfl, by decide +kernel, rfl, by decide +kernel, by decide +kernel⟩
abbrev s_d_l_kinds : Stmt := top 19
abbrev n_d_l_kinds : List Str := ["_law_one", "_law_some"]
theorem sc_d_l_kinds : FnScope n_d_l_kinds ["_law_one"] (defScope s_d_l_kinds) := ⟨rfl, rfl, rfl, by decide +kernel, rfl, by decide +kernel, by decide +kernel⟩
abbrev s_d_law : Stmt := top 20
abbrev n_d_law : List Str := ["_law_script", "_law_cell_here", "_law_text", "_law_k", "_law_number", "_law_chain", "_law_thing", "_law_some", "_law_one"]
theorem sc_d_law : FnScope n_d_law ["_law_script"] (defScope s_d_law) := ⟨rfl, rfl, rfl, by decide +kernel, rfl, by decide +kernel, by decide +kernel⟩
structure Adr where
  f_c_NoStatement_init : Addr
  fd_c_NoStatement_init : FuncData
  f_c_NoRow_init : Addr
  fd_c_NoRow_init : FuncData
  f_c_NoThing_init : Addr
  fd_c_NoThing_init : FuncData
  f_c_Doubled_init : Addr
  fd_c_Doubled_init : FuncData
  f_c_NoLabel_init : Addr
  fd_c_NoLabel_init : FuncData
  f_c_NoFact_init : Addr
  fd_c_NoFact_init : FuncData
  f_c_NoBeat_init : Addr
  fd_c_NoBeat_init : FuncData
  f_c_TooMany_init : Addr
  fd_c_TooMany_init : FuncData
  f_c_Ring_init : Addr
  fd_c_Ring_init : FuncData
  f_c_StillOpen_init : Addr
  fd_c_StillOpen_init : FuncData
  f_c_Decided_init : Addr
  fd_c_Decided_init : FuncData
  f_c_NoStand_init : Addr
  fd_c_NoStand_init : FuncData
  f_d_l_cell : Addr
  fd_d_l_cell : FuncData
  f_d_l_mixed : Addr
  fd_d_l_mixed : FuncData
  f_d_l_errors : Addr
  fd_d_l_errors : FuncData
  f_d_l_kinds : Addr
  fd_d_l_kinds : FuncData
  f_d_law : Addr
  fd_d_law : FuncData
  C_MostError : Addr
  C_NoStatement : Addr
  C_NoRow : Addr
  C_NoThing : Addr
  C_Doubled : Addr
  C_NoLabel : Addr
  C_NoFact : Addr
  C_NoBeat : Addr
  C_TooMany : Addr
  C_Ring : Addr
  C_StillOpen : Addr
  C_Decided : Addr
  C_NoStand : Addr
  C_NoTurn : Addr
structure Txt (K : PySem.W.Frag) (mg : Str → Option Value) (t : Adr) : Prop where
  F_c_NoStatement_init : Fun K "__init__" "NoStatement.__init__" s_c_NoStatement_init t.f_c_NoStatement_init t.fd_c_NoStatement_init
  b_c_NoStatement_init : Binds K t.fd_c_NoStatement_init ["self", "found"] []
  F_c_NoRow_init : Fun K "__init__" "NoRow.__init__" s_c_NoRow_init t.f_c_NoRow_init t.fd_c_NoRow_init
  b_c_NoRow_init : Binds K t.fd_c_NoRow_init ["self", "found"] []
  F_c_NoThing_init : Fun K "__init__" "NoThing.__init__" s_c_NoThing_init t.f_c_NoThing_init t.fd_c_NoThing_init
  b_c_NoThing_init : Binds K t.fd_c_NoThing_init ["self", "found"] []
  F_c_Doubled_init : Fun K "__init__" "Doubled.__init__" s_c_Doubled_init t.f_c_Doubled_init t.fd_c_Doubled_init
  b_c_Doubled_init : Binds K t.fd_c_Doubled_init ["self", "found"] []
  F_c_NoLabel_init : Fun K "__init__" "NoLabel.__init__" s_c_NoLabel_init t.f_c_NoLabel_init t.fd_c_NoLabel_init
  b_c_NoLabel_init : Binds K t.fd_c_NoLabel_init ["self", "found"] []
  F_c_NoFact_init : Fun K "__init__" "NoFact.__init__" s_c_NoFact_init t.f_c_NoFact_init t.fd_c_NoFact_init
  b_c_NoFact_init : Binds K t.fd_c_NoFact_init ["self", "found"] []
  F_c_NoBeat_init : Fun K "__init__" "NoBeat.__init__" s_c_NoBeat_init t.f_c_NoBeat_init t.fd_c_NoBeat_init
  b_c_NoBeat_init : Binds K t.fd_c_NoBeat_init ["self", "found"] []
  F_c_TooMany_init : Fun K "__init__" "TooMany.__init__" s_c_TooMany_init t.f_c_TooMany_init t.fd_c_TooMany_init
  b_c_TooMany_init : Binds K t.fd_c_TooMany_init ["self", "count"] []
  F_c_Ring_init : Fun K "__init__" "Ring.__init__" s_c_Ring_init t.f_c_Ring_init t.fd_c_Ring_init
  b_c_Ring_init : Binds K t.fd_c_Ring_init ["self", "chain"] []
  F_c_StillOpen_init : Fun K "__init__" "StillOpen.__init__" s_c_StillOpen_init t.f_c_StillOpen_init t.fd_c_StillOpen_init
  b_c_StillOpen_init : Binds K t.fd_c_StillOpen_init ["self", "found"] []
  F_c_Decided_init : Fun K "__init__" "Decided.__init__" s_c_Decided_init t.f_c_Decided_init t.fd_c_Decided_init
  b_c_Decided_init : Binds K t.fd_c_Decided_init ["self", "found"] []
  F_c_NoStand_init : Fun K "__init__" "NoStand.__init__" s_c_NoStand_init t.f_c_NoStand_init t.fd_c_NoStand_init
  b_c_NoStand_init : Binds K t.fd_c_NoStand_init ["self", "found"] []
  F_d_l_cell : Fun K "_law_cell" "_law_cell" s_d_l_cell t.f_d_l_cell t.fd_d_l_cell
  b_d_l_cell : Binds K t.fd_d_l_cell ["_law_script", "_law_k"] []
  g_d_l_cell : mg "_law_cell" = some (.ref t.f_d_l_cell)
  F_d_l_mixed : Fun K "_law_mixed" "_law_mixed" s_d_l_mixed t.f_d_l_mixed t.fd_d_l_mixed
  b_d_l_mixed : Binds K t.fd_d_l_mixed ["_law_cell_here", "_law_k"] []
  g_d_l_mixed : mg "_law_mixed" = some (.ref t.f_d_l_mixed)
  F_d_l_errors : Fun K "_law_errors" "_law_errors" s_d_l_errors t.f_d_l_errors t.fd_d_l_errors
  b_d_l_errors : Binds K t.fd_d_l_errors ["_law_thing", "_law_count", "_law_chain"] []
  g_d_l_errors : mg "_law_errors" = some (.ref t.f_d_l_errors)
  F_d_l_kinds : Fun K "_law_kinds" "_law_kinds" s_d_l_kinds t.f_d_l_kinds t.fd_d_l_kinds
  b_d_l_kinds : Binds K t.fd_d_l_kinds ["_law_one"] []
  g_d_l_kinds : mg "_law_kinds" = some (.ref t.f_d_l_kinds)
  F_d_law : Fun K "law" "law" s_d_law t.f_d_law t.fd_d_law
  b_d_law : Binds K t.fd_d_law ["_law_script"] []
  g_d_law : mg "law" = some (.ref t.f_d_law)
  g_MostError : mg "MostError" = some (.ref t.C_MostError)
  g_NoStatement : mg "NoStatement" = some (.ref t.C_NoStatement)
  g_NoRow : mg "NoRow" = some (.ref t.C_NoRow)
  g_NoThing : mg "NoThing" = some (.ref t.C_NoThing)
  g_Doubled : mg "Doubled" = some (.ref t.C_Doubled)
  g_NoLabel : mg "NoLabel" = some (.ref t.C_NoLabel)
  g_NoFact : mg "NoFact" = some (.ref t.C_NoFact)
  g_NoBeat : mg "NoBeat" = some (.ref t.C_NoBeat)
  g_TooMany : mg "TooMany" = some (.ref t.C_TooMany)
  g_Ring : mg "Ring" = some (.ref t.C_Ring)
  g_StillOpen : mg "StillOpen" = some (.ref t.C_StillOpen)
  g_Decided : mg "Decided" = some (.ref t.C_Decided)
  g_NoStand : mg "NoStand" = some (.ref t.C_NoStand)
  g_NoTurn : mg "NoTurn" = some (.ref t.C_NoTurn)
  z_ValueError : mg "ValueError" = none
  z_enumerate : mg "enumerate" = none
  z_isinstance : mg "isinstance" = none
  z_len : mg "len" = none
  z_list : mg "list" = none
  z_range : mg "range" = none
  x_NoStatement : XOk K t.C_NoStatement t.f_c_NoStatement_init "found"
  x_NoRow : XOk K t.C_NoRow t.f_c_NoRow_init "found"
  x_NoThing : XOk K t.C_NoThing t.f_c_NoThing_init "found"
  x_Doubled : XOk K t.C_Doubled t.f_c_Doubled_init "found"
  x_NoLabel : XOk K t.C_NoLabel t.f_c_NoLabel_init "found"
  x_NoFact : XOk K t.C_NoFact t.f_c_NoFact_init "found"
  x_NoBeat : XOk K t.C_NoBeat t.f_c_NoBeat_init "found"
  x_TooMany : XOk K t.C_TooMany t.f_c_TooMany_init "count"
  x_Ring : XOk K t.C_Ring t.f_c_Ring_init "chain"
  x_StillOpen : XOk K t.C_StillOpen t.f_c_StillOpen_init "found"
  x_Decided : XOk K t.C_Decided t.f_c_Decided_init "found"
  x_NoStand : XOk K t.C_NoStand t.f_c_NoStand_init "found"
  x_NoTurn : XOk0 K t.C_NoTurn
  xt_own : kiTab K [t.C_NoStatement, t.C_NoRow, t.C_NoThing, t.C_Doubled, t.C_NoLabel, t.C_NoFact, t.C_NoBeat, t.C_StillOpen, t.C_Decided, t.C_NoStand, t.C_TooMany, t.C_Ring, t.C_NoTurn] [.ref t.C_NoStatement, .ref t.C_NoRow, .ref t.C_NoThing, .ref t.C_Doubled, .ref t.C_NoLabel, .ref t.C_NoFact, .ref t.C_NoBeat, .ref t.C_StillOpen, .ref t.C_Decided, .ref t.C_NoStand, .ref t.C_TooMany, .ref t.C_Ring, .ref t.C_NoTurn] (fun i j => decide (i = j))
  xt_up : kiTab K [t.C_NoStatement, t.C_NoRow, t.C_NoThing, t.C_Doubled, t.C_NoLabel, t.C_NoFact, t.C_NoBeat, t.C_StillOpen, t.C_Decided, t.C_NoStand, t.C_TooMany, t.C_Ring, t.C_NoTurn] [.ref t.C_MostError, .type "ValueError"] (fun _ _ => true)
theorem txt_mk {K : PySem.W.Frag} {h : Heap} {mg : Str → Option Value} (X : K.In h) (G : h.Ns mainGlobals mg)
 {f_c_NoStatement_init : Addr} {od_c_NoStatement_init an_c_NoStatement_init : Option Addr} {sl_c_NoStatement_init : Array (Option Value)} {oc_c_NoStatement_init kV_c_NoStatement_init dc_c_NoStatement_init pm_c_NoStatement_init cd_c_NoStatement_init ct_c_NoStatement_init : Value}
 {f_c_NoRow_init : Addr} {od_c_NoRow_init an_c_NoRow_init : Option Addr} {sl_c_NoRow_init : Array (Option Value)} {oc_c_NoRow_init kV_c_NoRow_init dc_c_NoRow_init pm_c_NoRow_init cd_c_NoRow_init ct_c_NoRow_init : Value}
 {f_c_NoThing_init : Addr} {od_c_NoThing_init an_c_NoThing_init : Option Addr} {sl_c_NoThing_init : Array (Option Value)} {oc_c_NoThing_init kV_c_NoThing_init dc_c_NoThing_init pm_c_NoThing_init cd_c_NoThing_init ct_c_NoThing_init : Value}
 {f_c_Doubled_init : Addr} {od_c_Doubled_init an_c_Doubled_init : Option Addr} {sl_c_Doubled_init : Array (Option Value)} {oc_c_Doubled_init kV_c_Doubled_init dc_c_Doubled_init pm_c_Doubled_init cd_c_Doubled_init ct_c_Doubled_init : Value}
 {f_c_NoLabel_init : Addr} {od_c_NoLabel_init an_c_NoLabel_init : Option Addr} {sl_c_NoLabel_init : Array (Option Value)} {oc_c_NoLabel_init kV_c_NoLabel_init dc_c_NoLabel_init pm_c_NoLabel_init cd_c_NoLabel_init ct_c_NoLabel_init : Value}
 {f_c_NoFact_init : Addr} {od_c_NoFact_init an_c_NoFact_init : Option Addr} {sl_c_NoFact_init : Array (Option Value)} {oc_c_NoFact_init kV_c_NoFact_init dc_c_NoFact_init pm_c_NoFact_init cd_c_NoFact_init ct_c_NoFact_init : Value}
 {f_c_NoBeat_init : Addr} {od_c_NoBeat_init an_c_NoBeat_init : Option Addr} {sl_c_NoBeat_init : Array (Option Value)} {oc_c_NoBeat_init kV_c_NoBeat_init dc_c_NoBeat_init pm_c_NoBeat_init cd_c_NoBeat_init ct_c_NoBeat_init : Value}
 {f_c_TooMany_init : Addr} {od_c_TooMany_init an_c_TooMany_init : Option Addr} {sl_c_TooMany_init : Array (Option Value)} {oc_c_TooMany_init kV_c_TooMany_init dc_c_TooMany_init pm_c_TooMany_init cd_c_TooMany_init ct_c_TooMany_init : Value}
 {f_c_Ring_init : Addr} {od_c_Ring_init an_c_Ring_init : Option Addr} {sl_c_Ring_init : Array (Option Value)} {oc_c_Ring_init kV_c_Ring_init dc_c_Ring_init pm_c_Ring_init cd_c_Ring_init ct_c_Ring_init : Value}
 {f_c_StillOpen_init : Addr} {od_c_StillOpen_init an_c_StillOpen_init : Option Addr} {sl_c_StillOpen_init : Array (Option Value)} {oc_c_StillOpen_init kV_c_StillOpen_init dc_c_StillOpen_init pm_c_StillOpen_init cd_c_StillOpen_init ct_c_StillOpen_init : Value}
 {f_c_Decided_init : Addr} {od_c_Decided_init an_c_Decided_init : Option Addr} {sl_c_Decided_init : Array (Option Value)} {oc_c_Decided_init kV_c_Decided_init dc_c_Decided_init pm_c_Decided_init cd_c_Decided_init ct_c_Decided_init : Value}
 {f_c_NoStand_init : Addr} {od_c_NoStand_init an_c_NoStand_init : Option Addr} {sl_c_NoStand_init : Array (Option Value)} {oc_c_NoStand_init kV_c_NoStand_init dc_c_NoStand_init pm_c_NoStand_init cd_c_NoStand_init ct_c_NoStand_init : Value}
 {f_d_l_cell : Addr} {od_d_l_cell an_d_l_cell : Option Addr} {sl_d_l_cell : Array (Option Value)} {oc_d_l_cell kV_d_l_cell dc_d_l_cell pm_d_l_cell cd_d_l_cell ct_d_l_cell : Value}
 {f_d_l_mixed : Addr} {od_d_l_mixed an_d_l_mixed : Option Addr} {sl_d_l_mixed : Array (Option Value)} {oc_d_l_mixed kV_d_l_mixed dc_d_l_mixed pm_d_l_mixed cd_d_l_mixed ct_d_l_mixed : Value}
 {f_d_l_errors : Addr} {od_d_l_errors an_d_l_errors : Option Addr} {sl_d_l_errors : Array (Option Value)} {oc_d_l_errors kV_d_l_errors dc_d_l_errors pm_d_l_errors cd_d_l_errors ct_d_l_errors : Value}
 {f_d_l_kinds : Addr} {od_d_l_kinds an_d_l_kinds : Option Addr} {sl_d_l_kinds : Array (Option Value)} {oc_d_l_kinds kV_d_l_kinds dc_d_l_kinds pm_d_l_kinds cd_d_l_kinds ct_d_l_kinds : Value}
 {f_d_law : Addr} {od_d_law an_d_law : Option Addr} {sl_d_law : Array (Option Value)} {oc_d_law kV_d_law dc_d_law pm_d_law cd_d_law ct_d_law : Value}
 {C_MostError : Addr}
 {C_NoStatement : Addr}
 {C_NoRow : Addr}
 {C_NoThing : Addr}
 {C_Doubled : Addr}
 {C_NoLabel : Addr}
 {C_NoFact : Addr}
 {C_NoBeat : Addr}
 {C_TooMany : Addr}
 {C_Ring : Addr}
 {C_StillOpen : Addr}
 {C_Decided : Addr}
 {C_NoStand : Addr}
 {C_NoTurn : Addr}
 (a_MostError : PySem.W.nsIn K mainGlobals "MostError" = some (some (.ref C_MostError)))
 (a_NoStatement : PySem.W.nsIn K mainGlobals "NoStatement" = some (some (.ref C_NoStatement)))
 (a_NoRow : PySem.W.nsIn K mainGlobals "NoRow" = some (some (.ref C_NoRow)))
 (a_NoThing : PySem.W.nsIn K mainGlobals "NoThing" = some (some (.ref C_NoThing)))
 (a_Doubled : PySem.W.nsIn K mainGlobals "Doubled" = some (some (.ref C_Doubled)))
 (a_NoLabel : PySem.W.nsIn K mainGlobals "NoLabel" = some (some (.ref C_NoLabel)))
 (a_NoFact : PySem.W.nsIn K mainGlobals "NoFact" = some (some (.ref C_NoFact)))
 (a_NoBeat : PySem.W.nsIn K mainGlobals "NoBeat" = some (some (.ref C_NoBeat)))
 (a_TooMany : PySem.W.nsIn K mainGlobals "TooMany" = some (some (.ref C_TooMany)))
 (a_Ring : PySem.W.nsIn K mainGlobals "Ring" = some (some (.ref C_Ring)))
 (a_StillOpen : PySem.W.nsIn K mainGlobals "StillOpen" = some (some (.ref C_StillOpen)))
 (a_Decided : PySem.W.nsIn K mainGlobals "Decided" = some (some (.ref C_Decided)))
 (a_NoStand : PySem.W.nsIn K mainGlobals "NoStand" = some (some (.ref C_NoStand)))
 (a_NoTurn : PySem.W.nsIn K mainGlobals "NoTurn" = some (some (.ref C_NoTurn)))
 (a_c_NoStatement_init : PySem.W.findIn K (.ref C_NoStatement) "__init__" = some (some (.ref f_c_NoStatement_init)))
 (l_c_NoStatement_init : K.lookup f_c_NoStatement_init = some ⟨oc_c_NoStatement_init, od_c_NoStatement_init, .func (PySem.W.fnOf "__init__" "NoStatement.__init__" (defArgs s_c_NoStatement_init) (defBody s_c_NoStatement_init) (defScope s_c_NoStatement_init) .none kV_c_NoStatement_init dc_c_NoStatement_init pm_c_NoStatement_init an_c_NoStatement_init cd_c_NoStatement_init ct_c_NoStatement_init), sl_c_NoStatement_init⟩)
 (c_c_NoStatement_init : PySem.W.codeIn K cd_c_NoStatement_init "NoStatement.__init__" = true) (p_c_NoStatement_init : PySem.W.keepIn K (.ref f_c_NoStatement_init) = true)
 (a_c_NoRow_init : PySem.W.findIn K (.ref C_NoRow) "__init__" = some (some (.ref f_c_NoRow_init)))
 (l_c_NoRow_init : K.lookup f_c_NoRow_init = some ⟨oc_c_NoRow_init, od_c_NoRow_init, .func (PySem.W.fnOf "__init__" "NoRow.__init__" (defArgs s_c_NoRow_init) (defBody s_c_NoRow_init) (defScope s_c_NoRow_init) .none kV_c_NoRow_init dc_c_NoRow_init pm_c_NoRow_init an_c_NoRow_init cd_c_NoRow_init ct_c_NoRow_init), sl_c_NoRow_init⟩)
 (c_c_NoRow_init : PySem.W.codeIn K cd_c_NoRow_init "NoRow.__init__" = true) (p_c_NoRow_init : PySem.W.keepIn K (.ref f_c_NoRow_init) = true)
 (a_c_NoThing_init : PySem.W.findIn K (.ref C_NoThing) "__init__" = some (some (.ref f_c_NoThing_init)))
 (l_c_NoThing_init : K.lookup f_c_NoThing_init = some ⟨oc_c_NoThing_init, od_c_NoThing_init, .func (PySem.W.fnOf "__init__" "NoThing.__init__" (defArgs s_c_NoThing_init) (defBody s_c_NoThing_init) (defScope s_c_NoThing_init) .none kV_c_NoThing_init dc_c_NoThing_init pm_c_NoThing_init an_c_NoThing_init cd_c_NoThing_init ct_c_NoThing_init), sl_c_NoThing_init⟩)
 (c_c_NoThing_init : PySem.W.codeIn K cd_c_NoThing_init "NoThing.__init__" = true) (p_c_NoThing_init : PySem.W.keepIn K (.ref f_c_NoThing_init) = true)
 (a_c_Doubled_init : PySem.W.findIn K (.ref C_Doubled) "__init__" = some (some (.ref f_c_Doubled_init)))
 (l_c_Doubled_init : K.lookup f_c_Doubled_init = some ⟨oc_c_Doubled_init, od_c_Doubled_init, .func (PySem.W.fnOf "__init__" "Doubled.__init__" (defArgs s_c_Doubled_init) (defBody s_c_Doubled_init) (defScope s_c_Doubled_init) .none kV_c_Doubled_init dc_c_Doubled_init pm_c_Doubled_init an_c_Doubled_init cd_c_Doubled_init ct_c_Doubled_init), sl_c_Doubled_init⟩)
 (c_c_Doubled_init : PySem.W.codeIn K cd_c_Doubled_init "Doubled.__init__" = true) (p_c_Doubled_init : PySem.W.keepIn K (.ref f_c_Doubled_init) = true)
 (a_c_NoLabel_init : PySem.W.findIn K (.ref C_NoLabel) "__init__" = some (some (.ref f_c_NoLabel_init)))
 (l_c_NoLabel_init : K.lookup f_c_NoLabel_init = some ⟨oc_c_NoLabel_init, od_c_NoLabel_init, .func (PySem.W.fnOf "__init__" "NoLabel.__init__" (defArgs s_c_NoLabel_init) (defBody s_c_NoLabel_init) (defScope s_c_NoLabel_init) .none kV_c_NoLabel_init dc_c_NoLabel_init pm_c_NoLabel_init an_c_NoLabel_init cd_c_NoLabel_init ct_c_NoLabel_init), sl_c_NoLabel_init⟩)
 (c_c_NoLabel_init : PySem.W.codeIn K cd_c_NoLabel_init "NoLabel.__init__" = true) (p_c_NoLabel_init : PySem.W.keepIn K (.ref f_c_NoLabel_init) = true)
 (a_c_NoFact_init : PySem.W.findIn K (.ref C_NoFact) "__init__" = some (some (.ref f_c_NoFact_init)))
 (l_c_NoFact_init : K.lookup f_c_NoFact_init = some ⟨oc_c_NoFact_init, od_c_NoFact_init, .func (PySem.W.fnOf "__init__" "NoFact.__init__" (defArgs s_c_NoFact_init) (defBody s_c_NoFact_init) (defScope s_c_NoFact_init) .none kV_c_NoFact_init dc_c_NoFact_init pm_c_NoFact_init an_c_NoFact_init cd_c_NoFact_init ct_c_NoFact_init), sl_c_NoFact_init⟩)
 (c_c_NoFact_init : PySem.W.codeIn K cd_c_NoFact_init "NoFact.__init__" = true) (p_c_NoFact_init : PySem.W.keepIn K (.ref f_c_NoFact_init) = true)
 (a_c_NoBeat_init : PySem.W.findIn K (.ref C_NoBeat) "__init__" = some (some (.ref f_c_NoBeat_init)))
 (l_c_NoBeat_init : K.lookup f_c_NoBeat_init = some ⟨oc_c_NoBeat_init, od_c_NoBeat_init, .func (PySem.W.fnOf "__init__" "NoBeat.__init__" (defArgs s_c_NoBeat_init) (defBody s_c_NoBeat_init) (defScope s_c_NoBeat_init) .none kV_c_NoBeat_init dc_c_NoBeat_init pm_c_NoBeat_init an_c_NoBeat_init cd_c_NoBeat_init ct_c_NoBeat_init), sl_c_NoBeat_init⟩)
 (c_c_NoBeat_init : PySem.W.codeIn K cd_c_NoBeat_init "NoBeat.__init__" = true) (p_c_NoBeat_init : PySem.W.keepIn K (.ref f_c_NoBeat_init) = true)
 (a_c_TooMany_init : PySem.W.findIn K (.ref C_TooMany) "__init__" = some (some (.ref f_c_TooMany_init)))
 (l_c_TooMany_init : K.lookup f_c_TooMany_init = some ⟨oc_c_TooMany_init, od_c_TooMany_init, .func (PySem.W.fnOf "__init__" "TooMany.__init__" (defArgs s_c_TooMany_init) (defBody s_c_TooMany_init) (defScope s_c_TooMany_init) .none kV_c_TooMany_init dc_c_TooMany_init pm_c_TooMany_init an_c_TooMany_init cd_c_TooMany_init ct_c_TooMany_init), sl_c_TooMany_init⟩)
 (c_c_TooMany_init : PySem.W.codeIn K cd_c_TooMany_init "TooMany.__init__" = true) (p_c_TooMany_init : PySem.W.keepIn K (.ref f_c_TooMany_init) = true)
 (a_c_Ring_init : PySem.W.findIn K (.ref C_Ring) "__init__" = some (some (.ref f_c_Ring_init)))
 (l_c_Ring_init : K.lookup f_c_Ring_init = some ⟨oc_c_Ring_init, od_c_Ring_init, .func (PySem.W.fnOf "__init__" "Ring.__init__" (defArgs s_c_Ring_init) (defBody s_c_Ring_init) (defScope s_c_Ring_init) .none kV_c_Ring_init dc_c_Ring_init pm_c_Ring_init an_c_Ring_init cd_c_Ring_init ct_c_Ring_init), sl_c_Ring_init⟩)
 (c_c_Ring_init : PySem.W.codeIn K cd_c_Ring_init "Ring.__init__" = true) (p_c_Ring_init : PySem.W.keepIn K (.ref f_c_Ring_init) = true)
 (a_c_StillOpen_init : PySem.W.findIn K (.ref C_StillOpen) "__init__" = some (some (.ref f_c_StillOpen_init)))
 (l_c_StillOpen_init : K.lookup f_c_StillOpen_init = some ⟨oc_c_StillOpen_init, od_c_StillOpen_init, .func (PySem.W.fnOf "__init__" "StillOpen.__init__" (defArgs s_c_StillOpen_init) (defBody s_c_StillOpen_init) (defScope s_c_StillOpen_init) .none kV_c_StillOpen_init dc_c_StillOpen_init pm_c_StillOpen_init an_c_StillOpen_init cd_c_StillOpen_init ct_c_StillOpen_init), sl_c_StillOpen_init⟩)
 (c_c_StillOpen_init : PySem.W.codeIn K cd_c_StillOpen_init "StillOpen.__init__" = true) (p_c_StillOpen_init : PySem.W.keepIn K (.ref f_c_StillOpen_init) = true)
 (a_c_Decided_init : PySem.W.findIn K (.ref C_Decided) "__init__" = some (some (.ref f_c_Decided_init)))
 (l_c_Decided_init : K.lookup f_c_Decided_init = some ⟨oc_c_Decided_init, od_c_Decided_init, .func (PySem.W.fnOf "__init__" "Decided.__init__" (defArgs s_c_Decided_init) (defBody s_c_Decided_init) (defScope s_c_Decided_init) .none kV_c_Decided_init dc_c_Decided_init pm_c_Decided_init an_c_Decided_init cd_c_Decided_init ct_c_Decided_init), sl_c_Decided_init⟩)
 (c_c_Decided_init : PySem.W.codeIn K cd_c_Decided_init "Decided.__init__" = true) (p_c_Decided_init : PySem.W.keepIn K (.ref f_c_Decided_init) = true)
 (a_c_NoStand_init : PySem.W.findIn K (.ref C_NoStand) "__init__" = some (some (.ref f_c_NoStand_init)))
 (l_c_NoStand_init : K.lookup f_c_NoStand_init = some ⟨oc_c_NoStand_init, od_c_NoStand_init, .func (PySem.W.fnOf "__init__" "NoStand.__init__" (defArgs s_c_NoStand_init) (defBody s_c_NoStand_init) (defScope s_c_NoStand_init) .none kV_c_NoStand_init dc_c_NoStand_init pm_c_NoStand_init an_c_NoStand_init cd_c_NoStand_init ct_c_NoStand_init), sl_c_NoStand_init⟩)
 (c_c_NoStand_init : PySem.W.codeIn K cd_c_NoStand_init "NoStand.__init__" = true) (p_c_NoStand_init : PySem.W.keepIn K (.ref f_c_NoStand_init) = true)
 (a_d_l_cell : PySem.W.nsIn K mainGlobals "_law_cell" = some (some (.ref f_d_l_cell)))
 (l_d_l_cell : K.lookup f_d_l_cell = some ⟨oc_d_l_cell, od_d_l_cell, .func (PySem.W.fnOf "_law_cell" "_law_cell" (defArgs s_d_l_cell) (defBody s_d_l_cell) (defScope s_d_l_cell) .none kV_d_l_cell dc_d_l_cell pm_d_l_cell an_d_l_cell cd_d_l_cell ct_d_l_cell), sl_d_l_cell⟩)
 (c_d_l_cell : PySem.W.codeIn K cd_d_l_cell "_law_cell" = true) (p_d_l_cell : PySem.W.keepIn K (.ref f_d_l_cell) = true)
 (a_d_l_mixed : PySem.W.nsIn K mainGlobals "_law_mixed" = some (some (.ref f_d_l_mixed)))
 (l_d_l_mixed : K.lookup f_d_l_mixed = some ⟨oc_d_l_mixed, od_d_l_mixed, .func (PySem.W.fnOf "_law_mixed" "_law_mixed" (defArgs s_d_l_mixed) (defBody s_d_l_mixed) (defScope s_d_l_mixed) .none kV_d_l_mixed dc_d_l_mixed pm_d_l_mixed an_d_l_mixed cd_d_l_mixed ct_d_l_mixed), sl_d_l_mixed⟩)
 (c_d_l_mixed : PySem.W.codeIn K cd_d_l_mixed "_law_mixed" = true) (p_d_l_mixed : PySem.W.keepIn K (.ref f_d_l_mixed) = true)
 (a_d_l_errors : PySem.W.nsIn K mainGlobals "_law_errors" = some (some (.ref f_d_l_errors)))
 (l_d_l_errors : K.lookup f_d_l_errors = some ⟨oc_d_l_errors, od_d_l_errors, .func (PySem.W.fnOf "_law_errors" "_law_errors" (defArgs s_d_l_errors) (defBody s_d_l_errors) (defScope s_d_l_errors) .none kV_d_l_errors dc_d_l_errors pm_d_l_errors an_d_l_errors cd_d_l_errors ct_d_l_errors), sl_d_l_errors⟩)
 (c_d_l_errors : PySem.W.codeIn K cd_d_l_errors "_law_errors" = true) (p_d_l_errors : PySem.W.keepIn K (.ref f_d_l_errors) = true)
 (a_d_l_kinds : PySem.W.nsIn K mainGlobals "_law_kinds" = some (some (.ref f_d_l_kinds)))
 (l_d_l_kinds : K.lookup f_d_l_kinds = some ⟨oc_d_l_kinds, od_d_l_kinds, .func (PySem.W.fnOf "_law_kinds" "_law_kinds" (defArgs s_d_l_kinds) (defBody s_d_l_kinds) (defScope s_d_l_kinds) .none kV_d_l_kinds dc_d_l_kinds pm_d_l_kinds an_d_l_kinds cd_d_l_kinds ct_d_l_kinds), sl_d_l_kinds⟩)
 (c_d_l_kinds : PySem.W.codeIn K cd_d_l_kinds "_law_kinds" = true) (p_d_l_kinds : PySem.W.keepIn K (.ref f_d_l_kinds) = true)
 (a_d_law : PySem.W.nsIn K mainGlobals "law" = some (some (.ref f_d_law)))
 (l_d_law : K.lookup f_d_law = some ⟨oc_d_law, od_d_law, .func (PySem.W.fnOf "law" "law" (defArgs s_d_law) (defBody s_d_law) (defScope s_d_law) .none kV_d_law dc_d_law pm_d_law an_d_law cd_d_law ct_d_law), sl_d_law⟩)
 (c_d_law : PySem.W.codeIn K cd_d_law "law" = true) (p_d_law : PySem.W.keepIn K (.ref f_d_law) = true)
 (z_ValueError : PySem.W.nsIn K mainGlobals "ValueError" = some none)
 (z_enumerate : PySem.W.nsIn K mainGlobals "enumerate" = some none)
 (z_isinstance : PySem.W.nsIn K mainGlobals "isinstance" = some none)
 (z_len : PySem.W.nsIn K mainGlobals "len" = some none)
 (z_list : PySem.W.nsIn K mainGlobals "list" = some none)
 (z_range : PySem.W.nsIn K mainGlobals "range" = some none)
 (x_NoStatement : xokIn K C_NoStatement f_c_NoStatement_init "found" = true)
 (x_NoRow : xokIn K C_NoRow f_c_NoRow_init "found" = true)
 (x_NoThing : xokIn K C_NoThing f_c_NoThing_init "found" = true)
 (x_Doubled : xokIn K C_Doubled f_c_Doubled_init "found" = true)
 (x_NoLabel : xokIn K C_NoLabel f_c_NoLabel_init "found" = true)
 (x_NoFact : xokIn K C_NoFact f_c_NoFact_init "found" = true)
 (x_NoBeat : xokIn K C_NoBeat f_c_NoBeat_init "found" = true)
 (x_TooMany : xokIn K C_TooMany f_c_TooMany_init "count" = true)
 (x_Ring : xokIn K C_Ring f_c_Ring_init "chain" = true)
 (x_StillOpen : xokIn K C_StillOpen f_c_StillOpen_init "found" = true)
 (x_Decided : xokIn K C_Decided f_c_Decided_init "found" = true)
 (x_NoStand : xokIn K C_NoStand f_c_NoStand_init "found" = true)
 (x_NoTurn : xok0In K C_NoTurn = true)
 (xt_own : kiTabIn K [C_NoStatement, C_NoRow, C_NoThing, C_Doubled, C_NoLabel, C_NoFact, C_NoBeat, C_StillOpen, C_Decided, C_NoStand, C_TooMany, C_Ring, C_NoTurn] [.ref C_NoStatement, .ref C_NoRow, .ref C_NoThing, .ref C_Doubled, .ref C_NoLabel, .ref C_NoFact, .ref C_NoBeat, .ref C_StillOpen, .ref C_Decided, .ref C_NoStand, .ref C_TooMany, .ref C_Ring, .ref C_NoTurn] (fun i j => decide (i = j)) = true)
 (xt_up : kiTabIn K [C_NoStatement, C_NoRow, C_NoThing, C_Doubled, C_NoLabel, C_NoFact, C_NoBeat, C_StillOpen, C_Decided, C_NoStand, C_TooMany, C_Ring, C_NoTurn] [.ref C_MostError, .type "ValueError"] (fun _ _ => true) = true)
 : ∃ t : Adr, t.f_d_law = f_d_law ∧ t.fd_d_law = PySem.W.fnOf "law" "law" (defArgs s_d_law) (defBody s_d_law) (defScope s_d_law) .none kV_d_law dc_d_law pm_d_law an_d_law cd_d_law ct_d_law ∧ Txt K mg t := by
  refine ⟨⟨f_c_NoStatement_init, PySem.W.fnOf "__init__" "NoStatement.__init__" (defArgs s_c_NoStatement_init) (defBody s_c_NoStatement_init) (defScope s_c_NoStatement_init) .none kV_c_NoStatement_init dc_c_NoStatement_init pm_c_NoStatement_init an_c_NoStatement_init cd_c_NoStatement_init ct_c_NoStatement_init, f_c_NoRow_init, PySem.W.fnOf "__init__" "NoRow.__init__" (defArgs s_c_NoRow_init) (defBody s_c_NoRow_init) (defScope s_c_NoRow_init) .none kV_c_NoRow_init dc_c_NoRow_init pm_c_NoRow_init an_c_NoRow_init cd_c_NoRow_init ct_c_NoRow_init, f_c_NoThing_init, PySem.W.fnOf "__init__" "NoThing.__init__" (defArgs s_c_NoThing_init) (defBody s_c_NoThing_init) (defScope s_c_NoThing_init) .none kV_c_NoThing_init dc_c_NoThing_init pm_c_NoThing_init an_c_NoThing_init cd_c_NoThing_init ct_c_NoThing_init, f_c_Doubled_init, PySem.W.fnOf "__init__" "Doubled.__init__" (defArgs s_c_Doubled_init) (defBody s_c_Doubled_init) (defScope s_c_Doubled_init) .none kV_c_Doubled_init dc_c_Doubled_init pm_c_Doubled_init an_c_Doubled_init cd_c_Doubled_init ct_c_Doubled_init, f_c_NoLabel_init, PySem.W.fnOf "__init__" "NoLabel.__init__" (defArgs s_c_NoLabel_init) (defBody s_c_NoLabel_init) (defScope s_c_NoLabel_init) .none kV_c_NoLabel_init dc_c_NoLabel_init pm_c_NoLabel_init an_c_NoLabel_init cd_c_NoLabel_init ct_c_NoLabel_init, f_c_NoFact_init, PySem.W.fnOf "__init__" "NoFact.__init__" (defArgs s_c_NoFact_init) (defBody s_c_NoFact_init) (defScope s_c_NoFact_init) .none kV_c_NoFact_init dc_c_NoFact_init pm_c_NoFact_init an_c_NoFact_init cd_c_NoFact_init ct_c_NoFact_init, f_c_NoBeat_init, PySem.W.fnOf "__init__" "NoBeat.__init__" (defArgs s_c_NoBeat_init) (defBody s_c_NoBeat_init) (defScope s_c_NoBeat_init) .none kV_c_NoBeat_init dc_c_NoBeat_init pm_c_NoBeat_init an_c_NoBeat_init cd_c_NoBeat_init ct_c_NoBeat_init, f_c_TooMany_init, PySem.W.fnOf "__init__" "TooMany.__init__" (defArgs s_c_TooMany_init) (defBody s_c_TooMany_init) (defScope s_c_TooMany_init) .none kV_c_TooMany_init dc_c_TooMany_init pm_c_TooMany_init an_c_TooMany_init cd_c_TooMany_init ct_c_TooMany_init, f_c_Ring_init, PySem.W.fnOf "__init__" "Ring.__init__" (defArgs s_c_Ring_init) (defBody s_c_Ring_init) (defScope s_c_Ring_init) .none kV_c_Ring_init dc_c_Ring_init pm_c_Ring_init an_c_Ring_init cd_c_Ring_init ct_c_Ring_init, f_c_StillOpen_init, PySem.W.fnOf "__init__" "StillOpen.__init__" (defArgs s_c_StillOpen_init) (defBody s_c_StillOpen_init) (defScope s_c_StillOpen_init) .none kV_c_StillOpen_init dc_c_StillOpen_init pm_c_StillOpen_init an_c_StillOpen_init cd_c_StillOpen_init ct_c_StillOpen_init, f_c_Decided_init, PySem.W.fnOf "__init__" "Decided.__init__" (defArgs s_c_Decided_init) (defBody s_c_Decided_init) (defScope s_c_Decided_init) .none kV_c_Decided_init dc_c_Decided_init pm_c_Decided_init an_c_Decided_init cd_c_Decided_init ct_c_Decided_init, f_c_NoStand_init, PySem.W.fnOf "__init__" "NoStand.__init__" (defArgs s_c_NoStand_init) (defBody s_c_NoStand_init) (defScope s_c_NoStand_init) .none kV_c_NoStand_init dc_c_NoStand_init pm_c_NoStand_init an_c_NoStand_init cd_c_NoStand_init ct_c_NoStand_init, f_d_l_cell, PySem.W.fnOf "_law_cell" "_law_cell" (defArgs s_d_l_cell) (defBody s_d_l_cell) (defScope s_d_l_cell) .none kV_d_l_cell dc_d_l_cell pm_d_l_cell an_d_l_cell cd_d_l_cell ct_d_l_cell, f_d_l_mixed, PySem.W.fnOf "_law_mixed" "_law_mixed" (defArgs s_d_l_mixed) (defBody s_d_l_mixed) (defScope s_d_l_mixed) .none kV_d_l_mixed dc_d_l_mixed pm_d_l_mixed an_d_l_mixed cd_d_l_mixed ct_d_l_mixed, f_d_l_errors, PySem.W.fnOf "_law_errors" "_law_errors" (defArgs s_d_l_errors) (defBody s_d_l_errors) (defScope s_d_l_errors) .none kV_d_l_errors dc_d_l_errors pm_d_l_errors an_d_l_errors cd_d_l_errors ct_d_l_errors, f_d_l_kinds, PySem.W.fnOf "_law_kinds" "_law_kinds" (defArgs s_d_l_kinds) (defBody s_d_l_kinds) (defScope s_d_l_kinds) .none kV_d_l_kinds dc_d_l_kinds pm_d_l_kinds an_d_l_kinds cd_d_l_kinds ct_d_l_kinds, f_d_law, PySem.W.fnOf "law" "law" (defArgs s_d_law) (defBody s_d_law) (defScope s_d_law) .none kV_d_law dc_d_law pm_d_law an_d_law cd_d_law ct_d_law, C_MostError, C_NoStatement, C_NoRow, C_NoThing, C_Doubled, C_NoLabel, C_NoFact, C_NoBeat, C_TooMany, C_Ring, C_StillOpen, C_Decided, C_NoStand, C_NoTurn⟩, rfl, rfl, ?_⟩
  constructor
  · exact fun_mk (st := s_c_NoStatement_init) l_c_NoStatement_init c_c_NoStatement_init p_c_NoStatement_init
  · exact (fun_mk (st := s_c_NoStatement_init) l_c_NoStatement_init c_c_NoStatement_init p_c_NoStatement_init).binds (ps := ["self", "found"]) fun _ _ _ _ _ _ us hl => match us, hl with | [_, _], _ => rfl
  · exact fun_mk (st := s_c_NoRow_init) l_c_NoRow_init c_c_NoRow_init p_c_NoRow_init
  · exact (fun_mk (st := s_c_NoRow_init) l_c_NoRow_init c_c_NoRow_init p_c_NoRow_init).binds (ps := ["self", "found"]) fun _ _ _ _ _ _ us hl => match us, hl with | [_, _], _ => rfl
  · exact fun_mk (st := s_c_NoThing_init) l_c_NoThing_init c_c_NoThing_init p_c_NoThing_init
  · exact (fun_mk (st := s_c_NoThing_init) l_c_NoThing_init c_c_NoThing_init p_c_NoThing_init).binds (ps := ["self", "found"]) fun _ _ _ _ _ _ us hl => match us, hl with | [_, _], _ => rfl
  · exact fun_mk (st := s_c_Doubled_init) l_c_Doubled_init c_c_Doubled_init p_c_Doubled_init
  · exact (fun_mk (st := s_c_Doubled_init) l_c_Doubled_init c_c_Doubled_init p_c_Doubled_init).binds (ps := ["self", "found"]) fun _ _ _ _ _ _ us hl => match us, hl with | [_, _], _ => rfl
  · exact fun_mk (st := s_c_NoLabel_init) l_c_NoLabel_init c_c_NoLabel_init p_c_NoLabel_init
  · exact (fun_mk (st := s_c_NoLabel_init) l_c_NoLabel_init c_c_NoLabel_init p_c_NoLabel_init).binds (ps := ["self", "found"]) fun _ _ _ _ _ _ us hl => match us, hl with | [_, _], _ => rfl
  · exact fun_mk (st := s_c_NoFact_init) l_c_NoFact_init c_c_NoFact_init p_c_NoFact_init
  · exact (fun_mk (st := s_c_NoFact_init) l_c_NoFact_init c_c_NoFact_init p_c_NoFact_init).binds (ps := ["self", "found"]) fun _ _ _ _ _ _ us hl => match us, hl with | [_, _], _ => rfl
  · exact fun_mk (st := s_c_NoBeat_init) l_c_NoBeat_init c_c_NoBeat_init p_c_NoBeat_init
  · exact (fun_mk (st := s_c_NoBeat_init) l_c_NoBeat_init c_c_NoBeat_init p_c_NoBeat_init).binds (ps := ["self", "found"]) fun _ _ _ _ _ _ us hl => match us, hl with | [_, _], _ => rfl
  · exact fun_mk (st := s_c_TooMany_init) l_c_TooMany_init c_c_TooMany_init p_c_TooMany_init
  · exact (fun_mk (st := s_c_TooMany_init) l_c_TooMany_init c_c_TooMany_init p_c_TooMany_init).binds (ps := ["self", "count"]) fun _ _ _ _ _ _ us hl => match us, hl with | [_, _], _ => rfl
  · exact fun_mk (st := s_c_Ring_init) l_c_Ring_init c_c_Ring_init p_c_Ring_init
  · exact (fun_mk (st := s_c_Ring_init) l_c_Ring_init c_c_Ring_init p_c_Ring_init).binds (ps := ["self", "chain"]) fun _ _ _ _ _ _ us hl => match us, hl with | [_, _], _ => rfl
  · exact fun_mk (st := s_c_StillOpen_init) l_c_StillOpen_init c_c_StillOpen_init p_c_StillOpen_init
  · exact (fun_mk (st := s_c_StillOpen_init) l_c_StillOpen_init c_c_StillOpen_init p_c_StillOpen_init).binds (ps := ["self", "found"]) fun _ _ _ _ _ _ us hl => match us, hl with | [_, _], _ => rfl
  · exact fun_mk (st := s_c_Decided_init) l_c_Decided_init c_c_Decided_init p_c_Decided_init
  · exact (fun_mk (st := s_c_Decided_init) l_c_Decided_init c_c_Decided_init p_c_Decided_init).binds (ps := ["self", "found"]) fun _ _ _ _ _ _ us hl => match us, hl with | [_, _], _ => rfl
  · exact fun_mk (st := s_c_NoStand_init) l_c_NoStand_init c_c_NoStand_init p_c_NoStand_init
  · exact (fun_mk (st := s_c_NoStand_init) l_c_NoStand_init c_c_NoStand_init p_c_NoStand_init).binds (ps := ["self", "found"]) fun _ _ _ _ _ _ us hl => match us, hl with | [_, _], _ => rfl
  · exact fun_mk (st := s_d_l_cell) l_d_l_cell c_d_l_cell p_d_l_cell
  · exact (fun_mk (st := s_d_l_cell) l_d_l_cell c_d_l_cell p_d_l_cell).binds (ps := ["_law_script", "_law_k"]) fun _ _ _ _ _ _ us hl => match us, hl with | [_, _], _ => rfl
  · exact PySem.W.mg_of X G a_d_l_cell
  · exact fun_mk (st := s_d_l_mixed) l_d_l_mixed c_d_l_mixed p_d_l_mixed
  · exact (fun_mk (st := s_d_l_mixed) l_d_l_mixed c_d_l_mixed p_d_l_mixed).binds (ps := ["_law_cell_here", "_law_k"]) fun _ _ _ _ _ _ us hl => match us, hl with | [_, _], _ => rfl
  · exact PySem.W.mg_of X G a_d_l_mixed
  · exact fun_mk (st := s_d_l_errors) l_d_l_errors c_d_l_errors p_d_l_errors
  · exact (fun_mk (st := s_d_l_errors) l_d_l_errors c_d_l_errors p_d_l_errors).binds (ps := ["_law_thing", "_law_count", "_law_chain"]) fun _ _ _ _ _ _ us hl => match us, hl with | [_, _, _], _ => rfl
  · exact PySem.W.mg_of X G a_d_l_errors
  · exact fun_mk (st := s_d_l_kinds) l_d_l_kinds c_d_l_kinds p_d_l_kinds
  · exact (fun_mk (st := s_d_l_kinds) l_d_l_kinds c_d_l_kinds p_d_l_kinds).binds (ps := ["_law_one"]) fun _ _ _ _ _ _ us hl => match us, hl with | [_], _ => rfl
  · exact PySem.W.mg_of X G a_d_l_kinds
  · exact fun_mk (st := s_d_law) l_d_law c_d_law p_d_law
  · exact (fun_mk (st := s_d_law) l_d_law c_d_law p_d_law).binds (ps := ["_law_script"]) fun _ _ _ _ _ _ us hl => match us, hl with | [_], _ => rfl
  · exact PySem.W.mg_of X G a_d_law
  · exact PySem.W.mg_of X G a_MostError
  · exact PySem.W.mg_of X G a_NoStatement
  · exact PySem.W.mg_of X G a_NoRow
  · exact PySem.W.mg_of X G a_NoThing
  · exact PySem.W.mg_of X G a_Doubled
  · exact PySem.W.mg_of X G a_NoLabel
  · exact PySem.W.mg_of X G a_NoFact
  · exact PySem.W.mg_of X G a_NoBeat
  · exact PySem.W.mg_of X G a_TooMany
  · exact PySem.W.mg_of X G a_Ring
  · exact PySem.W.mg_of X G a_StillOpen
  · exact PySem.W.mg_of X G a_Decided
  · exact PySem.W.mg_of X G a_NoStand
  · exact PySem.W.mg_of X G a_NoTurn
  · exact PySem.W.mg_none_of X G z_ValueError
  · exact PySem.W.mg_none_of X G z_enumerate
  · exact PySem.W.mg_none_of X G z_isinstance
  · exact PySem.W.mg_none_of X G z_len
  · exact PySem.W.mg_none_of X G z_list
  · exact PySem.W.mg_none_of X G z_range
  · exact .of_in x_NoStatement
  · exact .of_in x_NoRow
  · exact .of_in x_NoThing
  · exact .of_in x_Doubled
  · exact .of_in x_NoLabel
  · exact .of_in x_NoFact
  · exact .of_in x_NoBeat
  · exact .of_in x_TooMany
  · exact .of_in x_Ring
  · exact .of_in x_StillOpen
  · exact .of_in x_Decided
  · exact .of_in x_NoStand
  · exact .of_in x_NoTurn
  · exact kiTab_of xt_own
  · exact kiTab_of xt_up
theorem short_le {n : Nat} (h : n ≤ 100000) : n ≤ sizeLine := Nat.le_trans h (by decide)
def Low (z : Str) : Prop := PyData.strOk z = true
theorem strOk_app {a b : Str} (h1 : PyData.strOk a = true) (h2 : PyData.strOk b = true) : PyData.strOk (a ++ b) = true := by
  unfold PyData.strOk at *
  simp only [Array.all_eq_true] at *
  intro i hi
  have e : (a ++ b).cps = a.cps ++ b.cps := rfl
  simp only [e] at hi ⊢
  rw [Array.getElem_append]
  split
  · exact h1 _ _
  · exact h2 _ _
def spCell (K : PySem.W.Frag) : Sp := fun vs H Q _ => ∃ (a : Addr) (ns : List Int) (k : Int), vs = [.ref a, .int k] ∧ SqL K H a (ns.map V.int) ∧ ns.length ≤ 63 ∧ 0 ≤ k ∧ k ≤ 1000 ∧ ∀ i, Q (.int i) H
def spMix : Sp := fun vs H Q _ => ∃ (c k : Int), vs = [.int c, .int k] ∧ ∀ r : Int, 0 ≤ r → Q (.int r) H
theorem spMix_at {c k : Int} {H : Hp} {Q : VK} {E : XK} : spMix [.int c, .int k] H Q E ↔ ∀ r : Int, 0 ≤ r → Q (.int r) H := ⟨by rintro ⟨_, _, e, q⟩; cases e; exact q, fun q => ⟨_, _, rfl, q⟩⟩
def spRingI (C : Addr) : Sp := fun vs H Q _ => ∃ x c zs, vs = [.ref x, .ref c] ∧ H x = some (ExcO x C none) ∧ H c = some (.lst zs) ∧ ∀ l d, H l = none → upd H l (.lst zs) d = none → Q .non (upd (upd (upd H l (.lst zs)) x (ExcO x C (some d))) d (.xd [("chain", .ref l)]))
theorem makeR_go {C : Addr} {E : XK} {t : TA} {σ : St} {H : Hp} {c : Addr} {zs : List V} {Q : VK} (hc : H c = some (.lst zs)) (ht : ∀ R : List V → Hp → Prop, R [.ref c] H → t σ H R) (h : ∀ x l H', Same H H' → H' l = some (.lst zs) → ErrF H' x C "chain" (.ref l) → Q (.ref x) H') : tMakeX C (spRingI C) [] E t σ H Q := by
  refine ht _ ⟨show 1 ≤ 1000 by decide, fun x hx => ⟨x, c, zs, rfl, upd_same, ?_, fun l d hl hd => ⟨rfl, ?_⟩⟩⟩
  · rw [upd_ne (ne_of_none hc hx)]; exact hc
  have hxl : l ≠ x := fun z => by rw [z, upd_same] at hl; cases hl
  rw [upd_ne hxl] at hl
  have hdl : d ≠ l := fun z => by rw [z, upd_same] at hd; cases hd
  rw [upd_ne hdl] at hd
  have hdx : d ≠ x := fun z => by rw [z, upd_same] at hd; cases hd
  rw [upd_ne hdx] at hd
  refine h x l _ (fun b o e => ?_) ?_ ⟨d, ?_, upd_same⟩
  · have hbx : b ≠ x := fun z => by rw [z, hx] at e; cases e
    have hbd : b ≠ d := fun z => by rw [z, hd] at e; cases e
    have hbl : b ≠ l := fun z => by rw [z, hl] at e; cases e
    rw [upd_ne hbd, upd_ne hbx, upd_ne hbl, upd_ne hbx]; exact e
  · rw [upd_ne hdl.symm, upd_ne hxl, upd_same]
  · rw [upd_ne hdx.symm, upd_same]
def cs (t : Adr) : List Addr := [t.C_NoStatement, t.C_NoRow, t.C_NoThing, t.C_Doubled, t.C_NoLabel, t.C_NoFact, t.C_NoBeat, t.C_StillOpen, t.C_Decided, t.C_NoStand, t.C_TooMany, t.C_Ring, t.C_NoTurn]
def es (t : Adr) (v : V) (n : Int) (l : Addr) : List (Addr × Option (Str × V)) := [(t.C_NoStatement, some ("found", v)), (t.C_NoRow, some ("found", v)), (t.C_NoThing, some ("found", v)), (t.C_Doubled, some ("found", v)), (t.C_NoLabel, some ("found", v)), (t.C_NoFact, some ("found", v)), (t.C_NoBeat, some ("found", v)), (t.C_StillOpen, some ("found", v)), (t.C_Decided, some ("found", v)), (t.C_NoStand, some ("found", v)), (t.C_TooMany, some ("count", .int n)), (t.C_Ring, some ("chain", .ref l)), (t.C_NoTurn, none)]
theorem es_cs {t : Adr} {v : V} {n : Int} {l : Addr} : (es t v n l).map (·.1) = cs t := rfl
def spErrs (t : Adr) : Sp := fun vs H Q _ => ∃ v n c zs, vs = [v, .int n, .ref c] ∧ H c = some (.lst zs) ∧ ∀ p l xs H', Same H H' → H' p = some (.lst (xs.map V.ref)) → H' l = some (.lst zs) → AllE H' xs (es t v n l) → Q (.ref p) H'
def row (k : Nat) : List Bool := (List.range 13).map fun j => decide (k = j)
def spKinds (t : Adr) : Sp := fun vs H Q _ => ∃ x k C o, vs = [.ref x] ∧ (cs t)[k]? = some C ∧ ErrI H x C o ∧ ∀ p H', Same H H' → H' p = some (.lst ((row k).map V.bl)) → Q (.ref p) H'
theorem xcls {K : PySem.W.Frag} {mg : Str → Option Value} {t : Adr} (T : Txt K mg t) {k : Nat} {C : Addr} (h : (cs t)[k]? = some C) : XCls K C := by
  have hm : C ∈ cs t := List.mem_of_getElem? h
  simp only [cs, List.mem_cons, List.not_mem_nil, or_false] at hm
  rcases hm with rfl | rfl | rfl | rfl | rfl | rfl | rfl | rfl | rfl | rfl | rfl | rfl | rfl
  · exact T.x_NoStatement.c
  · exact T.x_NoRow.c
  · exact T.x_NoThing.c
  · exact T.x_Doubled.c
  · exact T.x_NoLabel.c
  · exact T.x_NoFact.c
  · exact T.x_NoBeat.c
  · exact T.x_StillOpen.c
  · exact T.x_Decided.c
  · exact T.x_NoStand.c
  · exact T.x_TooMany.c
  · exact T.x_Ring.c
  · exact T.x_NoTurn.c
def spLaw (K : PySem.W.Frag) : Sp := fun vs H Q _ => ∃ (a : Addr) (ns : List Int), vs = [.ref a] ∧ SqL K H a (ns.map V.int) ∧ ns.length ≤ 63 ∧ ∀ H', Q (.bl true) H'
theorem spLaw_of {K : PySem.W.Frag} {H : Hp} {a : Addr} {ns : List Int} (hl : ns.length ≤ 63) (_ : Only H) (hS : SqL K H a (ns.map V.int)) : spLaw K [.ref a] H (fun v _ => v = .bl true) fun _ _ _ => False := ⟨a, ns, rfl, hS, hl, fun _ => rfl⟩
theorem depthAll_rep {d : PyData} (h : d.depth ≤ 3) : ∀ n : Nat, PyData.depthAll (List.replicate n d) ≤ 3
  | 0 => Nat.zero_le _
  | n + 1 => by rw [List.replicate_succ, PyData.depthAll]; exact Nat.max_le.mpr ⟨h, depthAll_rep h n⟩
theorem canAll_rep {d : PyData} (h : d.canLay0 = true) : ∀ n : Nat, PyData.canLayAll0 (List.replicate n d) = true
  | 0 => rfl
  | n + 1 => by rw [List.replicate_succ, PyData.canLayAll0, h, canAll_rep h n]; rfl
theorem shapedR {d : PyData} (h : d.canLay0 = true) (h2 : d.depth ≤ 3) (n : Nat) : SeqAt.shaped (.list (List.replicate n d)) = true := by
  unfold SeqAt.shaped
  rw [Bool.and_eq_true]
  refine ⟨by rw [PyData.canLay0]; exact canAll_rep h n, decide_eq_true ?_⟩
  rw [PyData.depth]
  have := depthAll_rep h2 n
  omega
theorem cut_take (xs : List V) {n : Int} (h : 0 ≤ n) : cutV xs none (some n) = xs.take n.toNat := by
  unfold cutV HT.sIx
  simp only [Nat.sub_zero, List.drop_zero]
  rw [if_neg (by omega)]
  by_cases c : n.toNat ≤ xs.length
  · rw [Nat.min_eq_left c]
  · rw [Nat.min_eq_right (by omega), List.take_of_length_le (Nat.le_refl _), List.take_of_length_le (by omega)]
theorem shapedB (bs : List Bool) : SeqAt.shaped (.list (bs.map PyData.bool)) = true := by
  have h3 : PyData.canLayAll0 (bs.map PyData.bool) = true ∧ PyData.depthAll (bs.map PyData.bool) = 0 := by
    induction bs with
    | nil => exact ⟨rfl, rfl⟩
    | cons q qs ih =>
      obtain ⟨a, b⟩ := ih
      refine ⟨?_, ?_⟩
      · show (PyData.canLay0 (.bool q) && _) = true
        rw [a]; rfl
      · show max (PyData.depth (.bool q)) _ = 0
        rw [b]; rfl
  obtain ⟨a, b⟩ := h3
  unfold SeqAt.shaped
  simp only [PyData.canLay0, PyData.depth, a, b]
  decide
theorem canS : ∀ zs : List Str, (∀ z ∈ zs, PyData.strOk z = true) → PyData.canLayAll0 (zs.map PyData.str) = true ∧ PyData.depthAll (zs.map PyData.str) = 0
  | [], _ => ⟨rfl, rfl⟩
  | z :: zs, h => by
    obtain ⟨a, b⟩ := canS zs fun p hp => h p (List.mem_cons_of_mem _ hp)
    refine ⟨?_, ?_⟩
    · show (PyData.canLay0 (.str z) && _) = true
      rw [a, Bool.and_true]; exact h z List.mem_cons_self
    · show max (PyData.depth (.str z)) _ = 0
      rw [b]; rfl
theorem shapedZ {zs : List Str} (h : ∀ z ∈ zs, PyData.strOk z = true) : SeqAt.shaped (.list (zs.map PyData.str)) = true := by
  obtain ⟨a, b⟩ := canS zs h
  unfold SeqAt.shaped
  simp only [PyData.canLay0, PyData.depth, a, b]
  decide
theorem xfound {K : PySem.W.Frag} {mg : Str → Option Value} {t : Adr} (T : Txt K mg t) {v : V} {n : Int} {l : Addr} {i : Nat} {e : Addr × Option (Str × V)} (hi : i < 10) (h : (es t v n l)[i]? = some e) : e.2 = some (("found" : Str), v) ∧ ∃ f, XOk K e.1 f "found" := by
  have hm : e ∈ (es t v n l).take 10 := List.mem_of_getElem? (i := i) (by rw [List.getElem?_take, if_pos hi]; exact h)
  simp only [es, List.take_succ_cons, List.take_zero, List.mem_cons, List.not_mem_nil, or_false] at hm
  rcases hm with rfl | rfl | rfl | rfl | rfl | rfl | rfl | rfl | rfl | rfl
  · exact ⟨rfl, _, T.x_NoStatement⟩
  · exact ⟨rfl, _, T.x_NoRow⟩
  · exact ⟨rfl, _, T.x_NoThing⟩
  · exact ⟨rfl, _, T.x_Doubled⟩
  · exact ⟨rfl, _, T.x_NoLabel⟩
  · exact ⟨rfl, _, T.x_NoFact⟩
  · exact ⟨rfl, _, T.x_NoBeat⟩
  · exact ⟨rfl, _, T.x_StillOpen⟩
  · exact ⟨rfl, _, T.x_Decided⟩
  · exact ⟨rfl, _, T.x_NoStand⟩
end K05
namespace K05
open PySem L2 Tx
section
variable {P : Program} {w : World} {K : PySem.W.Frag} {mg : Str → Option Value} {base : Heap} {t : Adr}
theorem ok_d_l_cell (T : Txt K mg t) : FnOk P w K mg base CX0 1 t.f_d_l_cell t.fd_d_l_cell ["_law_script", "_law_k"] (spCell K) := by
  refine T.F_d_l_cell.ok sc_d_l_cell (fun vs H Q E h => ?_) (fun cdv A outer s H vs Q E hr h => ?_)
  · obtain ⟨a, ns, k, rfl, hS, hl, k0, k1, q⟩ := h; rfl
  · obtain ⟨a, ns, k, rfl, hS, hl, k0, k1, q⟩ := h
    refine ⟨_, (@pss_cons _ _ _ _ _ (@ps_if _ _ _ _ _ _ _ _ (@pt_cmpR _ _ _ _ _ _ _ _ op_ltA (@pv _ 1 _ _ (by rfl) (by first | exact vis0 rfl | exact vis1 rfl | exact vis2 rfl) (by decide) (by decide)) (@pe_callB _ _ _ _ _ _ _ _ _ call_lenA rfl T.z_len boot_lenT (@pa_cons _ _ _ _ _ (@pv _ 0 _ _ (by rfl) (by first | exact vis0 rfl | exact vis1 rfl | exact vis2 rfl) (by decide) (by decide)) (@pa_nil _) (by rfl)) (by decide) (by decide) (by rfl) (by rfl)) (nomark _)) (@pss_one _ _ _ (@ps_ret _ _ _ _ (@pe_ix _ _ _ _ _ _ _ ix_seq (@pv _ 0 _ _ (by rfl) (by first | exact vis0 rfl | exact vis1 rfl | exact vis2 rfl) (by decide) (by decide)) (@pv _ 1 _ _ (by rfl) (by first | exact vis0 rfl | exact vis1 rfl | exact vis2 rfl) (by decide) (by decide)) (fun _ _ => rfl)))) (@pss_nil _)) (@pss_one _ _ _ (@ps_ret _ _ _ _ (@pe_op _ _ _ _ _ _ _ _ op_mul (@pe_op _ _ _ _ _ _ _ _ op_addA (@pe_op _ _ _ _ _ _ _ _ op_mul (@pe_int _ _ _ _) (@pv _ 1 _ _ (by rfl) (by first | exact vis0 rfl | exact vis1 rfl | exact vis2 rfl) (by decide) (by decide))) (@pe_int _ _ _ _)) (@pe_op _ _ _ _ _ _ _ _ op_addA (@pe_callB _ _ _ _ _ _ _ _ _ call_lenA rfl T.z_len boot_lenT (@pa_cons _ _ _ _ _ (@pv _ 0 _ _ (by rfl) (by first | exact vis0 rfl | exact vis1 rfl | exact vis2 rfl) (by decide) (by decide)) (@pa_nil _) (by rfl)) (by decide) (by decide) (by rfl) (by rfl)) (@pe_int _ _ _ _)))))), ?_⟩
    rw [show start n_d_l_cell [V.ref a, V.int k] = [some (V.ref a), some (V.int k)] from rfl]
    try simp only [tSeq, tIfS, tTest, tOp, tVar, List.getElem?_cons_succ, List.getElem?_cons_zero, tCB, tCons, tNil, tRet, exSlot, tNext, tC, rI_int, CMul, rAddA_int]
    refine rLenA_lst hS ?_
    try simp only [List.length_map, rLtA_int, exBl, decide_eq_true_eq]
    refine ite2 (fun c => ?_) (fun c => ?_)
    · obtain ⟨v, e, hv, _⟩ := atI_in (xs := ns.map V.int) k0 (by rw [List.length_map]; exact c)
      obtain ⟨i, _, rfl⟩ := List.mem_map.mp hv
      exact rIx_lst hS e (q i)
    · refine ⟨.inl (by decide), rLenA_lst hS ?_⟩
      try simp only [List.length_map, rAddA_int, rI_int, CMul]
      exact ⟨.inr (by omega), q _⟩
theorem ok_c_Decided_init (T : Txt K mg t) : FnOk P w K mg base CX0 1 t.f_c_Decided_init t.fd_c_Decided_init ["self", "found"] (spXI t.C_Decided "found") := by
  refine T.F_c_Decided_init.ok sc_c_Decided_init (fun vs H Q E h => ?_) (fun cdv A outer s H vs Q E hr h => ?_)
  · obtain ⟨x, v, rfl, hx, q⟩ := h; rfl
  · obtain ⟨x, v, rfl, hx, q⟩ := h
    refine ⟨_, (@pss_one _ _ _ (@ps_fldX _ _ _ _ _ _ _ _ (@pv _ 0 _ _ (by rfl) (by first | exact vis0 rfl | exact vis1 rfl | exact vis2 rfl) (by decide) (by decide)) (@pv _ 1 _ _ (by rfl) (by first | exact vis0 rfl | exact vis1 rfl | exact vis2 rfl) (by decide) (by decide)) rfl)), ?_⟩
    rw [show start n_c_Decided_init [V.ref x, v] = [some (V.ref x), some (v)] from rfl]
    try simp only [sFldX, tVar, List.getElem?_cons_succ, List.getElem?_cons_zero, exSlot]
    exact ⟨x, _, rfl, hx, T.x_Decided.c, T.x_Decided.no, fun d hd => q d hd⟩
theorem ok_c_Doubled_init (T : Txt K mg t) : FnOk P w K mg base CX0 1 t.f_c_Doubled_init t.fd_c_Doubled_init ["self", "found"] (spXI t.C_Doubled "found") := by
  refine T.F_c_Doubled_init.ok sc_c_Doubled_init (fun vs H Q E h => ?_) (fun cdv A outer s H vs Q E hr h => ?_)
  · obtain ⟨x, v, rfl, hx, q⟩ := h; rfl
  · obtain ⟨x, v, rfl, hx, q⟩ := h
    refine ⟨_, (@pss_one _ _ _ (@ps_fldX _ _ _ _ _ _ _ _ (@pv _ 0 _ _ (by rfl) (by first | exact vis0 rfl | exact vis1 rfl | exact vis2 rfl) (by decide) (by decide)) (@pv _ 1 _ _ (by rfl) (by first | exact vis0 rfl | exact vis1 rfl | exact vis2 rfl) (by decide) (by decide)) rfl)), ?_⟩
    rw [show start n_c_Doubled_init [V.ref x, v] = [some (V.ref x), some (v)] from rfl]
    try simp only [sFldX, tVar, List.getElem?_cons_succ, List.getElem?_cons_zero, exSlot]
    exact ⟨x, _, rfl, hx, T.x_Doubled.c, T.x_Doubled.no, fun d hd => q d hd⟩
theorem ok_c_NoBeat_init (T : Txt K mg t) : FnOk P w K mg base CX0 1 t.f_c_NoBeat_init t.fd_c_NoBeat_init ["self", "found"] (spXI t.C_NoBeat "found") := by
  refine T.F_c_NoBeat_init.ok sc_c_NoBeat_init (fun vs H Q E h => ?_) (fun cdv A outer s H vs Q E hr h => ?_)
  · obtain ⟨x, v, rfl, hx, q⟩ := h; rfl
  · obtain ⟨x, v, rfl, hx, q⟩ := h
    refine ⟨_, (@pss_one _ _ _ (@ps_fldX _ _ _ _ _ _ _ _ (@pv _ 0 _ _ (by rfl) (by first | exact vis0 rfl | exact vis1 rfl | exact vis2 rfl) (by decide) (by decide)) (@pv _ 1 _ _ (by rfl) (by first | exact vis0 rfl | exact vis1 rfl | exact vis2 rfl) (by decide) (by decide)) rfl)), ?_⟩
    rw [show start n_c_NoBeat_init [V.ref x, v] = [some (V.ref x), some (v)] from rfl]
    try simp only [sFldX, tVar, List.getElem?_cons_succ, List.getElem?_cons_zero, exSlot]
    exact ⟨x, _, rfl, hx, T.x_NoBeat.c, T.x_NoBeat.no, fun d hd => q d hd⟩
theorem ok_c_NoFact_init (T : Txt K mg t) : FnOk P w K mg base CX0 1 t.f_c_NoFact_init t.fd_c_NoFact_init ["self", "found"] (spXI t.C_NoFact "found") := by
  refine T.F_c_NoFact_init.ok sc_c_NoFact_init (fun vs H Q E h => ?_) (fun cdv A outer s H vs Q E hr h => ?_)
  · obtain ⟨x, v, rfl, hx, q⟩ := h; rfl
  · obtain ⟨x, v, rfl, hx, q⟩ := h
    refine ⟨_, (@pss_one _ _ _ (@ps_fldX _ _ _ _ _ _ _ _ (@pv _ 0 _ _ (by rfl) (by first | exact vis0 rfl | exact vis1 rfl | exact vis2 rfl) (by decide) (by decide)) (@pv _ 1 _ _ (by rfl) (by first | exact vis0 rfl | exact vis1 rfl | exact vis2 rfl) (by decide) (by decide)) rfl)), ?_⟩
    rw [show start n_c_NoFact_init [V.ref x, v] = [some (V.ref x), some (v)] from rfl]
    try simp only [sFldX, tVar, List.getElem?_cons_succ, List.getElem?_cons_zero, exSlot]
    exact ⟨x, _, rfl, hx, T.x_NoFact.c, T.x_NoFact.no, fun d hd => q d hd⟩
theorem ok_c_NoLabel_init (T : Txt K mg t) : FnOk P w K mg base CX0 1 t.f_c_NoLabel_init t.fd_c_NoLabel_init ["self", "found"] (spXI t.C_NoLabel "found") := by
  refine T.F_c_NoLabel_init.ok sc_c_NoLabel_init (fun vs H Q E h => ?_) (fun cdv A outer s H vs Q E hr h => ?_)
  · obtain ⟨x, v, rfl, hx, q⟩ := h; rfl
  · obtain ⟨x, v, rfl, hx, q⟩ := h
    refine ⟨_, (@pss_one _ _ _ (@ps_fldX _ _ _ _ _ _ _ _ (@pv _ 0 _ _ (by rfl) (by first | exact vis0 rfl | exact vis1 rfl | exact vis2 rfl) (by decide) (by decide)) (@pv _ 1 _ _ (by rfl) (by first | exact vis0 rfl | exact vis1 rfl | exact vis2 rfl) (by decide) (by decide)) rfl)), ?_⟩
    rw [show start n_c_NoLabel_init [V.ref x, v] = [some (V.ref x), some (v)] from rfl]
    try simp only [sFldX, tVar, List.getElem?_cons_succ, List.getElem?_cons_zero, exSlot]
    exact ⟨x, _, rfl, hx, T.x_NoLabel.c, T.x_NoLabel.no, fun d hd => q d hd⟩
theorem ok_c_NoRow_init (T : Txt K mg t) : FnOk P w K mg base CX0 1 t.f_c_NoRow_init t.fd_c_NoRow_init ["self", "found"] (spXI t.C_NoRow "found") := by
  refine T.F_c_NoRow_init.ok sc_c_NoRow_init (fun vs H Q E h => ?_) (fun cdv A outer s H vs Q E hr h => ?_)
  · obtain ⟨x, v, rfl, hx, q⟩ := h; rfl
  · obtain ⟨x, v, rfl, hx, q⟩ := h
    refine ⟨_, (@pss_one _ _ _ (@ps_fldX _ _ _ _ _ _ _ _ (@pv _ 0 _ _ (by rfl) (by first | exact vis0 rfl | exact vis1 rfl | exact vis2 rfl) (by decide) (by decide)) (@pv _ 1 _ _ (by rfl) (by first | exact vis0 rfl | exact vis1 rfl | exact vis2 rfl) (by decide) (by decide)) rfl)), ?_⟩
    rw [show start n_c_NoRow_init [V.ref x, v] = [some (V.ref x), some (v)] from rfl]
    try simp only [sFldX, tVar, List.getElem?_cons_succ, List.getElem?_cons_zero, exSlot]
    exact ⟨x, _, rfl, hx, T.x_NoRow.c, T.x_NoRow.no, fun d hd => q d hd⟩
theorem ok_c_NoStand_init (T : Txt K mg t) : FnOk P w K mg base CX0 1 t.f_c_NoStand_init t.fd_c_NoStand_init ["self", "found"] (spXI t.C_NoStand "found") := by
  refine T.F_c_NoStand_init.ok sc_c_NoStand_init (fun vs H Q E h => ?_) (fun cdv A outer s H vs Q E hr h => ?_)
  · obtain ⟨x, v, rfl, hx, q⟩ := h; rfl
  · obtain ⟨x, v, rfl, hx, q⟩ := h
    refine ⟨_, (@pss_one _ _ _ (@ps_fldX _ _ _ _ _ _ _ _ (@pv _ 0 _ _ (by rfl) (by first | exact vis0 rfl | exact vis1 rfl | exact vis2 rfl) (by decide) (by decide)) (@pv _ 1 _ _ (by rfl) (by first | exact vis0 rfl | exact vis1 rfl | exact vis2 rfl) (by decide) (by decide)) rfl)), ?_⟩
    rw [show start n_c_NoStand_init [V.ref x, v] = [some (V.ref x), some (v)] from rfl]
    try simp only [sFldX, tVar, List.getElem?_cons_succ, List.getElem?_cons_zero, exSlot]
    exact ⟨x, _, rfl, hx, T.x_NoStand.c, T.x_NoStand.no, fun d hd => q d hd⟩
theorem ok_c_NoStatement_init (T : Txt K mg t) : FnOk P w K mg base CX0 1 t.f_c_NoStatement_init t.fd_c_NoStatement_init ["self", "found"] (spXI t.C_NoStatement "found") := by
  refine T.F_c_NoStatement_init.ok sc_c_NoStatement_init (fun vs H Q E h => ?_) (fun cdv A outer s H vs Q E hr h => ?_)
  · obtain ⟨x, v, rfl, hx, q⟩ := h; rfl
  · obtain ⟨x, v, rfl, hx, q⟩ := h
    refine ⟨_, (@pss_one _ _ _ (@ps_fldX _ _ _ _ _ _ _ _ (@pv _ 0 _ _ (by rfl) (by first | exact vis0 rfl | exact vis1 rfl | exact vis2 rfl) (by decide) (by decide)) (@pv _ 1 _ _ (by rfl) (by first | exact vis0 rfl | exact vis1 rfl | exact vis2 rfl) (by decide) (by decide)) rfl)), ?_⟩
    rw [show start n_c_NoStatement_init [V.ref x, v] = [some (V.ref x), some (v)] from rfl]
    try simp only [sFldX, tVar, List.getElem?_cons_succ, List.getElem?_cons_zero, exSlot]
    exact ⟨x, _, rfl, hx, T.x_NoStatement.c, T.x_NoStatement.no, fun d hd => q d hd⟩
theorem ok_c_NoThing_init (T : Txt K mg t) : FnOk P w K mg base CX0 1 t.f_c_NoThing_init t.fd_c_NoThing_init ["self", "found"] (spXI t.C_NoThing "found") := by
  refine T.F_c_NoThing_init.ok sc_c_NoThing_init (fun vs H Q E h => ?_) (fun cdv A outer s H vs Q E hr h => ?_)
  · obtain ⟨x, v, rfl, hx, q⟩ := h; rfl
  · obtain ⟨x, v, rfl, hx, q⟩ := h
    refine ⟨_, (@pss_one _ _ _ (@ps_fldX _ _ _ _ _ _ _ _ (@pv _ 0 _ _ (by rfl) (by first | exact vis0 rfl | exact vis1 rfl | exact vis2 rfl) (by decide) (by decide)) (@pv _ 1 _ _ (by rfl) (by first | exact vis0 rfl | exact vis1 rfl | exact vis2 rfl) (by decide) (by decide)) rfl)), ?_⟩
    rw [show start n_c_NoThing_init [V.ref x, v] = [some (V.ref x), some (v)] from rfl]
    try simp only [sFldX, tVar, List.getElem?_cons_succ, List.getElem?_cons_zero, exSlot]
    exact ⟨x, _, rfl, hx, T.x_NoThing.c, T.x_NoThing.no, fun d hd => q d hd⟩
theorem ok_c_Ring_init (T : Txt K mg t) : FnOk P w K mg base CX0 1 t.f_c_Ring_init t.fd_c_Ring_init ["self", "chain"] (spRingI t.C_Ring) := by
  refine T.F_c_Ring_init.ok sc_c_Ring_init (fun vs H Q E h => ?_) (fun cdv A outer s H vs Q E hr h => ?_)
  · obtain ⟨x, c, zs, rfl, hx, hc, q⟩ := h; rfl
  · obtain ⟨x, c, zs, rfl, hx, hc, q⟩ := h
    refine ⟨_, (@pss_one _ _ _ (@ps_fldX _ _ _ _ _ _ _ _ (@pv _ 0 _ _ (by rfl) (by first | exact vis0 rfl | exact vis1 rfl | exact vis2 rfl) (by decide) (by decide)) (@pe_ifExp _ _ _ _ _ _ _ _ (@pt_val _ _ _ (@pe_callB _ _ _ _ _ _ _ _ _ call_isinstA rfl T.z_isinstance boot_isinstanceT (@pa_cons _ _ _ _ _ (@pv _ 1 _ _ (by rfl) (by first | exact vis0 rfl | exact vis1 rfl | exact vis2 rfl) (by decide) (by decide)) (@pa_cons _ _ _ _ _ (@pe_bltn _ _ (.ty "list") _ _ rfl T.z_list boot_listT rfl (by decide) (by decide)) (@pa_nil _) (by rfl)) (by rfl)) (by decide) (by decide) (by rfl) (by rfl)) (by intro _ ; rfl)) (@pe_callTy _ _ _ _ _ _ _ _ _ call_listOf rfl T.z_list boot_listT (@pa_cons _ _ _ _ _ (@pv _ 1 _ _ (by rfl) (by first | exact vis0 rfl | exact vis1 rfl | exact vis2 rfl) (by decide) (by decide)) (@pa_nil _) (by rfl)) (by decide) (by decide) (by rfl) (by rfl)) (@pv _ 1 _ _ (by rfl) (by first | exact vis0 rfl | exact vis1 rfl | exact vis2 rfl) (by decide) (by decide))) rfl)), ?_⟩
    rw [show start n_c_Ring_init [V.ref x, V.ref c] = [some (V.ref x), some (V.ref c)] from rfl]
    try simp only [sFldX, tIf, tB, tCB, tCons, tVar, List.getElem?_cons_succ, List.getElem?_cons_zero, tC, tNil, exSlot]
    refine .inl (rIsi_lst hc ?_)
    try simp only [exBl]
    refine ⟨c, zs, rfl, .inl (SqL.of hc), fun l hl => ?_⟩
    exact ⟨x, _, rfl, by rw [upd_ne (ne_of_none hx hl)]; exact hx, T.x_Ring.c, T.x_Ring.no, fun d hd => q l d hl hd⟩
theorem ok_c_StillOpen_init (T : Txt K mg t) : FnOk P w K mg base CX0 1 t.f_c_StillOpen_init t.fd_c_StillOpen_init ["self", "found"] (spXI t.C_StillOpen "found") := by
  refine T.F_c_StillOpen_init.ok sc_c_StillOpen_init (fun vs H Q E h => ?_) (fun cdv A outer s H vs Q E hr h => ?_)
  · obtain ⟨x, v, rfl, hx, q⟩ := h; rfl
  · obtain ⟨x, v, rfl, hx, q⟩ := h
    refine ⟨_, (@pss_one _ _ _ (@ps_fldX _ _ _ _ _ _ _ _ (@pv _ 0 _ _ (by rfl) (by first | exact vis0 rfl | exact vis1 rfl | exact vis2 rfl) (by decide) (by decide)) (@pv _ 1 _ _ (by rfl) (by first | exact vis0 rfl | exact vis1 rfl | exact vis2 rfl) (by decide) (by decide)) rfl)), ?_⟩
    rw [show start n_c_StillOpen_init [V.ref x, v] = [some (V.ref x), some (v)] from rfl]
    try simp only [sFldX, tVar, List.getElem?_cons_succ, List.getElem?_cons_zero, exSlot]
    exact ⟨x, _, rfl, hx, T.x_StillOpen.c, T.x_StillOpen.no, fun d hd => q d hd⟩
theorem ok_c_TooMany_init (T : Txt K mg t) : FnOk P w K mg base CX0 1 t.f_c_TooMany_init t.fd_c_TooMany_init ["self", "count"] (spXI t.C_TooMany "count") := by
  refine T.F_c_TooMany_init.ok sc_c_TooMany_init (fun vs H Q E h => ?_) (fun cdv A outer s H vs Q E hr h => ?_)
  · obtain ⟨x, v, rfl, hx, q⟩ := h; rfl
  · obtain ⟨x, v, rfl, hx, q⟩ := h
    refine ⟨_, (@pss_one _ _ _ (@ps_fldX _ _ _ _ _ _ _ _ (@pv _ 0 _ _ (by rfl) (by first | exact vis0 rfl | exact vis1 rfl | exact vis2 rfl) (by decide) (by decide)) (@pv _ 1 _ _ (by rfl) (by first | exact vis0 rfl | exact vis1 rfl | exact vis2 rfl) (by decide) (by decide)) rfl)), ?_⟩
    rw [show start n_c_TooMany_init [V.ref x, v] = [some (V.ref x), some (v)] from rfl]
    try simp only [sFldX, tVar, List.getElem?_cons_succ, List.getElem?_cons_zero, exSlot]
    exact ⟨x, _, rfl, hx, T.x_TooMany.c, T.x_TooMany.no, fun d hd => q d hd⟩
theorem ok_d_l_errors (T : Txt K mg t) : FnOk P w K mg base CX0 3 t.f_d_l_errors t.fd_d_l_errors ["_law_thing", "_law_count", "_law_chain"] (spErrs t) := by
  refine T.F_d_l_errors.ok sc_d_l_errors (fun vs H Q E h => ?_) (fun cdv A outer s H vs Q E hr h => ?_)
  · obtain ⟨v, n, c, zs, rfl, hc, q⟩ := h; rfl
  · obtain ⟨v, n, c, zs, rfl, hc, q⟩ := h
    refine ⟨_, (@pss_cons _ _ _ _ _ (@ps_set _ _ (3) _ _ _ _ sc_d_l_errors.nd rfl (by first | exact Or.inl rfl | exact Or.inr rfl) (@pe_lst _ _ _ _ (@pa_cons _ _ _ _ _ (@pe_makeX _ _ _ _ _ _ _ _ _ _ _ _ _ _ _ _ _ T.x_NoStatement.mx (ok_c_NoStatement_init T) (hr.mono (by decide)) rfl T.g_NoStatement T.b_c_NoStatement_init .nil pass0 (@pa_cons _ _ _ _ _ (@pv _ 0 _ _ (by rfl) (by first | exact vis0 rfl | exact vis1 rfl | exact vis2 rfl) (by decide) (by decide)) (@pa_nil _) (by rfl)) (by decide) (by rfl) (by rfl)) (@pa_cons _ _ _ _ _ (@pe_makeX _ _ _ _ _ _ _ _ _ _ _ _ _ _ _ _ _ T.x_NoRow.mx (ok_c_NoRow_init T) (hr.mono (by decide)) rfl T.g_NoRow T.b_c_NoRow_init .nil pass0 (@pa_cons _ _ _ _ _ (@pv _ 0 _ _ (by rfl) (by first | exact vis0 rfl | exact vis1 rfl | exact vis2 rfl) (by decide) (by decide)) (@pa_nil _) (by rfl)) (by decide) (by rfl) (by rfl)) (@pa_cons _ _ _ _ _ (@pe_makeX _ _ _ _ _ _ _ _ _ _ _ _ _ _ _ _ _ T.x_NoThing.mx (ok_c_NoThing_init T) (hr.mono (by decide)) rfl T.g_NoThing T.b_c_NoThing_init .nil pass0 (@pa_cons _ _ _ _ _ (@pv _ 0 _ _ (by rfl) (by first | exact vis0 rfl | exact vis1 rfl | exact vis2 rfl) (by decide) (by decide)) (@pa_nil _) (by rfl)) (by decide) (by rfl) (by rfl)) (@pa_cons _ _ _ _ _ (@pe_makeX _ _ _ _ _ _ _ _ _ _ _ _ _ _ _ _ _ T.x_Doubled.mx (ok_c_Doubled_init T) (hr.mono (by decide)) rfl T.g_Doubled T.b_c_Doubled_init .nil pass0 (@pa_cons _ _ _ _ _ (@pv _ 0 _ _ (by rfl) (by first | exact vis0 rfl | exact vis1 rfl | exact vis2 rfl) (by decide) (by decide)) (@pa_nil _) (by rfl)) (by decide) (by rfl) (by rfl)) (@pa_cons _ _ _ _ _ (@pe_makeX _ _ _ _ _ _ _ _ _ _ _ _ _ _ _ _ _ T.x_NoLabel.mx (ok_c_NoLabel_init T) (hr.mono (by decide)) rfl T.g_NoLabel T.b_c_NoLabel_init .nil pass0 (@pa_cons _ _ _ _ _ (@pv _ 0 _ _ (by rfl) (by first | exact vis0 rfl | exact vis1 rfl | exact vis2 rfl) (by decide) (by decide)) (@pa_nil _) (by rfl)) (by decide) (by rfl) (by rfl)) (@pa_cons _ _ _ _ _ (@pe_makeX _ _ _ _ _ _ _ _ _ _ _ _ _ _ _ _ _ T.x_NoFact.mx (ok_c_NoFact_init T) (hr.mono (by decide)) rfl T.g_NoFact T.b_c_NoFact_init .nil pass0 (@pa_cons _ _ _ _ _ (@pv _ 0 _ _ (by rfl) (by first | exact vis0 rfl | exact vis1 rfl | exact vis2 rfl) (by decide) (by decide)) (@pa_nil _) (by rfl)) (by decide) (by rfl) (by rfl)) (@pa_nil _) (by rfl)) (by rfl)) (by rfl)) (by rfl)) (by rfl)) (by rfl))) (by rfl) (by first | exact Or.inl rfl | exact Or.inr rfl | assumption)) (@pss_cons _ _ _ _ _ (@ps_set _ _ (3) _ _ _ _ sc_d_l_errors.nd rfl (by first | exact Or.inl rfl | exact Or.inr rfl) (@pe_op _ _ _ _ _ _ _ _ op_addA (@pv _ 3 _ _ (by rfl) (by first | exact vis0 rfl | exact vis1 rfl | exact vis2 rfl) (by decide) (by decide)) (@pe_lst _ _ _ _ (@pa_cons _ _ _ _ _ (@pe_makeX _ _ _ _ _ _ _ _ _ _ _ _ _ _ _ _ _ T.x_NoBeat.mx (ok_c_NoBeat_init T) (hr.mono (by decide)) rfl T.g_NoBeat T.b_c_NoBeat_init .nil pass0 (@pa_cons _ _ _ _ _ (@pv _ 0 _ _ (by rfl) (by first | exact vis0 rfl | exact vis1 rfl | exact vis2 rfl) (by decide) (by decide)) (@pa_nil _) (by rfl)) (by decide) (by rfl) (by rfl)) (@pa_cons _ _ _ _ _ (@pe_makeX _ _ _ _ _ _ _ _ _ _ _ _ _ _ _ _ _ T.x_StillOpen.mx (ok_c_StillOpen_init T) (hr.mono (by decide)) rfl T.g_StillOpen T.b_c_StillOpen_init .nil pass0 (@pa_cons _ _ _ _ _ (@pv _ 0 _ _ (by rfl) (by first | exact vis0 rfl | exact vis1 rfl | exact vis2 rfl) (by decide) (by decide)) (@pa_nil _) (by rfl)) (by decide) (by rfl) (by rfl)) (@pa_cons _ _ _ _ _ (@pe_makeX _ _ _ _ _ _ _ _ _ _ _ _ _ _ _ _ _ T.x_Decided.mx (ok_c_Decided_init T) (hr.mono (by decide)) rfl T.g_Decided T.b_c_Decided_init .nil pass0 (@pa_cons _ _ _ _ _ (@pv _ 0 _ _ (by rfl) (by first | exact vis0 rfl | exact vis1 rfl | exact vis2 rfl) (by decide) (by decide)) (@pa_nil _) (by rfl)) (by decide) (by rfl) (by rfl)) (@pa_cons _ _ _ _ _ (@pe_makeX _ _ _ _ _ _ _ _ _ _ _ _ _ _ _ _ _ T.x_NoStand.mx (ok_c_NoStand_init T) (hr.mono (by decide)) rfl T.g_NoStand T.b_c_NoStand_init .nil pass0 (@pa_cons _ _ _ _ _ (@pv _ 0 _ _ (by rfl) (by first | exact vis0 rfl | exact vis1 rfl | exact vis2 rfl) (by decide) (by decide)) (@pa_nil _) (by rfl)) (by decide) (by rfl) (by rfl)) (@pa_nil _) (by rfl)) (by rfl)) (by rfl)) (by rfl)))) (by rfl) (by first | exact Or.inl rfl | exact Or.inr rfl | assumption)) (@pss_one _ _ _ (@ps_ret _ _ _ _ (@pe_op _ _ _ _ _ _ _ _ op_addA (@pv _ 3 _ _ (by rfl) (by first | exact vis0 rfl | exact vis1 rfl | exact vis2 rfl) (by decide) (by decide)) (@pe_lst _ _ _ _ (@pa_cons _ _ _ _ _ (@pe_makeX _ _ _ _ _ _ _ _ _ _ _ _ _ _ _ _ _ T.x_TooMany.mx (ok_c_TooMany_init T) (hr.mono (by decide)) rfl T.g_TooMany T.b_c_TooMany_init .nil pass0 (@pa_cons _ _ _ _ _ (@pv _ 1 _ _ (by rfl) (by first | exact vis0 rfl | exact vis1 rfl | exact vis2 rfl) (by decide) (by decide)) (@pa_nil _) (by rfl)) (by decide) (by rfl) (by rfl)) (@pa_cons _ _ _ _ _ (@pe_makeX _ _ _ _ _ _ _ _ _ _ _ _ _ _ _ _ _ T.x_Ring.mx (ok_c_Ring_init T) (hr.mono (by decide)) rfl T.g_Ring T.b_c_Ring_init .nil pass0 (@pa_cons _ _ _ _ _ (@pv _ 2 _ _ (by rfl) (by first | exact vis0 rfl | exact vis1 rfl | exact vis2 rfl) (by decide) (by decide)) (@pa_nil _) (by rfl)) (by decide) (by rfl) (by rfl)) (@pa_cons _ _ _ _ _ (@pe_makeX0 _ _ _ _ _ T.x_NoTurn.mx rfl T.g_NoTurn (by decide)) (@pa_nil _) (by rfl)) (by rfl)) (by rfl)))))))), ?_⟩
    rw [show start n_d_l_errors [v, V.int n, V.ref c] = [some (v), some (V.int n), some (V.ref c), none] from rfl]
    try simp only [tSeq, tAsg, tLst, tCons, tNil, gName, tOp, tVar, List.set_cons_succ, List.set_cons_zero, List.getElem?_cons_succ, List.getElem?_cons_zero, tRet, exSlot]
    refine makeX_go (v := v) (fun R r => ⟨_, rfl, r⟩) fun x1 H1 s1 _ e1 => ?_
    refine makeX_go (v := v) (fun R r => ⟨_, rfl, r⟩) fun x2 H2 s2 _ e2 => ?_
    refine makeX_go (v := v) (fun R r => ⟨_, rfl, r⟩) fun x3 H3 s3 _ e3 => ?_
    refine makeX_go (v := v) (fun R r => ⟨_, rfl, r⟩) fun x4 H4 s4 _ e4 => ?_
    refine makeX_go (v := v) (fun R r => ⟨_, rfl, r⟩) fun x5 H5 s5 _ e5 => ?_
    refine makeX_go (v := v) (fun R r => ⟨_, rfl, r⟩) fun x6 H6 s6 _ e6 => ?_
    refine ⟨short_le (show 6 ≤ 100000 by decide), fun p hp => ?_⟩
    obtain ⟨H7, q7, s7, gp⟩ := newO hp (.lst [.ref x1, .ref x2, .ref x3, .ref x4, .ref x5, .ref x6]); rw [q7]
    refine makeX_go (v := v) (fun R r => ⟨_, rfl, r⟩) fun x7 H8 s8 _ e7 => ?_
    refine makeX_go (v := v) (fun R r => ⟨_, rfl, r⟩) fun x8 H9 s9 _ e8 => ?_
    refine makeX_go (v := v) (fun R r => ⟨_, rfl, r⟩) fun x9 H10 s10 _ e9 => ?_
    refine makeX_go (v := v) (fun R r => ⟨_, rfl, r⟩) fun x10 H11 s11 _ e10 => ?_
    refine ⟨short_le (show 4 ≤ 100000 by decide), fun p1 hp1 => ?_⟩
    obtain ⟨H12, q12, s12, gp1⟩ := newO hp1 (.lst [.ref x7, .ref x8, .ref x9, .ref x10]); rw [q12]
    refine .inr (.inr (.inl ⟨p, p1, _, _, rfl, rfl, ((((s8.trans s9).trans s10).trans s11).trans s12) _ _ gp, gp1, short_le (show 10 ≤ 100000 by decide), fun p2 hp2 => ?_⟩))
    obtain ⟨H13, q13, s13, gp2⟩ := newO hp2 (.lst ([.ref x1, .ref x2, .ref x3, .ref x4, .ref x5, .ref x6] ++ [.ref x7, .ref x8, .ref x9, .ref x10])); rw [q13]
    refine makeX_go (v := (.int n)) (fun R r => ⟨_, rfl, r⟩) fun x11 H14 s14 _ e11 => ?_
    refine makeR_go ((((((((((((((s1.trans s2).trans s3).trans s4).trans s5).trans s6).trans s7).trans s8).trans s9).trans s10).trans s11).trans s12).trans s13).trans s14) _ _ hc) (fun R r => ⟨_, rfl, r⟩) fun x12 l H15 s15 gl e12 => ?_
    intro x13 h13
    obtain ⟨H16, q16, s16, e13⟩ := newO h13 (ExcO x13 t.C_NoTurn none); rw [q16]
    refine ⟨short_le (show 3 ≤ 100000 by decide), fun p3 hp3 => ?_⟩
    obtain ⟨H17, q17, s17, gp3⟩ := newO hp3 (.lst [.ref x11, .ref x12, .ref x13]); rw [q17]
    refine .inr (.inr (.inl ⟨p2, p3, _, _, rfl, rfl, (((s14.trans s15).trans s16).trans s17) _ _ gp2, gp3, short_le (show 13 ≤ 100000 by decide), fun p4 hp4 => ?_⟩))
    obtain ⟨H18, q18, s18, gp4⟩ := newO hp4 (.lst (([.ref x1, .ref x2, .ref x3, .ref x4, .ref x5, .ref x6] ++ [.ref x7, .ref x8, .ref x9, .ref x10]) ++ [.ref x11, .ref x12, .ref x13])); rw [q18]
    have z18 : Same H18 H18 := Same.refl _
    have z17 : Same H17 H18 := s18.trans z18
    have z16 : Same H16 H18 := s17.trans z17
    have z15 : Same H15 H18 := s16.trans z16
    have z14 : Same H14 H18 := s15.trans z15
    have z13 : Same H13 H18 := s14.trans z14
    have z12 : Same H12 H18 := s13.trans z13
    have z11 : Same H11 H18 := s12.trans z12
    have z10 : Same H10 H18 := s11.trans z11
    have z9 : Same H9 H18 := s10.trans z10
    have z8 : Same H8 H18 := s9.trans z9
    have z7 : Same H7 H18 := s8.trans z8
    have z6 : Same H6 H18 := s7.trans z7
    have z5 : Same H5 H18 := s6.trans z6
    have z4 : Same H4 H18 := s5.trans z5
    have z3 : Same H3 H18 := s4.trans z4
    have z2 : Same H2 H18 := s3.trans z3
    have z1 : Same H1 H18 := s2.trans z2
    exact q p4 l [x1, x2, x3, x4, x5, x6, x7, x8, x9, x10, x11, x12, x13] H18 (s1.trans z1) gp4 (z15 _ _ gl) ⟨e1.same z1, e2.same z2, e3.same z3, e4.same z4, e5.same z5, e6.same z6, e7.same z8, e8.same z9, e9.same z10, e10.same z11, e11.same z14, e12.same z15, z16 _ _ e13, trivial⟩
theorem ok_d_l_kinds (T : Txt K mg t) : FnOk P w K mg base CX0 1 t.f_d_l_kinds t.fd_d_l_kinds ["_law_one"] (spKinds t) := by
  refine T.F_d_l_kinds.ok sc_d_l_kinds (fun vs H Q E h => ?_) (fun cdv A outer s H vs Q E hr h => ?_)
  · obtain ⟨x, k, C, o, rfl, hk, he, q⟩ := h; rfl
  · obtain ⟨x, k, C, o, rfl, hk, he, q⟩ := h
    refine ⟨_, (@pss_cons _ _ _ _ _ (@ps_set _ _ (1) _ _ _ _ sc_d_l_kinds.nd rfl (by first | exact Or.inl rfl | exact Or.inr rfl) (@pe_lst _ _ _ _ (@pa_cons _ _ _ _ _ (@pe_callB _ _ _ _ _ _ _ _ _ call_isinstA rfl T.z_isinstance boot_isinstanceT (@pa_cons _ _ _ _ _ (@pv _ 0 _ _ (by rfl) (by first | exact vis0 rfl | exact vis1 rfl | exact vis2 rfl) (by decide) (by decide)) (@pa_cons _ _ _ _ _ (@pe_glob _ _ (.ref t.C_NoStatement) _ _ rfl T.g_NoStatement rfl (by decide)) (@pa_nil _) (by rfl)) (by rfl)) (by decide) (by decide) (by rfl) (by rfl)) (@pa_cons _ _ _ _ _ (@pe_callB _ _ _ _ _ _ _ _ _ call_isinstA rfl T.z_isinstance boot_isinstanceT (@pa_cons _ _ _ _ _ (@pv _ 0 _ _ (by rfl) (by first | exact vis0 rfl | exact vis1 rfl | exact vis2 rfl) (by decide) (by decide)) (@pa_cons _ _ _ _ _ (@pe_glob _ _ (.ref t.C_NoRow) _ _ rfl T.g_NoRow rfl (by decide)) (@pa_nil _) (by rfl)) (by rfl)) (by decide) (by decide) (by rfl) (by rfl)) (@pa_cons _ _ _ _ _ (@pe_callB _ _ _ _ _ _ _ _ _ call_isinstA rfl T.z_isinstance boot_isinstanceT (@pa_cons _ _ _ _ _ (@pv _ 0 _ _ (by rfl) (by first | exact vis0 rfl | exact vis1 rfl | exact vis2 rfl) (by decide) (by decide)) (@pa_cons _ _ _ _ _ (@pe_glob _ _ (.ref t.C_NoThing) _ _ rfl T.g_NoThing rfl (by decide)) (@pa_nil _) (by rfl)) (by rfl)) (by decide) (by decide) (by rfl) (by rfl)) (@pa_cons _ _ _ _ _ (@pe_callB _ _ _ _ _ _ _ _ _ call_isinstA rfl T.z_isinstance boot_isinstanceT (@pa_cons _ _ _ _ _ (@pv _ 0 _ _ (by rfl) (by first | exact vis0 rfl | exact vis1 rfl | exact vis2 rfl) (by decide) (by decide)) (@pa_cons _ _ _ _ _ (@pe_glob _ _ (.ref t.C_Doubled) _ _ rfl T.g_Doubled rfl (by decide)) (@pa_nil _) (by rfl)) (by rfl)) (by decide) (by decide) (by rfl) (by rfl)) (@pa_nil _) (by rfl)) (by rfl)) (by rfl)) (by rfl))) (by rfl) (by first | exact Or.inl rfl | exact Or.inr rfl | assumption)) (@pss_cons _ _ _ _ _ (@ps_set _ _ (1) _ _ _ _ sc_d_l_kinds.nd rfl (by first | exact Or.inl rfl | exact Or.inr rfl) (@pe_op _ _ _ _ _ _ _ _ op_addA (@pv _ 1 _ _ (by rfl) (by first | exact vis0 rfl | exact vis1 rfl | exact vis2 rfl) (by decide) (by decide)) (@pe_lst _ _ _ _ (@pa_cons _ _ _ _ _ (@pe_callB _ _ _ _ _ _ _ _ _ call_isinstA rfl T.z_isinstance boot_isinstanceT (@pa_cons _ _ _ _ _ (@pv _ 0 _ _ (by rfl) (by first | exact vis0 rfl | exact vis1 rfl | exact vis2 rfl) (by decide) (by decide)) (@pa_cons _ _ _ _ _ (@pe_glob _ _ (.ref t.C_NoLabel) _ _ rfl T.g_NoLabel rfl (by decide)) (@pa_nil _) (by rfl)) (by rfl)) (by decide) (by decide) (by rfl) (by rfl)) (@pa_cons _ _ _ _ _ (@pe_callB _ _ _ _ _ _ _ _ _ call_isinstA rfl T.z_isinstance boot_isinstanceT (@pa_cons _ _ _ _ _ (@pv _ 0 _ _ (by rfl) (by first | exact vis0 rfl | exact vis1 rfl | exact vis2 rfl) (by decide) (by decide)) (@pa_cons _ _ _ _ _ (@pe_glob _ _ (.ref t.C_NoFact) _ _ rfl T.g_NoFact rfl (by decide)) (@pa_nil _) (by rfl)) (by rfl)) (by decide) (by decide) (by rfl) (by rfl)) (@pa_cons _ _ _ _ _ (@pe_callB _ _ _ _ _ _ _ _ _ call_isinstA rfl T.z_isinstance boot_isinstanceT (@pa_cons _ _ _ _ _ (@pv _ 0 _ _ (by rfl) (by first | exact vis0 rfl | exact vis1 rfl | exact vis2 rfl) (by decide) (by decide)) (@pa_cons _ _ _ _ _ (@pe_glob _ _ (.ref t.C_NoBeat) _ _ rfl T.g_NoBeat rfl (by decide)) (@pa_nil _) (by rfl)) (by rfl)) (by decide) (by decide) (by rfl) (by rfl)) (@pa_nil _) (by rfl)) (by rfl)) (by rfl)))) (by rfl) (by first | exact Or.inl rfl | exact Or.inr rfl | assumption)) (@pss_cons _ _ _ _ _ (@ps_set _ _ (1) _ _ _ _ sc_d_l_kinds.nd rfl (by first | exact Or.inl rfl | exact Or.inr rfl) (@pe_op _ _ _ _ _ _ _ _ op_addA (@pv _ 1 _ _ (by rfl) (by first | exact vis0 rfl | exact vis1 rfl | exact vis2 rfl) (by decide) (by decide)) (@pe_lst _ _ _ _ (@pa_cons _ _ _ _ _ (@pe_callB _ _ _ _ _ _ _ _ _ call_isinstA rfl T.z_isinstance boot_isinstanceT (@pa_cons _ _ _ _ _ (@pv _ 0 _ _ (by rfl) (by first | exact vis0 rfl | exact vis1 rfl | exact vis2 rfl) (by decide) (by decide)) (@pa_cons _ _ _ _ _ (@pe_glob _ _ (.ref t.C_StillOpen) _ _ rfl T.g_StillOpen rfl (by decide)) (@pa_nil _) (by rfl)) (by rfl)) (by decide) (by decide) (by rfl) (by rfl)) (@pa_cons _ _ _ _ _ (@pe_callB _ _ _ _ _ _ _ _ _ call_isinstA rfl T.z_isinstance boot_isinstanceT (@pa_cons _ _ _ _ _ (@pv _ 0 _ _ (by rfl) (by first | exact vis0 rfl | exact vis1 rfl | exact vis2 rfl) (by decide) (by decide)) (@pa_cons _ _ _ _ _ (@pe_glob _ _ (.ref t.C_Decided) _ _ rfl T.g_Decided rfl (by decide)) (@pa_nil _) (by rfl)) (by rfl)) (by decide) (by decide) (by rfl) (by rfl)) (@pa_cons _ _ _ _ _ (@pe_callB _ _ _ _ _ _ _ _ _ call_isinstA rfl T.z_isinstance boot_isinstanceT (@pa_cons _ _ _ _ _ (@pv _ 0 _ _ (by rfl) (by first | exact vis0 rfl | exact vis1 rfl | exact vis2 rfl) (by decide) (by decide)) (@pa_cons _ _ _ _ _ (@pe_glob _ _ (.ref t.C_NoStand) _ _ rfl T.g_NoStand rfl (by decide)) (@pa_nil _) (by rfl)) (by rfl)) (by decide) (by decide) (by rfl) (by rfl)) (@pa_nil _) (by rfl)) (by rfl)) (by rfl)))) (by rfl) (by first | exact Or.inl rfl | exact Or.inr rfl | assumption)) (@pss_one _ _ _ (@ps_ret _ _ _ _ (@pe_op _ _ _ _ _ _ _ _ op_addA (@pv _ 1 _ _ (by rfl) (by first | exact vis0 rfl | exact vis1 rfl | exact vis2 rfl) (by decide) (by decide)) (@pe_lst _ _ _ _ (@pa_cons _ _ _ _ _ (@pe_callB _ _ _ _ _ _ _ _ _ call_isinstA rfl T.z_isinstance boot_isinstanceT (@pa_cons _ _ _ _ _ (@pv _ 0 _ _ (by rfl) (by first | exact vis0 rfl | exact vis1 rfl | exact vis2 rfl) (by decide) (by decide)) (@pa_cons _ _ _ _ _ (@pe_glob _ _ (.ref t.C_TooMany) _ _ rfl T.g_TooMany rfl (by decide)) (@pa_nil _) (by rfl)) (by rfl)) (by decide) (by decide) (by rfl) (by rfl)) (@pa_cons _ _ _ _ _ (@pe_callB _ _ _ _ _ _ _ _ _ call_isinstA rfl T.z_isinstance boot_isinstanceT (@pa_cons _ _ _ _ _ (@pv _ 0 _ _ (by rfl) (by first | exact vis0 rfl | exact vis1 rfl | exact vis2 rfl) (by decide) (by decide)) (@pa_cons _ _ _ _ _ (@pe_glob _ _ (.ref t.C_Ring) _ _ rfl T.g_Ring rfl (by decide)) (@pa_nil _) (by rfl)) (by rfl)) (by decide) (by decide) (by rfl) (by rfl)) (@pa_cons _ _ _ _ _ (@pe_callB _ _ _ _ _ _ _ _ _ call_isinstA rfl T.z_isinstance boot_isinstanceT (@pa_cons _ _ _ _ _ (@pv _ 0 _ _ (by rfl) (by first | exact vis0 rfl | exact vis1 rfl | exact vis2 rfl) (by decide) (by decide)) (@pa_cons _ _ _ _ _ (@pe_glob _ _ (.ref t.C_NoTurn) _ _ rfl T.g_NoTurn rfl (by decide)) (@pa_nil _) (by rfl)) (by rfl)) (by decide) (by decide) (by rfl) (by rfl)) (@pa_nil _) (by rfl)) (by rfl)) (by rfl))))))))), ?_⟩
    rw [show start n_d_l_kinds [V.ref x] = [some (V.ref x), none] from rfl]
    try simp only [tSeq, tAsg, tLst, tCons, tCB, tVar, List.getElem?_cons_zero, tC, tNil, gName, tOp, List.set_cons_succ, List.set_cons_zero, List.getElem?_cons_succ, tRet, exSlot]
    have hx := xcls T hk
    refine isiE_go hx he (u := .ref t.C_NoStatement) rfl (T.xt_own k 0 _ _ hk rfl) ?_
    refine isiE_go hx he (u := .ref t.C_NoRow) rfl (T.xt_own k 1 _ _ hk rfl) ?_
    refine isiE_go hx he (u := .ref t.C_NoThing) rfl (T.xt_own k 2 _ _ hk rfl) ?_
    refine isiE_go hx he (u := .ref t.C_Doubled) rfl (T.xt_own k 3 _ _ hk rfl) ?_
    refine ⟨short_le (show 4 ≤ 100000 by decide), fun p hp => ?_⟩
    obtain ⟨H1, q1, s1, gp⟩ := newO hp (.lst [.bl (decide (k = 0)), .bl (decide (k = 1)), .bl (decide (k = 2)), .bl (decide (k = 3))]); rw [q1]
    refine isiE_go hx (he.same s1) (u := .ref t.C_NoLabel) rfl (T.xt_own k 4 _ _ hk rfl) ?_
    refine isiE_go hx (he.same s1) (u := .ref t.C_NoFact) rfl (T.xt_own k 5 _ _ hk rfl) ?_
    refine isiE_go hx (he.same s1) (u := .ref t.C_NoBeat) rfl (T.xt_own k 6 _ _ hk rfl) ?_
    refine ⟨short_le (show 3 ≤ 100000 by decide), fun p1 hp1 => ?_⟩
    obtain ⟨H2, q2, s2, gp1⟩ := newO hp1 (.lst [.bl (decide (k = 4)), .bl (decide (k = 5)), .bl (decide (k = 6))]); rw [q2]
    refine .inr (.inr (.inl ⟨p, p1, _, _, rfl, rfl, s2 _ _ gp, gp1, short_le (show 7 ≤ 100000 by decide), fun p2 hp2 => ?_⟩))
    obtain ⟨H3, q3, s3, gp2⟩ := newO hp2 (.lst ([.bl (decide (k = 0)), .bl (decide (k = 1)), .bl (decide (k = 2)), .bl (decide (k = 3))] ++ [.bl (decide (k = 4)), .bl (decide (k = 5)), .bl (decide (k = 6))])); rw [q3]
    refine isiE_go hx (he.same ((s1.trans s2).trans s3)) (u := .ref t.C_StillOpen) rfl (T.xt_own k 7 _ _ hk rfl) ?_
    refine isiE_go hx (he.same ((s1.trans s2).trans s3)) (u := .ref t.C_Decided) rfl (T.xt_own k 8 _ _ hk rfl) ?_
    refine isiE_go hx (he.same ((s1.trans s2).trans s3)) (u := .ref t.C_NoStand) rfl (T.xt_own k 9 _ _ hk rfl) ?_
    refine ⟨short_le (show 3 ≤ 100000 by decide), fun p3 hp3 => ?_⟩
    obtain ⟨H4, q4, s4, gp3⟩ := newO hp3 (.lst [.bl (decide (k = 7)), .bl (decide (k = 8)), .bl (decide (k = 9))]); rw [q4]
    refine .inr (.inr (.inl ⟨p2, p3, _, _, rfl, rfl, s4 _ _ gp2, gp3, short_le (show 10 ≤ 100000 by decide), fun p4 hp4 => ?_⟩))
    obtain ⟨H5, q5, s5, gp4⟩ := newO hp4 (.lst (([.bl (decide (k = 0)), .bl (decide (k = 1)), .bl (decide (k = 2)), .bl (decide (k = 3))] ++ [.bl (decide (k = 4)), .bl (decide (k = 5)), .bl (decide (k = 6))]) ++ [.bl (decide (k = 7)), .bl (decide (k = 8)), .bl (decide (k = 9))])); rw [q5]
    refine isiE_go hx (he.same ((((s1.trans s2).trans s3).trans s4).trans s5)) (u := .ref t.C_TooMany) rfl (T.xt_own k 10 _ _ hk rfl) ?_
    refine isiE_go hx (he.same ((((s1.trans s2).trans s3).trans s4).trans s5)) (u := .ref t.C_Ring) rfl (T.xt_own k 11 _ _ hk rfl) ?_
    refine isiE_go hx (he.same ((((s1.trans s2).trans s3).trans s4).trans s5)) (u := .ref t.C_NoTurn) rfl (T.xt_own k 12 _ _ hk rfl) ?_
    refine ⟨short_le (show 3 ≤ 100000 by decide), fun p5 hp5 => ?_⟩
    obtain ⟨H6, q6, s6, gp5⟩ := newO hp5 (.lst [.bl (decide (k = 10)), .bl (decide (k = 11)), .bl (decide (k = 12))]); rw [q6]
    refine .inr (.inr (.inl ⟨p4, p5, _, _, rfl, rfl, s6 _ _ gp4, gp5, short_le (show 13 ≤ 100000 by decide), fun p6 hp6 => ?_⟩))
    obtain ⟨H7, q7, s7, gp6⟩ := newO hp6 (.lst ((([.bl (decide (k = 0)), .bl (decide (k = 1)), .bl (decide (k = 2)), .bl (decide (k = 3))] ++ [.bl (decide (k = 4)), .bl (decide (k = 5)), .bl (decide (k = 6))]) ++ [.bl (decide (k = 7)), .bl (decide (k = 8)), .bl (decide (k = 9))]) ++ [.bl (decide (k = 10)), .bl (decide (k = 11)), .bl (decide (k = 12))])); rw [q7]
    exact q p6 _ ((((((s1.trans s2).trans s3).trans s4).trans s5).trans s6).trans s7) gp6
theorem ok_d_l_mixed (T : Txt K mg t) : FnOk P w K mg base CX0 1 t.f_d_l_mixed t.fd_d_l_mixed ["_law_cell_here", "_law_k"] spMix := by
  refine T.F_d_l_mixed.ok sc_d_l_mixed (fun vs H Q E h => ?_) (fun cdv A outer s H vs Q E hr h => ?_)
  · obtain ⟨c, k, rfl, q⟩ := h; rfl
  · obtain ⟨c, k, rfl, q⟩ := h
    refine ⟨_, (@pss_cons _ _ _ _ _ (@ps_set _ _ (2) _ _ _ _ sc_d_l_mixed.nd rfl (by first | exact Or.inl rfl | exact Or.inr rfl) (@pe_op _ _ _ _ _ _ _ _ op_mod (@pe_op _ _ _ _ _ _ _ _ op_mul (@pe_op _ _ _ _ _ _ _ _ op_addA (@pe_op _ _ _ _ _ _ _ _ op_addA (@pv _ 0 _ _ (by rfl) (by first | exact vis0 rfl | exact vis1 rfl | exact vis2 rfl) (by decide) (by decide)) (@pe_op _ _ _ _ _ _ _ _ op_mul (@pe_int _ _ _ _) (@pv _ 1 _ _ (by rfl) (by first | exact vis0 rfl | exact vis1 rfl | exact vis2 rfl) (by decide) (by decide)))) (@pe_int _ _ _ _)) (@pe_int _ _ _ _)) (@pe_int _ _ _ _)) (by rfl) (by first | exact Or.inl rfl | exact Or.inr rfl | assumption)) (@pss_cons _ _ _ _ _ (@ps_set _ _ (2) _ _ _ _ sc_d_l_mixed.nd rfl (by first | exact Or.inl rfl | exact Or.inr rfl) (@pe_op _ _ _ _ _ _ _ _ op_mod (@pe_op _ _ _ _ _ _ _ _ op_mul (@pv _ 2 _ _ (by rfl) (by first | exact vis0 rfl | exact vis1 rfl | exact vis2 rfl) (by decide) (by decide)) (@pv _ 2 _ _ (by rfl) (by first | exact vis0 rfl | exact vis1 rfl | exact vis2 rfl) (by decide) (by decide))) (@pe_int _ _ _ _)) (by rfl) (by first | exact Or.inl rfl | exact Or.inr rfl | assumption)) (@pss_one _ _ _ (@ps_ret _ _ _ _ (@pe_op _ _ _ _ _ _ _ _ op_mod (@pe_op _ _ _ _ _ _ _ _ op_mul (@pe_op _ _ _ _ _ _ _ _ op_addA (@pv _ 2 _ _ (by rfl) (by first | exact vis0 rfl | exact vis1 rfl | exact vis2 rfl) (by decide) (by decide)) (@pe_int _ _ _ _)) (@pe_op _ _ _ _ _ _ _ _ op_addA (@pv _ 2 _ _ (by rfl) (by first | exact vis0 rfl | exact vis1 rfl | exact vis2 rfl) (by decide) (by decide)) (@pe_int _ _ _ _))) (@pe_int _ _ _ _)))))), ?_⟩
    rw [show start n_d_l_mixed [V.int c, V.int k] = [some (V.int c), some (V.int k), none] from rfl]
    try simp only [tSeq, tAsg, tOp, tVar, List.getElem?_cons_zero, tC, List.getElem?_cons_succ, gName, List.set_cons_succ, List.set_cons_zero, tRet, exSlot, rI_int, CMul, rAddA_int]
    have h1 := mod_lt' (i := (c + 7919 * k + 5) * 48271) (j := 2147483647) (by decide)
    generalize (c + 7919 * k + 5) * 48271 % 2147483647 = n at h1 ⊢
    have h2 := mod_lt' (i := n * n) (j := 2147483629) (by decide)
    generalize n * n % 2147483629 = m at h2 ⊢
    exact ⟨.inl (by decide), .inr (by decide), by decide, .inl (by omega), by decide, .inl (by omega), by decide, q _ (Int.emod_nonneg _ (by decide))⟩
theorem ok_d_law (T : Txt K mg t) : FnOk P w K mg base CX0 4 t.f_d_law t.fd_d_law ["_law_script"] (spLaw K) := by
  refine T.F_d_law.ok sc_d_law (fun vs H Q E h => ?_) (fun cdv A outer s H vs Q E hr h => ?_)
  · obtain ⟨a, ns, rfl, hS, hl, q⟩ := h; rfl
  · obtain ⟨a, ns, rfl, hS, hl, q⟩ := h
    refine ⟨_, (@pss_cons _ _ _ _ _ (@ps_set _ _ (1) _ _ _ _ sc_d_law.nd rfl (by first | exact Or.inl rfl | exact Or.inr rfl) (@pe_call _ _ _ _ _ _ _ _ _ _ _ _ _ _ _ _ (ok_d_l_cell T) (hr.mono (by decide)) rfl T.g_d_l_cell T.F_d_l_cell.kp T.b_d_l_cell .nil pass0 (@pa_cons _ _ _ _ _ (@pv _ 0 _ _ (by rfl) (by first | exact vis0 rfl | exact vis1 rfl | exact vis2 rfl) (by decide) (by decide)) (@pa_cons _ _ _ _ _ (@pe_int _ _ _ _) (@pa_nil _) (by rfl)) (by rfl)) (by decide) (by rfl) (by rfl)) (by rfl) (by first | exact Or.inl rfl | exact Or.inr rfl | assumption)) (@pss_cons _ _ _ _ _ (@ps_set _ _ (2) _ _ _ _ sc_d_law.nd rfl (by first | exact Or.inl rfl | exact Or.inr rfl) (@pe_str _ _ _ _) (by rfl) (by first | exact Or.inl rfl | exact Or.inr rfl | assumption)) (@pss_cons _ _ _ _ _ (@ps_for _ _ _ _ _ _ _ _ PassesOwn.never rfl (@pi_range1 _ _ _ _ _ _ rfl T.z_range (@pa_cons _ _ _ _ _ (@pe_op _ _ _ _ _ _ _ _ op_mod (@pe_call _ _ _ _ _ _ _ _ _ _ _ _ _ _ _ _ (ok_d_l_mixed T) (hr.mono (by decide)) rfl T.g_d_l_mixed T.F_d_l_mixed.kp T.b_d_l_mixed .nil pass0 (@pa_cons _ _ _ _ _ (@pv _ 1 _ _ (by rfl) (by first | exact vis0 rfl | exact vis1 rfl | exact vis2 rfl) (by decide) (by decide)) (@pa_cons _ _ _ _ _ (@pe_int _ _ _ _) (@pa_nil _) (by rfl)) (by rfl)) (by decide) (by rfl) (by rfl)) (@pe_int _ _ _ _)) (@pa_nil _) (by rfl)) (by rfl)) (@pg_name _ _ (3) _ sc_d_law.nd rfl (by first | exact Or.inl rfl | exact Or.inr rfl) (by first | exact Or.inl rfl | exact Or.inr rfl | assumption)) (@pss_one _ _ _ (@ps_set _ _ (2) _ _ _ _ sc_d_law.nd rfl (by first | exact Or.inl rfl | exact Or.inr rfl) (@pe_op _ _ _ _ _ _ _ _ op_addA (@pv _ 2 _ _ (by rfl) (by first | exact vis0 rfl | exact vis1 rfl | exact vis2 rfl) (by decide) (by decide)) (@pe_ix _ _ _ _ _ _ _ ix_seq (@pe_str _ _ _ _) (@pe_op _ _ _ _ _ _ _ _ op_mod (@pe_call _ _ _ _ _ _ _ _ _ _ _ _ _ _ _ _ (ok_d_l_mixed T) (hr.mono (by decide)) rfl T.g_d_l_mixed T.F_d_l_mixed.kp T.b_d_l_mixed .nil pass0 (@pa_cons _ _ _ _ _ (@pv _ 1 _ _ (by rfl) (by first | exact vis0 rfl | exact vis1 rfl | exact vis2 rfl) (by decide) (by decide)) (@pa_cons _ _ _ _ _ (@pe_op _ _ _ _ _ _ _ _ op_addA (@pe_int _ _ _ _) (@pv _ 3 _ _ (by rfl) (by first | exact vis0 rfl | exact vis1 rfl | exact vis2 rfl) (by decide) (by decide))) (@pa_nil _) (by rfl)) (by rfl)) (by decide) (by rfl) (by rfl)) (@pe_int _ _ _ _)) (fun _ _ => rfl))) (by rfl) (by first | exact Or.inl rfl | exact Or.inr rfl | assumption))) (by intro _ ; rfl)) (@pss_cons _ _ _ _ _ (@ps_set _ _ (4) _ _ _ _ sc_d_law.nd rfl (by first | exact Or.inl rfl | exact Or.inr rfl) (@pe_op _ _ _ _ _ _ _ _ op_mod (@pe_call _ _ _ _ _ _ _ _ _ _ _ _ _ _ _ _ (ok_d_l_cell T) (hr.mono (by decide)) rfl T.g_d_l_cell T.F_d_l_cell.kp T.b_d_l_cell .nil pass0 (@pa_cons _ _ _ _ _ (@pv _ 0 _ _ (by rfl) (by first | exact vis0 rfl | exact vis1 rfl | exact vis2 rfl) (by decide) (by decide)) (@pa_cons _ _ _ _ _ (@pe_int _ _ _ _) (@pa_nil _) (by rfl)) (by rfl)) (by decide) (by rfl) (by rfl)) (@pe_op _ _ _ _ _ _ _ _ op_pow (@pe_int _ _ _ _) (@pe_int _ _ _ _))) (by rfl) (by first | exact Or.inl rfl | exact Or.inr rfl | assumption)) (@pss_cons _ _ _ _ _ (@ps_set _ _ (5) _ _ _ _ sc_d_law.nd rfl (by first | exact Or.inl rfl | exact Or.inr rfl) (@pe_slice _ _ _ _ _ _ _ _ _ _ sl_any (@pe_lst _ _ _ _ (@pa_cons _ _ _ _ _ (@pv _ 2 _ _ (by rfl) (by first | exact vis0 rfl | exact vis1 rfl | exact vis2 rfl) (by decide) (by decide)) (@pa_cons _ _ _ _ _ (@pe_op _ _ _ _ _ _ _ _ op_addA (@pv _ 2 _ _ (by rfl) (by first | exact vis0 rfl | exact vis1 rfl | exact vis2 rfl) (by decide) (by decide)) (@pe_str _ _ _ _)) (@pa_cons _ _ _ _ _ (@pe_op _ _ _ _ _ _ _ _ op_addA (@pv _ 2 _ _ (by rfl) (by first | exact vis0 rfl | exact vis1 rfl | exact vis2 rfl) (by decide) (by decide)) (@pe_str _ _ _ _)) (@pa_nil _) (by rfl)) (by rfl)) (by rfl))) (@po_none _) (@po_some _ _ _ (@pe_op _ _ _ _ _ _ _ _ op_mod (@pe_call _ _ _ _ _ _ _ _ _ _ _ _ _ _ _ _ (ok_d_l_mixed T) (hr.mono (by decide)) rfl T.g_d_l_mixed T.F_d_l_mixed.kp T.b_d_l_mixed .nil pass0 (@pa_cons _ _ _ _ _ (@pv _ 1 _ _ (by rfl) (by first | exact vis0 rfl | exact vis1 rfl | exact vis2 rfl) (by decide) (by decide)) (@pa_cons _ _ _ _ _ (@pe_int _ _ _ _) (@pa_nil _) (by rfl)) (by rfl)) (by decide) (by rfl) (by rfl)) (@pe_int _ _ _ _)))) (by rfl) (by first | exact Or.inl rfl | exact Or.inr rfl | assumption)) (@pss_cons _ _ _ _ _ (@ps_for _ _ _ _ _ _ _ _ PassesOwn.never rfl (@pi_list _ _ _ _ (@pe_lst _ _ _ _ (@pa_cons _ _ _ _ _ (@pv _ 2 _ _ (by rfl) (by first | exact vis0 rfl | exact vis1 rfl | exact vis2 rfl) (by decide) (by decide)) (@pa_cons _ _ _ _ _ (@pv _ 4 _ _ (by rfl) (by first | exact vis0 rfl | exact vis1 rfl | exact vis2 rfl) (by decide) (by decide)) (@pa_cons _ _ _ _ _ (@pe_tup _ _ _ _ _ (@pa_cons _ _ _ _ _ (@pv _ 2 _ _ (by rfl) (by first | exact vis0 rfl | exact vis1 rfl | exact vis2 rfl) (by decide) (by decide)) (@pa_cons _ _ _ _ _ (@pe_op _ _ _ _ _ _ _ _ op_addA (@pv _ 2 _ _ (by rfl) (by first | exact vis0 rfl | exact vis1 rfl | exact vis2 rfl) (by decide) (by decide)) (@pe_str _ _ _ _)) (@pa_nil _) (by rfl)) (by rfl))) (@pa_cons _ _ _ _ _ (@pe_lst _ _ _ _ (@pa_cons _ _ _ _ _ (@pv _ 2 _ _ (by rfl) (by first | exact vis0 rfl | exact vis1 rfl | exact vis2 rfl) (by decide) (by decide)) (@pa_cons _ _ _ _ _ (@pv _ 4 _ _ (by rfl) (by first | exact vis0 rfl | exact vis1 rfl | exact vis2 rfl) (by decide) (by decide)) (@pa_nil _) (by rfl)) (by rfl))) (@pa_cons _ _ _ _ _ (@pe_non _ _ _) (@pa_nil _) (by rfl)) (by rfl)) (by rfl)) (by rfl)) (by rfl)))) (@pg_name _ _ (6) _ sc_d_law.nd rfl (by first | exact Or.inl rfl | exact Or.inr rfl) (by first | exact Or.inl rfl | exact Or.inr rfl | assumption)) (@pss_cons _ _ _ _ _ (@ps_set _ _ (7) _ _ _ _ sc_d_law.nd rfl (by first | exact Or.inl rfl | exact Or.inr rfl) (@pe_call _ _ _ _ _ _ _ _ _ _ _ _ _ _ _ _ (ok_d_l_errors T) (hr.mono (by decide)) rfl T.g_d_l_errors T.F_d_l_errors.kp T.b_d_l_errors .nil pass0 (@pa_cons _ _ _ _ _ (@pv _ 6 _ _ (by rfl) (by first | exact vis0 rfl | exact vis1 rfl | exact vis2 rfl) (by decide) (by decide)) (@pa_cons _ _ _ _ _ (@pv _ 4 _ _ (by rfl) (by first | exact vis0 rfl | exact vis1 rfl | exact vis2 rfl) (by decide) (by decide)) (@pa_cons _ _ _ _ _ (@pv _ 5 _ _ (by rfl) (by first | exact vis0 rfl | exact vis1 rfl | exact vis2 rfl) (by decide) (by decide)) (@pa_nil _) (by rfl)) (by rfl)) (by rfl)) (by decide) (by rfl) (by rfl)) (by rfl) (by first | exact Or.inl rfl | exact Or.inr rfl | assumption)) (@pss_cons _ _ _ _ _ (@ps_for _ _ _ _ _ _ _ _ PassesOwn.never rfl (@pi_enum _ _ _ _ _ _ _ _ rfl T.z_enumerate (@pa_cons _ _ _ _ _ (@pv _ 7 _ _ (by rfl) (by first | exact vis0 rfl | exact vis1 rfl | exact vis2 rfl) (by decide) (by decide)) (@pa_nil _) (by rfl)) (by rfl)) (@pg_tup _ _ _ _ _ _ rfl (@pgs_cons _ _ _ _ _ (@pg_name _ _ (3) _ sc_d_law.nd rfl (by first | exact Or.inl rfl | exact Or.inr rfl) (by first | exact Or.inl rfl | exact Or.inr rfl | assumption)) (@pgs_cons _ _ _ _ _ (@pg_name _ _ (8) _ sc_d_law.nd rfl (by first | exact Or.inl rfl | exact Or.inr rfl) (by first | exact Or.inl rfl | exact Or.inr rfl | assumption)) (@pgs_nil _) (by rfl)) (by rfl)) (by rfl) (by rfl)) (@pss_mid _ _ _ _ _ (@ps_if _ _ _ _ _ _ _ _ (@PW.pt _ _ _ (@pw_or _ _ _ _ _ _ _ (@pt_not _ _ _ _ (@pt_val _ _ _ (@pe_callB _ _ _ _ _ _ _ _ _ call_isinstA rfl T.z_isinstance boot_isinstanceT (@pa_cons _ _ _ _ _ (@pv _ 8 _ _ (by rfl) (by first | exact vis0 rfl | exact vis1 rfl | exact vis2 rfl) (by decide) (by decide)) (@pa_cons _ _ _ _ _ (@pe_glob _ _ (.ref t.C_MostError) _ _ rfl T.g_MostError rfl (by decide)) (@pa_nil _) (by rfl)) (by rfl)) (by decide) (by decide) (by rfl) (by rfl)) (by intro _ ; rfl))) (@pw_or1 _ _ _ _ (@pt_not _ _ _ _ (@pt_val _ _ _ (@pe_callB _ _ _ _ _ _ _ _ _ call_isinstA rfl T.z_isinstance boot_isinstanceT (@pa_cons _ _ _ _ _ (@pv _ 8 _ _ (by rfl) (by first | exact vis0 rfl | exact vis1 rfl | exact vis2 rfl) (by decide) (by decide)) (@pa_cons _ _ _ _ _ (@pe_bltn _ _ (.ty "ValueError") _ _ rfl T.z_ValueError boot_ValueErrorT rfl (by decide) (by decide)) (@pa_nil _) (by rfl)) (by rfl)) (by decide) (by decide) (by rfl) (by rfl)) (by intro _ ; rfl)))))) (@pss_one _ _ _ (@ps_ret _ _ _ _ (@pe_bl _ _ _ _))) (@pss_nil _)) (@pss_one _ _ _ (@ps_if _ _ _ _ _ _ _ _ (@pt_cmpR _ _ _ _ _ _ _ _ (op_neH hr.units) (@pe_call _ _ _ _ _ _ _ _ _ _ _ _ _ _ _ _ (ok_d_l_kinds T) (hr.mono (by decide)) rfl T.g_d_l_kinds T.F_d_l_kinds.kp T.b_d_l_kinds .nil pass0 (@pa_cons _ _ _ _ _ (@pv _ 8 _ _ (by rfl) (by first | exact vis0 rfl | exact vis1 rfl | exact vis2 rfl) (by decide) (by decide)) (@pa_nil _) (by rfl)) (by decide) (by rfl) (by rfl)) (@pe_comp _ _ _ _ _ _ _ _ _ _ _ _ _ (@compOk_of _ (defScope s_d_law) (n_d_law) (["_law_j", "_law_k"]) ([none, some 3]) _ rfl rfl (by decide +kernel)) rfl (@pi_range1 _ _ _ _ _ _ rfl T.z_range (@pa_cons _ _ _ _ _ (@pe_int _ _ _ _) (@pa_nil _) (by rfl)) (by rfl)) (fun _ _ _ _ _ => (@pg_name _ _ (0) _ (show List.Nodup (["_law_j", "_law_k"] : List Str) by decide +kernel) rfl (by first | exact Or.inl rfl | exact Or.inr rfl) (by first | exact Or.inl rfl | exact Or.inr rfl | assumption))) (fun _ _ _ _ _ => @pts_nil _) (fun _ _ _ _ _ => (@pe_cmpR _ _ _ _ _ _ _ _ (op_eqK hr.units (K := K) rfl) (@pv _ 0 _ _ (by rfl) (by first | exact vis0 rfl | exact vis1 rfl | exact vis2 rfl) (by decide) (by decide)) (@pv _ 1 _ _ (by rfl) (by first | exact vis0 rfl | exact vis1 rfl | exact vis2 rfl) (by decide) (by decide)) (nomark _))) (by intro _ ; rfl)) (nomark _)) (@pss_one _ _ _ (@ps_ret _ _ _ _ (@pe_bl _ _ _ _))) (@pss_nil _)))) (by intro _ ; rfl)) (@pss_cons _ _ _ _ _ (@ps_if _ _ _ _ _ _ _ _ (@pt_cmpR _ _ _ _ _ _ _ _ (op_neH hr.units) (@pe_comp _ _ _ _ _ _ _ _ _ _ _ _ _ (@compOk_of _ (defScope s_d_law) (n_d_law) (["_law_one"]) ([none]) _ rfl rfl (by decide +kernel)) rfl (@pi_list _ _ _ _ (@pe_slice _ _ _ _ _ _ _ _ _ _ sl_any (@pv _ 7 _ _ (by rfl) (by first | exact vis0 rfl | exact vis1 rfl | exact vis2 rfl) (by decide) (by decide)) (@po_none _) (@po_some _ _ _ (@pe_int _ _ _ _)))) (fun _ _ _ _ _ => (@pg_name _ _ (0) _ (show List.Nodup (["_law_one"] : List Str) by decide +kernel) rfl (by first | exact Or.inl rfl | exact Or.inr rfl) (by first | exact Or.inl rfl | exact Or.inr rfl | assumption))) (fun _ _ _ _ _ => @pts_nil _) (fun _ _ _ _ _ => (@pe_fldXK _ (K) _ _ _ _ rfl (@pv _ 0 _ _ (by rfl) (by first | exact vis0 rfl | exact vis1 rfl | exact vis2 rfl) (by decide) (by decide)) rfl)) (by intro _ ; rfl)) (@pe_op _ _ _ _ _ _ _ _ op_rep (@pe_lst _ _ _ _ (@pa_cons _ _ _ _ _ (@pv _ 6 _ _ (by rfl) (by first | exact vis0 rfl | exact vis1 rfl | exact vis2 rfl) (by decide) (by decide)) (@pa_nil _) (by rfl))) (@pe_int _ _ _ _)) (nomark _)) (@pss_one _ _ _ (@ps_ret _ _ _ _ (@pe_bl _ _ _ _))) (@pss_nil _)) (@pss_one _ _ _ (@ps_if _ _ _ _ _ _ _ _ (@PW.pt _ _ _ (@pw_or _ _ _ _ _ _ _ (@pt_cmpR _ _ _ _ _ _ _ _ (op_neH hr.units) (@pe_fldX _ _ _ _ _ (@pe_ix _ _ _ _ _ _ _ ix_seq (@pv _ 7 _ _ (by rfl) (by first | exact vis0 rfl | exact vis1 rfl | exact vis2 rfl) (by decide) (by decide)) (@pe_int _ _ _ _) (fun _ _ => rfl)) rfl) (@pv _ 4 _ _ (by rfl) (by first | exact vis0 rfl | exact vis1 rfl | exact vis2 rfl) (by decide) (by decide)) (nomark _)) (@pw_or1 _ _ _ _ (@pt_cmpR _ _ _ _ _ _ _ _ (op_neH hr.units) (@pe_fldX _ _ _ _ _ (@pe_ix _ _ _ _ _ _ _ ix_seq (@pv _ 7 _ _ (by rfl) (by first | exact vis0 rfl | exact vis1 rfl | exact vis2 rfl) (by decide) (by decide)) (@pe_int _ _ _ _) (fun _ _ => rfl)) rfl) (@pv _ 5 _ _ (by rfl) (by first | exact vis0 rfl | exact vis1 rfl | exact vis2 rfl) (by decide) (by decide)) (nomark _))))) (@pss_one _ _ _ (@ps_ret _ _ _ _ (@pe_bl _ _ _ _))) (@pss_nil _)))))) (by intro _ ; rfl)) (@pss_one _ _ _ (@ps_ret _ _ _ _ (@pe_bl _ _ _ _))))))))), ?_⟩
    rw [show start n_d_law [V.ref a] = [some (V.ref a), none, none, none, none, none, none, none, none] from rfl]
    try simp only [tSeq, tAsg, tCall, tCons, tVar, List.getElem?_cons_zero, tC, tNil, List.append_nil, gName, List.set_cons_succ, List.set_cons_zero, tFor_eq, iRng1, tOp, List.getElem?_cons_succ, exSlot]
    refine ⟨a, ns, 0, rfl, hS, hl, by decide, by decide, fun ch => ?_⟩
    try simp only [spMix_at, rI_int]
    intro r1 hr1
    try skip
    have hm1 := mod_lt' (i := r1) (j := 12) (by decide)
    refine ⟨by decide, _, rfl, by omega, by omega, ?_⟩
    refine for_range (fun i σ H' => H' = H ∧ ∃ z y3, σ = [some (V.ref a), some (V.int ch), some (V.str z), y3, none, none, none, none, none] ∧ PyData.strOk z = true ∧ z.length = i) ⟨rfl, _, _, rfl, by decide +kernel, by decide +kernel⟩ ?_ ?_
    · rintro i σ H' hi ⟨rfl, z, y3, rfl, hz, hzl⟩
      try simp only [gName, tAsg, tOp, tVar, List.set_cons_succ, List.set_cons_zero, List.getElem?_cons_succ, List.getElem?_cons_zero, tC, tCall, tCons, tNil, List.append_nil, exSlot, rAddA_int, spMix_at, rI_int, rIx_str, rAddA_str]
      intro r2 hr2
      have hm2 := mod_lt' (i := r2) (j := 41) (by decide)
      obtain ⟨c, e, hc, _⟩ := atI_in (xs := ("abcdefghijklmnopqrstuvwxyz0123456789 -()," : Str).cps.toList) (i := r2 % 41) hm2.1 (by rw [show ("abcdefghijklmnopqrstuvwxyz0123456789 -()," : Str).cps.toList.length = 41 from by decide +kernel]; exact hm2.2)
      have hc2 : c < 128 := by revert hc; generalize c = c'; revert c'; decide +kernel
      have hl1 : (⟨#[c]⟩ : Str).length = 1 := rfl
      refine ⟨by decide, by decide +kernel, c, e, short_le (by omega), trivial, _, _, rfl, strOk_app hz ?_, ?_⟩
      · unfold PyData.strOk; simp; omega
      · show (z.cps ++ #[c]).size = i + 1
        rw [Array.size_append]; exact congrArg (· + 1) hzl
    · rintro σ H' ⟨rfl, z, y3, rfl, hz, hzl⟩
      try simp only [tSeq, tAsg, tOp, tCall, tCons, tVar, List.getElem?_cons_zero, tC, tNil, List.append_nil, gName, tSl, tLst, List.set_cons_succ, List.set_cons_zero, List.getElem?_cons_succ, tNoPart, tPart, tFor_eq, iList, tTup, exRef, exSlot, rAddA_str, spMix_at, rI_int, exInt, CPow]
      refine ⟨a, ns, 1, rfl, hS, hl, by decide, by decide, fun nm => ?_⟩
      try simp only [rI_int]
      refine ⟨⟨by decide, by decide, by decide⟩, by decide +kernel, ?_⟩
      generalize nm % _ = n
      have hla : ("a" : Str).length = 1 := by decide +kernel
      have hlb : ("b" : Str).length = 1 := by decide +kernel
      have hlx : ("x" : Str).length = 1 := by decide +kernel
      refine ⟨short_le (by omega), short_le (by omega), short_le (show 3 ≤ 100000 by decide), fun c0 hc0 r3 hr3 => ⟨by decide, ?_⟩⟩
      obtain ⟨H1, e1, s1, h1⟩ := newO hc0 (.lst [V.str z, V.str (z ++ "a"), V.str (z ++ "b")]); rw [e1]
      have hm3 := mod_lt' (i := r3) (j := 4) (by decide)
      refine .inr (.inl ⟨c0, _, rfl, SqL.of h1, fun cc hcc => ?_⟩)
      rw [cut_take _ hm3.1]
      obtain ⟨zs, ez, hzs⟩ : ∃ zs : List Str, [V.str z, V.str (z ++ "a"), V.str (z ++ "b")].take (r3 % 4).toNat = zs.map V.str ∧ ∀ q ∈ zs, PyData.strOk q = true := by
        refine ⟨[z, z ++ "a", z ++ "b"].take (r3 % 4).toNat, by rw [List.map_take]; rfl, fun q hq => ?_⟩
        have := List.mem_of_mem_take hq
        simp only [List.mem_cons, List.not_mem_nil, or_false] at this
        rcases this with rfl | rfl | rfl
        · exact hz
        · exact strOk_app hz (by decide +kernel)
        · exact strOk_app hz (by decide +kernel)
      rw [ez]
      obtain ⟨H2, e2, s2, h2⟩ := newO hcc (.lst (zs.map V.str)); rw [e2]
      refine ⟨short_le (by omega), short_le (show 2 ≤ 100000 by decide), fun p hp => ?_⟩
      obtain ⟨H3, e3, s3, h3⟩ := newO hp (.tup [V.str z, V.str (z ++ "x")]); rw [e3]
      refine ⟨short_le (show 2 ≤ 100000 by decide), fun p1 hp1 => ?_⟩
      obtain ⟨H4, e4, s4, h4⟩ := newO hp1 (.lst [V.str z, V.int n]); rw [e4]
      refine ⟨short_le (show 5 ≤ 100000 by decide), fun p2 hp2 => ?_⟩
      obtain ⟨H5, e5, s5, h5⟩ := newO hp2 (.lst [V.str z, V.int n, V.ref p, V.ref p1, V.non]); rw [e5]
      refine ⟨⟨_, SqL.of h5⟩, ?_⟩
      have hzx : PyData.strOk (z ++ "x") = true := strOk_app hz (by decide +kernel)
      refine for_list (K := K) (a := p2) (xs := [V.str z, V.int n, V.ref p, V.ref p1, V.non]) (fun i σ H' => (∃ y3 y6 y7 y8, σ = [some (V.ref a), some (V.int ch), some (V.str z), y3, some (V.int n), some (V.ref cc), y6, y7, y8]) ∧ Same H5 H') ⟨⟨_, _, _, _, rfl⟩, Same.refl _⟩ (fun i σ H' _ h => SqL.of (h.2 _ _ h5)) ?_ ?_
      · rintro i v σ H6 hi ⟨⟨y3, y6, y7, y8, rfl⟩, s6⟩
        obtain ⟨d, hd, hd1, hd2⟩ : ∃ d, Den K H6 v d ∧ d.canLay0 = true ∧ d.depth ≤ 3 := by
          have hv := List.mem_of_getElem? hi
          simp only [List.mem_cons, List.not_mem_nil, or_false] at hv
          rcases hv with rfl | rfl | rfl | rfl | rfl
          · exact ⟨_, .str z, hz, Nat.zero_le _⟩
          · exact ⟨_, .int n, rfl, Nat.zero_le _⟩
          · refine ⟨_, .tup (SqT.of (s6 _ _ (s5 _ _ (s4 _ _ h3)))) (denStrs [z, z ++ "x"]), ?_, by simp [PyData.depth, PyData.depthAll]⟩
            simp [PyData.canLay0, PyData.canLayAll0, hz, hzx]
          · refine ⟨_, .lst (SqL.of (s6 _ _ (s5 _ _ h4))) (.cons (.str z) (.cons (.int n) .nil)), ?_, by simp [PyData.depth, PyData.depthAll]⟩
            simp [PyData.canLay0, PyData.canLayAll0, hz]
          · exact ⟨_, .non, rfl, Nat.zero_le _⟩
        have hcc6 : H6 cc = some (.lst (zs.map V.str)) := s6 _ _ (s5 _ _ (s4 _ _ (s3 _ _ h2)))
        try simp only [gName, tSeq, tAsg, tCall, tCons, tVar, List.set_cons_succ, List.set_cons_zero, List.getElem?_cons_succ, List.getElem?_cons_zero, tNil, List.append_nil, tFor_eq, iEnum, exSlot]
        refine ⟨v, n, cc, _, rfl, hcc6, fun pp l xs H7 s7 hpp hll hE => ?_⟩
        try simp only []
        refine ⟨_, rfl, ⟨_, SqL.of hpp⟩, ?_⟩
        refine for_enum (K := K) (a := pp) (xs := xs.map V.ref) (fun i σ H' => (∃ y3 y8, σ = [some (V.ref a), some (V.int ch), some (V.str z), y3, some (V.int n), some (V.ref cc), some v, some (V.ref pp), y8]) ∧ Same H7 H') ⟨⟨_, _, rfl⟩, Same.refl _⟩ (fun i σ H' _ h => SqL.of (h.2 _ _ hpp)) ?_ ?_
        · rintro k x' σ H8 p8 hk ⟨⟨y3, y8, rfl⟩, s8⟩ hp8
          rw [List.getElem?_map] at hk
          obtain ⟨x, hx, rfl⟩ := Option.map_eq_some_iff.mp hk
          obtain ⟨H9, e9, s9, h9⟩ := newO hp8 (.tup [.int k, .ref x]); rw [e9]
          refine ⟨p8, _, rfl, SqT.of h9, rfl, _, _, rfl, _, _, rfl, rfl, ?_⟩
          have hkl : k < (es t v n l).length := by rw [← hE.len]; exact (List.getElem?_eq_some_iff.mp hx).1
          have hke := List.getElem?_eq_getElem hkl
          obtain ⟨x', hx', he⟩ := hE.get hke
          rw [hx] at hx'; cases hx'
          have hkc : (cs t)[k]? = some (es t v n l)[k].1 := by rw [← es_cs (v := v) (n := n) (l := l), List.getElem?_map, hke]; rfl
          generalize (es t v n l)[k] = e at he hkc
          have hxc := xcls T hkc
          have he9 := he.same (s8.trans s9)
          try simp only [List.set_cons_succ, List.set_cons_zero]
          refine ⟨fun σ' H' => σ' = [some (V.ref a), some (V.int ch), some (V.str z), some (V.int k), some (V.int n), some (V.ref cc), some v, some (V.ref pp), some (V.ref x)] ∧ H' = H9, ?_, ?_⟩
          · try simp only [tIfS, tOr, tNot, tB, tCB, tCons, tVar, List.getElem?_cons_succ, List.getElem?_cons_zero, tC, tNil, Bool.not_eq_true', tRet, tNext, exSlot]
            refine isiE_go hxc he9 (u := .ref t.C_MostError) rfl (T.xt_up k 0 _ _ hkc rfl) ?_
            try simp only [exBl, ite_tf]
            refine isiE_go hxc he9 (u := .type "ValueError") rfl (T.xt_up k 1 _ _ hkc rfl) ?_
            try simp only [exBl, ite_tf]
            exact ⟨trivial, trivial⟩
          · rintro _ _ ⟨rfl, rfl⟩
            try simp only [tIfS, tTest, tOp, tCall, tCons, tVar, List.getElem?_cons_succ, List.getElem?_cons_zero, tNil, List.append_nil, tRet, tC, tNext, tComp_eq, iRng1, exSlot]
            refine ⟨x, k, _, _, rfl, hkc, he9, fun pr H10 s10 h10 => ?_⟩
            try simp only []
            refine ⟨_, rfl, by decide, by decide, ?_⟩
            refine comp_1 src_range (short_le (by decide)) [some (V.int k)] rfl (fun i u => u = .bl (decide (k = i))) (fun _ _ => trivial) (fun i H' R hi s hR => ?_) (fun E1 H11 ys hEn s11 hE1 hl1 hv1 => ?_)
            · try simp only [tOp, tVar, List.getElem?_cons_zero, List.getElem?_cons_succ, exSlot, rEqH_int]
              refine hR _ _ (Same.refl _) ?_
              congr 1
              rw [decide_eq_decide]; omega
            have eys : ys = (row k).map V.bl := by
              refine List.ext_getElem? fun i => ?_
              unfold row
              rw [List.getElem?_map, List.getElem?_map]
              by_cases hi : i < 13
              · rw [List.getElem?_range hi, List.getElem?_eq_getElem (by omega)]
                exact congrArg some (hv1 i _ (List.getElem?_eq_getElem (by omega)))
              · rw [List.getElem?_eq_none (by omega), List.getElem?_eq_none (by simp; omega)]; rfl
            subst eys
            refine rNeD_same (d := .list ((row k).map PyData.bool)) (.lst (SqL.of (s11 _ _ h10)) (denBls _)) (.lst (SqL.of hE1) (denBls _)) (shapedB _) ?_
            try simp only [exBl, ite_ft]
            exact ⟨⟨_, _, rfl⟩, (s8.trans s9).trans (s10.trans s11)⟩
        · rintro σ H8 ⟨⟨y3, y8, rfl⟩, s8⟩
          try simp only [tSeq, tIfS, tTest, tOp, tLst, tCons, tVar, List.getElem?_cons_succ, List.getElem?_cons_zero, tNil, tC, tRet, tNext, tOr, exSlot, tComp_eq, iList, tSl, tNoPart, tPart, exInt]
          refine .inr (.inl ⟨pp, _, rfl, SqL.of (s8 _ _ hpp), fun pc hpc => ?_⟩)
          rw [cut_take _ (by decide)]
          obtain ⟨H10, e10, s10, h10⟩ := newO hpc (.lst ((xs.map V.ref).take (10 : Int).toNat)); rw [e10]
          refine ⟨pc, rfl, ⟨_, SqL.of h10⟩, ?_⟩
          have hxl : xs.length = 13 := hE.len
          have h10l : ((xs.map V.ref).take (10 : Int).toNat).length = 10 := by rw [List.length_take, List.length_map, hxl]; rfl
          refine comp_1 (src_list (K := K) (xs := (xs.map V.ref).take (10 : Int).toNat)) (by rw [h10l]; exact short_le (by decide)) [] rfl (fun i u => u = v) (fun H' s => SqL.of (s _ _ h10)) (fun i H' R hi s hR => ?_) (fun E1 H11 ys hEn s11 hE1 hl1 hv1 => ?_)
          · rw [h10l] at hi
            have hil : i < (es t v n l).length := Nat.lt_of_lt_of_le hi (by show 10 ≤ 13; decide)
            have hie := List.getElem?_eq_getElem hil
            obtain ⟨x, hx, he⟩ := hE.get hie
            obtain ⟨ee, f, O⟩ := xfound T hi hie
            generalize (es t v n l)[i] = e at he ee O
            obtain ⟨C, o⟩ := e
            cases ee
            have ex : (((xs.map V.ref).take (10 : Int).toNat)[i]?).getD .non = V.ref x := by
              rw [List.getElem?_take, if_pos (show i < (10 : Int).toNat from hi), List.getElem?_map, hx]; rfl
            rw [ex]
            exact fldX_go O (ErrF.same (s8.trans (s10.trans s)) he) (fun R r => ⟨_, rfl, r⟩) (hR _ _ (Same.refl _) rfl)
          rw [h10l] at hl1
          have eys : ys = List.replicate 10 v := List.eq_replicate_iff.mpr ⟨hl1, fun u hu => by obtain ⟨i, hi⟩ := List.getElem?_of_mem hu; exact hv1 i u hi⟩
          subst eys
          refine ⟨short_le (show 1 ≤ 100000 by decide), fun pv hpv => ?_⟩
          obtain ⟨H12, e12, s12, h12⟩ := newO hpv (.lst [v]); rw [e12]
          refine ⟨pv, 10, _, rfl, rfl, h12, by decide, by decide, short_le (show 10 ≤ 100000 by decide), fun pw hpw => ?_⟩
          obtain ⟨H13, e13, s13, h13⟩ := newO hpw (.lst (List.replicate (10 : Int).toNat [v]).flatten); rw [e13]
          have s813 : Same H8 H13 := s10.trans (s11.trans (s12.trans s13))
          have hd13 : Den K H13 v d := hd.same (s7.trans (s8.trans s813))
          refine rNeD_same (d := .list (List.replicate 10 d)) (.lst (SqL.of (s13 _ _ (s12 _ _ hE1))) (denRep hd13 10)) (.lst (SqL.of (show H13 pw = some (.lst (List.replicate 10 v)) from h13)) (denRep hd13 10)) (shapedR hd1 hd2 10) ?_
          try simp only [exBl, ite_ft]
          obtain ⟨x10, hx10, he10⟩ := hE.get (i := 10) rfl
          obtain ⟨x11, hx11, he11⟩ := hE.get (i := 11) rfl
          have hpp13 : SqL K H13 pp (xs.map V.ref) := SqL.of (s813 _ _ (s8 _ _ hpp))
          refine fldX_go T.x_TooMany (ErrF.same (s8.trans s813) he10) (fun R r => ⟨_, rfl, rIx_lst hpp13 (atI_nat (j := 10) (by rw [List.getElem?_map, hx10]; rfl)) r⟩) ?_
          try simp only [rNeH_int, decide_true, exBl, Bool.not_eq_true', ite_tf]
          refine fldX_go T.x_Ring (ErrF.same (s8.trans s813) he11) (fun R r => ⟨_, rfl, rIx_lst hpp13 (atI_nat (j := 11) (by rw [List.getElem?_map, hx11]; rfl)) r⟩) ?_
          refine rNeD_same (d := .list (zs.map PyData.str)) (.lst (SqL.of (s813 _ _ (s8 _ _ hll))) (denStrs _)) (.lst (SqL.of (s813 _ _ (s8 _ _ (s7 _ _ hcc6)))) (denStrs _)) (shapedZ hzs) ?_
          try simp only [exBl, ite_ft]
          exact ⟨⟨_, _, _, _, rfl⟩, s6.trans (s7.trans (s8.trans s813))⟩
      · rintro σ H' ⟨⟨y3, y6, y7, y8, rfl⟩, s6⟩
        try simp only [tRet, tC]
        exact q _
end
end K05
open PySem PySem.W PyProof.Rows
namespace K05
open PySem PySem.W L2
noncomputable section
abbrev kE (P : Params) (x : String) (t : Nat) (v : Value) : DictEntry := ⟨PyData.keyHash P x, .str x t, v⟩
abbrev kC (n q : String) (s : Stmt) : Obj := ⟨.none, none, (.func ⟨n, q, defArgs s, .stmts (defBody s), defScope s, 0, [], .none, .none, .none, .none, none, .none, .none, 0⟩), #[]⟩
def o0 (P : Params) : Obj := ⟨(.type "dict"), none, (.dict #[kE P "__name__" 1 (.str "builtins" 160), kE P "__doc__" 2 (.builtin "builtins.__doc__:str#opaque"), kE P "__package__" 3 (.builtin "builtins.__package__:str#opaque"), kE P "__loader__" 4 (.builtin "builtins.__loader__:shared#opaque"), kE P "__spec__" 5 (.builtin "builtins.__spec__#opaque"), kE P "__build_class__" 6 (.builtin "__build_class__"), kE P "__import__" 7 (.builtin "__import__"), kE P "abs" 8 (.builtin "abs"), kE P "all" 9 (.builtin "all"), kE P "any" 10 (.builtin "any"), kE P "ascii" 11 (.builtin "ascii"), kE P "bin" 12 (.builtin "bin"), kE P "breakpoint" 13 (.builtin "breakpoint"), kE P "callable" 14 (.builtin "callable"), kE P "chr" 15 (.builtin "chr"), kE P "compile" 16 (.builtin "compile"), kE P "delattr" 17 (.builtin "delattr"), kE P "dir" 18 (.builtin "dir"), kE P "divmod" 19 (.builtin "divmod"), kE P "eval" 20 (.builtin "eval"), kE P "exec" 21 (.builtin "exec"), kE P "format" 22 (.builtin "format"), kE P "getattr" 23 (.builtin "getattr"), kE P "globals" 24 (.builtin "globals"), kE P "hasattr" 25 (.builtin "hasattr"), kE P "hash" 26 (.builtin "hash"), kE P "hex" 27 (.builtin "hex"), kE P "id" 28 (.builtin "id"), kE P "input" 29 (.builtin "input"), kE P "isinstance" 30 (.builtin "isinstance"), kE P "issubclass" 31 (.builtin "issubclass"), kE P "iter" 32 (.builtin "iter"), kE P "aiter" 33 (.builtin "aiter"), kE P "len" 34 (.builtin "len"), kE P "locals" 35 (.builtin "locals"), kE P "max" 36 (.builtin "max"), kE P "min" 37 (.builtin "min"), kE P "next" 38 (.builtin "next"), kE P "anext" 39 (.builtin "anext"), kE P "oct" 40 (.builtin "oct"), kE P "ord" 41 (.builtin "ord"), kE P "pow" 42 (.builtin "pow"), kE P "print" 43 (.builtin "print"), kE P "repr" 44 (.builtin "repr"), kE P "round" 45 (.builtin "round"), kE P "setattr" 46 (.builtin "setattr"), kE P "sorted" 47 (.builtin "sorted"), kE P "sum" 48 (.builtin "sum"), kE P "vars" 49 (.builtin "vars"), kE P "None" 50 .none, kE P "Ellipsis" 51 .ellipsis, kE P "NotImplemented" 52 .notImplemented, kE P "False" 53 (.bool false), kE P "True" 54 (.bool true), kE P "bool" 55 (.type "bool"), kE P "memoryview" 56 (.type "memoryview"), kE P "bytearray" 57 (.type "bytearray"), kE P "bytes" 58 (.type "bytes"), kE P "classmethod" 59 (.type "classmethod"), kE P "complex" 60 (.type "complex"), kE P "dict" 61 (.type "dict"), kE P "enumerate" 62 (.type "enumerate"), kE P "filter" 63 (.type "filter"), kE P "float" 64 (.type "float"), kE P "frozenset" 65 (.type "frozenset"), kE P "property" 66 (.type "property"), kE P "int" 67 (.type "int"), kE P "list" 68 (.type "list"), kE P "map" 69 (.type "map"), kE P "object" 70 (.type "object"), kE P "range" 71 (.type "range"), kE P "reversed" 72 (.type "reversed"), kE P "set" 73 (.type "set"), kE P "slice" 74 (.type "slice"), kE P "staticmethod" 75 (.type "staticmethod"), kE P "str" 76 (.type "str"), kE P "super" 77 (.type "super"), kE P "tuple" 78 (.type "tuple"), kE P "type" 79 (.type "type"), kE P "zip" 80 (.type "zip"), kE P "__debug__" 81 (.bool true), kE P "BaseException" 82 (.type "BaseException"), kE P "BaseExceptionGroup" 83 (.type "BaseExceptionGroup"), kE P "Exception" 84 (.type "Exception"), kE P "GeneratorExit" 85 (.type "GeneratorExit"), kE P "KeyboardInterrupt" 86 (.type "KeyboardInterrupt"), kE P "SystemExit" 87 (.type "SystemExit"), kE P "ArithmeticError" 88 (.type "ArithmeticError"), kE P "AssertionError" 89 (.type "AssertionError"), kE P "AttributeError" 90 (.type "AttributeError"), kE P "BufferError" 91 (.type "BufferError"), kE P "EOFError" 92 (.type "EOFError"), kE P "ImportError" 93 (.type "ImportError"), kE P "LookupError" 94 (.type "LookupError"), kE P "MemoryError" 95 (.type "MemoryError"), kE P "NameError" 96 (.type "NameError"), kE P "OSError" 97 (.type "OSError"), kE P "ReferenceError" 98 (.type "ReferenceError"), kE P "RuntimeError" 99 (.type "RuntimeError"), kE P "StopAsyncIteration" 100 (.type "StopAsyncIteration"), kE P "StopIteration" 101 (.type "StopIteration"), kE P "SyntaxError" 102 (.type "SyntaxError"), kE P "SystemError" 103 (.type "SystemError"), kE P "TypeError" 104 (.type "TypeError"), kE P "ValueError" 105 (.type "ValueError"), kE P "Warning" 106 (.type "Warning"), kE P "FloatingPointError" 107 (.type "FloatingPointError"), kE P "OverflowError" 108 (.type "OverflowError"), kE P "ZeroDivisionError" 109 (.type "ZeroDivisionError"), kE P "BytesWarning" 110 (.type "BytesWarning"), kE P "DeprecationWarning" 111 (.type "DeprecationWarning"), kE P "EncodingWarning" 112 (.type "EncodingWarning"), kE P "FutureWarning" 113 (.type "FutureWarning"), kE P "ImportWarning" 114 (.type "ImportWarning"), kE P "PendingDeprecationWarning" 115 (.type "PendingDeprecationWarning"), kE P "ResourceWarning" 116 (.type "ResourceWarning"), kE P "RuntimeWarning" 117 (.type "RuntimeWarning"), kE P "SyntaxWarning" 118 (.type "SyntaxWarning"), kE P "UnicodeWarning" 119 (.type "UnicodeWarning"), kE P "UserWarning" 120 (.type "UserWarning"), kE P "BlockingIOError" 121 (.type "BlockingIOError"), kE P "ChildProcessError" 122 (.type "ChildProcessError"), kE P "ConnectionError" 123 (.type "ConnectionError"), kE P "FileExistsError" 124 (.type "FileExistsError"), kE P "FileNotFoundError" 125 (.type "FileNotFoundError"), kE P "InterruptedError" 126 (.type "InterruptedError"), kE P "IsADirectoryError" 127 (.type "IsADirectoryError"), kE P "NotADirectoryError" 128 (.type "NotADirectoryError"), kE P "PermissionError" 129 (.type "PermissionError"), kE P "ProcessLookupError" 130 (.type "ProcessLookupError"), kE P "TimeoutError" 131 (.type "TimeoutError"), kE P "IndentationError" 132 (.type "IndentationError"), kE P "_IncompleteInputError" 133 (.type "_IncompleteInputError"), kE P "IndexError" 134 (.type "IndexError"), kE P "KeyError" 135 (.type "KeyError"), kE P "ModuleNotFoundError" 136 (.type "ModuleNotFoundError"), kE P "NotImplementedError" 137 (.type "NotImplementedError"), kE P "PythonFinalizationError" 138 (.type "PythonFinalizationError"), kE P "RecursionError" 139 (.type "RecursionError"), kE P "UnboundLocalError" 140 (.type "UnboundLocalError"), kE P "UnicodeError" 141 (.type "UnicodeError"), kE P "BrokenPipeError" 142 (.type "BrokenPipeError"), kE P "ConnectionAbortedError" 143 (.type "ConnectionAbortedError"), kE P "ConnectionRefusedError" 144 (.type "ConnectionRefusedError"), kE P "ConnectionResetError" 145 (.type "ConnectionResetError"), kE P "TabError" 146 (.type "TabError"), kE P "UnicodeDecodeError" 147 (.type "UnicodeDecodeError"), kE P "UnicodeEncodeError" 148 (.type "UnicodeEncodeError"), kE P "UnicodeTranslateError" 149 (.type "UnicodeTranslateError"), kE P "ExceptionGroup" 150 (.type "ExceptionGroup"), kE P "EnvironmentError" 151 (.type "OSError"), kE P "IOError" 152 (.type "OSError"), kE P "open" 153 (.builtin "open"), kE P "quit" 154 (.builtin "builtins.quit#opaque"), kE P "exit" 155 (.builtin "builtins.exit#opaque"), kE P "copyright" 156 (.builtin "builtins.copyright#opaque"), kE P "credits" 157 (.builtin "builtins.credits#opaque"), kE P "license" 158 (.builtin "builtins.license#opaque"), kE P "help" 159 (.builtin "builtins.help#opaque")] 159), #[]⟩
def o1 (P : Params) : Obj := ⟨(.type "dict"), none, (.dict #[kE P "builtins" 162 (.ref 4), kE P "__main__" 163 (.ref 5)] 2), #[]⟩
def o2 (P : Params) : Obj := ⟨.none, none, (.dict #[] 0), #[]⟩
def o3 (P : Params) : Obj := ⟨(.type "dict"), none, (.dict #[kE P "__name__" 165 (.str "law_mostwise_k05_refusals" 523), kE P "__doc__" 166 .none, kE P "__package__" 167 .none, kE P "__loader__" 168 (.builtin "__main__.__loader__#opaque"), kE P "__spec__" 169 .none, kE P "__annotations__" 170 (.ref 6), kE P "__builtins__" 171 (.ref 4), kE P "__file__" 173 (.str "/claim/cut.py" 172), kE P "__cached__" 174 .none, kE P "MostError" 206 (.ref 24), kE P "NoStatement" 231 (.ref 44), kE P "NoRow" 256 (.ref 63), kE P "NoThing" 281 (.ref 82), kE P "Doubled" 306 (.ref 101), kE P "NoLabel" 331 (.ref 120), kE P "NoFact" 356 (.ref 139), kE P "NoBeat" 381 (.ref 158), kE P "TooMany" 406 (.ref 177), kE P "Ring" 431 (.ref 196), kE P "StillOpen" 456 (.ref 215), kE P "Decided" 481 (.ref 234), kE P "NoStand" 506 (.ref 253), kE P "NoTurn" 522 (.ref 265), kE P "_law_cell" 532 (.ref 274), kE P "_law_mixed" 541 (.ref 281), kE P "_law_errors" 551 (.ref 288), kE P "_law_kinds" 559 (.ref 295), kE P "law" 565 (.ref 300)] 28), #[]⟩
def o4 (P : Params) : Obj := ⟨(.type "module"), (some 0), .plain, #[]⟩
def o5 (P : Params) : Obj := ⟨(.type "module"), (some 3), .plain, #[]⟩
def o6 (P : Params) : Obj := ⟨(.type "dict"), none, (.dict #[] 0), #[]⟩
def o7 (P : Params) : Obj := ⟨(.type "tuple"), none, (.seq #[] 0), #[]⟩
def o8 (P : Params) : Obj := ⟨.none, none, (.fields #[]), #[]⟩
def o9 (P : Params) : Obj := ⟨(.type "code"), none, (.fields #[(.str "<module>" 176), (.str "<module>" 177), (.str "/claim/cut.py" 178), (.int (1) 0), (.int (0) 0), (.int (0) 0), (.int (0) 0), (.int (0) 0), (.ref 7), (.bool false), (.int (175) 0), (.ref 8), .none, .none, .none, .none, (.int (179) 0), (.int (1) 0), (.str "/claim/cut.py" 180)]), #[]⟩
def o10 (P : Params) : Obj := ⟨(.type "frame"), none, .plain, #[(some (.ref 9)), (some (.ref 3)), (some (.ref 3)), none, (some (.str "__main__" 164)), none, (some (.ref 0))]⟩
def o11 (P : Params) : Obj := ⟨(.type "tuple"), none, (.seq #[] 0), #[]⟩
def o12 (P : Params) : Obj := ⟨.none, none, (.fields #[(.int (2) 0), (.int (0) 0), (.ref 20), (.int (4) 0), (.int (0) 0), (.ref 33), (.int (8) 0), (.int (0) 0), (.ref 52), (.int (12) 0), (.int (0) 0), (.ref 71), (.int (16) 0), (.int (0) 0), (.ref 90), (.int (20) 0), (.int (0) 0), (.ref 109), (.int (24) 0), (.int (0) 0), (.ref 128), (.int (28) 0), (.int (0) 0), (.ref 147), (.int (32) 0), (.int (0) 0), (.ref 166), (.int (36) 0), (.int (0) 0), (.ref 185), (.int (40) 0), (.int (0) 0), (.ref 204), (.int (44) 0), (.int (0) 0), (.ref 223), (.int (48) 0), (.int (0) 0), (.ref 242), (.int (52) 0), (.int (0) 0), (.ref 261), (.int (55) 0), (.int (0) 0), (.ref 273), (.int (59) 0), (.int (0) 0), (.ref 280), (.int (63) 0), (.int (0) 0), (.ref 287), (.int (67) 0), (.int (0) 0), (.ref 294), (.int (72) 0), (.int (0) 0), (.ref 299)]), #[]⟩
def o13 (P : Params) : Obj := ⟨(.type "code"), none, (.fields #[(.str "<module>" 182), (.str "<module>" 183), (.str "/claim/cut.py" 184), (.int (1) 0), (.int (0) 0), (.int (0) 0), (.int (0) 0), (.int (0) 0), (.ref 11), (.bool false), (.int (181) 0), (.ref 12), .none, .none, .none, .none, (.int (185) 0), (.int (1) 0), (.str "/claim/cut.py" 186)]), #[]⟩
def o14 (P : Params) : Obj := ⟨(.type "frame"), none, .plain, #[(some (.ref 13)), (some (.ref 3)), (some (.ref 3)), none, (some (.str "__main__" 164)), none, (some (.ref 0))]⟩
def o15 (P : Params) : Obj := ⟨(.type "tuple"), none, (.seq #[(.type "ValueError")] 0), #[]⟩
def o16 (P : Params) : Obj := ⟨(.type "builtin_function_or_method"), none, (.fields #[(.builtin "type.__prepare__"), (.type "type")]), #[]⟩
def o17 (P : Params) : Obj := ⟨(.type "dict"), none, (.dict #[kE P "__module__" 196 (.str "mostwise.errors" 187), kE P "__qualname__" 198 (.str "MostError" 197), ⟨PyData.keyHash P "__firstlineno__", (.str "__firstlineno__" 200), (.int (2) 199)⟩, kE P "__static_attributes__" 201 (.ref 22)] 4), #[]⟩
def o18 (P : Params) : Obj := ⟨(.type "tuple"), none, (.seq #[] 0), #[]⟩
def o19 (P : Params) : Obj := ⟨.none, none, (.fields #[]), #[]⟩
def o20 (P : Params) : Obj := ⟨(.type "code"), none, (.fields #[(.str "MostError" 191), (.str "MostError" 192), (.str "/claim/cut.py" 193), (.int (2) 0), (.int (0) 0), (.int (0) 0), (.int (0) 0), (.int (0) 0), (.ref 18), (.bool false), (.int (181) 0), (.ref 19), .none, .none, .none, .none, (.int (194) 0), (.int (2) 0), (.str "/claim/cut.py" 195)]), #[]⟩
def o21 (P : Params) : Obj := ⟨(.type "frame"), none, .plain, #[(some (.ref 20)), (some (.ref 3)), (some (.ref 17)), none, (some (.str "mostwise.errors" 187)), none, (some (.ref 0))]⟩
def o22 (P : Params) : Obj := ⟨(.type "tuple"), none, (.seq #[] 0), #[]⟩
def o23 (P : Params) : Obj := ⟨(.type "dict"), none, (.dict #[kE P "__module__" 196 (.str "mostwise.errors" 187), ⟨PyData.keyHash P "__firstlineno__", (.str "__firstlineno__" 200), (.int (2) 199)⟩, kE P "__static_attributes__" 201 (.ref 22), kE P "__weakref__" 203 (.ref 25), kE P "__doc__" 204 .none] 3), #[]⟩
def o24 (P : Params) : Obj := ⟨(.type "type"), none, (.cls ⟨"MostError", [(.type "ValueError")], [(.ref 24), (.type "ValueError"), (.type "Exception"), (.type "BaseException"), (.type "object")], 23, "MostError", true, [], [(.ref 44), (.ref 63), (.ref 82), (.ref 101), (.ref 120), (.ref 139), (.ref 158), (.ref 177), (.ref 196), (.ref 215), (.ref 234), (.ref 253), (.ref 265)], false, none, false⟩), #[(some (.ref 15)), none, (some (.str "MostError" 189)), (some (.str "MostError" 197)), (some (.builtin "ValueError.__new__")), (some (.bool true))]⟩
def o25 (P : Params) : Obj := ⟨(.type "getset_descriptor"), none, (.fields #[(.str "__weakref__" 202), (.ref 24), (.builtin "ExceptionGroup.__weakref__"), .none]), #[]⟩
def o26 (P : Params) : Obj := ⟨(.type "super"), none, (.fields #[(.ref 24), (.ref 24), (.ref 24)]), #[]⟩
def o27 (P : Params) : Obj := ⟨(.type "builtin_function_or_method"), none, (.fields #[(.builtin "object.__init_subclass__"), (.ref 24)]), #[]⟩
def o28 (P : Params) : Obj := ⟨(.type "tuple"), none, (.seq #[(.ref 24)] 0), #[]⟩
def o29 (P : Params) : Obj := ⟨(.type "builtin_function_or_method"), none, (.fields #[(.builtin "type.__prepare__"), (.type "type")]), #[]⟩
def o30 (P : Params) : Obj := ⟨(.type "dict"), none, (.dict #[kE P "__module__" 214 (.str "mostwise.errors" 187), kE P "__qualname__" 216 (.str "NoStatement" 215), ⟨PyData.keyHash P "__firstlineno__", (.str "__firstlineno__" 218), (.int (4) 217)⟩, kE P "__init__" 226 (.ref 41), kE P "__static_attributes__" 228 (.ref 42)] 5), #[]⟩
def o31 (P : Params) : Obj := ⟨(.type "tuple"), none, (.seq #[] 0), #[]⟩
def o32 (P : Params) : Obj := ⟨.none, none, (.fields #[(.int (6) 0), (.int (4) 0), (.ref 40)]), #[]⟩
def o33 (P : Params) : Obj := ⟨(.type "code"), none, (.fields #[(.str "NoStatement" 209), (.str "NoStatement" 210), (.str "/claim/cut.py" 211), (.int (4) 0), (.int (0) 0), (.int (0) 0), (.int (0) 0), (.int (0) 0), (.ref 31), (.bool false), (.int (181) 0), (.ref 32), .none, .none, .none, .none, (.int (212) 0), (.int (4) 0), (.str "/claim/cut.py" 213)]), #[]⟩
def o34 (P : Params) : Obj := ⟨(.type "frame"), none, .plain, #[(some (.ref 33)), (some (.ref 3)), (some (.ref 30)), none, (some (.str "mostwise.errors" 187)), none, (some (.ref 0))]⟩
def o35 (P : Params) : Obj := ⟨(.type "tuple"), none, (.seq #[] 0), #[]⟩
def o36 (P : Params) : Obj := ⟨.none, none, (.fields #[]), #[]⟩
def o37 (P : Params) : Obj := ⟨(.type "tuple"), none, (.seq #[(.str "self" 222), (.str "found" 223)] 0), #[]⟩
def o38 (P : Params) : Obj := ⟨(.type "tuple"), none, (.seq #[] 0), #[]⟩
def o39 (P : Params) : Obj := kC "__init__" "NoStatement.__init__" s_c_NoStatement_init
def o40 (P : Params) : Obj := ⟨(.type "code"), none, (.fields #[(.str "__init__" 219), (.str "NoStatement.__init__" 220), (.str "/claim/cut.py" 221), (.int (6) 0), (.int (2) 0), (.int (0) 0), (.int (0) 0), (.int (3) 0), (.ref 35), (.bool true), (.int (181) 0), (.ref 36), .none, (.ref 37), (.ref 38), (.ref 39), (.int (224) 0), (.int (6) 0), (.str "/claim/cut.py" 225)]), #[]⟩
def o41 (P : Params) : Obj := ⟨(.type "function"), none, (.func (PySem.W.fnOf "__init__" "NoStatement.__init__" (defArgs s_c_NoStatement_init) (defBody s_c_NoStatement_init) (defScope s_c_NoStatement_init) .none .none .none (.str "mostwise.errors" 187) none (.ref 40) .none)), #[]⟩
def o42 (P : Params) : Obj := ⟨(.type "tuple"), none, (.seq #[(.str "found" 227)] 0), #[]⟩
def o43 (P : Params) : Obj := ⟨(.type "dict"), none, (.dict #[kE P "__module__" 214 (.str "mostwise.errors" 187), ⟨PyData.keyHash P "__firstlineno__", (.str "__firstlineno__" 218), (.int (4) 217)⟩, kE P "__init__" 226 (.ref 41), kE P "__static_attributes__" 228 (.ref 42), kE P "__doc__" 229 .none] 2), #[]⟩
def o44 (P : Params) : Obj := ⟨(.type "type"), none, (.cls ⟨"NoStatement", [(.ref 24)], [(.ref 44), (.ref 24), (.type "ValueError"), (.type "Exception"), (.type "BaseException"), (.type "object")], 43, "NoStatement", true, [], [], false, none, false⟩), #[(some (.ref 28)), none, (some (.str "NoStatement" 207)), (some (.str "NoStatement" 215)), (some (.builtin "ValueError.__new__")), (some (.bool true))]⟩
def o45 (P : Params) : Obj := ⟨(.type "super"), none, (.fields #[(.ref 44), (.ref 44), (.ref 44)]), #[]⟩
def o46 (P : Params) : Obj := ⟨(.type "builtin_function_or_method"), none, (.fields #[(.builtin "object.__init_subclass__"), (.ref 44)]), #[]⟩
def o47 (P : Params) : Obj := ⟨(.type "tuple"), none, (.seq #[(.ref 24)] 0), #[]⟩
def o48 (P : Params) : Obj := ⟨(.type "builtin_function_or_method"), none, (.fields #[(.builtin "type.__prepare__"), (.type "type")]), #[]⟩
def o49 (P : Params) : Obj := ⟨(.type "dict"), none, (.dict #[kE P "__module__" 239 (.str "mostwise.errors" 187), kE P "__qualname__" 241 (.str "NoRow" 240), ⟨PyData.keyHash P "__firstlineno__", (.str "__firstlineno__" 243), (.int (8) 242)⟩, kE P "__init__" 251 (.ref 60), kE P "__static_attributes__" 253 (.ref 61)] 5), #[]⟩
def o50 (P : Params) : Obj := ⟨(.type "tuple"), none, (.seq #[] 0), #[]⟩
def o51 (P : Params) : Obj := ⟨.none, none, (.fields #[(.int (10) 0), (.int (4) 0), (.ref 59)]), #[]⟩
def o52 (P : Params) : Obj := ⟨(.type "code"), none, (.fields #[(.str "NoRow" 234), (.str "NoRow" 235), (.str "/claim/cut.py" 236), (.int (8) 0), (.int (0) 0), (.int (0) 0), (.int (0) 0), (.int (0) 0), (.ref 50), (.bool false), (.int (181) 0), (.ref 51), .none, .none, .none, .none, (.int (237) 0), (.int (8) 0), (.str "/claim/cut.py" 238)]), #[]⟩
def o53 (P : Params) : Obj := ⟨(.type "frame"), none, .plain, #[(some (.ref 52)), (some (.ref 3)), (some (.ref 49)), none, (some (.str "mostwise.errors" 187)), none, (some (.ref 0))]⟩
def o54 (P : Params) : Obj := ⟨(.type "tuple"), none, (.seq #[] 0), #[]⟩
def o55 (P : Params) : Obj := ⟨.none, none, (.fields #[]), #[]⟩
def o56 (P : Params) : Obj := ⟨(.type "tuple"), none, (.seq #[(.str "self" 247), (.str "found" 248)] 0), #[]⟩
def o57 (P : Params) : Obj := ⟨(.type "tuple"), none, (.seq #[] 0), #[]⟩
def o58 (P : Params) : Obj := kC "__init__" "NoRow.__init__" s_c_NoRow_init
def o59 (P : Params) : Obj := ⟨(.type "code"), none, (.fields #[(.str "__init__" 244), (.str "NoRow.__init__" 245), (.str "/claim/cut.py" 246), (.int (10) 0), (.int (2) 0), (.int (0) 0), (.int (0) 0), (.int (3) 0), (.ref 54), (.bool true), (.int (181) 0), (.ref 55), .none, (.ref 56), (.ref 57), (.ref 58), (.int (249) 0), (.int (10) 0), (.str "/claim/cut.py" 250)]), #[]⟩
def o60 (P : Params) : Obj := ⟨(.type "function"), none, (.func (PySem.W.fnOf "__init__" "NoRow.__init__" (defArgs s_c_NoRow_init) (defBody s_c_NoRow_init) (defScope s_c_NoRow_init) .none .none .none (.str "mostwise.errors" 187) none (.ref 59) .none)), #[]⟩
def o61 (P : Params) : Obj := ⟨(.type "tuple"), none, (.seq #[(.str "found" 252)] 0), #[]⟩
def o62 (P : Params) : Obj := ⟨(.type "dict"), none, (.dict #[kE P "__module__" 239 (.str "mostwise.errors" 187), ⟨PyData.keyHash P "__firstlineno__", (.str "__firstlineno__" 243), (.int (8) 242)⟩, kE P "__init__" 251 (.ref 60), kE P "__static_attributes__" 253 (.ref 61), kE P "__doc__" 254 .none] 2), #[]⟩
def o63 (P : Params) : Obj := ⟨(.type "type"), none, (.cls ⟨"NoRow", [(.ref 24)], [(.ref 63), (.ref 24), (.type "ValueError"), (.type "Exception"), (.type "BaseException"), (.type "object")], 62, "NoRow", true, [], [], false, none, false⟩), #[(some (.ref 47)), none, (some (.str "NoRow" 232)), (some (.str "NoRow" 240)), (some (.builtin "ValueError.__new__")), (some (.bool true))]⟩
def o64 (P : Params) : Obj := ⟨(.type "super"), none, (.fields #[(.ref 63), (.ref 63), (.ref 63)]), #[]⟩
def o65 (P : Params) : Obj := ⟨(.type "builtin_function_or_method"), none, (.fields #[(.builtin "object.__init_subclass__"), (.ref 63)]), #[]⟩
def o66 (P : Params) : Obj := ⟨(.type "tuple"), none, (.seq #[(.ref 24)] 0), #[]⟩
def o67 (P : Params) : Obj := ⟨(.type "builtin_function_or_method"), none, (.fields #[(.builtin "type.__prepare__"), (.type "type")]), #[]⟩
def o68 (P : Params) : Obj := ⟨(.type "dict"), none, (.dict #[kE P "__module__" 264 (.str "mostwise.errors" 187), kE P "__qualname__" 266 (.str "NoThing" 265), ⟨PyData.keyHash P "__firstlineno__", (.str "__firstlineno__" 268), (.int (12) 267)⟩, kE P "__init__" 276 (.ref 79), kE P "__static_attributes__" 278 (.ref 80)] 5), #[]⟩
def o69 (P : Params) : Obj := ⟨(.type "tuple"), none, (.seq #[] 0), #[]⟩
def o70 (P : Params) : Obj := ⟨.none, none, (.fields #[(.int (14) 0), (.int (4) 0), (.ref 78)]), #[]⟩
def o71 (P : Params) : Obj := ⟨(.type "code"), none, (.fields #[(.str "NoThing" 259), (.str "NoThing" 260), (.str "/claim/cut.py" 261), (.int (12) 0), (.int (0) 0), (.int (0) 0), (.int (0) 0), (.int (0) 0), (.ref 69), (.bool false), (.int (181) 0), (.ref 70), .none, .none, .none, .none, (.int (262) 0), (.int (12) 0), (.str "/claim/cut.py" 263)]), #[]⟩
def o72 (P : Params) : Obj := ⟨(.type "frame"), none, .plain, #[(some (.ref 71)), (some (.ref 3)), (some (.ref 68)), none, (some (.str "mostwise.errors" 187)), none, (some (.ref 0))]⟩
def o73 (P : Params) : Obj := ⟨(.type "tuple"), none, (.seq #[] 0), #[]⟩
def o74 (P : Params) : Obj := ⟨.none, none, (.fields #[]), #[]⟩
def o75 (P : Params) : Obj := ⟨(.type "tuple"), none, (.seq #[(.str "self" 272), (.str "found" 273)] 0), #[]⟩
def o76 (P : Params) : Obj := ⟨(.type "tuple"), none, (.seq #[] 0), #[]⟩
def o77 (P : Params) : Obj := kC "__init__" "NoThing.__init__" s_c_NoThing_init
def o78 (P : Params) : Obj := ⟨(.type "code"), none, (.fields #[(.str "__init__" 269), (.str "NoThing.__init__" 270), (.str "/claim/cut.py" 271), (.int (14) 0), (.int (2) 0), (.int (0) 0), (.int (0) 0), (.int (3) 0), (.ref 73), (.bool true), (.int (181) 0), (.ref 74), .none, (.ref 75), (.ref 76), (.ref 77), (.int (274) 0), (.int (14) 0), (.str "/claim/cut.py" 275)]), #[]⟩
def o79 (P : Params) : Obj := ⟨(.type "function"), none, (.func (PySem.W.fnOf "__init__" "NoThing.__init__" (defArgs s_c_NoThing_init) (defBody s_c_NoThing_init) (defScope s_c_NoThing_init) .none .none .none (.str "mostwise.errors" 187) none (.ref 78) .none)), #[]⟩
def o80 (P : Params) : Obj := ⟨(.type "tuple"), none, (.seq #[(.str "found" 277)] 0), #[]⟩
def o81 (P : Params) : Obj := ⟨(.type "dict"), none, (.dict #[kE P "__module__" 264 (.str "mostwise.errors" 187), ⟨PyData.keyHash P "__firstlineno__", (.str "__firstlineno__" 268), (.int (12) 267)⟩, kE P "__init__" 276 (.ref 79), kE P "__static_attributes__" 278 (.ref 80), kE P "__doc__" 279 .none] 2), #[]⟩
def o82 (P : Params) : Obj := ⟨(.type "type"), none, (.cls ⟨"NoThing", [(.ref 24)], [(.ref 82), (.ref 24), (.type "ValueError"), (.type "Exception"), (.type "BaseException"), (.type "object")], 81, "NoThing", true, [], [], false, none, false⟩), #[(some (.ref 66)), none, (some (.str "NoThing" 257)), (some (.str "NoThing" 265)), (some (.builtin "ValueError.__new__")), (some (.bool true))]⟩
def o83 (P : Params) : Obj := ⟨(.type "super"), none, (.fields #[(.ref 82), (.ref 82), (.ref 82)]), #[]⟩
def o84 (P : Params) : Obj := ⟨(.type "builtin_function_or_method"), none, (.fields #[(.builtin "object.__init_subclass__"), (.ref 82)]), #[]⟩
def o85 (P : Params) : Obj := ⟨(.type "tuple"), none, (.seq #[(.ref 24)] 0), #[]⟩
def o86 (P : Params) : Obj := ⟨(.type "builtin_function_or_method"), none, (.fields #[(.builtin "type.__prepare__"), (.type "type")]), #[]⟩
def o87 (P : Params) : Obj := ⟨(.type "dict"), none, (.dict #[kE P "__module__" 289 (.str "mostwise.errors" 187), kE P "__qualname__" 291 (.str "Doubled" 290), ⟨PyData.keyHash P "__firstlineno__", (.str "__firstlineno__" 293), (.int (16) 292)⟩, kE P "__init__" 301 (.ref 98), kE P "__static_attributes__" 303 (.ref 99)] 5), #[]⟩
def o88 (P : Params) : Obj := ⟨(.type "tuple"), none, (.seq #[] 0), #[]⟩
def o89 (P : Params) : Obj := ⟨.none, none, (.fields #[(.int (18) 0), (.int (4) 0), (.ref 97)]), #[]⟩
def o90 (P : Params) : Obj := ⟨(.type "code"), none, (.fields #[(.str "Doubled" 284), (.str "Doubled" 285), (.str "/claim/cut.py" 286), (.int (16) 0), (.int (0) 0), (.int (0) 0), (.int (0) 0), (.int (0) 0), (.ref 88), (.bool false), (.int (181) 0), (.ref 89), .none, .none, .none, .none, (.int (287) 0), (.int (16) 0), (.str "/claim/cut.py" 288)]), #[]⟩
def o91 (P : Params) : Obj := ⟨(.type "frame"), none, .plain, #[(some (.ref 90)), (some (.ref 3)), (some (.ref 87)), none, (some (.str "mostwise.errors" 187)), none, (some (.ref 0))]⟩
def o92 (P : Params) : Obj := ⟨(.type "tuple"), none, (.seq #[] 0), #[]⟩
def o93 (P : Params) : Obj := ⟨.none, none, (.fields #[]), #[]⟩
def o94 (P : Params) : Obj := ⟨(.type "tuple"), none, (.seq #[(.str "self" 297), (.str "found" 298)] 0), #[]⟩
def o95 (P : Params) : Obj := ⟨(.type "tuple"), none, (.seq #[] 0), #[]⟩
def o96 (P : Params) : Obj := kC "__init__" "Doubled.__init__" s_c_Doubled_init
def o97 (P : Params) : Obj := ⟨(.type "code"), none, (.fields #[(.str "__init__" 294), (.str "Doubled.__init__" 295), (.str "/claim/cut.py" 296), (.int (18) 0), (.int (2) 0), (.int (0) 0), (.int (0) 0), (.int (3) 0), (.ref 92), (.bool true), (.int (181) 0), (.ref 93), .none, (.ref 94), (.ref 95), (.ref 96), (.int (299) 0), (.int (18) 0), (.str "/claim/cut.py" 300)]), #[]⟩
def o98 (P : Params) : Obj := ⟨(.type "function"), none, (.func (PySem.W.fnOf "__init__" "Doubled.__init__" (defArgs s_c_Doubled_init) (defBody s_c_Doubled_init) (defScope s_c_Doubled_init) .none .none .none (.str "mostwise.errors" 187) none (.ref 97) .none)), #[]⟩
def o99 (P : Params) : Obj := ⟨(.type "tuple"), none, (.seq #[(.str "found" 302)] 0), #[]⟩
def o100 (P : Params) : Obj := ⟨(.type "dict"), none, (.dict #[kE P "__module__" 289 (.str "mostwise.errors" 187), ⟨PyData.keyHash P "__firstlineno__", (.str "__firstlineno__" 293), (.int (16) 292)⟩, kE P "__init__" 301 (.ref 98), kE P "__static_attributes__" 303 (.ref 99), kE P "__doc__" 304 .none] 2), #[]⟩
def o101 (P : Params) : Obj := ⟨(.type "type"), none, (.cls ⟨"Doubled", [(.ref 24)], [(.ref 101), (.ref 24), (.type "ValueError"), (.type "Exception"), (.type "BaseException"), (.type "object")], 100, "Doubled", true, [], [], false, none, false⟩), #[(some (.ref 85)), none, (some (.str "Doubled" 282)), (some (.str "Doubled" 290)), (some (.builtin "ValueError.__new__")), (some (.bool true))]⟩
def o102 (P : Params) : Obj := ⟨(.type "super"), none, (.fields #[(.ref 101), (.ref 101), (.ref 101)]), #[]⟩
def o103 (P : Params) : Obj := ⟨(.type "builtin_function_or_method"), none, (.fields #[(.builtin "object.__init_subclass__"), (.ref 101)]), #[]⟩
def o104 (P : Params) : Obj := ⟨(.type "tuple"), none, (.seq #[(.ref 24)] 0), #[]⟩
def o105 (P : Params) : Obj := ⟨(.type "builtin_function_or_method"), none, (.fields #[(.builtin "type.__prepare__"), (.type "type")]), #[]⟩
def o106 (P : Params) : Obj := ⟨(.type "dict"), none, (.dict #[kE P "__module__" 314 (.str "mostwise.errors" 187), kE P "__qualname__" 316 (.str "NoLabel" 315), ⟨PyData.keyHash P "__firstlineno__", (.str "__firstlineno__" 318), (.int (20) 317)⟩, kE P "__init__" 326 (.ref 117), kE P "__static_attributes__" 328 (.ref 118)] 5), #[]⟩
def o107 (P : Params) : Obj := ⟨(.type "tuple"), none, (.seq #[] 0), #[]⟩
def o108 (P : Params) : Obj := ⟨.none, none, (.fields #[(.int (22) 0), (.int (4) 0), (.ref 116)]), #[]⟩
def o109 (P : Params) : Obj := ⟨(.type "code"), none, (.fields #[(.str "NoLabel" 309), (.str "NoLabel" 310), (.str "/claim/cut.py" 311), (.int (20) 0), (.int (0) 0), (.int (0) 0), (.int (0) 0), (.int (0) 0), (.ref 107), (.bool false), (.int (181) 0), (.ref 108), .none, .none, .none, .none, (.int (312) 0), (.int (20) 0), (.str "/claim/cut.py" 313)]), #[]⟩
def o110 (P : Params) : Obj := ⟨(.type "frame"), none, .plain, #[(some (.ref 109)), (some (.ref 3)), (some (.ref 106)), none, (some (.str "mostwise.errors" 187)), none, (some (.ref 0))]⟩
def o111 (P : Params) : Obj := ⟨(.type "tuple"), none, (.seq #[] 0), #[]⟩
def o112 (P : Params) : Obj := ⟨.none, none, (.fields #[]), #[]⟩
def o113 (P : Params) : Obj := ⟨(.type "tuple"), none, (.seq #[(.str "self" 322), (.str "found" 323)] 0), #[]⟩
def o114 (P : Params) : Obj := ⟨(.type "tuple"), none, (.seq #[] 0), #[]⟩
def o115 (P : Params) : Obj := kC "__init__" "NoLabel.__init__" s_c_NoLabel_init
def o116 (P : Params) : Obj := ⟨(.type "code"), none, (.fields #[(.str "__init__" 319), (.str "NoLabel.__init__" 320), (.str "/claim/cut.py" 321), (.int (22) 0), (.int (2) 0), (.int (0) 0), (.int (0) 0), (.int (3) 0), (.ref 111), (.bool true), (.int (181) 0), (.ref 112), .none, (.ref 113), (.ref 114), (.ref 115), (.int (324) 0), (.int (22) 0), (.str "/claim/cut.py" 325)]), #[]⟩
def o117 (P : Params) : Obj := ⟨(.type "function"), none, (.func (PySem.W.fnOf "__init__" "NoLabel.__init__" (defArgs s_c_NoLabel_init) (defBody s_c_NoLabel_init) (defScope s_c_NoLabel_init) .none .none .none (.str "mostwise.errors" 187) none (.ref 116) .none)), #[]⟩
def o118 (P : Params) : Obj := ⟨(.type "tuple"), none, (.seq #[(.str "found" 327)] 0), #[]⟩
def o119 (P : Params) : Obj := ⟨(.type "dict"), none, (.dict #[kE P "__module__" 314 (.str "mostwise.errors" 187), ⟨PyData.keyHash P "__firstlineno__", (.str "__firstlineno__" 318), (.int (20) 317)⟩, kE P "__init__" 326 (.ref 117), kE P "__static_attributes__" 328 (.ref 118), kE P "__doc__" 329 .none] 2), #[]⟩
def o120 (P : Params) : Obj := ⟨(.type "type"), none, (.cls ⟨"NoLabel", [(.ref 24)], [(.ref 120), (.ref 24), (.type "ValueError"), (.type "Exception"), (.type "BaseException"), (.type "object")], 119, "NoLabel", true, [], [], false, none, false⟩), #[(some (.ref 104)), none, (some (.str "NoLabel" 307)), (some (.str "NoLabel" 315)), (some (.builtin "ValueError.__new__")), (some (.bool true))]⟩
def o121 (P : Params) : Obj := ⟨(.type "super"), none, (.fields #[(.ref 120), (.ref 120), (.ref 120)]), #[]⟩
def o122 (P : Params) : Obj := ⟨(.type "builtin_function_or_method"), none, (.fields #[(.builtin "object.__init_subclass__"), (.ref 120)]), #[]⟩
def o123 (P : Params) : Obj := ⟨(.type "tuple"), none, (.seq #[(.ref 24)] 0), #[]⟩
def o124 (P : Params) : Obj := ⟨(.type "builtin_function_or_method"), none, (.fields #[(.builtin "type.__prepare__"), (.type "type")]), #[]⟩
def o125 (P : Params) : Obj := ⟨(.type "dict"), none, (.dict #[kE P "__module__" 339 (.str "mostwise.errors" 187), kE P "__qualname__" 341 (.str "NoFact" 340), ⟨PyData.keyHash P "__firstlineno__", (.str "__firstlineno__" 343), (.int (24) 342)⟩, kE P "__init__" 351 (.ref 136), kE P "__static_attributes__" 353 (.ref 137)] 5), #[]⟩
def o126 (P : Params) : Obj := ⟨(.type "tuple"), none, (.seq #[] 0), #[]⟩
def o127 (P : Params) : Obj := ⟨.none, none, (.fields #[(.int (26) 0), (.int (4) 0), (.ref 135)]), #[]⟩
def o128 (P : Params) : Obj := ⟨(.type "code"), none, (.fields #[(.str "NoFact" 334), (.str "NoFact" 335), (.str "/claim/cut.py" 336), (.int (24) 0), (.int (0) 0), (.int (0) 0), (.int (0) 0), (.int (0) 0), (.ref 126), (.bool false), (.int (181) 0), (.ref 127), .none, .none, .none, .none, (.int (337) 0), (.int (24) 0), (.str "/claim/cut.py" 338)]), #[]⟩
def o129 (P : Params) : Obj := ⟨(.type "frame"), none, .plain, #[(some (.ref 128)), (some (.ref 3)), (some (.ref 125)), none, (some (.str "mostwise.errors" 187)), none, (some (.ref 0))]⟩
def o130 (P : Params) : Obj := ⟨(.type "tuple"), none, (.seq #[] 0), #[]⟩
def o131 (P : Params) : Obj := ⟨.none, none, (.fields #[]), #[]⟩
def o132 (P : Params) : Obj := ⟨(.type "tuple"), none, (.seq #[(.str "self" 347), (.str "found" 348)] 0), #[]⟩
def o133 (P : Params) : Obj := ⟨(.type "tuple"), none, (.seq #[] 0), #[]⟩
def o134 (P : Params) : Obj := kC "__init__" "NoFact.__init__" s_c_NoFact_init
def o135 (P : Params) : Obj := ⟨(.type "code"), none, (.fields #[(.str "__init__" 344), (.str "NoFact.__init__" 345), (.str "/claim/cut.py" 346), (.int (26) 0), (.int (2) 0), (.int (0) 0), (.int (0) 0), (.int (3) 0), (.ref 130), (.bool true), (.int (181) 0), (.ref 131), .none, (.ref 132), (.ref 133), (.ref 134), (.int (349) 0), (.int (26) 0), (.str "/claim/cut.py" 350)]), #[]⟩
def o136 (P : Params) : Obj := ⟨(.type "function"), none, (.func (PySem.W.fnOf "__init__" "NoFact.__init__" (defArgs s_c_NoFact_init) (defBody s_c_NoFact_init) (defScope s_c_NoFact_init) .none .none .none (.str "mostwise.errors" 187) none (.ref 135) .none)), #[]⟩
def o137 (P : Params) : Obj := ⟨(.type "tuple"), none, (.seq #[(.str "found" 352)] 0), #[]⟩
def o138 (P : Params) : Obj := ⟨(.type "dict"), none, (.dict #[kE P "__module__" 339 (.str "mostwise.errors" 187), ⟨PyData.keyHash P "__firstlineno__", (.str "__firstlineno__" 343), (.int (24) 342)⟩, kE P "__init__" 351 (.ref 136), kE P "__static_attributes__" 353 (.ref 137), kE P "__doc__" 354 .none] 2), #[]⟩
def o139 (P : Params) : Obj := ⟨(.type "type"), none, (.cls ⟨"NoFact", [(.ref 24)], [(.ref 139), (.ref 24), (.type "ValueError"), (.type "Exception"), (.type "BaseException"), (.type "object")], 138, "NoFact", true, [], [], false, none, false⟩), #[(some (.ref 123)), none, (some (.str "NoFact" 332)), (some (.str "NoFact" 340)), (some (.builtin "ValueError.__new__")), (some (.bool true))]⟩
def o140 (P : Params) : Obj := ⟨(.type "super"), none, (.fields #[(.ref 139), (.ref 139), (.ref 139)]), #[]⟩
def o141 (P : Params) : Obj := ⟨(.type "builtin_function_or_method"), none, (.fields #[(.builtin "object.__init_subclass__"), (.ref 139)]), #[]⟩
def o142 (P : Params) : Obj := ⟨(.type "tuple"), none, (.seq #[(.ref 24)] 0), #[]⟩
def o143 (P : Params) : Obj := ⟨(.type "builtin_function_or_method"), none, (.fields #[(.builtin "type.__prepare__"), (.type "type")]), #[]⟩
def o144 (P : Params) : Obj := ⟨(.type "dict"), none, (.dict #[kE P "__module__" 364 (.str "mostwise.errors" 187), kE P "__qualname__" 366 (.str "NoBeat" 365), ⟨PyData.keyHash P "__firstlineno__", (.str "__firstlineno__" 368), (.int (28) 367)⟩, kE P "__init__" 376 (.ref 155), kE P "__static_attributes__" 378 (.ref 156)] 5), #[]⟩
def o145 (P : Params) : Obj := ⟨(.type "tuple"), none, (.seq #[] 0), #[]⟩
def o146 (P : Params) : Obj := ⟨.none, none, (.fields #[(.int (30) 0), (.int (4) 0), (.ref 154)]), #[]⟩
def o147 (P : Params) : Obj := ⟨(.type "code"), none, (.fields #[(.str "NoBeat" 359), (.str "NoBeat" 360), (.str "/claim/cut.py" 361), (.int (28) 0), (.int (0) 0), (.int (0) 0), (.int (0) 0), (.int (0) 0), (.ref 145), (.bool false), (.int (181) 0), (.ref 146), .none, .none, .none, .none, (.int (362) 0), (.int (28) 0), (.str "/claim/cut.py" 363)]), #[]⟩
def o148 (P : Params) : Obj := ⟨(.type "frame"), none, .plain, #[(some (.ref 147)), (some (.ref 3)), (some (.ref 144)), none, (some (.str "mostwise.errors" 187)), none, (some (.ref 0))]⟩
def o149 (P : Params) : Obj := ⟨(.type "tuple"), none, (.seq #[] 0), #[]⟩
def o150 (P : Params) : Obj := ⟨.none, none, (.fields #[]), #[]⟩
def o151 (P : Params) : Obj := ⟨(.type "tuple"), none, (.seq #[(.str "self" 372), (.str "found" 373)] 0), #[]⟩
def o152 (P : Params) : Obj := ⟨(.type "tuple"), none, (.seq #[] 0), #[]⟩
def o153 (P : Params) : Obj := kC "__init__" "NoBeat.__init__" s_c_NoBeat_init
def o154 (P : Params) : Obj := ⟨(.type "code"), none, (.fields #[(.str "__init__" 369), (.str "NoBeat.__init__" 370), (.str "/claim/cut.py" 371), (.int (30) 0), (.int (2) 0), (.int (0) 0), (.int (0) 0), (.int (3) 0), (.ref 149), (.bool true), (.int (181) 0), (.ref 150), .none, (.ref 151), (.ref 152), (.ref 153), (.int (374) 0), (.int (30) 0), (.str "/claim/cut.py" 375)]), #[]⟩
def o155 (P : Params) : Obj := ⟨(.type "function"), none, (.func (PySem.W.fnOf "__init__" "NoBeat.__init__" (defArgs s_c_NoBeat_init) (defBody s_c_NoBeat_init) (defScope s_c_NoBeat_init) .none .none .none (.str "mostwise.errors" 187) none (.ref 154) .none)), #[]⟩
def o156 (P : Params) : Obj := ⟨(.type "tuple"), none, (.seq #[(.str "found" 377)] 0), #[]⟩
def o157 (P : Params) : Obj := ⟨(.type "dict"), none, (.dict #[kE P "__module__" 364 (.str "mostwise.errors" 187), ⟨PyData.keyHash P "__firstlineno__", (.str "__firstlineno__" 368), (.int (28) 367)⟩, kE P "__init__" 376 (.ref 155), kE P "__static_attributes__" 378 (.ref 156), kE P "__doc__" 379 .none] 2), #[]⟩
def o158 (P : Params) : Obj := ⟨(.type "type"), none, (.cls ⟨"NoBeat", [(.ref 24)], [(.ref 158), (.ref 24), (.type "ValueError"), (.type "Exception"), (.type "BaseException"), (.type "object")], 157, "NoBeat", true, [], [], false, none, false⟩), #[(some (.ref 142)), none, (some (.str "NoBeat" 357)), (some (.str "NoBeat" 365)), (some (.builtin "ValueError.__new__")), (some (.bool true))]⟩
def o159 (P : Params) : Obj := ⟨(.type "super"), none, (.fields #[(.ref 158), (.ref 158), (.ref 158)]), #[]⟩
def o160 (P : Params) : Obj := ⟨(.type "builtin_function_or_method"), none, (.fields #[(.builtin "object.__init_subclass__"), (.ref 158)]), #[]⟩
def o161 (P : Params) : Obj := ⟨(.type "tuple"), none, (.seq #[(.ref 24)] 0), #[]⟩
def o162 (P : Params) : Obj := ⟨(.type "builtin_function_or_method"), none, (.fields #[(.builtin "type.__prepare__"), (.type "type")]), #[]⟩
def o163 (P : Params) : Obj := ⟨(.type "dict"), none, (.dict #[kE P "__module__" 389 (.str "mostwise.errors" 187), kE P "__qualname__" 391 (.str "TooMany" 390), ⟨PyData.keyHash P "__firstlineno__", (.str "__firstlineno__" 393), (.int (32) 392)⟩, kE P "__init__" 401 (.ref 174), kE P "__static_attributes__" 403 (.ref 175)] 5), #[]⟩
def o164 (P : Params) : Obj := ⟨(.type "tuple"), none, (.seq #[] 0), #[]⟩
def o165 (P : Params) : Obj := ⟨.none, none, (.fields #[(.int (34) 0), (.int (4) 0), (.ref 173)]), #[]⟩
def o166 (P : Params) : Obj := ⟨(.type "code"), none, (.fields #[(.str "TooMany" 384), (.str "TooMany" 385), (.str "/claim/cut.py" 386), (.int (32) 0), (.int (0) 0), (.int (0) 0), (.int (0) 0), (.int (0) 0), (.ref 164), (.bool false), (.int (181) 0), (.ref 165), .none, .none, .none, .none, (.int (387) 0), (.int (32) 0), (.str "/claim/cut.py" 388)]), #[]⟩
def o167 (P : Params) : Obj := ⟨(.type "frame"), none, .plain, #[(some (.ref 166)), (some (.ref 3)), (some (.ref 163)), none, (some (.str "mostwise.errors" 187)), none, (some (.ref 0))]⟩
def o168 (P : Params) : Obj := ⟨(.type "tuple"), none, (.seq #[] 0), #[]⟩
def o169 (P : Params) : Obj := ⟨.none, none, (.fields #[]), #[]⟩
def o170 (P : Params) : Obj := ⟨(.type "tuple"), none, (.seq #[(.str "self" 397), (.str "count" 398)] 0), #[]⟩
def o171 (P : Params) : Obj := ⟨(.type "tuple"), none, (.seq #[] 0), #[]⟩
def o172 (P : Params) : Obj := kC "__init__" "TooMany.__init__" s_c_TooMany_init
def o173 (P : Params) : Obj := ⟨(.type "code"), none, (.fields #[(.str "__init__" 394), (.str "TooMany.__init__" 395), (.str "/claim/cut.py" 396), (.int (34) 0), (.int (2) 0), (.int (0) 0), (.int (0) 0), (.int (3) 0), (.ref 168), (.bool true), (.int (181) 0), (.ref 169), .none, (.ref 170), (.ref 171), (.ref 172), (.int (399) 0), (.int (34) 0), (.str "/claim/cut.py" 400)]), #[]⟩
def o174 (P : Params) : Obj := ⟨(.type "function"), none, (.func (PySem.W.fnOf "__init__" "TooMany.__init__" (defArgs s_c_TooMany_init) (defBody s_c_TooMany_init) (defScope s_c_TooMany_init) .none .none .none (.str "mostwise.errors" 187) none (.ref 173) .none)), #[]⟩
def o175 (P : Params) : Obj := ⟨(.type "tuple"), none, (.seq #[(.str "count" 402)] 0), #[]⟩
def o176 (P : Params) : Obj := ⟨(.type "dict"), none, (.dict #[kE P "__module__" 389 (.str "mostwise.errors" 187), ⟨PyData.keyHash P "__firstlineno__", (.str "__firstlineno__" 393), (.int (32) 392)⟩, kE P "__init__" 401 (.ref 174), kE P "__static_attributes__" 403 (.ref 175), kE P "__doc__" 404 .none] 2), #[]⟩
def o177 (P : Params) : Obj := ⟨(.type "type"), none, (.cls ⟨"TooMany", [(.ref 24)], [(.ref 177), (.ref 24), (.type "ValueError"), (.type "Exception"), (.type "BaseException"), (.type "object")], 176, "TooMany", true, [], [], false, none, false⟩), #[(some (.ref 161)), none, (some (.str "TooMany" 382)), (some (.str "TooMany" 390)), (some (.builtin "ValueError.__new__")), (some (.bool true))]⟩
def o178 (P : Params) : Obj := ⟨(.type "super"), none, (.fields #[(.ref 177), (.ref 177), (.ref 177)]), #[]⟩
def o179 (P : Params) : Obj := ⟨(.type "builtin_function_or_method"), none, (.fields #[(.builtin "object.__init_subclass__"), (.ref 177)]), #[]⟩
def o180 (P : Params) : Obj := ⟨(.type "tuple"), none, (.seq #[(.ref 24)] 0), #[]⟩
def o181 (P : Params) : Obj := ⟨(.type "builtin_function_or_method"), none, (.fields #[(.builtin "type.__prepare__"), (.type "type")]), #[]⟩
def o182 (P : Params) : Obj := ⟨(.type "dict"), none, (.dict #[kE P "__module__" 414 (.str "mostwise.errors" 187), kE P "__qualname__" 416 (.str "Ring" 415), ⟨PyData.keyHash P "__firstlineno__", (.str "__firstlineno__" 418), (.int (36) 417)⟩, kE P "__init__" 426 (.ref 193), kE P "__static_attributes__" 428 (.ref 194)] 5), #[]⟩
def o183 (P : Params) : Obj := ⟨(.type "tuple"), none, (.seq #[] 0), #[]⟩
def o184 (P : Params) : Obj := ⟨.none, none, (.fields #[(.int (38) 0), (.int (4) 0), (.ref 192)]), #[]⟩
def o185 (P : Params) : Obj := ⟨(.type "code"), none, (.fields #[(.str "Ring" 409), (.str "Ring" 410), (.str "/claim/cut.py" 411), (.int (36) 0), (.int (0) 0), (.int (0) 0), (.int (0) 0), (.int (0) 0), (.ref 183), (.bool false), (.int (181) 0), (.ref 184), .none, .none, .none, .none, (.int (412) 0), (.int (36) 0), (.str "/claim/cut.py" 413)]), #[]⟩
def o186 (P : Params) : Obj := ⟨(.type "frame"), none, .plain, #[(some (.ref 185)), (some (.ref 3)), (some (.ref 182)), none, (some (.str "mostwise.errors" 187)), none, (some (.ref 0))]⟩
def o187 (P : Params) : Obj := ⟨(.type "tuple"), none, (.seq #[] 0), #[]⟩
def o188 (P : Params) : Obj := ⟨.none, none, (.fields #[]), #[]⟩
def o189 (P : Params) : Obj := ⟨(.type "tuple"), none, (.seq #[(.str "self" 422), (.str "chain" 423)] 0), #[]⟩
def o190 (P : Params) : Obj := ⟨(.type "tuple"), none, (.seq #[] 0), #[]⟩
def o191 (P : Params) : Obj := kC "__init__" "Ring.__init__" s_c_Ring_init
def o192 (P : Params) : Obj := ⟨(.type "code"), none, (.fields #[(.str "__init__" 419), (.str "Ring.__init__" 420), (.str "/claim/cut.py" 421), (.int (38) 0), (.int (2) 0), (.int (0) 0), (.int (0) 0), (.int (3) 0), (.ref 187), (.bool true), (.int (181) 0), (.ref 188), .none, (.ref 189), (.ref 190), (.ref 191), (.int (424) 0), (.int (38) 0), (.str "/claim/cut.py" 425)]), #[]⟩
def o193 (P : Params) : Obj := ⟨(.type "function"), none, (.func (PySem.W.fnOf "__init__" "Ring.__init__" (defArgs s_c_Ring_init) (defBody s_c_Ring_init) (defScope s_c_Ring_init) .none .none .none (.str "mostwise.errors" 187) none (.ref 192) .none)), #[]⟩
def o194 (P : Params) : Obj := ⟨(.type "tuple"), none, (.seq #[(.str "chain" 427)] 0), #[]⟩
def o195 (P : Params) : Obj := ⟨(.type "dict"), none, (.dict #[kE P "__module__" 414 (.str "mostwise.errors" 187), ⟨PyData.keyHash P "__firstlineno__", (.str "__firstlineno__" 418), (.int (36) 417)⟩, kE P "__init__" 426 (.ref 193), kE P "__static_attributes__" 428 (.ref 194), kE P "__doc__" 429 .none] 2), #[]⟩
def o196 (P : Params) : Obj := ⟨(.type "type"), none, (.cls ⟨"Ring", [(.ref 24)], [(.ref 196), (.ref 24), (.type "ValueError"), (.type "Exception"), (.type "BaseException"), (.type "object")], 195, "Ring", true, [], [], false, none, false⟩), #[(some (.ref 180)), none, (some (.str "Ring" 407)), (some (.str "Ring" 415)), (some (.builtin "ValueError.__new__")), (some (.bool true))]⟩
def o197 (P : Params) : Obj := ⟨(.type "super"), none, (.fields #[(.ref 196), (.ref 196), (.ref 196)]), #[]⟩
def o198 (P : Params) : Obj := ⟨(.type "builtin_function_or_method"), none, (.fields #[(.builtin "object.__init_subclass__"), (.ref 196)]), #[]⟩
def o199 (P : Params) : Obj := ⟨(.type "tuple"), none, (.seq #[(.ref 24)] 0), #[]⟩
def o200 (P : Params) : Obj := ⟨(.type "builtin_function_or_method"), none, (.fields #[(.builtin "type.__prepare__"), (.type "type")]), #[]⟩
def o201 (P : Params) : Obj := ⟨(.type "dict"), none, (.dict #[kE P "__module__" 439 (.str "mostwise.errors" 187), kE P "__qualname__" 441 (.str "StillOpen" 440), ⟨PyData.keyHash P "__firstlineno__", (.str "__firstlineno__" 443), (.int (40) 442)⟩, kE P "__init__" 451 (.ref 212), kE P "__static_attributes__" 453 (.ref 213)] 5), #[]⟩
def o202 (P : Params) : Obj := ⟨(.type "tuple"), none, (.seq #[] 0), #[]⟩
def o203 (P : Params) : Obj := ⟨.none, none, (.fields #[(.int (42) 0), (.int (4) 0), (.ref 211)]), #[]⟩
def o204 (P : Params) : Obj := ⟨(.type "code"), none, (.fields #[(.str "StillOpen" 434), (.str "StillOpen" 435), (.str "/claim/cut.py" 436), (.int (40) 0), (.int (0) 0), (.int (0) 0), (.int (0) 0), (.int (0) 0), (.ref 202), (.bool false), (.int (181) 0), (.ref 203), .none, .none, .none, .none, (.int (437) 0), (.int (40) 0), (.str "/claim/cut.py" 438)]), #[]⟩
def o205 (P : Params) : Obj := ⟨(.type "frame"), none, .plain, #[(some (.ref 204)), (some (.ref 3)), (some (.ref 201)), none, (some (.str "mostwise.errors" 187)), none, (some (.ref 0))]⟩
def o206 (P : Params) : Obj := ⟨(.type "tuple"), none, (.seq #[] 0), #[]⟩
def o207 (P : Params) : Obj := ⟨.none, none, (.fields #[]), #[]⟩
def o208 (P : Params) : Obj := ⟨(.type "tuple"), none, (.seq #[(.str "self" 447), (.str "found" 448)] 0), #[]⟩
def o209 (P : Params) : Obj := ⟨(.type "tuple"), none, (.seq #[] 0), #[]⟩
def o210 (P : Params) : Obj := kC "__init__" "StillOpen.__init__" s_c_StillOpen_init
def o211 (P : Params) : Obj := ⟨(.type "code"), none, (.fields #[(.str "__init__" 444), (.str "StillOpen.__init__" 445), (.str "/claim/cut.py" 446), (.int (42) 0), (.int (2) 0), (.int (0) 0), (.int (0) 0), (.int (3) 0), (.ref 206), (.bool true), (.int (181) 0), (.ref 207), .none, (.ref 208), (.ref 209), (.ref 210), (.int (449) 0), (.int (42) 0), (.str "/claim/cut.py" 450)]), #[]⟩
def o212 (P : Params) : Obj := ⟨(.type "function"), none, (.func (PySem.W.fnOf "__init__" "StillOpen.__init__" (defArgs s_c_StillOpen_init) (defBody s_c_StillOpen_init) (defScope s_c_StillOpen_init) .none .none .none (.str "mostwise.errors" 187) none (.ref 211) .none)), #[]⟩
def o213 (P : Params) : Obj := ⟨(.type "tuple"), none, (.seq #[(.str "found" 452)] 0), #[]⟩
def o214 (P : Params) : Obj := ⟨(.type "dict"), none, (.dict #[kE P "__module__" 439 (.str "mostwise.errors" 187), ⟨PyData.keyHash P "__firstlineno__", (.str "__firstlineno__" 443), (.int (40) 442)⟩, kE P "__init__" 451 (.ref 212), kE P "__static_attributes__" 453 (.ref 213), kE P "__doc__" 454 .none] 2), #[]⟩
def o215 (P : Params) : Obj := ⟨(.type "type"), none, (.cls ⟨"StillOpen", [(.ref 24)], [(.ref 215), (.ref 24), (.type "ValueError"), (.type "Exception"), (.type "BaseException"), (.type "object")], 214, "StillOpen", true, [], [], false, none, false⟩), #[(some (.ref 199)), none, (some (.str "StillOpen" 432)), (some (.str "StillOpen" 440)), (some (.builtin "ValueError.__new__")), (some (.bool true))]⟩
def o216 (P : Params) : Obj := ⟨(.type "super"), none, (.fields #[(.ref 215), (.ref 215), (.ref 215)]), #[]⟩
def o217 (P : Params) : Obj := ⟨(.type "builtin_function_or_method"), none, (.fields #[(.builtin "object.__init_subclass__"), (.ref 215)]), #[]⟩
def o218 (P : Params) : Obj := ⟨(.type "tuple"), none, (.seq #[(.ref 24)] 0), #[]⟩
def o219 (P : Params) : Obj := ⟨(.type "builtin_function_or_method"), none, (.fields #[(.builtin "type.__prepare__"), (.type "type")]), #[]⟩
def o220 (P : Params) : Obj := ⟨(.type "dict"), none, (.dict #[kE P "__module__" 464 (.str "mostwise.errors" 187), kE P "__qualname__" 466 (.str "Decided" 465), ⟨PyData.keyHash P "__firstlineno__", (.str "__firstlineno__" 468), (.int (44) 467)⟩, kE P "__init__" 476 (.ref 231), kE P "__static_attributes__" 478 (.ref 232)] 5), #[]⟩
def o221 (P : Params) : Obj := ⟨(.type "tuple"), none, (.seq #[] 0), #[]⟩
def o222 (P : Params) : Obj := ⟨.none, none, (.fields #[(.int (46) 0), (.int (4) 0), (.ref 230)]), #[]⟩
def o223 (P : Params) : Obj := ⟨(.type "code"), none, (.fields #[(.str "Decided" 459), (.str "Decided" 460), (.str "/claim/cut.py" 461), (.int (44) 0), (.int (0) 0), (.int (0) 0), (.int (0) 0), (.int (0) 0), (.ref 221), (.bool false), (.int (181) 0), (.ref 222), .none, .none, .none, .none, (.int (462) 0), (.int (44) 0), (.str "/claim/cut.py" 463)]), #[]⟩
def o224 (P : Params) : Obj := ⟨(.type "frame"), none, .plain, #[(some (.ref 223)), (some (.ref 3)), (some (.ref 220)), none, (some (.str "mostwise.errors" 187)), none, (some (.ref 0))]⟩
def o225 (P : Params) : Obj := ⟨(.type "tuple"), none, (.seq #[] 0), #[]⟩
def o226 (P : Params) : Obj := ⟨.none, none, (.fields #[]), #[]⟩
def o227 (P : Params) : Obj := ⟨(.type "tuple"), none, (.seq #[(.str "self" 472), (.str "found" 473)] 0), #[]⟩
def o228 (P : Params) : Obj := ⟨(.type "tuple"), none, (.seq #[] 0), #[]⟩
def o229 (P : Params) : Obj := kC "__init__" "Decided.__init__" s_c_Decided_init
def o230 (P : Params) : Obj := ⟨(.type "code"), none, (.fields #[(.str "__init__" 469), (.str "Decided.__init__" 470), (.str "/claim/cut.py" 471), (.int (46) 0), (.int (2) 0), (.int (0) 0), (.int (0) 0), (.int (3) 0), (.ref 225), (.bool true), (.int (181) 0), (.ref 226), .none, (.ref 227), (.ref 228), (.ref 229), (.int (474) 0), (.int (46) 0), (.str "/claim/cut.py" 475)]), #[]⟩
def o231 (P : Params) : Obj := ⟨(.type "function"), none, (.func (PySem.W.fnOf "__init__" "Decided.__init__" (defArgs s_c_Decided_init) (defBody s_c_Decided_init) (defScope s_c_Decided_init) .none .none .none (.str "mostwise.errors" 187) none (.ref 230) .none)), #[]⟩
def o232 (P : Params) : Obj := ⟨(.type "tuple"), none, (.seq #[(.str "found" 477)] 0), #[]⟩
def o233 (P : Params) : Obj := ⟨(.type "dict"), none, (.dict #[kE P "__module__" 464 (.str "mostwise.errors" 187), ⟨PyData.keyHash P "__firstlineno__", (.str "__firstlineno__" 468), (.int (44) 467)⟩, kE P "__init__" 476 (.ref 231), kE P "__static_attributes__" 478 (.ref 232), kE P "__doc__" 479 .none] 2), #[]⟩
def o234 (P : Params) : Obj := ⟨(.type "type"), none, (.cls ⟨"Decided", [(.ref 24)], [(.ref 234), (.ref 24), (.type "ValueError"), (.type "Exception"), (.type "BaseException"), (.type "object")], 233, "Decided", true, [], [], false, none, false⟩), #[(some (.ref 218)), none, (some (.str "Decided" 457)), (some (.str "Decided" 465)), (some (.builtin "ValueError.__new__")), (some (.bool true))]⟩
def o235 (P : Params) : Obj := ⟨(.type "super"), none, (.fields #[(.ref 234), (.ref 234), (.ref 234)]), #[]⟩
def o236 (P : Params) : Obj := ⟨(.type "builtin_function_or_method"), none, (.fields #[(.builtin "object.__init_subclass__"), (.ref 234)]), #[]⟩
def o237 (P : Params) : Obj := ⟨(.type "tuple"), none, (.seq #[(.ref 24)] 0), #[]⟩
def o238 (P : Params) : Obj := ⟨(.type "builtin_function_or_method"), none, (.fields #[(.builtin "type.__prepare__"), (.type "type")]), #[]⟩
def o239 (P : Params) : Obj := ⟨(.type "dict"), none, (.dict #[kE P "__module__" 489 (.str "mostwise.errors" 187), kE P "__qualname__" 491 (.str "NoStand" 490), ⟨PyData.keyHash P "__firstlineno__", (.str "__firstlineno__" 493), (.int (48) 492)⟩, kE P "__init__" 501 (.ref 250), kE P "__static_attributes__" 503 (.ref 251)] 5), #[]⟩
def o240 (P : Params) : Obj := ⟨(.type "tuple"), none, (.seq #[] 0), #[]⟩
def o241 (P : Params) : Obj := ⟨.none, none, (.fields #[(.int (50) 0), (.int (4) 0), (.ref 249)]), #[]⟩
def o242 (P : Params) : Obj := ⟨(.type "code"), none, (.fields #[(.str "NoStand" 484), (.str "NoStand" 485), (.str "/claim/cut.py" 486), (.int (48) 0), (.int (0) 0), (.int (0) 0), (.int (0) 0), (.int (0) 0), (.ref 240), (.bool false), (.int (181) 0), (.ref 241), .none, .none, .none, .none, (.int (487) 0), (.int (48) 0), (.str "/claim/cut.py" 488)]), #[]⟩
def o243 (P : Params) : Obj := ⟨(.type "frame"), none, .plain, #[(some (.ref 242)), (some (.ref 3)), (some (.ref 239)), none, (some (.str "mostwise.errors" 187)), none, (some (.ref 0))]⟩
def o244 (P : Params) : Obj := ⟨(.type "tuple"), none, (.seq #[] 0), #[]⟩
def o245 (P : Params) : Obj := ⟨.none, none, (.fields #[]), #[]⟩
def o246 (P : Params) : Obj := ⟨(.type "tuple"), none, (.seq #[(.str "self" 497), (.str "found" 498)] 0), #[]⟩
def o247 (P : Params) : Obj := ⟨(.type "tuple"), none, (.seq #[] 0), #[]⟩
def o248 (P : Params) : Obj := kC "__init__" "NoStand.__init__" s_c_NoStand_init
def o249 (P : Params) : Obj := ⟨(.type "code"), none, (.fields #[(.str "__init__" 494), (.str "NoStand.__init__" 495), (.str "/claim/cut.py" 496), (.int (50) 0), (.int (2) 0), (.int (0) 0), (.int (0) 0), (.int (3) 0), (.ref 244), (.bool true), (.int (181) 0), (.ref 245), .none, (.ref 246), (.ref 247), (.ref 248), (.int (499) 0), (.int (50) 0), (.str "/claim/cut.py" 500)]), #[]⟩
def o250 (P : Params) : Obj := ⟨(.type "function"), none, (.func (PySem.W.fnOf "__init__" "NoStand.__init__" (defArgs s_c_NoStand_init) (defBody s_c_NoStand_init) (defScope s_c_NoStand_init) .none .none .none (.str "mostwise.errors" 187) none (.ref 249) .none)), #[]⟩
def o251 (P : Params) : Obj := ⟨(.type "tuple"), none, (.seq #[(.str "found" 502)] 0), #[]⟩
def o252 (P : Params) : Obj := ⟨(.type "dict"), none, (.dict #[kE P "__module__" 489 (.str "mostwise.errors" 187), ⟨PyData.keyHash P "__firstlineno__", (.str "__firstlineno__" 493), (.int (48) 492)⟩, kE P "__init__" 501 (.ref 250), kE P "__static_attributes__" 503 (.ref 251), kE P "__doc__" 504 .none] 2), #[]⟩
def o253 (P : Params) : Obj := ⟨(.type "type"), none, (.cls ⟨"NoStand", [(.ref 24)], [(.ref 253), (.ref 24), (.type "ValueError"), (.type "Exception"), (.type "BaseException"), (.type "object")], 252, "NoStand", true, [], [], false, none, false⟩), #[(some (.ref 237)), none, (some (.str "NoStand" 482)), (some (.str "NoStand" 490)), (some (.builtin "ValueError.__new__")), (some (.bool true))]⟩
def o254 (P : Params) : Obj := ⟨(.type "super"), none, (.fields #[(.ref 253), (.ref 253), (.ref 253)]), #[]⟩
def o255 (P : Params) : Obj := ⟨(.type "builtin_function_or_method"), none, (.fields #[(.builtin "object.__init_subclass__"), (.ref 253)]), #[]⟩
def o256 (P : Params) : Obj := ⟨(.type "tuple"), none, (.seq #[(.ref 24)] 0), #[]⟩
def o257 (P : Params) : Obj := ⟨(.type "builtin_function_or_method"), none, (.fields #[(.builtin "type.__prepare__"), (.type "type")]), #[]⟩
def o258 (P : Params) : Obj := ⟨(.type "dict"), none, (.dict #[kE P "__module__" 514 (.str "mostwise.errors" 187), kE P "__qualname__" 516 (.str "NoTurn" 515), ⟨PyData.keyHash P "__firstlineno__", (.str "__firstlineno__" 518), (.int (52) 517)⟩, kE P "__static_attributes__" 519 (.ref 263)] 4), #[]⟩
def o259 (P : Params) : Obj := ⟨(.type "tuple"), none, (.seq #[] 0), #[]⟩
def o260 (P : Params) : Obj := ⟨.none, none, (.fields #[]), #[]⟩
def o261 (P : Params) : Obj := ⟨(.type "code"), none, (.fields #[(.str "NoTurn" 509), (.str "NoTurn" 510), (.str "/claim/cut.py" 511), (.int (52) 0), (.int (0) 0), (.int (0) 0), (.int (0) 0), (.int (0) 0), (.ref 259), (.bool false), (.int (181) 0), (.ref 260), .none, .none, .none, .none, (.int (512) 0), (.int (52) 0), (.str "/claim/cut.py" 513)]), #[]⟩
def o262 (P : Params) : Obj := ⟨(.type "frame"), none, .plain, #[(some (.ref 261)), (some (.ref 3)), (some (.ref 258)), none, (some (.str "mostwise.errors" 187)), none, (some (.ref 0))]⟩
def o263 (P : Params) : Obj := ⟨(.type "tuple"), none, (.seq #[] 0), #[]⟩
def o264 (P : Params) : Obj := ⟨(.type "dict"), none, (.dict #[kE P "__module__" 514 (.str "mostwise.errors" 187), ⟨PyData.keyHash P "__firstlineno__", (.str "__firstlineno__" 518), (.int (52) 517)⟩, kE P "__static_attributes__" 519 (.ref 263), kE P "__doc__" 520 .none] 2), #[]⟩
def o265 (P : Params) : Obj := ⟨(.type "type"), none, (.cls ⟨"NoTurn", [(.ref 24)], [(.ref 265), (.ref 24), (.type "ValueError"), (.type "Exception"), (.type "BaseException"), (.type "object")], 264, "NoTurn", true, [], [], false, none, false⟩), #[(some (.ref 256)), none, (some (.str "NoTurn" 507)), (some (.str "NoTurn" 515)), (some (.builtin "ValueError.__new__")), (some (.bool true))]⟩
def o266 (P : Params) : Obj := ⟨(.type "super"), none, (.fields #[(.ref 265), (.ref 265), (.ref 265)]), #[]⟩
def o267 (P : Params) : Obj := ⟨(.type "builtin_function_or_method"), none, (.fields #[(.builtin "object.__init_subclass__"), (.ref 265)]), #[]⟩
def o268 (P : Params) : Obj := ⟨(.type "tuple"), none, (.seq #[] 0), #[]⟩
def o269 (P : Params) : Obj := ⟨.none, none, (.fields #[]), #[]⟩
def o270 (P : Params) : Obj := ⟨(.type "tuple"), none, (.seq #[(.str "_law_script" 528), (.str "_law_k" 529)] 0), #[]⟩
def o271 (P : Params) : Obj := ⟨(.type "tuple"), none, (.seq #[] 0), #[]⟩
def o272 (P : Params) : Obj := kC "_law_cell" "_law_cell" s_d_l_cell
def o273 (P : Params) : Obj := ⟨(.type "code"), none, (.fields #[(.str "_law_cell" 525), (.str "_law_cell" 526), (.str "/claim/cut.py" 527), (.int (55) 0), (.int (2) 0), (.int (0) 0), (.int (0) 0), (.int (3) 0), (.ref 268), (.bool true), (.int (181) 0), (.ref 269), .none, (.ref 270), (.ref 271), (.ref 272), (.int (530) 0), (.int (55) 0), (.str "/claim/cut.py" 531)]), #[]⟩
def o274 (P : Params) : Obj := ⟨(.type "function"), none, (.func (PySem.W.fnOf "_law_cell" "_law_cell" (defArgs s_d_l_cell) (defBody s_d_l_cell) (defScope s_d_l_cell) .none .none .none (.str "law_mostwise_k05_refusals" 523) none (.ref 273) .none)), #[]⟩
def o275 (P : Params) : Obj := ⟨(.type "tuple"), none, (.seq #[] 0), #[]⟩
def o276 (P : Params) : Obj := ⟨.none, none, (.fields #[]), #[]⟩
def o277 (P : Params) : Obj := ⟨(.type "tuple"), none, (.seq #[(.str "_law_cell_here" 536), (.str "_law_k" 537), (.str "_law_number" 538)] 0), #[]⟩
def o278 (P : Params) : Obj := ⟨(.type "tuple"), none, (.seq #[] 0), #[]⟩
def o279 (P : Params) : Obj := kC "_law_mixed" "_law_mixed" s_d_l_mixed
def o280 (P : Params) : Obj := ⟨(.type "code"), none, (.fields #[(.str "_law_mixed" 533), (.str "_law_mixed" 534), (.str "/claim/cut.py" 535), (.int (59) 0), (.int (2) 0), (.int (0) 0), (.int (0) 0), (.int (3) 0), (.ref 275), (.bool true), (.int (181) 0), (.ref 276), .none, (.ref 277), (.ref 278), (.ref 279), (.int (539) 0), (.int (59) 0), (.str "/claim/cut.py" 540)]), #[]⟩
def o281 (P : Params) : Obj := ⟨(.type "function"), none, (.func (PySem.W.fnOf "_law_mixed" "_law_mixed" (defArgs s_d_l_mixed) (defBody s_d_l_mixed) (defScope s_d_l_mixed) .none .none .none (.str "law_mostwise_k05_refusals" 523) none (.ref 280) .none)), #[]⟩
def o282 (P : Params) : Obj := ⟨(.type "tuple"), none, (.seq #[] 0), #[]⟩
def o283 (P : Params) : Obj := ⟨.none, none, (.fields #[]), #[]⟩
def o284 (P : Params) : Obj := ⟨(.type "tuple"), none, (.seq #[(.str "_law_thing" 545), (.str "_law_count" 546), (.str "_law_chain" 547), (.str "_law_some" 548)] 0), #[]⟩
def o285 (P : Params) : Obj := ⟨(.type "tuple"), none, (.seq #[] 0), #[]⟩
def o286 (P : Params) : Obj := kC "_law_errors" "_law_errors" s_d_l_errors
def o287 (P : Params) : Obj := ⟨(.type "code"), none, (.fields #[(.str "_law_errors" 542), (.str "_law_errors" 543), (.str "/claim/cut.py" 544), (.int (63) 0), (.int (3) 0), (.int (0) 0), (.int (0) 0), (.int (3) 0), (.ref 282), (.bool true), (.int (181) 0), (.ref 283), .none, (.ref 284), (.ref 285), (.ref 286), (.int (549) 0), (.int (63) 0), (.str "/claim/cut.py" 550)]), #[]⟩
def o288 (P : Params) : Obj := ⟨(.type "function"), none, (.func (PySem.W.fnOf "_law_errors" "_law_errors" (defArgs s_d_l_errors) (defBody s_d_l_errors) (defScope s_d_l_errors) .none .none .none (.str "law_mostwise_k05_refusals" 523) none (.ref 287) .none)), #[]⟩
def o289 (P : Params) : Obj := ⟨(.type "tuple"), none, (.seq #[] 0), #[]⟩
def o290 (P : Params) : Obj := ⟨.none, none, (.fields #[]), #[]⟩
def o291 (P : Params) : Obj := ⟨(.type "tuple"), none, (.seq #[(.str "_law_one" 555), (.str "_law_some" 556)] 0), #[]⟩
def o292 (P : Params) : Obj := ⟨(.type "tuple"), none, (.seq #[] 0), #[]⟩
def o293 (P : Params) : Obj := kC "_law_kinds" "_law_kinds" s_d_l_kinds
def o294 (P : Params) : Obj := ⟨(.type "code"), none, (.fields #[(.str "_law_kinds" 552), (.str "_law_kinds" 553), (.str "/claim/cut.py" 554), (.int (67) 0), (.int (1) 0), (.int (0) 0), (.int (0) 0), (.int (3) 0), (.ref 289), (.bool true), (.int (181) 0), (.ref 290), .none, (.ref 291), (.ref 292), (.ref 293), (.int (557) 0), (.int (67) 0), (.str "/claim/cut.py" 558)]), #[]⟩
def o295 (P : Params) : Obj := ⟨(.type "function"), none, (.func (PySem.W.fnOf "_law_kinds" "_law_kinds" (defArgs s_d_l_kinds) (defBody s_d_l_kinds) (defScope s_d_l_kinds) .none .none .none (.str "law_mostwise_k05_refusals" 523) none (.ref 294) .none)), #[]⟩
def o296 (P : Params) : Obj := ⟨(.type "tuple"), none, (.seq #[] 0), #[]⟩
def o297 (P : Params) : Obj := ⟨.none, none, (.fields #[]), #[]⟩
def o298 (P : Params) : Obj := kC "law" "law" s_d_law
def o299 (P : Params) : Obj := ⟨(.type "code"), none, (.fields #[(.str "law" 560), (.str "law" 561), (.str "/claim/cut.py" 562), (.int (72) 0), (.int (1) 0), (.int (0) 0), (.int (0) 0), (.int (3) 0), (.ref 296), (.bool true), (.int (181) 0), (.ref 297), .none, .none, .none, (.ref 298), (.int (563) 0), (.int (72) 0), (.str "/claim/cut.py" 564)]), #[]⟩
def o300 (P : Params) : Obj := ⟨(.type "function"), none, (.func (PySem.W.fnOf "law" "law" (defArgs s_d_law) (defBody s_d_law) (defScope s_d_law) .none .none .none (.str "law_mostwise_k05_refusals" 523) none (.ref 299) .none)), #[]⟩
def p3 (P : Params) : Obj := ⟨(.type "dict"), none, (.dict #[kE P "__name__" 165 (.str "__main__" 164), kE P "__doc__" 166 .none, kE P "__package__" 167 .none, kE P "__loader__" 168 (.builtin "__main__.__loader__#opaque"), kE P "__spec__" 169 .none, kE P "__annotations__" 170 (.ref 6), kE P "__builtins__" 171 (.ref 4), kE P "__file__" 173 (.str "/claim/cut.py" 172), kE P "__cached__" 174 .none] 9), #[]⟩
def H0 (P : Params) : Heap := ⟨⟨o0 P :: o1 P :: o2 P :: p3 P :: o4 P :: o5 P :: o6 P :: o7 P :: o8 P :: o9 P :: o10 P :: []⟩, {}⟩
def H1 (P : Params) : Heap := ⟨⟨o0 P :: o1 P :: o2 P :: o3 P :: o4 P :: o5 P :: o6 P :: o7 P :: o8 P :: o9 P :: o10 P :: o11 P :: o12 P :: o13 P :: o14 P :: o15 P :: o16 P :: o17 P :: o18 P :: o19 P :: o20 P :: o21 P :: o22 P :: o23 P :: o24 P :: o25 P :: o26 P :: o27 P :: o28 P :: o29 P :: o30 P :: o31 P :: o32 P :: o33 P :: o34 P :: o35 P :: o36 P :: o37 P :: o38 P :: o39 P :: o40 P :: o41 P :: o42 P :: o43 P :: o44 P :: o45 P :: o46 P :: o47 P :: o48 P :: o49 P :: o50 P :: o51 P :: o52 P :: o53 P :: o54 P :: o55 P :: o56 P :: o57 P :: o58 P :: o59 P :: o60 P :: o61 P :: o62 P :: o63 P :: o64 P :: o65 P :: o66 P :: o67 P :: o68 P :: o69 P :: o70 P :: o71 P :: o72 P :: o73 P :: o74 P :: o75 P :: o76 P :: o77 P :: o78 P :: o79 P :: o80 P :: o81 P :: o82 P :: o83 P :: o84 P :: o85 P :: o86 P :: o87 P :: o88 P :: o89 P :: o90 P :: o91 P :: o92 P :: o93 P :: o94 P :: o95 P :: o96 P :: o97 P :: o98 P :: o99 P :: o100 P :: o101 P :: o102 P :: o103 P :: o104 P :: o105 P :: o106 P :: o107 P :: o108 P :: o109 P :: o110 P :: o111 P :: o112 P :: o113 P :: o114 P :: o115 P :: o116 P :: o117 P :: o118 P :: o119 P :: o120 P :: o121 P :: o122 P :: o123 P :: o124 P :: o125 P :: o126 P :: o127 P :: o128 P :: o129 P :: o130 P :: o131 P :: o132 P :: o133 P :: o134 P :: o135 P :: o136 P :: o137 P :: o138 P :: o139 P :: o140 P :: o141 P :: o142 P :: o143 P :: o144 P :: o145 P :: o146 P :: o147 P :: o148 P :: o149 P :: o150 P :: o151 P :: o152 P :: o153 P :: o154 P :: o155 P :: o156 P :: o157 P :: o158 P :: o159 P :: o160 P :: o161 P :: o162 P :: o163 P :: o164 P :: o165 P :: o166 P :: o167 P :: o168 P :: o169 P :: o170 P :: o171 P :: o172 P :: o173 P :: o174 P :: o175 P :: o176 P :: o177 P :: o178 P :: o179 P :: o180 P :: o181 P :: o182 P :: o183 P :: o184 P :: o185 P :: o186 P :: o187 P :: o188 P :: o189 P :: o190 P :: o191 P :: o192 P :: o193 P :: o194 P :: o195 P :: o196 P :: o197 P :: o198 P :: o199 P :: o200 P :: o201 P :: o202 P :: o203 P :: o204 P :: o205 P :: o206 P :: o207 P :: o208 P :: o209 P :: o210 P :: o211 P :: o212 P :: o213 P :: o214 P :: o215 P :: o216 P :: o217 P :: o218 P :: o219 P :: o220 P :: o221 P :: o222 P :: o223 P :: o224 P :: o225 P :: o226 P :: o227 P :: o228 P :: o229 P :: o230 P :: o231 P :: o232 P :: o233 P :: o234 P :: o235 P :: o236 P :: o237 P :: o238 P :: o239 P :: o240 P :: o241 P :: o242 P :: o243 P :: o244 P :: o245 P :: o246 P :: o247 P :: o248 P :: o249 P :: o250 P :: o251 P :: o252 P :: o253 P :: o254 P :: o255 P :: o256 P :: o257 P :: o258 P :: o259 P :: o260 P :: o261 P :: o262 P :: o263 P :: o264 P :: o265 P :: o266 P :: o267 P :: o268 P :: o269 P :: o270 P :: o271 P :: o272 P :: o273 P :: o274 P :: o275 P :: o276 P :: o277 P :: o278 P :: o279 P :: o280 P :: o281 P :: o282 P :: o283 P :: o284 P :: o285 P :: o286 P :: o287 P :: o288 P :: o289 P :: o290 P :: o291 P :: o292 P :: o293 P :: o294 P :: o295 P :: o296 P :: o297 P :: o298 P :: o299 P :: o300 P :: []⟩, {}⟩
def heapK : Params → PySem.W.Frag := fun P =>
(nat_lit 2, o2 P) :: (nat_lit 3, o3 P) :: (nat_lit 15, o15 P) :: (nat_lit 22, o22 P) :: (nat_lit 23, o23 P) :: (nat_lit 24, o24 P) :: (nat_lit 25, o25 P) :: (nat_lit 28, o28 P) :: (nat_lit 35, o35 P) :: (nat_lit 37, o37 P) :: (nat_lit 38, o38 P) :: (nat_lit 40, o40 P) :: (nat_lit 41, o41 P) :: (nat_lit 42, o42 P) :: (nat_lit 43, o43 P) :: (nat_lit 44, o44 P) :: (nat_lit 47, o47 P) :: (nat_lit 54, o54 P) :: (nat_lit 56, o56 P) :: (nat_lit 57, o57 P) :: (nat_lit 59, o59 P) :: (nat_lit 60, o60 P) :: (nat_lit 61, o61 P) :: (nat_lit 62, o62 P) :: (nat_lit 63, o63 P) :: (nat_lit 66, o66 P) :: (nat_lit 73, o73 P) :: (nat_lit 75, o75 P) :: (nat_lit 76, o76 P) :: (nat_lit 78, o78 P) :: (nat_lit 79, o79 P) :: (nat_lit 80, o80 P) :: (nat_lit 81, o81 P) :: (nat_lit 82, o82 P) :: (nat_lit 85, o85 P) :: (nat_lit 92, o92 P) :: (nat_lit 94, o94 P) :: (nat_lit 95, o95 P) :: (nat_lit 97, o97 P) :: (nat_lit 98, o98 P) :: (nat_lit 99, o99 P) :: (nat_lit 100, o100 P) :: (nat_lit 101, o101 P) :: (nat_lit 104, o104 P) :: (nat_lit 111, o111 P) :: (nat_lit 113, o113 P) :: (nat_lit 114, o114 P) :: (nat_lit 116, o116 P) :: (nat_lit 117, o117 P) :: (nat_lit 118, o118 P) :: (nat_lit 119, o119 P) :: (nat_lit 120, o120 P) :: (nat_lit 123, o123 P) :: (nat_lit 130, o130 P) :: (nat_lit 132, o132 P) :: (nat_lit 133, o133 P) :: (nat_lit 135, o135 P) :: (nat_lit 136, o136 P) :: (nat_lit 137, o137 P) :: (nat_lit 138, o138 P) :: (nat_lit 139, o139 P) :: (nat_lit 142, o142 P) :: (nat_lit 149, o149 P) :: (nat_lit 151, o151 P) :: (nat_lit 152, o152 P) :: (nat_lit 154, o154 P) :: (nat_lit 155, o155 P) :: (nat_lit 156, o156 P) :: (nat_lit 157, o157 P) :: (nat_lit 158, o158 P) :: (nat_lit 161, o161 P) :: (nat_lit 168, o168 P) :: (nat_lit 170, o170 P) :: (nat_lit 171, o171 P) :: (nat_lit 173, o173 P) :: (nat_lit 174, o174 P) :: (nat_lit 175, o175 P) :: (nat_lit 176, o176 P) :: (nat_lit 177, o177 P) :: (nat_lit 180, o180 P) :: (nat_lit 187, o187 P) :: (nat_lit 189, o189 P) :: (nat_lit 190, o190 P) :: (nat_lit 192, o192 P) :: (nat_lit 193, o193 P) :: (nat_lit 194, o194 P) :: (nat_lit 195, o195 P) :: (nat_lit 196, o196 P) :: (nat_lit 199, o199 P) :: (nat_lit 206, o206 P) :: (nat_lit 208, o208 P) :: (nat_lit 209, o209 P) :: (nat_lit 211, o211 P) :: (nat_lit 212, o212 P) :: (nat_lit 213, o213 P) :: (nat_lit 214, o214 P) :: (nat_lit 215, o215 P) :: (nat_lit 218, o218 P) :: (nat_lit 225, o225 P) :: (nat_lit 227, o227 P) :: (nat_lit 228, o228 P) :: (nat_lit 230, o230 P) :: (nat_lit 231, o231 P) :: (nat_lit 232, o232 P) :: (nat_lit 233, o233 P) :: (nat_lit 234, o234 P) :: (nat_lit 237, o237 P) :: (nat_lit 244, o244 P) :: (nat_lit 246, o246 P) :: (nat_lit 247, o247 P) :: (nat_lit 249, o249 P) :: (nat_lit 250, o250 P) :: (nat_lit 251, o251 P) :: (nat_lit 252, o252 P) :: (nat_lit 253, o253 P) :: (nat_lit 256, o256 P) :: (nat_lit 263, o263 P) :: (nat_lit 264, o264 P) :: (nat_lit 265, o265 P) :: (nat_lit 268, o268 P) :: (nat_lit 270, o270 P) :: (nat_lit 271, o271 P) :: (nat_lit 273, o273 P) :: (nat_lit 274, o274 P) :: (nat_lit 275, o275 P) :: (nat_lit 277, o277 P) :: (nat_lit 278, o278 P) :: (nat_lit 280, o280 P) :: (nat_lit 281, o281 P) :: (nat_lit 282, o282 P) :: (nat_lit 284, o284 P) :: (nat_lit 285, o285 P) :: (nat_lit 287, o287 P) :: (nat_lit 288, o288 P) :: (nat_lit 289, o289 P) :: (nat_lit 291, o291 P) :: (nat_lit 292, o292 P) :: (nat_lit 294, o294 P) :: (nat_lit 295, o295 P) :: (nat_lit 296, o296 P) :: (nat_lit 299, o299 P) :: (nat_lit 300, o300 P) :: []
abbrev heapA : List Addr := [2, 3, 15, 22, 23, 24, 25, 28, 35, 37, 38, 40, 41, 42, 43, 44, 47, 54, 56, 57, 59, 60, 61, 62, 63, 66, 73, 75, 76, 78, 79, 80, 81, 82, 85, 92, 94, 95, 97, 98, 99, 100, 101, 104, 111, 113, 114, 116, 117, 118, 119, 120, 123, 130, 132, 133, 135, 136, 137, 138, 139, 142, 149, 151, 152, 154, 155, 156, 157, 158, 161, 168, 170, 171, 173, 174, 175, 176, 177, 180, 187, 189, 190, 192, 193, 194, 195, 196, 199, 206, 208, 209, 211, 212, 213, 214, 215, 218, 225, 227, 228, 230, 231, 232, 233, 234, 237, 244, 246, 247, 249, 250, 251, 252, 253, 256, 263, 264, 265, 268, 270, 271, 273, 274, 275, 277, 278, 280, 281, 282, 284, 285, 287, 288, 289, 291, 292, 294, 295, 296, 299, 300]
theorem heapE : ∀ P, heapA = (heapK P).map (·.1) := fun _ => by kernel_rfl
def viewQ : Program := PySem.W.view PySem.Challenge.pw_mostwise_k05_refusals [1, 2, 3, 4, 5, 6, 7, 8, 9, 10, 11, 12, 13, 14, 16, 17, 18, 19, 20]
theorem l_open : ∀ w : World, (fencedOpening treeTable PySem.Challenge.pw_mostwise_k05_refusals w 7138).map (fun s => (s.heap, s.gens, s.drawn, s.toks)) = some (H0 w.params, #[], {}, 181) := fun w => by kernel_rfl
theorem piece_take {tb : String → Option Builtin} {p : Program} {w : World} {n₀ : Nat} {ann : Option Value} {env : Env} {q : Pos} {n N a l : Nat} {s s' r : Shared} {b : List Stmt} {c : Code} {pos p' : Pos} (h : segRun tb p w n₀ ann 1 n s (piecesOf ((b.drop a).take l) env c pos [topFrame q]) = some (.next, s', c, p'))
    (k : topRun tb p w n₀ ann N s' (restOf (b.drop (a + l)) env c p' [topFrame q]) = some r) : topRun tb p w n₀ ann (n + N) s (restOf (b.drop a) env c pos [topFrame q]) = some r := by
  have e := piece_app h k
  rwa [← List.drop_drop, List.take_append_drop] at e
def pre12 (P : Params) : Obj := ⟨.none, none, (.fields #[]), #[]⟩
def H_pre (P : Params) : Heap := ⟨⟨o0 P :: o1 P :: o2 P :: p3 P :: o4 P :: o5 P :: o6 P :: o7 P :: o8 P :: o9 P :: o10 P :: o11 P :: pre12 P :: o13 P :: o14 P :: []⟩, {}⟩
def block12 (P : Params) : Obj := ⟨.none, none, (.fields #[]), #[]⟩
def H_block (P : Params) : Heap := ⟨⟨o0 P :: o1 P :: o2 P :: p3 P :: o4 P :: o5 P :: o6 P :: o7 P :: o8 P :: o9 P :: o10 P :: o11 P :: block12 P :: o13 P :: o14 P :: []⟩, {}⟩
def tEnv : Env := { scope := PySem.Challenge.pw_mostwise_k05_refusals.main.scope, locals := mainNs, globals := mainNs, cells := [], code := (.ref 13), frame := some 14 }
def tCode : Code := .body (behindTheImports PySem.Challenge.pw_mostwise_k05_refusals) tEnv
abbrev tFr : List Frame := [topFrame ⟨0, 0, 0, 0⟩]
abbrev tRest (i : Nat) (q : Pos) : Thread := restOf ((behindTheImports PySem.Challenge.pw_mostwise_k05_refusals).drop i) tEnv tCode q tFr
theorem l_pre : ∀ (w : World) (os : OsState), topGo treeTable PySem.Challenge.pw_mostwise_k05_refusals w 11 (some (.ref 6)) 12 ⟨H0 w.params, #[], {}, 181, os⟩ (topStub PySem.Challenge.pw_mostwise_k05_refusals) = some (⟨H_pre w.params, #[], {}, 187, os⟩, ⟨denote treeTable tCode, tCode, ⟨0, 0, 0, 0⟩, tFr⟩) := fun w os => by kernel_rfl
theorem l_block : ∀ (w : World) (os : OsState), segRun treeTable PySem.Challenge.pw_mostwise_k05_refusals w 11 (some (.ref 6)) 1 1 ⟨H_pre w.params, #[], {}, 187, os⟩ (blockOf (behindTheImports PySem.Challenge.pw_mostwise_k05_refusals) tEnv tCode ⟨0, 0, 0, 0⟩ tFr) = some (.next, ⟨H_block w.params, #[], {}, 187, os⟩, tCode, ⟨0, 0, 0, 0⟩) := fun w os => by kernel_rfl
def g13 (P : Params) : Obj := ⟨(.type "dict"), none, (.dict #[kE P "__name__" 165 (.str "mostwise.errors" 187), kE P "__doc__" 166 .none, kE P "__package__" 167 .none, kE P "__loader__" 168 (.builtin "__main__.__loader__#opaque"), kE P "__spec__" 169 .none, kE P "__annotations__" 170 (.ref 6), kE P "__builtins__" 171 (.ref 4), kE P "__file__" 173 (.str "/claim/cut.py" 172), kE P "__cached__" 174 .none, kE P "MostError" 206 (.ref 24), kE P "NoStatement" 231 (.ref 44), kE P "NoRow" 256 (.ref 63), kE P "NoThing" 281 (.ref 82), kE P "Doubled" 306 (.ref 101), kE P "NoLabel" 331 (.ref 120), kE P "NoFact" 356 (.ref 139), kE P "NoBeat" 381 (.ref 158)] 17), #[]⟩
def g112 (P : Params) : Obj := ⟨.none, none, (.fields #[(.int (2) 0), (.int (0) 0), (.ref 20), (.int (4) 0), (.int (0) 0), (.ref 33), (.int (8) 0), (.int (0) 0), (.ref 52), (.int (12) 0), (.int (0) 0), (.ref 71), (.int (16) 0), (.int (0) 0), (.ref 90), (.int (20) 0), (.int (0) 0), (.ref 109), (.int (24) 0), (.int (0) 0), (.ref 128), (.int (28) 0), (.int (0) 0), (.ref 147)]), #[]⟩
def g124 (P : Params) : Obj := ⟨(.type "type"), none, (.cls ⟨"MostError", [(.type "ValueError")], [(.ref 24), (.type "ValueError"), (.type "Exception"), (.type "BaseException"), (.type "object")], 23, "MostError", true, [], [(.ref 44), (.ref 63), (.ref 82), (.ref 101), (.ref 120), (.ref 139), (.ref 158)], false, none, false⟩), #[(some (.ref 15)), none, (some (.str "MostError" 189)), (some (.str "MostError" 197)), (some (.builtin "ValueError.__new__")), (some (.bool true))]⟩
def H_g1 (P : Params) : Heap := ⟨⟨o0 P :: o1 P :: o2 P :: g13 P :: o4 P :: o5 P :: o6 P :: o7 P :: o8 P :: o9 P :: o10 P :: o11 P :: g112 P :: o13 P :: o14 P :: o15 P :: o16 P :: o17 P :: o18 P :: o19 P :: o20 P :: o21 P :: o22 P :: o23 P :: g124 P :: o25 P :: o26 P :: o27 P :: o28 P :: o29 P :: o30 P :: o31 P :: o32 P :: o33 P :: o34 P :: o35 P :: o36 P :: o37 P :: o38 P :: o39 P :: o40 P :: o41 P :: o42 P :: o43 P :: o44 P :: o45 P :: o46 P :: o47 P :: o48 P :: o49 P :: o50 P :: o51 P :: o52 P :: o53 P :: o54 P :: o55 P :: o56 P :: o57 P :: o58 P :: o59 P :: o60 P :: o61 P :: o62 P :: o63 P :: o64 P :: o65 P :: o66 P :: o67 P :: o68 P :: o69 P :: o70 P :: o71 P :: o72 P :: o73 P :: o74 P :: o75 P :: o76 P :: o77 P :: o78 P :: o79 P :: o80 P :: o81 P :: o82 P :: o83 P :: o84 P :: o85 P :: o86 P :: o87 P :: o88 P :: o89 P :: o90 P :: o91 P :: o92 P :: o93 P :: o94 P :: o95 P :: o96 P :: o97 P :: o98 P :: o99 P :: o100 P :: o101 P :: o102 P :: o103 P :: o104 P :: o105 P :: o106 P :: o107 P :: o108 P :: o109 P :: o110 P :: o111 P :: o112 P :: o113 P :: o114 P :: o115 P :: o116 P :: o117 P :: o118 P :: o119 P :: o120 P :: o121 P :: o122 P :: o123 P :: o124 P :: o125 P :: o126 P :: o127 P :: o128 P :: o129 P :: o130 P :: o131 P :: o132 P :: o133 P :: o134 P :: o135 P :: o136 P :: o137 P :: o138 P :: o139 P :: o140 P :: o141 P :: o142 P :: o143 P :: o144 P :: o145 P :: o146 P :: o147 P :: o148 P :: o149 P :: o150 P :: o151 P :: o152 P :: o153 P :: o154 P :: o155 P :: o156 P :: o157 P :: o158 P :: o159 P :: o160 P :: []⟩, {}⟩
theorem l_g1 : ∀ (w : World) (os : OsState), segRun treeTable PySem.Challenge.pw_mostwise_k05_refusals w 11 (some (.ref 6)) 1 1911 ⟨H_block w.params, #[], {}, 187, os⟩ (piecesOf (((behindTheImports PySem.Challenge.pw_mostwise_k05_refusals).drop 0).take 9) tEnv tCode ⟨0, 0, 0, 0⟩ tFr) = some (.next, ⟨H_g1 w.params, #[], {}, 382, os⟩, tCode, ⟨28, 0, 31, 26⟩) := fun w os => by kernel_rfl
theorem l_end : ∀ (w : World) (os : OsState), topRun treeTable PySem.Challenge.pw_mostwise_k05_refusals w 11 (some (.ref 6)) 1599 ⟨H_g1 w.params, #[], {}, 382, os⟩ (tRest 9 ⟨28, 0, 31, 26⟩) = some ⟨H1 w.params, #[], {}, 566, os⟩ := fun w os => by kernel_rfl
theorem l_run : ∀ (w : World) (os : OsState), topRun treeTable PySem.Challenge.pw_mostwise_k05_refusals w 11 (some (.ref 6)) 3523 ⟨H0 w.params, #[], {}, 181, os⟩ (topStub PySem.Challenge.pw_mostwise_k05_refusals) = some ⟨H1 w.params, #[], {}, 566, os⟩ := fun w os => go_top (n := 12) (l_pre w os) (piece_block (n := 1) (l_block w os) (piece_take (l_g1 w os) (l_end w os)))
end
end K05
set_option maxRecDepth 100000 in
set_option maxHeartbeats 0 in
theorem PySem.Challenge.cw_mostwise_k05_refusals_holds : PySem.Challenge.rw_mostwise_k05_refusals.Holds := by
  w_on; o_law
  refine PySem.W.holds_open (q := K05.viewQ) (loose := []) (Xt := fun s => PySem.W.xlAt K05.viewQ [] s && PySem.W.recOk (PySem.W.RowW.records (PySem.W.OpenRow.toRowW PySem.Challenge.rw_mostwise_k05_refusals.row)) s) (XP := PySem.W.XL K05.viewQ []) (Yf := PySem.W.Hook.obs (PySem.W.kHook K05.heapK K05.heapA K05.heapE)) (Ya := PySem.W.Hook.val (PySem.W.kHook K05.heapK K05.heapA K05.heapE)) (YP := PySem.W.Hook.says (PySem.W.kHook K05.heapK K05.heapA K05.heapE)) (N := 7138) ?hl (PySem.W.Hook.of (PySem.W.kHook K05.heapK K05.heapA K05.heapE)) (PySem.W.Hook.keeps (PySem.W.kHook K05.heapK K05.heapA K05.heapE)) (fun s e => PySem.W.xl_of s (Bool.and_eq_true_iff.mp e).1) PySem.W.XL.keeps (by rfl) (by rfl) (by rfl) (fun s e => PySem.W.recFacts_of (Bool.and_eq_true_iff.mp e).2) (by rfl) (by first | assumption | decide +kernel) (by decide +kernel) ⟨rfl, rfl, rfl, rfl, rfl, by decide +kernel⟩ ?hw ?hc
  (case hl => refine PySem.W.LeftO.of_pieces (H₀ := K05.H0) (H₁ := K05.H1) (gs₀ := #[]) (gs₁ := #[]) (d₀ := {}) (d₁ := {}) (k₀ := 181) (k₁ := 566) (m₀ := 11) (ann := (some (.ref 6))) (M := 3523) K05.l_open ?_ K05.l_run rfl ?_ <;> (intro w; kernel_rfl))
  (case hw => w_witness2)
  k_fill
  refine L2.walk_ofK (l := PySem.Challenge.rw_mostwise_k05_refusals) (n := 63) (k := 4) (x := "_law_script") (CX := L2.CX0) (sp := K05.spLaw) rfl (by decide) rfl ⟨rfl, by decide, by decide⟩ (fun w h Y => PySem.W.kIn_of Y) ?F (fun K H a ns hl hO hS => K05.spLaw_of hl hO hS) (fun _ _ _ _ z => z)
  case F =>
    intro w mg fa h KX G hmg
    have T : ∃ t : K05.Adr, K05.Txt (L2.KOf KX) mg t := by
      dsimp only [L2.KOf]
      refine' Exists.imp (fun _ h => h.2.2) (K05.txt_mk KX G ?a_MostError ?a_NoStatement ?a_NoRow ?a_NoThing ?a_Doubled ?a_NoLabel ?a_NoFact ?a_NoBeat ?a_TooMany ?a_Ring ?a_StillOpen ?a_Decided ?a_NoStand ?a_NoTurn ?a_c_NoStatement_init ?l_c_NoStatement_init ?c_c_NoStatement_init ?p_c_NoStatement_init ?a_c_NoRow_init ?l_c_NoRow_init ?c_c_NoRow_init ?p_c_NoRow_init ?a_c_NoThing_init ?l_c_NoThing_init ?c_c_NoThing_init ?p_c_NoThing_init ?a_c_Doubled_init ?l_c_Doubled_init ?c_c_Doubled_init ?p_c_Doubled_init ?a_c_NoLabel_init ?l_c_NoLabel_init ?c_c_NoLabel_init ?p_c_NoLabel_init ?a_c_NoFact_init ?l_c_NoFact_init ?c_c_NoFact_init ?p_c_NoFact_init ?a_c_NoBeat_init ?l_c_NoBeat_init ?c_c_NoBeat_init ?p_c_NoBeat_init ?a_c_TooMany_init ?l_c_TooMany_init ?c_c_TooMany_init ?p_c_TooMany_init ?a_c_Ring_init ?l_c_Ring_init ?c_c_Ring_init ?p_c_Ring_init ?a_c_StillOpen_init ?l_c_StillOpen_init ?c_c_StillOpen_init ?p_c_StillOpen_init ?a_c_Decided_init ?l_c_Decided_init ?c_c_Decided_init ?p_c_Decided_init ?a_c_NoStand_init ?l_c_NoStand_init ?c_c_NoStand_init ?p_c_NoStand_init ?a_d_l_cell ?l_d_l_cell ?c_d_l_cell ?p_d_l_cell ?a_d_l_mixed ?l_d_l_mixed ?c_d_l_mixed ?p_d_l_mixed ?a_d_l_errors ?l_d_l_errors ?c_d_l_errors ?p_d_l_errors ?a_d_l_kinds ?l_d_l_kinds ?c_d_l_kinds ?p_d_l_kinds ?a_d_law ?l_d_law ?c_d_law ?p_d_law ?z_ValueError ?z_enumerate ?z_isinstance ?z_len ?z_list ?z_range ?x_NoStatement ?x_NoRow ?x_NoThing ?x_Doubled ?x_NoLabel ?x_NoFact ?x_NoBeat ?x_TooMany ?x_Ring ?x_StillOpen ?x_Decided ?x_NoStand ?x_NoTurn ?xt_own ?xt_up)
      (case a_MostError => k_is); (case a_NoStatement => k_is); (case a_NoRow => k_is); (case a_NoThing => k_is); (case a_Doubled => k_is); (case a_NoLabel => k_is); (case a_NoFact => k_is); (case a_NoBeat => k_is); (case a_TooMany => k_is); (case a_Ring => k_is); (case a_StillOpen => k_is); (case a_Decided => k_is); (case a_NoStand => k_is); (case a_NoTurn => k_is); (case a_c_NoStatement_init => k_is); (case l_c_NoStatement_init => k_is); (case c_c_NoStatement_init => k_is); (case p_c_NoStatement_init => k_is); (case a_c_NoRow_init => k_is); (case l_c_NoRow_init => k_is)
      (case c_c_NoRow_init => k_is); (case p_c_NoRow_init => k_is); (case a_c_NoThing_init => k_is); (case l_c_NoThing_init => k_is); (case c_c_NoThing_init => k_is); (case p_c_NoThing_init => k_is); (case a_c_Doubled_init => k_is); (case l_c_Doubled_init => k_is); (case c_c_Doubled_init => k_is); (case p_c_Doubled_init => k_is); (case a_c_NoLabel_init => k_is); (case l_c_NoLabel_init => k_is); (case c_c_NoLabel_init => k_is); (case p_c_NoLabel_init => k_is); (case a_c_NoFact_init => k_is); (case l_c_NoFact_init => k_is); (case c_c_NoFact_init => k_is); (case p_c_NoFact_init => k_is); (case a_c_NoBeat_init => k_is); (case l_c_NoBeat_init => k_is)
      (case c_c_NoBeat_init => k_is); (case p_c_NoBeat_init => k_is); (case a_c_TooMany_init => k_is); (case l_c_TooMany_init => k_is); (case c_c_TooMany_init => k_is); (case p_c_TooMany_init => k_is); (case a_c_Ring_init => k_is); (case l_c_Ring_init => k_is); (case c_c_Ring_init => k_is); (case p_c_Ring_init => k_is); (case a_c_StillOpen_init => k_is); (case l_c_StillOpen_init => k_is); (case c_c_StillOpen_init => k_is); (case p_c_StillOpen_init => k_is); (case a_c_Decided_init => k_is); (case l_c_Decided_init => k_is); (case c_c_Decided_init => k_is); (case p_c_Decided_init => k_is); (case a_c_NoStand_init => k_is); (case l_c_NoStand_init => k_is)
      (case c_c_NoStand_init => k_is); (case p_c_NoStand_init => k_is); (case a_d_l_cell => k_is); (case l_d_l_cell => k_is); (case c_d_l_cell => k_is); (case p_d_l_cell => k_is); (case a_d_l_mixed => k_is); (case l_d_l_mixed => k_is); (case c_d_l_mixed => k_is); (case p_d_l_mixed => k_is); (case a_d_l_errors => k_is); (case l_d_l_errors => k_is); (case c_d_l_errors => k_is); (case p_d_l_errors => k_is); (case a_d_l_kinds => k_is); (case l_d_l_kinds => k_is); (case c_d_l_kinds => k_is); (case p_d_l_kinds => k_is); (case a_d_law => k_is); (case l_d_law => k_is)
      (case c_d_law => k_is); (case p_d_law => k_is); (case z_ValueError => k_is); (case z_enumerate => k_is); (case z_isinstance => k_is); (case z_len => k_is); (case z_list => k_is); (case z_range => k_is)
      (case x_NoStatement => kernel_rfl)
      (case x_NoRow => kernel_rfl)
      (case x_NoThing => kernel_rfl)
      (case x_Doubled => kernel_rfl)
      (case x_NoLabel => kernel_rfl)
      (case x_NoFact => kernel_rfl)
      (case x_NoBeat => kernel_rfl)
      (case x_TooMany => kernel_rfl)
      (case x_Ring => kernel_rfl)
      (case x_StillOpen => kernel_rfl)
      (case x_Decided => kernel_rfl)
      (case x_NoStand => kernel_rfl)
      (case x_NoTurn => kernel_rfl)
      (case xt_own => kernel_rfl)
      (case xt_up => kernel_rfl)
    obtain ⟨t, T⟩ := T
    obtain ⟨_, _, _, _, _, _, _, _, _, e2, _, _⟩ := T.F_d_law.ex
    have e0 := hmg.symm.trans T.g_d_law
    cases e0
    exact ⟨t.fd_d_law, fun s u => by rw [e2]; exact .of_eq rfl, fun base kb nb => K05.ok_d_law T⟩
