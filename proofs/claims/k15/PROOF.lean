import PyProof.Rows.All
import Wide.All
import OpenK.AllK
import Wide.FinOn
import Lean
import PyProof.EqAt
import PyProof.EqKinds
import PyProof.TupleCall
import PyProof.StrLawsChain
import PyProof.StrLawsIn
import PyProof.Rows.StrNews2
import PyProof.StrBlockL
import PyProof.Rows.StrClose3
import PyProof.Rows.StrClose5
import PyProof.Rows.StrFirst
import PyProof.WalkInts
import PyProof.StrOps
import PySem.Challenge.RW_mostwise_k15_roads
set_option Elab.async false
set_option linter.all false
set_option maxRecDepth 100000
set_option maxHeartbeats 4000000
namespace L2
open PySem PySem.Spec PyProof.Rows
abbrev Key := Sum Int Str
def keyIs : Key → Value → Bool
  | .inl k, v => Value.isInt k v
  | .inr x, v => Value.isStrOf x v
def keyH (w : World) : Key → Int
  | .inl k => hashInt k
  | .inr x => hashStr w x
theorem keyIs_shape : ∀ {k : Key} {v : Value}, keyIs k v = true → (∃ i t, k = Sum.inl i ∧ v = Value.int i t) ∨ (∃ x t, k = Sum.inr x ∧ v = Value.str x t)
  | .inl i, v, h => by
    obtain ⟨t, e⟩ := Value.isInt_shape (k := i) (v := v) h
    exact .inl ⟨i, t, rfl, e⟩
  | .inr x, v, h => by
    obtain ⟨t, e⟩ := Value.isStrOf_shape (x := x) (v := v) h
    exact .inr ⟨x, t, rfl, e⟩
theorem keyIs_int (i : Int) (t : Tok) : keyIs (.inl i) (.int i t) = true := by simp [keyIs, Value.isInt]
theorem keyIs_str (x : Str) (t : Tok) : keyIs (.inr x) (.str x t) = true := by simp [keyIs, Value.isStrOf]
theorem key_ll (a b : Int) : decide ((Sum.inl a : Key) = Sum.inl b) = (a == b) := by
  by_cases e : a = b
  · subst e; simp
  · have h : ¬ (Sum.inl a : Key) = Sum.inl b := fun q => e (Sum.inl.inj q)
    rw [decide_eq_false h]
    exact (beq_eq_false_iff_ne.mpr e).symm
theorem key_rr (a b : Str) : decide ((Sum.inr a : Key) = Sum.inr b) = decide (a = b) := by
  by_cases e : a = b
  · subst e; simp
  · have h : ¬ (Sum.inr a : Key) = Sum.inr b := fun q => e (Sum.inr.inj q)
    rw [decide_eq_false h, decide_eq_false e]
theorem key_lr (a : Int) (b : Str) : decide ((Sum.inl a : Key) = Sum.inr b) = false := decide_eq_false (fun q => nomatch q)
theorem key_rl (a : Str) (b : Int) : decide ((Sum.inr a : Key) = Sum.inl b) = false := decide_eq_false (fun q => nomatch q)
def mixKind (prog : Program) (w : World) : PySem.KeyKind prog w Key where
  is := keyIs
  hash := keyH w
  inj := fun v a b ha hb => by
    rcases keyIs_shape ha with ⟨i, t, rfl, rfl⟩ | ⟨x, t, rfl, rfl⟩
    · rcases keyIs_shape hb with ⟨j, u, rfl, e⟩ | ⟨y, u, rfl, e⟩
      · injection e with e1 _; rw [e1]
      · exact nomatch e
    · rcases keyIs_shape hb with ⟨j, u, rfl, e⟩ | ⟨y, u, rfl, e⟩
      · exact nomatch e
      · injection e with e1 _; rw [e1]
  byValue := fun k v h => by
    rcases keyIs_shape h with ⟨i, t, rfl, rfl⟩ | ⟨x, t, rfl, rfl⟩ <;> rfl
  pyHash := fun hv h => by
    rcases keyIs_shape hv with ⟨i, t, rfl, rfl⟩ | ⟨x, t, rfl, rfl⟩
    · exact wpAny_pyHash_int h
    · exact wpAny_pyHash_str h
  eqBool := fun hu hv h => by
    rcases keyIs_shape hu with ⟨i, t, rfl, rfl⟩ | ⟨x, t, rfl, rfl⟩
    · rcases keyIs_shape hv with ⟨j, u, rfl, rfl⟩ | ⟨y, u, rfl, rfl⟩
      · rw [key_ll] at h; exact wpAny_eqBool_int h
      · rw [key_lr] at h; exact SeqAt.EqAt.int_str i t y u _ _ _ _ h
    · rcases keyIs_shape hv with ⟨j, u, rfl, rfl⟩ | ⟨y, u, rfl, rfl⟩
      · rw [key_rl] at h; exact SeqAt.EqAt.str_int x t j u _ _ _ _ h
      · rw [key_rr] at h; exact wpAny_eqBool_str h
  «strs» := fun k x t v h => by
    rcases keyIs_shape h with ⟨i, u, rfl, e⟩ | ⟨y, u, rfl, e⟩
    · exact nomatch e
    · injection e with e1 _
      subst e1
      cases v <;> rfl
theorem mixKind_int (prog : Program) (w : World) (i : Int) (t : Tok) : (mixKind prog w).is (.inl i) (.int i t) = true := keyIs_int i t
theorem mixKind_str (prog : Program) (w : World) (x : Str) (t : Tok) : (mixKind prog w).is (.inr x) (.str x t) = true := keyIs_str x t
end L2
namespace L2
open PySem PySem.Spec PyProof.Rows
inductive V where
  | non | bl (b : Bool) | int (i : Int) | str (x : Str) | byt (b : Array UInt8) | flt (b : UInt64) | ref (a : Addr) | ty (n : String)
  deriving DecidableEq
def RelV : V → Value → Prop
  | .non, u => u = Value.none
  | .bl b, u => u = Value.bool b
  | .int i, u => ∃ t, u = Value.int i t
  | .str x, u => ∃ t, u = Value.str x t
  | .byt b, u => ∃ t, u = Value.bytes b t
  | .flt b, u => ∃ t, u = Value.float b t
  | .ref a, u => u = Value.ref a
  | .ty n, u => u = Value.type n
abbrev Vals : List V → List Value → Prop := Paired RelV
theorem Vals.length {xs : List V} {us : List Value} (r : Vals xs us) : xs.length = us.length := Paired.length r
theorem Vals.get : ∀ {xs : List V} {us : List Value} {i : Nat} {x : V}, Vals xs us → xs[i]? = some x → ∃ u, us[i]? = some u ∧ RelV x u
  | _, _, _, _, .nil, e => by simp at e
  | _, _, 0, _, .cons r _, e => by simp at e; subst e; exact ⟨_, rfl, r⟩
  | _, _, i + 1, x, .cons _ t, e => by
    obtain ⟨u, h1, h2⟩ := Vals.get (i := i) (x := x) t (by simpa using e)
    exact ⟨u, by simpa using h1, h2⟩
theorem Vals.set {x : V} {u : Value} (r : RelV x u) : ∀ {xs : List V} {us : List Value} (i : Nat), Vals xs us → Vals (xs.set i x) (us.set i u)
  | _, _, _, .nil => .nil
  | _, _, 0, .cons _ t => .cons r t
  | _, _, i + 1, .cons q t => .cons q (Vals.set r i t)
theorem Vals.append : ∀ {xs ys : List V} {us ws : List Value}, Vals xs us → Vals ys ws → Vals (xs ++ ys) (us ++ ws)
  | _, _, _, _, .nil, s => s
  | _, _, _, _, .cons r t, s => .cons r (Vals.append t s)
theorem Vals.take : ∀ {xs : List V} {us : List Value} (n : Nat), Vals xs us → Vals (xs.take n) (us.take n)
  | _, _, 0, _ => .nil
  | _, _, _ + 1, .nil => .nil
  | _, _, n + 1, .cons r t => .cons r (Vals.take n t)
theorem Vals.drop : ∀ {xs : List V} {us : List Value} (n : Nat), Vals xs us → Vals (xs.drop n) (us.drop n)
  | _, _, 0, r => r
  | _, _, _ + 1, .nil => .nil
  | _, _, n + 1, .cons _ t => Vals.drop n t
def RelO : Option V → Option Value → Prop
  | some v, some u => RelV v u
  | none, none => True
  | _, _ => False
def KV {κ : Type} : List (κ × V) → List (κ × Value) → Prop := Paired fun (p : κ × V) (q : κ × Value) => p.1 = q.1 ∧ RelV p.2 q.2
def kV : Key → V
  | .inl i => .int i
  | .inr x => .str x
inductive HO where
  | lst (xs : List V)
  | tup (xs : List V)
  | dK (kvs : List (Key × V)) | dT (kvs : List (List Key × V))
  | set (S : Int → Bool) (n : Nat)
  | ins (C dx : Addr) (fs : List (Str × V))
  | own (x : Addr)
  | xd (fs : List (Str × V))
  | met (f x : Addr)
  | rng (lo hi : Int)
  | frz (o : Obj) (u : HO)
  | tbl (ps : Array Value)
  | ext (φ : Heap → Prop)
abbrev Hp := Addr → Option HO
def upd (H : Hp) (a : Addr) (o : HO) : Hp := fun b => if b = a then some o else H b
theorem upd_same {H : Hp} {a : Addr} {o : HO} : upd H a o a = some o := by unfold upd; rw [if_pos rfl]
theorem upd_ne {H : Hp} {a b : Addr} {o : HO} (h : b ≠ a) : upd H a o b = H b := by unfold upd; rw [if_neg h]
theorem ne_of {H : Hp} {a b : Addr} {o u : HO} (h : H a = some o) (h' : H b = some u) (d : o ≠ u) : a ≠ b := by
  intro e; subst e; rw [h] at h'; exact d (Option.some.inj h')
theorem ne_of_none {H : Hp} {a b : Addr} {o : HO} (h : H a = some o) (h' : H b = none) : a ≠ b := by
  intro e; subst e; rw [h] at h'; cases h'
section
variable (P : Program) (w : World)
def ObjOk (H : Hp) (h : Heap) (a : Addr) : HO → Prop
  | .lst xs => xs.length ≤ sizeLine ∧ ∃ (its : List Value) (n : Nat), Vals xs its ∧ h.get? a = some { cls := .type "list", data := .seq its.toArray n }
  | .tup xs => xs.length ≤ sizeLine ∧ ∃ its : List Value, Vals xs its ∧ IsTup h a its.toArray
  | .dK kvs => kvs.length ≤ sizeLine ∧ (a == sysModules) = false ∧ ∃ vs, KV kvs vs ∧ h.DictOf (mixKind P w) a vs
  | .dT kvs => kvs.length ≤ sizeLine ∧ (a == sysModules) = false ∧ ∃ xs : List (List Key × Addr × Value),
      Paired (fun (p : List Key × V) (q : List Key × Addr × Value) => p.1 = q.1 ∧ H q.2.1 = some (.tup (p.1.map kV)) ∧ RelV p.2 q.2.2) kvs xs ∧
      ∃ o es ep, h.get? a = some o ∧ o.ExactDict ∧ o.data = .dict es ep ∧ es.toList = xs.map (entryOfKey (tupleKind (mixKind P w))) ∧ (xs.map (·.1)).Nodup
  | .set S n => h.SetOf (intKind P w) a S n
  | .ins C dx fs => H dx = some (.own a) ∧ fs.length ≤ 1000 ∧ dx ≠ a ∧ h.get? a = some (PySem.W.instObj C dx) ∧
      ∃ mA, h.Ns1 dx mA ∧ (∀ f, RelO (fs.lookup f) (mA f)) ∧ PySem.Within mA (fs.map (·.1))
  | .own _ => ∃ o, h.get? a = some o
  | .xd fs => ∃ mA, h.Ns1 a mA ∧ ∀ f, RelO (fs.lookup f) (mA f)
  | .rng lo hi => ∃ t u v, h.get? a = some { cls := .type "range", data := .fields #[.int lo t, .int hi u, .int 1 v] }
  | .frz o u => h.get? a = some o ∧ ObjOk H h a u
  | .tbl ps => h.get? a = some { cls := .none, data := .fields ps }
  | .met f x => h.get? a = some (PySem.W.methodObj (.ref f) (.ref x))
  | .ext φ => φ h ∧ (∃ o, h.get? a = some o) ∧ ∀ h1 h2 : Heap, φ h1 → (∀ o, h1.get? a = some o → h2.get? a = some o) → φ h2
def HOk (H : Hp) (h : Heap) : Prop := ∀ a o, H a = some o → ObjOk P w H h a o
end
section
variable {P : Program} {w : World} {H H' : Hp} {h h' : Heap} {a : Addr} {o : HO}
theorem ObjOk.lt (x : ObjOk P w H h a o) : a < h.objs.size := by
  cases o with
  | lst xs => obtain ⟨_, _, _, _, e⟩ := x; exact Heap.lt_size e
  | tup xs => obtain ⟨_, _, _, p⟩ := x; exact p.lt
  | dK kvs => obtain ⟨_, _, _, _, o, _, _, e, _⟩ := x; exact Heap.lt_size e
  | dT kvs => obtain ⟨_, _, _, _, o, _, _, e, _⟩ := x; exact Heap.lt_size e
  | set S n => obtain ⟨o, _, _, _, e, _⟩ := x; exact Heap.lt_size e
  | ins C dx fs => obtain ⟨_, _, _, e, _⟩ := x; exact Heap.lt_size e
  | own y => obtain ⟨_, e⟩ := x; exact Heap.lt_size e
  | xd fs => obtain ⟨_, ⟨_, _, _, e, _⟩, _⟩ := x; exact Heap.lt_size e
  | rng lo hi => obtain ⟨_, _, _, e⟩ := x; exact Heap.lt_size e
  | frz ob u => obtain ⟨e, _⟩ := x; exact Heap.lt_size e
  | tbl ps => exact Heap.lt_size (show h.get? a = some _ from x)
  | met f y => exact Heap.lt_size (show h.get? a = some _ from x)
  | ext φ => obtain ⟨_, ⟨_, e⟩, _⟩ := x; exact Heap.lt_size e
theorem Paired.mapP {α β : Type} {F G : α → β → Prop} : ∀ {l₁ : List α} {l₂ : List β}, Paired F l₁ l₂ → (∀ a b, F a b → G a b) → Paired G l₁ l₂
  | _, _, .nil, _ => .nil
  | _, _, .cons r t, f => .cons (f _ _ r) (Paired.mapP t f)
theorem ObjOk.stay (x : ObjOk P w H h a o) (k : ∀ b u, (b = a ∨ H b = some (.own a)) → h.get? b = some u → h'.get? b = some u)
    (ho : ∀ b, H b = some (.own a) → H' b = some (.own a)) (ht : ∀ b xs, H b = some (.tup xs) → H' b = some (.tup xs)) : ObjOk P w H' h' a o := by
  induction o with
  | lst xs => obtain ⟨z, its, n, r, e⟩ := x; exact ⟨z, its, n, r, k _ _ (.inl rfl) e⟩
  | tup xs => obtain ⟨z, its, r, ob, e, c⟩ := x; exact ⟨z, its, r, ob, k _ _ (.inl rfl) e, c⟩
  | dK kvs => obtain ⟨z, y, vs, r, ob, es, ep, e, c⟩ := x; exact ⟨z, y, vs, r, ob, es, ep, k _ _ (.inl rfl) e, c⟩
  | dT kvs =>
    obtain ⟨z, y, xs, r, ob, es, ep, e, c⟩ := x
    exact ⟨z, y, xs, Paired.mapP r fun p q z => ⟨z.1, ht _ _ z.2.1, z.2.2⟩, ob, es, ep, k _ _ (.inl rfl) e, c⟩
  | set S n => obtain ⟨ob, es, ep, t, e, c⟩ := x; exact ⟨ob, es, ep, t, k _ _ (.inl rfl) e, c⟩
  | ins C dx fs =>
    obtain ⟨d, z, ne, e, mA, ⟨od, es, ep, e2, c⟩, r⟩ := x
    exact ⟨ho _ d, z, ne, k _ _ (.inl rfl) e, mA, ⟨od, es, ep, k _ _ (.inr d) e2, c⟩, r⟩
  | own y => obtain ⟨ob, e⟩ := x; exact ⟨ob, k _ _ (.inl rfl) e⟩
  | xd fs => obtain ⟨mA, ⟨od, es, ep, e, c⟩, r⟩ := x; exact ⟨mA, ⟨od, es, ep, k _ _ (.inl rfl) e, c⟩, r⟩
  | rng lo hi => obtain ⟨t, u, v, e⟩ := x; exact ⟨t, u, v, k _ _ (.inl rfl) e⟩
  | frz ob u ih => obtain ⟨e, q⟩ := x; exact ⟨k _ _ (.inl rfl) e, ih q⟩
  | tbl ps =>
    have e : h.get? a = some { cls := .none, data := .fields ps } := x
    show h'.get? a = some { cls := .none, data := .fields ps }
    exact k a _ (.inl rfl) e
  | met f y =>
    have e : h.get? a = some (PySem.W.methodObj (.ref f) (.ref y)) := x
    show h'.get? a = some (PySem.W.methodObj (.ref f) (.ref y))
    exact k a _ (.inl rfl) e
  | ext φ => obtain ⟨p, ⟨o, e⟩, st⟩ := x; exact ⟨st _ _ p fun o q => k _ _ (.inl rfl) q, ⟨o, k _ _ (.inl rfl) e⟩, st⟩
theorem HOk.lt (x : HOk P w H h) (e : H a = some o) : a < h.objs.size := (x a o e).lt
theorem HOk.fresh (x : HOk P w H h) (e : h.objs.size ≤ a) : H a = none := by
  cases q : H a with
  | none => rfl
  | some u => exact absurd (Nat.lt_of_lt_of_le (x.lt q) e) (Nat.lt_irrefl _)
theorem HOk.kept (x : HOk P w H h) (k : ∀ b u, h.get? b = some u → h'.get? b = some u) : HOk P w H h' := fun a o e =>
  (x a o e).stay (fun b u _ q => k b u q) (fun _ q => q) fun _ _ q => q
theorem HOk.laid (x : HOk P w H h) (k : ∀ b u, h.get? b = some u → h'.get? b = some u) (hp : h.objs.size ≤ a) (new : ObjOk P w (upd H a o) h' a o) : HOk P w (upd H a o) h' := fun b u e => by
  have hn := x.fresh hp
  by_cases hb : b = a
  · subst hb; rw [upd_same] at e; cases e; exact new
  · rw [upd_ne hb] at e
    exact (x b u e).stay (fun c v _ q => k c v q) (fun c q => by rw [upd_ne (ne_of_none q hn)]; exact q) fun c xs q => by rw [upd_ne (ne_of_none q hn)]; exact q
end
def Rd (H : Hp) (a : Addr) (u : HO) : Prop := H a = some u ∨ ∃ o, H a = some (.frz o u)
theorem Rd.of {H : Hp} {a : Addr} {u : HO} (h : H a = some u) : Rd H a u := .inl h
theorem Rd.ok {P : Program} {w : World} {H : Hp} {h : Heap} {a : Addr} {u : HO} (r : Rd H a u) (x : HOk P w H h) : ObjOk P w H h a u := by
  rcases r with r | ⟨o, r⟩
  · exact x a u r
  · obtain ⟨_, q⟩ := x a _ r
    exact q
def Mut : Option HO → Prop
  | some (.lst _) => True
  | some (.dK _) => True
  | some (.dT _) => True
  | some (.set _ _) => True
  | some (.ins _ _ _) => True
  | some (.ext _) => True
  | _ => False
section
variable {P : Program} {w : World} {H : Hp} {h h' : Heap} {x e : Addr} {o' : HO}
theorem HOk.write (ok : HOk P w H h) (mu : Mut (H x)) (he : e = x ∨ H e = some (.own x)) (k : ∀ b u, b ≠ e → h.get? b = some u → h'.get? b = some u) (heo : ∃ u, h'.get? e = some u)
    (new : ObjOk P w (upd H x o') h' x o') : HOk P w (upd H x o') h' := fun b u q => by
  have nown : ∀ c y, H c = some (.own y) → c ≠ x := fun c y r z => by subst z; rw [r] at mu; exact mu
  have ntup : ∀ c xs, H c = some (.tup xs) → c ≠ x := fun c xs r z => by subst z; rw [r] at mu; exact mu
  by_cases hb : b = x
  · subst hb; rw [upd_same] at q; cases q; exact new
  · rw [upd_ne hb] at q
    by_cases hbe : b = e
    · have q' : H b = some (.own x) := by
        rcases he with z | z
        · exact absurd (hbe.trans z) hb
        · rw [hbe]; exact z
      rw [q] at q'; cases q'
      obtain ⟨v, hv⟩ := heo
      exact ⟨v, by rw [hbe]; exact hv⟩
    · refine (ok b u q).stay (fun c v hc r => k c v ?_ r) (fun c r => by rw [upd_ne (nown c b r)]; exact r) fun c xs r => by rw [upd_ne (ntup c xs r)]; exact r
      rcases hc with rfl | hc
      · exact hbe
      · rintro rfl
        rcases he with z | z
        · exact nown c b hc z
        · rw [hc] at z; cases z; exact hb rfl
end
structure Un (fs ex : List Addr) (H H' : Hp) (h h' : Heap) : Prop where
  keep : ∀ b o, h.get? b = some o → H b = none → b ∉ fs → b ∉ ex → h'.get? b = some o
  slot : ∀ b o, h.get? b = some o → H b = none → b ∈ fs → b ∉ ex → ∃ sl, h'.get? b = some { o with slots := sl }
  free : ∀ b o, h.get? b = some o → H b = none → b ∉ ex → H' b = none
  there : ∀ b o, h.get? b = some o → b ∉ ex → ∃ o', h'.get? b = some o'
  tups : ∀ b xs, H b = some (.tup xs) → H' b = some (.tup xs)
  frzs : ∀ b o u, H b = some (.frz o u) → H' b = some (.frz o u)
  tbls : ∀ b ps, H b = some (.tbl ps) → ∃ more, H' b = some (.tbl (ps ++ more))
section
variable {fs fs' ex ex' : List Addr} {H H1 H2 : Hp} {h h1 h2 h' : Heap} {a x e : Addr} {o : HO}
theorem Un.any (u : Un fs ex H H1 h h1) {b : Addr} {ob : Obj} (q : h.get? b = some ob) (n : H b = none) (hx : b ∉ ex) : ∃ sl, h1.get? b = some { ob with slots := sl } := by
  by_cases hb : b ∈ fs
  · exact u.slot b ob q n hb hx
  · exact ⟨ob.slots, u.keep b ob q n hb hx⟩
theorem Un.trans (a : Un fs ex H H1 h h1) (b : Un fs ex H1 H2 h1 h2) : Un fs ex H H2 h h2 where
  keep := fun c ob q n hc hx => b.keep c ob (a.keep c ob q n hc hx) (a.free c ob q n hx) hc hx
  slot := fun c ob q n hc hx => by
    obtain ⟨sl, e1⟩ := a.slot c ob q n hc hx
    obtain ⟨sl', e2⟩ := b.slot c _ e1 (a.free c ob q n hx) hc hx
    exact ⟨sl', e2⟩
  free := fun c ob q n hx => by
    obtain ⟨o', e1⟩ := a.there c ob q hx
    exact b.free c o' e1 (a.free c ob q n hx) hx
  there := fun c ob q hx => by
    obtain ⟨o', e1⟩ := a.there c ob q hx
    exact b.there c o' e1 hx
  tups := fun c xs q => b.tups c xs (a.tups c xs q)
  frzs := fun c ob xs q => b.frzs c ob xs (a.frzs c ob xs q)
  tbls := fun c ps q => by
    obtain ⟨m1, e1⟩ := a.tbls c ps q
    obtain ⟨m2, e2⟩ := b.tbls c _ e1
    exact ⟨m1 ++ m2, by rw [e2, Array.append_assoc]⟩
theorem Un.kept (k : ∀ b u, h.get? b = some u → h'.get? b = some u) : Un fs ex H H h h' :=
  ⟨fun b ob q _ _ _ => k b ob q, fun b ob q _ _ _ => ⟨ob.slots, k b ob q⟩, fun _ _ _ n _ => n, fun b ob q _ => ⟨ob, k b ob q⟩, fun _ _ q => q, fun _ _ _ q => q, fun _ ps q => ⟨#[], by rw [q]; simp⟩⟩
theorem Un.refl : Un fs ex H H h h := Un.kept fun _ _ q => q
theorem Un.laid (k : ∀ b u, h.get? b = some u → h'.get? b = some u) (hp : h.objs.size ≤ a) (hn : H a = none) : Un fs ex H (upd H a o) h h' where
  keep := fun b u q _ _ _ => k b u q
  slot := fun b u q _ _ _ => ⟨u.slots, k b u q⟩
  free := fun b u q n _ => by rw [upd_ne (Nat.ne_of_lt (Nat.lt_of_lt_of_le (Heap.lt_size q) hp))]; exact n
  there := fun b u q _ => ⟨u, k b u q⟩
  tups := fun b xs q => by rw [upd_ne (ne_of_none q hn)]; exact q
  frzs := fun b u xs q => by rw [upd_ne (ne_of_none q hn)]; exact q
  tbls := fun b ps q => ⟨#[], by rw [upd_ne (ne_of_none q hn), q]; simp⟩
theorem Un.write (mu : Mut (H x)) (he : e = x ∨ H e = some (.own x)) (k : ∀ b u, b ≠ e → h.get? b = some u → h'.get? b = some u) (heo : ∃ u, h'.get? e = some u) : Un fs ex H (upd H x o) h h' := by
  have hx : ∀ b, H b = none → b ≠ x := fun b n z => by subst z; rw [n] at mu; exact mu
  have hb : ∀ b, H b = none → b ≠ e := fun b n z => by
    subst z
    rcases he with r | r
    · exact hx b n r
    · rw [n] at r; cases r
  have hm : ∀ b u, H b = some u → ¬ Mut (some u) → b ≠ x := fun b u q nm z => by subst z; rw [q] at mu; exact nm mu
  refine ⟨fun b u q n _ _ => k b u (hb b n) q, fun b u q n _ _ => ⟨u.slots, k b u (hb b n) q⟩, fun b u q n _ => by rw [upd_ne (hx b n)]; exact n, fun b u q _ => ?_,
    fun b xs q => by rw [upd_ne (hm b _ q fun z => z)]; exact q, fun b u xs q => by rw [upd_ne (hm b _ q fun z => z)]; exact q, fun b ps q => ⟨#[], by rw [upd_ne (hm b _ q fun z => z), q]; simp⟩⟩
  by_cases hbe : b = e
  · subst hbe; exact heo
  · exact ⟨u, k b u hbe q⟩
theorem Un.mono (u : Un fs ex H H1 h h1) (hs : ∀ b ∈ fs, b ∈ fs') (hx : ∀ b ∈ ex, b ∈ ex') : Un fs' ex' H H1 h h1 :=
  ⟨fun b ob q n hb he => u.keep b ob q n (fun z => hb (hs b z)) fun z => he (hx b z), fun _ _ q n _ he => u.any q n fun z => he (hx _ z), fun b ob q n he => u.free b ob q n fun z => he (hx b z), fun b ob q he => u.there b ob q fun z => he (hx b z), u.tups, u.frzs, u.tbls⟩
end
def trk (h : Heap) (H : Hp) : List Addr := (List.range h.objs.size).filter fun a => (H a).isSome
def hidT (h : Heap) (H : Hp) : Heap := PySem.W.hideAll h (trk h H)
theorem hidT_size (h : Heap) (H : Hp) : (hidT h H).objs.size = h.objs.size := PySem.W.hideAll_size _ _
theorem hidT_get {h : Heap} {H : Hp} {b : Addr} {o : Obj} (e : h.get? b = some o) (n : H b = none) : (hidT h H).get? b = some o :=
  PySem.W.hideAll_get _ e fun hm => by
    have q : (H b).isSome = true := (List.mem_filter.mp hm).2
    rw [n] at q; simp at q
theorem of_hidT {h : Heap} {H : Hp} {b : Addr} {o : Obj} (e : (hidT h H).get? b = some o) : h.get? b = some o ∧ H b = none := by
  have e' : h.get? b = some o := PySem.W.of_hideAll (trk h H) e
  refine ⟨e', ?_⟩
  cases q : H b with
  | none => rfl
  | some x =>
    have hm : b ∈ trk h H := List.mem_filter.mpr ⟨List.mem_range.mpr (Heap.lt_size e'), by simp [q]⟩
    have z : (hidT h H).get? b = none := PySem.W.hideAll_none (trk h H) hm
    rw [z] at e; cases e
def allNews (g h : Heap) (L : Addr) : List (Addr × Obj) := (List.range h.objs.size).filterMap fun a => if a = L ∨ (g.get? a).isSome = true then none else (h.get? a).map fun o => (a, o)
def rest (g h : Heap) (L d : Addr) : List (Addr × Obj) := (allNews g h L).filter fun p => decide (p.1 ≠ d)
end L2
namespace L2
open PySem PySem.Spec PyProof.Rows
structure Mod (K : PySem.W.Frag) (mg : Str → Option Value) (base : Heap) : Prop where
  kin : K.In base
  glob : base.Ns mainGlobals mg
  blt : ∃ mb, base.Ns builtinsNs mb ∧ ∀ x : Str, x ≠ "__name__" → mb x = bootBuiltins x
  nolimit : base.NoLimit
structure Cx where
  prog : Program
  w : World
  K : PySem.W.Frag
  mg : Str → Option Value
  base : Heap
  A : Around
  N : List Str
  s₀ : Shared
  H₀ : Hp
  env : Env
  outer : List Env
  stack : List Env
  ex : List Addr
  fn : Str → Bool
  calm : Bool
  pn : List (Addr × Obj)
  xe : Value → Shared → Prop
def frs (l : List Env) : List Addr := l.filterMap (·.frame)
abbrev Cx.fs (X : Cx) : List Addr := frs X.outer
def Vis (sc : Scope) (x : Str) : Prop := sc.names.lookup x = some .local ∨ sc.names.lookup x = some .cell ∨ sc.names.lookup x = some .free
def Loc (sc : Scope) (x : Str) : Prop := sc.names.lookup x = some .local ∨ sc.names.lookup x = some .cell
def Look (env : Env) (h : Heap) (m : Str → Option Value) (x : Str) (u : Value) : Prop :=
  (env.kindOf x = some .local ∧ m x = some u) ∨ ((env.kindOf x = some .cell ∨ env.kindOf x = some .free) ∧ ∃ c, env.cells.lookup x = some c ∧ h.IsCell c (some u))
structure Cx.Ok (X : Cx) : Prop where
  mod : Mod X.K X.mg X.base
  kind : X.env.scope.kind = .function
  glob : X.env.globals = mainGlobals
  blt : X.env.builtins = builtinsNs
  above : X.s₀.heap.objs.size ≤ X.env.locals
  inj : ∀ x y c, X.env.cells.lookup x = some c → X.env.cells.lookup y = some c → x = y
  has : ∀ x, (X.env.kindOf x = some .cell ∨ X.env.kindOf x = some .free) → ∃ c, X.env.cells.lookup x = some c
  cab : ∀ x c, X.fn x = true → X.env.cells.lookup x = some c → X.s₀.heap.objs.size ≤ c
  hd : X.calm = true → X.A.handled = none
  frames : X.A.frames = some X.stack
  stk : X.stack = X.outer ∨ (X.stack = X.env :: X.outer ∧ X.env.frame = some X.env.locals)
  exf : ∀ b ∈ X.ex, b ≠ X.env.locals ∧ ∀ x c, X.env.cells.lookup x = some c → c ≠ b
  bs : ∀ b o, X.base.get? b = some o → X.s₀.heap.get? b = some o ∧ X.H₀ b = none
  bsz : X.base.objs.size ≤ X.s₀.heap.objs.size
  noex : ∀ b o, X.base.get? b = some o → b ∉ X.ex
  exfs : ∀ b ∈ X.ex, b ∉ X.fs
  funs : X.s₀.heap.FunFrames X.base X.outer
  frf : ∀ b ∈ X.fs, X.H₀ b = none
structure Inv (X : Cx) (pins : List (Addr × Obj)) (σ : List (Option V)) (H : Hp) (s : Shared) : Prop where
  ok : X.Ok
  os : s.os = X.s₀.os
  bare : AllBare s.gens
  base : Un X.fs X.ex X.H₀ H X.s₀.heap s.heap
  loc : ∃ m, s.heap.Ns X.env.locals m ∧ ∀ (i : Nat) (x : Str) (v : V), X.N[i]? = some x → σ[i]? = some (some v) → Vis X.env.scope x → ∃ u, RelV v u ∧ Look X.env s.heap m x u
  cell : ∀ x c, X.env.cells.lookup x = some c → ∃ v, s.heap.IsCell c v
  free : H X.env.locals = none
  freeC : ∀ x c, X.env.cells.lookup x = some c → H c = none
  pin : ∀ p ∈ X.pn ++ pins, s.heap.get? p.1 = some p.2 ∧ H p.1 = none ∧ p.1 ≠ X.env.locals ∧ p.1 ∉ X.fs ∧ ∀ v, p.2.data ≠ .cell v
  hok : HOk X.prog X.w H s.heap
  len : σ.length = X.N.length
section
variable {X : Cx} {pins : List (Addr × Obj)} {σ : List (Option V)} {H H' : Hp} {s : Shared} {h' : Heap}
theorem Cx.Ok.nofr (ok : X.Ok) {b : Addr} {o : Obj} (e : X.base.get? b = some o) : b ∉ X.fs := fun hb => by
  have := (ok.funs.mem hb).1
  rw [e] at this; cases this
theorem Inv.bs (I : Inv X pins σ H s) : ∀ b o, X.base.get? b = some o → s.heap.get? b = some o ∧ H b = none := fun b o e =>
  ⟨I.base.keep b o (I.ok.bs b o e).1 (I.ok.bs b o e).2 (I.ok.nofr e) (I.ok.noex b o e), I.base.free b o (I.ok.bs b o e).1 (I.ok.bs b o e).2 (I.ok.noex b o e)⟩
theorem Inv.bk (I : Inv X pins σ H s) : ∀ b o, X.base.get? b = some o → s.heap.get? b = some o := fun b o e => (I.bs b o e).1
theorem Inv.mod (I : Inv X pins σ H s) : Mod X.K X.mg X.base := I.ok.mod
theorem Inv.kIn (I : Inv X pins σ H s) : X.K.In s.heap := I.ok.mod.kin.keeps I.bk
theorem Inv.nolimit (I : Inv X pins σ H s) : s.heap.NoLimit := I.ok.mod.nolimit.keeps I.bk
theorem Inv.lt (I : Inv X pins σ H s) : X.env.locals < s.heap.objs.size := let ⟨_, hn, _⟩ := I.loc; hn.lt
theorem Inv.sz (I : Inv X pins σ H s) : X.s₀.heap.objs.size ≤ s.heap.objs.size := Nat.le_trans I.ok.above (Nat.le_of_lt I.lt)
theorem Inv.nofs (I : Inv X pins σ H s) {a : Addr} (h : s.heap.objs.size ≤ a) : a ∉ X.fs := fun hb => by
  obtain ⟨_, o, ho, _⟩ := I.ok.funs.mem hb
  exact absurd (Nat.lt_of_lt_of_le (Heap.lt_size ho) (Nat.le_trans I.sz h)) (Nat.lt_irrefl _)
theorem Inv.cne (I : Inv X pins σ H s) : ∀ x c, X.env.cells.lookup x = some c → c ≠ X.env.locals := fun x c e z => by
  obtain ⟨v, o, ho, hd⟩ := I.cell x c e
  obtain ⟨m, ⟨o', es, ep, ho', hd', _⟩, _⟩ := I.loc
  rw [z, ho'] at ho; cases ho; rw [hd'] at hd; cases hd
theorem Inv.funs (I : Inv X pins σ H s) : s.heap.FunFrames X.base X.outer := by
  have all : ∀ (l : List Env), (∀ b ∈ frs l, b ∈ X.fs) → X.s₀.heap.FunFrames X.base l → s.heap.FunFrames X.base l := by
    intro l
    induction l with
    | nil => intro _ _; trivial
    | cons env r ih =>
      intro hs hl
      obtain ⟨hk, ⟨L, o, hf, hn, ho, hd⟩, hr⟩ := hl
      have hL : L ∈ X.fs := hs L (by unfold frs; rw [List.filterMap_cons, hf]; exact List.mem_cons_self)
      obtain ⟨sl, e⟩ := I.base.slot L o ho (I.ok.frf L hL) hL fun z => I.ok.exfs L z hL
      exact ⟨hk, ⟨L, _, hf, hn, e, hd⟩, ih (fun b hb => hs b (by unfold frs; rw [List.filterMap_cons, hf]; exact List.mem_cons_of_mem _ hb)) hr⟩
  exact all X.outer (fun _ hb => hb) I.ok.funs
theorem Inv.stack (I : Inv X pins σ H s) : s.heap.FunFrames X.base X.stack := by
  rcases I.ok.stk with e | ⟨e, hf⟩
  · rw [e]; exact I.funs
  · rw [e]
    obtain ⟨m, hn, _⟩ := I.loc
    refine .cons (by rw [I.ok.kind]; decide) hf hn ?_ I.funs
    exact Heap.get?_none_of_le (Nat.le_trans I.ok.bsz I.ok.above)
theorem Inv.stkSub (I : Inv X pins σ H s) : ∀ b ∈ frs X.stack, b ∈ X.env.locals :: X.fs := fun b hb => by
  rcases I.ok.stk with e | ⟨e, hf⟩
  · rw [e] at hb; exact List.mem_cons_of_mem _ hb
  · rw [e] at hb
    unfold frs at hb
    rw [List.filterMap_cons, hf] at hb
    exact hb
theorem Inv.stkFree (I : Inv X pins σ H s) : ∀ b ∈ frs X.stack, H b = none := fun b hb => by
  rcases List.mem_cons.mp (I.stkSub b hb) with e | hb
  · rw [e]; exact I.free
  · obtain ⟨_, o, ho, _⟩ := I.ok.funs.mem hb
    exact I.base.free b o ho (I.ok.frf b hb) fun z => I.ok.exfs b z hb
theorem Inv.step {g' : Array GenState} {t' : Nat} {d' : Drawn} {ch : List Addr} (I : Inv X pins σ H s)
    (hch : ∀ b ∈ ch, (b ∈ X.ex ∨ X.s₀.heap.objs.size ≤ b) ∧ b ≠ X.env.locals ∧ (∀ x c, X.env.cells.lookup x = some c → c ≠ b) ∧ ∀ p ∈ X.pn ++ pins, p.1 ≠ b)
    (keep : ∀ b o, b ≠ X.env.locals → b ∉ X.fs → b ∉ ch → s.heap.get? b = some o → H b = none → h'.get? b = some o)
    (slot : ∀ b o, b ≠ X.env.locals → b ∈ X.fs → b ∉ ch → s.heap.get? b = some o → H b = none → ∃ sl, h'.get? b = some { o with slots := sl }) (free : ∀ b o, b ∉ ch → s.heap.get? b = some o → H b = none → H' b = none)
    (there : ∀ b o, b ∉ ch → s.heap.get? b = some o → ∃ o', h'.get? b = some o')
    (tups : ∀ b xs, H b = some (.tup xs) → H' b = some (.tup xs)) (frzs : ∀ b o u, H b = some (.frz o u) → H' b = some (.frz o u)) (tbls : ∀ b ps, H b = some (.tbl ps) → ∃ more, H' b = some (.tbl (ps ++ more)))
    (ns : ∀ m, s.heap.Ns X.env.locals m → h'.Ns X.env.locals m) (hok : HOk X.prog X.w H' h') (hg : AllBare g') :
    Inv X pins σ H' { s with heap := h', gens := g', drawn := d', toks := t' } := by
  have neL : ∀ b o, X.s₀.heap.get? b = some o → b ≠ X.env.locals := fun b o e => Nat.ne_of_lt (Nat.lt_of_lt_of_le (Heap.lt_size e) I.ok.above)
  have neC : ∀ b o, X.s₀.heap.get? b = some o → b ∉ X.ex → b ∉ ch := fun b o e hx hb => by
    rcases (hch b hb).1 with z | z
    · exact hx z
    · exact absurd (Nat.lt_of_lt_of_le (Heap.lt_size e) z) (Nat.lt_irrefl _)
  have cellK : ∀ x c, X.env.cells.lookup x = some c → ∀ v, s.heap.IsCell c v → h'.IsCell c v := fun x c e v ⟨o, ho, hd⟩ => by
    have nch : c ∉ ch := fun z => (hch c z).2.2.1 x c e rfl
    by_cases hc : c ∈ X.fs
    · obtain ⟨sl, q⟩ := slot c o (I.cne x c e) hc nch ho (I.freeC x c e)
      exact ⟨_, q, hd⟩
    · exact ⟨o, keep c o (I.cne x c e) hc nch ho (I.freeC x c e), hd⟩
  refine ⟨I.ok, I.os, hg, ⟨fun b o e n hb hx => ?_, fun b o e n hb hx => ?_, fun b o e n hx => ?_, fun b o e hx => ?_, fun b xs e => tups b xs (I.base.tups b xs e), fun b o xs e => frzs b o xs (I.base.frzs b o xs e), fun b ps e => ?_⟩, ?_, fun x c e => ?_, ?_, fun x c e => ?_, fun p hp => ?_, hok, I.len⟩
  · exact keep b o (neL b o e) hb (neC b o e hx) (I.base.keep b o e n hb hx) (I.base.free b o e n hx)
  · obtain ⟨sl, e1⟩ := I.base.slot b o e n hb hx
    obtain ⟨sl', e2⟩ := slot b _ (neL b o e) hb (neC b o e hx) e1 (I.base.free b o e n hx)
    exact ⟨sl', e2⟩
  · obtain ⟨o', e1⟩ := I.base.there b o e hx
    exact free b o' (neC b o e hx) e1 (I.base.free b o e n hx)
  · obtain ⟨o', e1⟩ := I.base.there b o e hx
    exact there b o' (neC b o e hx) e1
  · obtain ⟨m1, e1⟩ := I.base.tbls b ps e
    obtain ⟨m2, e2⟩ := tbls b _ e1
    exact ⟨m1 ++ m2, by rw [e2, Array.append_assoc]⟩
  · obtain ⟨m, hn, hl⟩ := I.loc
    refine ⟨m, ns m hn, fun i x v e1 e2 e3 => ?_⟩
    obtain ⟨u, r, l⟩ := hl i x v e1 e2 e3
    refine ⟨u, r, ?_⟩
    rcases l with l | ⟨k, c, e, z⟩
    · exact .inl l
    · exact .inr ⟨k, c, e, cellK x c e _ z⟩
  · obtain ⟨v, z⟩ := I.cell x c e
    exact ⟨v, cellK x c e v z⟩
  · obtain ⟨m, ⟨o, _, _, ho, _⟩, _⟩ := I.loc
    exact free _ o (fun z => (hch _ z).2.1 rfl) ho I.free
  · obtain ⟨v, o, ho, hd⟩ := I.cell x c e
    exact free c o (fun z => (hch c z).2.2.1 x c e rfl) ho (I.freeC x c e)
  · obtain ⟨e, n, ne, nf, d⟩ := I.pin p hp
    have nch : p.1 ∉ ch := fun z => (hch p.1 z).2.2.2 p hp rfl
    exact ⟨keep p.1 p.2 ne nf nch e n, free p.1 p.2 nch e n, ne, nf, d⟩
theorem Inv.un {t' : Nat} (I : Inv X pins σ H s) (u : Un X.fs [] H H' s.heap h') (hok : HOk X.prog X.w H' h') : Inv X pins σ H' { s with heap := h', toks := t' } := by
  obtain ⟨m, ⟨o, es, ep, ho, r⟩, _⟩ := id I.loc
  obtain ⟨sl, hL⟩ := u.any ho I.free (by simp)
  exact I.step (g' := s.gens) (d' := s.drawn) (ch := []) (fun _ z => nomatch z) (fun b o _ hb _ e n => u.keep b o e n hb (by simp)) (fun b o _ hb _ e n => u.slot b o e n hb (by simp)) (fun b o _ e n => u.free b o e n (by simp)) (fun b o _ e => u.there b o e (by simp)) u.tups u.frzs u.tbls (fun m' hm => by
    obtain ⟨o', es', ep', ho', r'⟩ := hm
    rw [ho] at ho'; cases ho'
    exact ⟨_, es', ep', hL, r'⟩) hok I.bare
theorem Inv.call {g' : Array GenState} {t' : Nat} {d' : Drawn} {ch : List Addr} (I : Inv X pins σ H s) (u : Un (frs X.stack) ch H H' s.heap h') (hok : HOk X.prog X.w H' h') (hg : AllBare g')
    (hch : ∀ b ∈ ch, (b ∈ X.ex ∨ X.s₀.heap.objs.size ≤ b) ∧ b ≠ X.env.locals ∧ (∀ x c, X.env.cells.lookup x = some c → c ≠ b) ∧ ∀ p ∈ X.pn ++ pins, p.1 ≠ b) :
    Inv X pins σ H' { s with heap := h', gens := g', drawn := d', toks := t' } := by
  obtain ⟨m, ⟨o, es, ep, ho, r⟩, _⟩ := id I.loc
  obtain ⟨sl, hL⟩ := u.any ho I.free fun z => (hch _ z).2.1 rfl
  exact I.step (ch := ch) hch (fun b o hL hb hc e n => u.keep b o e n (fun z => (List.mem_cons.mp (I.stkSub b z)).elim hL hb) hc) (fun b o _ _ hc e n => u.any e n hc) (fun b o hc e n => u.free b o e n hc) (fun b o hc e => u.there b o e hc) u.tups u.frzs u.tbls (fun m' hm => by
    obtain ⟨o', es', ep', ho', r'⟩ := hm
    rw [ho] at ho'; cases ho'
    exact ⟨_, es', ep', hL, r'⟩) hok hg
theorem Inv.turned {t' : Nat} {it : Addr} (I : Inv X pins σ H s) (k : ∀ b o, b ≠ it → s.heap.get? b = some o → h'.get? b = some o) (hn : H it = none) (hL : it ≠ X.env.locals)
    (h1 : it ∈ X.ex ∨ X.s₀.heap.objs.size ≤ it) (h2 : ∀ x c, X.env.cells.lookup x = some c → c ≠ it) (h3 : ∀ p ∈ X.pn ++ pins, p.1 ≠ it) : Inv X pins σ H { s with heap := h', toks := t' } := by
  have nit : ∀ b u, H b = some u → b ≠ it := fun b u e z => by rw [z, hn] at e; cases e
  refine I.step (g' := s.gens) (d' := s.drawn) (ch := [it]) (fun b hb => ?_) (fun b o _ _ hc e _ => k b o (fun z => hc (by simp [z])) e) (fun b o _ _ hc e _ => ⟨o.slots, k b o (fun z => hc (by simp [z])) e⟩) (fun _ _ _ _ n => n)
    (fun b o hc e => ⟨o, k b o (fun z => hc (by simp [z])) e⟩) (fun _ _ e => e) (fun _ _ _ e => e) (fun b ps e => ⟨#[], by rw [e]; simp⟩) (fun m hm => ?_) (fun b u e => ?_) I.bare
  · have e : b = it := by simpa using hb
    subst e
    exact ⟨h1, hL, h2, h3⟩
  · obtain ⟨o, es, ep, ho, r⟩ := hm
    exact ⟨o, es, ep, k _ o (Ne.symm hL) ho, r⟩
  · refine (I.hok b u e).stay (fun c v hc q => k c v ?_ q) (fun _ q => q) fun _ _ q => q
    rcases hc with z | z
    · rw [z]; exact nit b u e
    · exact nit c _ z
theorem Inv.tok (I : Inv X pins σ H s) (t : Nat) : Inv X pins σ H { s with toks := t } := I.un (h' := s.heap) (t' := t) Un.refl I.hok
theorem Inv.kept {t' : Nat} (I : Inv X pins σ H s) (k : ∀ b u, s.heap.get? b = some u → h'.get? b = some u) : Inv X pins σ H { s with heap := h', toks := t' } := I.un (Un.kept k) (I.hok.kept k)
theorem Inv.laid {a : Addr} {o : HO} {t' : Nat} (I : Inv X pins σ H s) (k : ∀ b u, s.heap.get? b = some u → h'.get? b = some u) (hp : s.heap.objs.size ≤ a) (new : ObjOk X.prog X.w (upd H a o) h' a o) :
    Inv X pins σ (upd H a o) { s with heap := h', toks := t' } := I.un (Un.laid k hp (I.hok.fresh hp)) (I.hok.laid k hp new)
theorem Inv.write {x e : Addr} {o : HO} {t' : Nat} (I : Inv X pins σ H s) (mu : Mut (H x)) (he : e = x ∨ H e = some (.own x)) (k : ∀ b u, b ≠ e → s.heap.get? b = some u → h'.get? b = some u) (heo : ∃ u, h'.get? e = some u)
    (new : ObjOk X.prog X.w (upd H x o) h' x o) : Inv X pins σ (upd H x o) { s with heap := h', toks := t' } := I.un (Un.write mu he k heo) (I.hok.write mu he k heo new)
theorem Inv.pins_of {pins' : List (Addr × Obj)} (I : Inv X pins σ H s) (h : ∀ p ∈ pins', s.heap.get? p.1 = some p.2 ∧ H p.1 = none ∧ p.1 ≠ X.env.locals ∧ p.1 ∉ X.fs ∧ ∀ v, p.2.data ≠ .cell v) : Inv X pins' σ H s :=
  ⟨I.ok, I.os, I.bare, I.base, I.loc, I.cell, I.free, I.freeC, fun p hp => (List.mem_append.mp hp).elim (fun z => I.pin p (List.mem_append_left _ z)) (h p), I.hok, I.len⟩
theorem nodup_ix {N : List Str} (hN : N.Nodup) {i j : Nat} {x : Str} (a : N[i]? = some x) (b : N[j]? = some x) : i = j := by
  obtain ⟨h1, e1⟩ := List.getElem?_eq_some_iff.mp a
  obtain ⟨h2, e2⟩ := List.getElem?_eq_some_iff.mp b
  exact (List.getElem_inj hN).mp (e1.trans e2.symm)
theorem store_ok2 {M : Model} {A : Around} {E : Value → Shared → Prop} {i : Nat} {x : Str} {v : V} {u : Value} {Q : Unit → Shared → Prop} (I : Inv X pins σ H s) (hN : X.N.Nodup) (hi : X.N[i]? = some x) (hx : Loc X.env.scope x) (r : RelV v u)
    (h : ∀ s', Inv X pins (σ.set i (some v)) H s' → (∃ a, Heap.SameBut a s.heap s'.heap ∧ (a = X.env.locals ∨ X.env.cells.lookup x = some a)) → Q () s') (hf : X.fn x = true ∨ X.env.scope.names.lookup x = some .local := by first | exact .inl rfl | exact .inr rfl | assumption) : wpAny M A (storeName X.env x u) Q E s := by
  obtain ⟨m, hn, hl⟩ := id I.loc
  have hcls : (X.env.scope.kind == .class || (X.env.scope.kind == .module && X.env.locals != X.env.globals)) = false := by rw [I.ok.kind]; rfl
  have hiσ : i < σ.length := by rw [I.len]; exact (List.getElem?_eq_some_iff.mp hi).1
  have cne := I.cne
  have tracked : ∀ {a : Addr} {h' : Heap}, (∃ o, s.heap.get? a = some o ∧ H a = none) → Heap.SameBut a s.heap h' → HOk X.prog X.w H h' := fun {a h'} ha hs b ob e => by
    obtain ⟨_, _, hfree⟩ := ha
    refine (I.hok b ob e).stay (fun c w' hc q => (hs.2 c ?_).trans q) (fun _ q => q) fun _ _ q => q
    rintro rfl
    rcases hc with rfl | hc
    · rw [hfree] at e; cases e
    · rw [hfree] at hc; cases hc
  rcases hx with hk | hk
  · refine wpAny_storeName_local hk hn (fun h' hn' hs => ?_) hcls
    obtain ⟨oL, _, _, hoL, _⟩ := id hn
    refine h _ ⟨I.ok, I.os, I.bare, ⟨fun b o e n hb hx => ?_, fun b o e n hb hx => ?_, I.base.free, fun b o e hx => ?_, I.base.tups, I.base.frzs, I.base.tbls⟩, ⟨_, hn', fun j y v' e1 e2 e3 => ?_⟩, fun y c e => ?_, I.free, I.freeC, fun p hp => ?_, tracked ⟨oL, hoL, I.free⟩ hs, by simpa using I.len⟩ ⟨_, hs, .inl rfl⟩
    · exact (hs.2 b (Nat.ne_of_lt (Nat.lt_of_lt_of_le (Heap.lt_size e) I.ok.above))).trans (I.base.keep b o e n hb hx)
    · obtain ⟨sl, e1⟩ := I.base.slot b o e n hb hx
      exact ⟨sl, (hs.2 b (Nat.ne_of_lt (Nat.lt_of_lt_of_le (Heap.lt_size e) I.ok.above))).trans e1⟩
    · obtain ⟨o', e1⟩ := I.base.there b o e hx
      exact ⟨o', (hs.2 b (Nat.ne_of_lt (Nat.lt_of_lt_of_le (Heap.lt_size e) I.ok.above))).trans e1⟩
    · by_cases hj : j = i
      · subst hj
        rw [hi] at e1; cases e1
        rw [List.getElem?_set_self hiσ] at e2
        cases e2
        exact ⟨u, r, .inl ⟨hk, by simp⟩⟩
      · rw [List.getElem?_set_ne (Ne.symm hj)] at e2
        obtain ⟨u', r', q⟩ := hl j y v' e1 e2 e3
        refine ⟨u', r', ?_⟩
        rcases q with ⟨k, e⟩ | ⟨k, c, e, z⟩
        · refine .inl ⟨k, ?_⟩
          have : y ≠ x := fun e => hj (nodup_ix hN e1 (e ▸ hi))
          simp [this, e]
        · exact .inr ⟨k, c, e, z.sameBut hs (cne y c e)⟩
    · obtain ⟨w', z⟩ := I.cell y c e
      exact ⟨w', z.sameBut hs (cne y c e)⟩
    · obtain ⟨e, n, ne, nf, d⟩ := I.pin p hp
      exact ⟨(hs.2 p.1 ne).trans e, n, ne, nf, d⟩
  · have hfn : X.fn x = true := by
      rcases hf with z | z
      · exact z
      · rw [z] at hk; cases hk
    obtain ⟨c, hc⟩ := I.ok.has x (.inl hk)
    obtain ⟨w', z⟩ := I.cell x c hc
    refine wpAny_storeName_cell I.ok.kind hk hc z (fun h' hc' hs => ?_)
    obtain ⟨oc, hoc, hocd⟩ := id z
    refine h { s with heap := h' } ⟨I.ok, I.os, I.bare, ⟨fun b o e n hb hx => ?_, fun b o e n hb hx => ?_, I.base.free, fun b o e hx => ?_, I.base.tups, I.base.frzs, I.base.tbls⟩, ⟨m, hn.sameBut hs (Ne.symm (cne x c hc)), fun j y v' e1 e2 e3 => ?_⟩, fun y c' e => ?_, I.free, I.freeC, fun p hp => ?_, tracked ⟨oc, hoc, I.freeC x c hc⟩ hs, by simpa using I.len⟩ ⟨c, hs, .inr hc⟩
    · exact (hs.2 b (Nat.ne_of_lt (Nat.lt_of_lt_of_le (Heap.lt_size e) (I.ok.cab x c hfn hc)))).trans (I.base.keep b o e n hb hx)
    · obtain ⟨sl, e1⟩ := I.base.slot b o e n hb hx
      exact ⟨sl, (hs.2 b (Nat.ne_of_lt (Nat.lt_of_lt_of_le (Heap.lt_size e) (I.ok.cab x c hfn hc)))).trans e1⟩
    · obtain ⟨o', e1⟩ := I.base.there b o e hx
      exact ⟨o', (hs.2 b (Nat.ne_of_lt (Nat.lt_of_lt_of_le (Heap.lt_size e) (I.ok.cab x c hfn hc)))).trans e1⟩
    · by_cases hj : j = i
      · subst hj
        rw [hi] at e1; cases e1
        rw [List.getElem?_set_self hiσ] at e2
        cases e2
        exact ⟨u, r, .inr ⟨.inl hk, c, hc, hc'⟩⟩
      · rw [List.getElem?_set_ne (Ne.symm hj)] at e2
        obtain ⟨u', r', q⟩ := hl j y v' e1 e2 e3
        refine ⟨u', r', ?_⟩
        rcases q with q | ⟨k, c', e, z'⟩
        · exact .inl q
        · refine .inr ⟨k, c', e, z'.sameBut hs ?_⟩
          rintro rfl
          exact hj (nodup_ix hN e1 (I.ok.inj _ _ _ e hc ▸ hi))
    · by_cases hcc : c' = c
      · subst hcc; exact ⟨_, hc'⟩
      · obtain ⟨w2, z2⟩ := I.cell y c' e
        exact ⟨w2, z2.sameBut hs hcc⟩
    · obtain ⟨e, n, ne, nf, d⟩ := I.pin p hp
      refine ⟨(hs.2 p.1 ?_).trans e, n, ne, nf, d⟩
      intro q
      rw [q, hoc] at e
      have q' : oc = p.2 := Option.some.inj e
      exact d w' (by rw [← q']; exact hocd)
theorem store_ok {M : Model} {A : Around} {E : Value → Shared → Prop} {i : Nat} {x : Str} {v : V} {u : Value} {Q : Unit → Shared → Prop} (I : Inv X pins σ H s) (hN : X.N.Nodup) (hi : X.N[i]? = some x) (hx : Loc X.env.scope x) (r : RelV v u)
    (h : ∀ s', Inv X pins (σ.set i (some v)) H s' → Q () s') (hf : X.fn x = true ∨ X.env.scope.names.lookup x = some .local := by first | exact .inl rfl | exact .inr rfl | assumption) : wpAny M A (storeName X.env x u) Q E s :=
  store_ok2 I hN hi hx r (fun s' I' _ => h s' I') hf
theorem Inv.call' {s' : Shared} {ch : List Addr} (I : Inv X pins σ H s) (ho : s'.os = s.os) (u : Un (frs X.stack) ch H H' s.heap s'.heap) (hok : HOk X.prog X.w H' s'.heap) (hg : AllBare s'.gens)
    (hch : ∀ b ∈ ch, (b ∈ X.ex ∨ X.s₀.heap.objs.size ≤ b) ∧ b ≠ X.env.locals ∧ (∀ x c, X.env.cells.lookup x = some c → c ≠ b) ∧ ∀ p ∈ X.pn ++ pins, p.1 ≠ b) : Inv X pins σ H' s' := by
  obtain ⟨h', g', d', t', o'⟩ := s'
  have e : o' = s.os := ho
  subst e
  exact I.call (g' := g') (t' := t') (d' := d') u hok hg hch
end
abbrev XK := Value → Option Addr → Hp → Prop
abbrev St := List (Option V)
abbrev VK := V → Hp → Prop
abbrev TE := St → Hp → VK → Prop
abbrev TT := St → Hp → (Bool → Hp → Prop) → Prop
abbrev TA := St → Hp → (List V → Hp → Prop) → Prop
structure Ends where
  nx : St → Hp → Prop
  rt : VK
  bk : St → Hp → Prop := fun _ _ => False
  ct : St → Hp → Prop := fun _ _ => False
abbrev TS := Ends → St → Hp → Prop
def EP (X : Cx) (pins : List (Addr × Obj)) (σ : St) (Q : VK) (u : Value) (s' : Shared) : Prop := ∃ v H', Inv X pins σ H' s' ∧ RelV v u ∧ Q v H'
def TP (X : Cx) (pins : List (Addr × Obj)) (σ : St) (Q : Bool → Hp → Prop) (b : Bool) (s' : Shared) : Prop := ∃ H', Inv X pins σ H' s' ∧ Q b H'
def AP (X : Cx) (pins : List (Addr × Obj)) (σ : St) (Q : List V → Hp → Prop) (us : List Value) (s' : Shared) : Prop := ∃ vs H', Inv X pins σ H' s' ∧ Vals vs us ∧ Q vs H'
def SP (X : Cx) (pins : List (Addr × Obj)) (D : Ends) (f : Flow) (s' : Shared) : Prop :=
  match f with
  | .next => ∃ σ' H', Inv X pins σ' H' s' ∧ D.nx σ' H'
  | .brk => ∃ σ' H', Inv X pins σ' H' s' ∧ D.bk σ' H'
  | .cont => ∃ σ' H', Inv X pins σ' H' s' ∧ D.ct σ' H'
  | .ret u => ∃ v σ' H', Inv X pins σ' H' s' ∧ RelV v u ∧ D.rt v H'
def PE (X : Cx) (e : Expr) (t : TE) : Prop :=
  ∀ (pins : List (Addr × Obj)) (s : Shared) (σ : St) (H : Hp) (Q : VK), Inv X pins σ H s → t σ H Q → wpAny (model X.prog X.w) X.A (eval e X.env) (EP X pins σ Q) X.xe s
def PT (X : Cx) (e : Expr) (t : TT) : Prop :=
  ∀ (pins : List (Addr × Obj)) (s : Shared) (σ : St) (H : Hp) (Q : Bool → Hp → Prop), Inv X pins σ H s → t σ H Q → wpAny (model X.prog X.w) X.A (isTrue e X.env (eval e X.env)) (TP X pins σ Q) X.xe s
def PW (X : Cx) (e : Expr) (t : TT) : Prop :=
  ∀ (whole : Sem Value) (pins : List (Addr × Obj)) (s : Shared) (σ : St) (H : Hp) (Q : Bool → Hp → Prop), Inv X pins σ H s → t σ H Q → wpAny (model X.prog X.w) X.A (isTrue e X.env whole) (TP X pins σ Q) X.xe s
theorem PW.pt {X : Cx} {e : Expr} {t : TT} (h : PW X e t) : PT X e t := h _
def PA (X : Cx) (es : List Expr) (t : TA) : Prop :=
  ∀ (pos : Pos) (pins : List (Addr × Obj)) (s : Shared) (σ : St) (H : Hp) (Q : List V → Hp → Prop), Inv X pins σ H s → t σ H Q → wpAny (model X.prog X.w) X.A (spliced (backTo pos (starEach es X.env))) (AP X pins σ Q) X.xe s
def PS (X : Cx) (st : Stmt) (t : TS) : Prop :=
  ∀ (pins : List (Addr × Obj)) (s : Shared) (σ : St) (H : Hp) (D : Ends), Inv X pins σ H s → t D σ H → wpAny (model X.prog X.w) X.A (exec st X.env) (SP X pins D) X.xe s
def PSs (X : Cx) (st : List Stmt) (t : TS) : Prop :=
  ∀ (pins : List (Addr × Obj)) (s : Shared) (σ : St) (H : Hp) (D : Ends), Inv X pins σ H s → t D σ H → wpAny (model X.prog X.w) X.A (execs st X.env) (SP X pins D) X.xe s
theorem thn {α : Type} {t : Sem α} {Q Q' : α → Shared → Prop} {M : Model} {A : Around} {E : Value → Shared → Prop} {s : Shared} (h : wpAny M A t Q E s) (hQ : ∀ a s, Q a s → Q' a s) : wpAny M A t Q' E s := wpAny_mono h hQ fun _ _ x => x
end L2
namespace L2
open PySem PySem.Spec PyProof.Rows
section
variable {X : Cx}
def tVar (i : Nat) : TE := fun σ H Q => ∃ v, σ[i]? = some (some v) ∧ Q v H
def tC (v : V) : TE := fun _ H Q => Q v H
theorem pe_var {i : Nat} {x : Str} {pos : Pos} (hN : X.N[i]? = some x) (hv : Vis X.env.scope x) (hd : (x == ("__debug__" : Str)) = false := by decide) (hcd : (x == ("__classdict__" : Str)) = false := by decide) : PE X (.Name x pos) (tVar i) := by
  intro pins s σ H Q I h
  obtain ⟨v, e, h⟩ := h
  obtain ⟨m, hn, hl⟩ := I.loc
  obtain ⟨u, r, l⟩ := hl i x v hN e hv
  have fin : EP X pins σ Q u s := ⟨v, H, I, r, h⟩
  rcases l with ⟨hk, hm⟩ | ⟨hk, c, hc, hcell⟩
  · exact wpAny_Name (wpAny_loadName_local I.ok.kind hk hn hm fin) hd
  · rcases hk with hk | hk
    · exact wpAny_Name (wpAny_loadName_cell I.ok.kind hk hc hcell fin) hd
    · exact wpAny_Name (wpAny_loadName_free I.ok.kind hk hc hcell fin hcd) hd
theorem pe_int {i j pos} : PE X (.Constant (.int i) j pos) (tC (.int i)) := fun _ _ _ H _ I h => wpAny_Constant_int ⟨.int i, H, I.tok _, ⟨_, rfl⟩, h⟩
theorem pe_bl {b j pos} : PE X (.Constant (.bool b) j pos) (tC (.bl b)) := fun _ _ _ H _ I h => Constant_bool ⟨.bl b, H, I, rfl, h⟩
theorem pe_non {j pos} : PE X (.Constant .none j pos) (tC .non) := fun _ _ _ H _ I h => Constant_none ⟨.non, H, I, rfl, h⟩
theorem pe_str {x j pos} : PE X (.Constant (.str x) j pos) (tC (.str x)) := fun _ _ _ H _ I h => Calls.Constant_str ⟨.str x, H, I.tok _, ⟨_, rfl⟩, h⟩
def Gl (X : Cx) (x : Str) : Prop := X.env.kindOf x = some .globalImplicit
theorem ld_glob {E : Value → Shared → Prop} {pins : List (Addr × Obj)} {s : Shared} {σ : St} {H : Hp} {x : Str} {u : Value} {pos : Pos} {Q : Value → Shared → Prop} (I : Inv X pins σ H s) (hg : Gl X x) (hm : X.mg x = some u) (h : Q u s)
    (hd : (x == ("__debug__" : Str)) = false := by decide) : wpAny (model X.prog X.w) X.A (eval (.Name x pos) X.env) Q E s :=
  Calls.Name_function_global I.ok.kind hg (Calls.loadGlobal_global (by rw [I.ok.glob]; exact I.mod.glob.keeps I.bk) hm h) hd
theorem ld_blt {E : Value → Shared → Prop} {pins : List (Addr × Obj)} {s : Shared} {σ : St} {H : Hp} {x : Str} {u : Value} {pos : Pos} {Q : Value → Shared → Prop} (I : Inv X pins σ H s) (hg : Gl X x) (hm : X.mg x = none) (hv : bootBuiltins x = some u) (h : Q u s)
    (hn : x ≠ "__name__" := by decide) (hd : (x == ("__debug__" : Str)) = false := by decide) : wpAny (model X.prog X.w) X.A (eval (.Name x pos) X.env) Q E s := by
  obtain ⟨mb, h1, h2⟩ := I.mod.blt
  exact Calls.Name_function_global I.ok.kind hg (Calls.loadGlobal_builtin (by rw [I.ok.glob]; exact I.mod.glob.keeps I.bk) hm (by rw [I.ok.blt]; exact h1.keeps I.bk) ((h2 x hn).trans hv) h) hd
theorem pe_bltn {x : Str} {v : V} {u : Value} {pos : Pos} (hg : Gl X x) (hm : X.mg x = none) (hv : bootBuiltins x = some u) (r : RelV v u) (hn : x ≠ "__name__" := by decide) (hd : (x == ("__debug__" : Str)) = false := by decide) : PE X (.Name x pos) (tC v) :=
  fun _ _ _ H _ I h => ld_blt I hg hm hv ⟨v, H, I, r, h⟩ hn hd
variable {a b : Expr} {ta tb : TE} {pos : Pos}
def PC (X : Cx) (op : CmpOp) (a b : Expr) (t : TE) : Prop :=
  ∀ (pins : List (Addr × Obj)) (s : Shared) (σ : St) (H : Hp) (Q : VK), Inv X pins σ H s → t σ H Q →
    wpAny (model X.prog X.w) X.A (eval a X.env) (fun v s₁ => wpAny (model X.prog X.w) X.A (eval b X.env) (fun u s₂ => wpAny (model X.prog X.w) X.A (compareOp op v u) (EP X pins σ Q) X.xe s₂) X.xe s₁) X.xe s
theorem nobehind (b : Expr) {op : CmpOp} (h : op ≠ .In) (h2 : op ≠ .NotIn) : behindInMarks op b = false := by
  have e1 : (op == CmpOp.In) = false := by cases op <;> first | rfl | exact absurd rfl h
  have e2 : (op == CmpOp.NotIn) = false := by cases op <;> first | rfl | exact absurd rfl h2
  cases b <;> simp [behindInMarks, e1, e2]
def tB (t : TE) : TT := fun σ H Q => t σ H fun x H1 => ∃ c, x = .bl c ∧ Q c H1
theorem pt_cmp {op : CmpOp} {t : TE} (h : PC X op a b t) (h1 : behindInMarks op b = false := by first | exact nobehind _ (by decide) (by decide) | rfl) : PT X (.Compare a [op] [b] pos) (tB t) := by
  intro pins s σ H Q I hw
  refine wpAny_isTrue_Compare1 (thn (h pins s σ H _ I hw) fun v s1 h1 => thn h1 fun u s2 h2 => thn h2 fun c s3 ⟨x, H1, I1, r1, q1⟩ => ?_) h1
  obtain ⟨d, rfl, q⟩ := q1
  cases r1
  exact wpAny_truthy_bool ⟨H1, I1, q⟩
theorem pt_val {e : Expr} {t : TE} (h : PE X e t) (he : ∀ whole, isTrue e X.env whole = (do let v ← whole; standAt e.pos; holding [v] (truthy v)) := by intro _; rfl) : PT X e (tB t) := by
  intro pins s σ H Q I hw
  refine isTrue_plain (thn (h pins s σ H _ I hw) fun v s1 ⟨x, H1, I1, r1, q1⟩ => ?_) (he _)
  obtain ⟨d, rfl, q⟩ := q1
  cases r1
  exact wpAny_truthy_bool ⟨H1, I1, q⟩
variable {tA tB' : TT} {rest : List Expr}
def tAnd (t u : TT) : TT := fun σ H Q => t σ H fun c H1 => if c = true then u σ H1 Q else Q false H1
def tOr (t u : TT) : TT := fun σ H Q => t σ H fun c H1 => if c = true then Q true H1 else u σ H1 Q
def tNot (t : TT) : TT := fun σ H Q => t σ H fun c H1 => Q (!c) H1
theorem pw_and1 (ha : PT X a tA) : PW X (.BoolOp .And [a] pos) tA := by
  intro wh pins s σ H Q I h
  refine isTrue_and (thn (ha pins s σ H Q I h) fun c s1 e => ?_)
  cases c with
  | true => exact isTrue_and_nil e
  | false => exact e
theorem pw_or1 (ha : PT X a tA) : PW X (.BoolOp .Or [a] pos) tA := by
  intro wh pins s σ H Q I h
  refine isTrue_or (thn (ha pins s σ H Q I h) fun c s1 e => ?_)
  cases c with
  | false => exact isTrue_or_nil e
  | true => exact e
theorem pw_and (ha : PT X a tA) (hb : PW X (.BoolOp .And (b :: rest) pos) tB') : PW X (.BoolOp .And (a :: b :: rest) pos) (tAnd tA tB') := by
  intro wh pins s σ H Q I h
  refine isTrue_and (thn (ha pins s σ H _ I h) fun c s1 ⟨H1, I1, q1⟩ => ?_)
  cases c with
  | true => exact hb wh pins s1 σ H1 Q I1 q1
  | false => exact ⟨H1, I1, q1⟩
theorem pw_or (ha : PT X a tA) (hb : PW X (.BoolOp .Or (b :: rest) pos) tB') : PW X (.BoolOp .Or (a :: b :: rest) pos) (tOr tA tB') := by
  intro wh pins s σ H Q I h
  refine isTrue_or (thn (ha pins s σ H _ I h) fun c s1 ⟨H1, I1, q1⟩ => ?_)
  cases c with
  | true => exact ⟨H1, I1, q1⟩
  | false => exact hb wh pins s1 σ H1 Q I1 q1
theorem pt_not (ha : PT X a tA) : PT X (.UnaryOp .Not a pos) (tNot tA) := by
  intro pins s σ H Q I h
  exact isTrue_not (ha pins s σ H (fun c H1 => Q (!c) H1) I h)
def tAndV (ta tb : TE) : TE := fun σ H Q => ta σ H fun x H1 => ∃ c, x = .bl c ∧ if c = true then tb σ H1 Q else Q (.bl false) H1
def tOrV (ta tb : TE) : TE := fun σ H Q => ta σ H fun x H1 => ∃ c, x = .bl c ∧ if c = true then Q (.bl true) H1 else tb σ H1 Q
def tNotV (ta : TE) : TE := fun σ H Q => ta σ H fun x H1 => ∃ c, x = .bl c ∧ Q (.bl (!c)) H1
theorem pe_one {op} {t : TE} (h : PE X a t) : PE X (.BoolOp op [a] pos) t := fun pins s σ H Q I hw => BoolOp_one (h pins s σ H Q I hw)
theorem pe_and (ha : PE X a ta) (hb : PE X (.BoolOp .And (b :: rest) pos) tb) : PE X (.BoolOp .And (a :: b :: rest) pos) (tAndV ta tb) := by
  intro pins s σ H Q I h
  refine BoolOp_and (thn (ha pins s σ H _ I h) fun v s1 ⟨x, H1, I1, r1, q1⟩ => ?_)
  obtain ⟨c, rfl, q1⟩ := q1
  cases r1
  refine wpAny_truthy_bool ?_
  cases c with
  | true => exact hb pins s1 σ H1 Q I1 q1
  | false => exact ⟨.bl false, H1, I1, rfl, q1⟩
def tIf (t : TT) (ta tb : TE) : TE := fun σ H Q => t σ H fun c H1 => if c = true then ta σ H1 Q else tb σ H1 Q
end
end L2
namespace L2
open PySem PySem.Spec PyProof.Rows
def SqL (K : PySem.W.Frag) (H : Hp) (a : Addr) (xs : List V) : Prop :=
  Rd H a (.lst xs) ∨
    ∃ (o : Obj) (its : Array Value) (n : Nat), K.lookup a = some o ∧ o.cls = .type "list" ∧ o.dict = none ∧ o.data = .seq its n ∧ its.size ≤ sizeLine ∧ Vals xs its.toList
def SqT (K : PySem.W.Frag) (H : Hp) (a : Addr) (xs : List V) : Prop :=
  Rd H a (.tup xs) ∨
    ∃ (o : Obj) (its : Array Value) (n : Nat), K.lookup a = some o ∧ o.cls = .type "tuple" ∧ o.data = .seq its n ∧ its.size ≤ sizeLine ∧ Vals xs its.toList
def absV : Value → Option V
  | .none => some .non
  | .bool b => some (.bl b)
  | .int i _ => some (.int i)
  | .str x _ => some (.str x)
  | .bytes b _ => some (.byt b)
  | .float b _ => some (.flt b)
  | .ref a => some (.ref a)
  | .type n => some (.ty n)
  | _ => none
theorem RelV.abs {x : V} {u : Value} (r : RelV x u) : absV u = some x := by
  cases x with
  | non => cases r; rfl
  | bl _ => cases r; rfl
  | int _ => obtain ⟨t, rfl⟩ := r; rfl
  | str _ => obtain ⟨t, rfl⟩ := r; rfl
  | byt _ => obtain ⟨t, rfl⟩ := r; rfl
  | flt _ => obtain ⟨t, rfl⟩ := r; rfl
  | ref _ => cases r; rfl
  | ty _ => cases r; rfl
theorem RelV.inj {x y : V} {u : Value} (r : RelV x u) (q : RelV y u) : x = y := Option.some.inj (r.abs.symm.trans q.abs)
theorem Vals.inj : ∀ {xs ys : List V} {us : List Value}, Vals xs us → Vals ys us → xs = ys
  | _, _, _, .nil, .nil => rfl
  | _, _, _, .cons r t, .cons r' t' => by rw [r.inj r', Vals.inj t t']
section
variable {X : Cx} {pins : List (Addr × Obj)} {σ : St} {H : Hp} {s : Shared} {a : Addr} {xs ys : List V}
theorem SqL.of {K : PySem.W.Frag} (h : H a = some (.lst xs)) : SqL K H a xs := .inl (.inl h)
theorem SqT.of {K : PySem.W.Frag} (h : H a = some (.tup xs)) : SqT K H a xs := .inl (.inl h)
theorem Inv.list (I : Inv X pins σ H s) (h : SqL X.K H a xs) : ∃ its : List Value, Vals xs its ∧ PlainL s.heap a its.toArray ∧ xs.length ≤ sizeLine := by
  rcases h with h | ⟨o, its, n, hk, hc, hd, hs, hz, r⟩
  · obtain ⟨z, its, n, r, e⟩ := h.ok I.hok
    exact ⟨its, r, ⟨_, n, e, rfl, rfl, rfl⟩, z⟩
  · refine ⟨its.toList, r, ⟨o, n, I.kIn a o hk, hc, hd, by simpa using hs⟩, ?_⟩
    have e := r.length
    simp only [Array.length_toList] at e
    omega
theorem Inv.tuple (I : Inv X pins σ H s) (h : SqT X.K H a xs) : ∃ its : List Value, Vals xs its ∧ IsTup s.heap a its.toArray ∧ xs.length ≤ sizeLine := by
  rcases h with h | ⟨o, its, n, hk, hc, hs, hz, r⟩
  · obtain ⟨z, its, r, p⟩ := h.ok I.hok
    exact ⟨its, r, p, z⟩
  · refine ⟨its.toList, r, ⟨o, I.kIn a o hk, hc, n, by simpa using hs⟩, ?_⟩
    have e := r.length
    simp only [Array.length_toList] at e
    omega
theorem Inv.list_inj (I : Inv X pins σ H s) (h : SqL X.K H a xs) (h' : SqL X.K H a ys) : xs = ys := by
  obtain ⟨its, r, ⟨o, n, e, _, _, d⟩, _⟩ := I.list h
  obtain ⟨its', r', ⟨o', n', e', _, _, d'⟩, _⟩ := I.list h'
  rw [e] at e'; cases e'
  rw [d] at d'
  injection d' with d1 _
  have : its = its' := by simpa using congrArg Array.toList d1
  subst this
  exact r.inj r'
end
abbrev Cx.wish (X : Cx) (E : Value → Shared → Prop) : Cx := { X with xe := E }
abbrev Cx.nox (X : Cx) : Cx := X.wish fun _ _ => False
theorem Cx.Ok.wish {X : Cx} (ok : X.Ok) (E : Value → Shared → Prop) : (X.wish E).Ok :=
  ⟨ok.mod, ok.kind, ok.glob, ok.blt, ok.above, ok.inj, ok.has, ok.cab, ok.hd, ok.frames, ok.stk, ok.exf, ok.bs, ok.bsz, ok.noex, ok.exfs, ok.funs, ok.frf⟩
theorem Cx.Ok.unwish {X : Cx} {E : Value → Shared → Prop} (ok : (X.wish E).Ok) : X.Ok :=
  ⟨ok.mod, ok.kind, ok.glob, ok.blt, ok.above, ok.inj, ok.has, ok.cab, ok.hd, ok.frames, ok.stk, ok.exf, ok.bs, ok.bsz, ok.noex, ok.exfs, ok.funs, ok.frf⟩
section
variable {X : Cx} {pins : List (Addr × Obj)} {σ : St} {H : Hp} {s : Shared} {E : Value → Shared → Prop}
theorem Inv.wish (I : Inv X pins σ H s) (E : Value → Shared → Prop) : Inv (X.wish E) pins σ H s := ⟨I.ok.wish E, I.os, I.bare, I.base, I.loc, I.cell, I.free, I.freeC, I.pin, I.hok, I.len⟩
theorem Inv.unwish (I : Inv (X.wish E) pins σ H s) : Inv X pins σ H s := ⟨I.ok.unwish, I.os, I.bare, I.base, I.loc, I.cell, I.free, I.freeC, I.pin, I.hok, I.len⟩
theorem SP.unwish {D : Ends} {f : Flow} {s' : Shared} (h : SP (X.wish E) pins D f s') : SP X pins D f s' := by
  cases f with
  | next => obtain ⟨σ', H', I, q⟩ := h; exact ⟨σ', H', I.unwish, q⟩
  | brk => obtain ⟨σ', H', I, q⟩ := h; exact ⟨σ', H', I.unwish, q⟩
  | cont => obtain ⟨σ', H', I, q⟩ := h; exact ⟨σ', H', I.unwish, q⟩
  | ret u => obtain ⟨v, σ', H', I, r, q⟩ := h; exact ⟨v, σ', H', I.unwish, r, q⟩
theorem PE.nox {e : Expr} {t : TE} (h : PE X.nox e t) : PE X e t := fun pins s σ H Q I hw =>
  wpAny_mono (h pins s σ H Q (I.wish _) hw) (fun _ _ ⟨v, H', I', r, q⟩ => ⟨v, H', I'.unwish, r, q⟩) fun _ _ z => False.elim z
theorem PT.nox {e : Expr} {t : TT} (h : PT X.nox e t) : PT X e t := fun pins s σ H Q I hw =>
  wpAny_mono (h pins s σ H Q (I.wish _) hw) (fun _ _ ⟨H', I', q⟩ => ⟨H', I'.unwish, q⟩) fun _ _ z => False.elim z
theorem PSs.nox {st : List Stmt} {t : TS} (h : PSs X.nox st t) : PSs X st t := fun pins s σ H D I hw =>
  wpAny_mono (h pins s σ H D (I.wish _) hw) (fun _ _ q => q.unwish) fun _ _ z => False.elim z
end
section
variable {X : Cx} {st : Stmt} {rest : List Stmt} {t u : TS} {e : Expr} {te : TE} {pos : Pos}
def tNext : TS := fun D σ H => D.nx σ H
def tSeq (t u : TS) : TS := fun D σ H => t { D with nx := u D } σ H
theorem pss_nil : PSs X [] tNext := fun _ _ σ H _ I h => wpAny_execs_nil ⟨σ, H, I, h⟩
theorem pss_cons (h1 : PS X st t) (h2 : PSs X rest u) : PSs X (st :: rest) (tSeq t u) := by
  intro pins s σ H D I h
  refine wpAny_execs_cons (thn (h1 pins s σ H { D with nx := u D } I h) fun f s1 q => ?_)
  cases f with
  | next =>
    obtain ⟨σ', H', I', q⟩ := q
    exact h2 pins s1 σ' H' D I' q
  | ret v => exact q
  | brk => exact q
  | cont => exact q
theorem pss_one (h1 : PS X st t) : PSs X [st] t := by
  intro pins s σ H D I h
  refine wpAny_execs_cons (thn (h1 pins s σ H D I h) fun f s1 q => ?_)
  cases f with
  | next => exact wpAny_execs_nil q
  | ret v => exact q
  | brk => exact q
  | cont => exact q
theorem Inv.quiet {pins : List (Addr × Obj)} {σ : St} {H : Hp} {s : Shared} (I : Inv X pins σ H s) : interactive X.env = false := by simp [interactive, I.ok.kind]
def tDrop (te : TE) : TS := fun D σ H => te σ H fun _ H1 => D.nx σ H1
theorem ps_expr (he : PE X e te) (hs : swapsWith e none pos.line X.env = pure false := by rfl) : PS X (.Expr e pos) (tDrop te) := by
  intro pins s σ H D I h
  exact wpAny_Expr_any (thn (he pins s σ H _ I h) fun v s1 ⟨x, H1, I1, r1, q1⟩ => ⟨σ, H1, I1, q1⟩) I.quiet hs
def tRet (te : TE) : TS := fun D σ H => te σ H D.rt
theorem ps_ret (he : PE X e te) : PS X (.Return (some e) pos) (tRet te) := by
  intro pins s σ H D I h
  exact wpAny_Return_some (thn (he pins s σ H _ I h) fun v s1 ⟨x, H1, I1, r1, q1⟩ => ⟨x, σ, H1, I1, r1, q1⟩)
def tRetN : TS := fun D _ H => D.rt .non H
def tIfS (c : TT) (t u : TS) : TS := fun D σ H => c σ H fun b H1 => if b = true then t D σ H1 else u D σ H1
theorem ps_if {c : Expr} {a b : List Stmt} {tc : TT} (hc : PT X c tc) (ha : PSs X a t) (hb : PSs X b u) : PS X (.If c a b pos) (tIfS tc t u) := by
  intro pins s σ H D I h
  refine wpAny_If (thn (hc pins s σ H _ I h) fun d s1 ⟨H1, I1, q1⟩ => ?_)
  cases d with
  | true => exact ha pins s1 σ H1 D I1 q1
  | false => exact hb pins s1 σ H1 D I1 q1
def tNever : TS := fun _ _ _ => False
end
abbrev TG := V → St → Hp → (St → Hp → Prop) → Prop
abbrev TGs := List V → St → Hp → (St → Hp → Prop) → Prop
def PG (X : Cx) (target : Expr) (t : TG) : Prop :=
  ∀ (pins : List (Addr × Obj)) (s : Shared) (σ : St) (H : Hp) (v : V) (u : Value) (Q : St → Hp → Prop), Inv X pins σ H s → RelV v u → t v σ H Q →
    wpAny (model X.prog X.w) X.A (assign target X.env u) (fun _ s' => ∃ σ' H', Inv X pins σ' H' s' ∧ Q σ' H') X.xe s
def PGs (X : Cx) (ts : List Expr) (t : TGs) : Prop :=
  ∀ (pins : List (Addr × Obj)) (s : Shared) (σ : St) (H : Hp) (vs : List V) (us : List Value) (Q : St → Hp → Prop), Inv X pins σ H s → Vals vs us → t vs σ H Q →
    wpAny (model X.prog X.w) X.A (assignInOrder ((assignEach ts X.env).map (·.2)) us) (fun _ s' => ∃ σ' H', Inv X pins σ' H' s' ∧ Q σ' H') X.xe s
abbrev TSet := V → V → V → Hp → (Hp → Prop) → Prop
section
variable {X : Cx} {pos : Pos}
def gName (i : Nat) : TG := fun v σ H Q => Q (σ.set i (some v)) H
theorem pg_name {i : Nat} {x : Str} (hN : X.N.Nodup) (hi : X.N[i]? = some x) (hx : Loc X.env.scope x) (hf : X.fn x = true ∨ X.env.scope.names.lookup x = some .local := by first | exact .inl rfl | exact .inr rfl | assumption) : PG X (.Name x pos) (gName i) := by
  intro pins s σ H v u Q I r h
  exact wpAny_assign_Name (store_ok I hN hi hx r (fun s' I' => ⟨_, H, I', h⟩) hf)
def gNil : TGs := fun vs σ H Q => vs = [] ∧ Q σ H
def gCons (t : TG) (u : TGs) : TGs := fun vs σ H Q => ∃ v r, vs = v :: r ∧ t v σ H fun σ' H' => u r σ' H' Q
theorem pgs_nil : PGs X [] gNil := by
  intro pins s σ H vs us Q I r h
  obtain ⟨e, h⟩ := h
  subst e
  cases r
  exact assignInOrder_nil ⟨σ, H, I, h⟩
theorem pgs_cons {e : Expr} {es : List Expr} {t : TG} {u : TGs} (h1 : PG X e t) (h2 : PGs X es u)
    (hs : (assignEach (e :: es) X.env).map (·.2) = assign e X.env :: (assignEach es X.env).map (·.2) := by rfl) : PGs X (e :: es) (gCons t u) := by
  intro pins s σ H vs us Q I r h
  obtain ⟨v, vr, e1, h⟩ := h
  subst e1
  cases r with
  | cons r rr =>
    rw [hs]
    refine assignInOrder_cons (thn (h1 pins s σ H _ _ _ I r h) fun _ s1 ⟨σ1, H1, I1, q1⟩ => ?_)
    exact h2 pins s1 σ1 H1 _ _ Q I1 rr q1
def gTup (K : PySem.W.Frag) (n : Nat) (t : TGs) : TG := fun v σ H Q => ∃ a xs, v = .ref a ∧ SqT K H a xs ∧ xs.length = n ∧ t xs σ H Q
theorem pg_tup {es : List Expr} {k : Nat} {t : TGs} {n : Nat} (hc : X.calm = true) (h : PGs X es t)
    (hn : (assignEach es X.env).length = n := by rfl) (hst : (assignEach es X.env).findIdx? (·.1) = none := by rfl) : PG X (.Tuple es k pos) (gTup X.K n t) := by
  intro pins s σ H v u Q I r hw
  obtain ⟨a, xs, e1, hq, hl, hw⟩ := hw
  subst e1
  cases r
  obtain ⟨its, rv, ht, hz⟩ := I.tuple hq
  refine assign_Tuple_tuple (I.ok.hd hc) ht (by simp [hn, ← hl, rv.length]) hst fun h' hx => ?_
  have I1 : Inv X pins σ H { s with heap := h' } := I.kept (t' := s.toks) fun b o e => hx b o (Nat.ne_of_lt (Heap.lt_size e)) e
  exact h pins _ σ H xs _ Q I1 (by simpa using rv) hw
def gSub (to ti : TE) (t : TSet) : TG := fun v σ H Q => to σ H fun o H1 => ti σ H1 fun i H2 => t o i v H2 fun H3 => Q σ H3
def tAsg (te : TE) (g : TG) : TS := fun D σ H => te σ H fun x H1 => g x σ H1 D.nx
theorem ps_set {i : Nat} {x : Str} {e : Expr} {te : TE} {pos' : Pos} (hN : X.N.Nodup) (hi : X.N[i]? = some x) (hx : Loc X.env.scope x) (he : PE X e te) (hs : swapsWith e (some (.Name x pos')) pos.line X.env = pure false := by rfl) (hf : X.fn x = true ∨ X.env.scope.names.lookup x = some .local := by first | exact .inl rfl | exact .inr rfl | assumption) :
    PS X (.Assign [.Name x pos'] e pos) (tAsg te (gName i)) := by
  intro pins s σ H D I h
  refine wpAny_Assign_Name (thn (he pins s σ H _ I h) fun v s1 ⟨y, H1, I1, r1, q1⟩ => ?_) hs
  exact store_ok I1 hN hi hx r1 (fun s2 I2 => ⟨_, H1, I2, q1⟩) hf
end
section
variable {X : Cx} {pos : Pos}
def tWhile (c : TT) (tb : TS) : TS := fun D σ H => ∃ W : Nat → St → Hp → Prop, (∃ m, W m σ H) ∧ ∀ m σ H, W m σ H →
  c σ H fun b H1 => if b = true then ∃ N : St → Hp → Prop, (∀ σ' H', N σ' H' → ∃ m', m' < m ∧ W m' σ' H') ∧ tb { D with nx := N, ct := N, bk := D.nx } σ H1 else D.nx σ H1
theorem ps_while {c : Expr} {body : List Stmt} {tc : TT} {tb : TS} (hp : PassesOwn (model X.prog X.w) X.A X.env X.xe) (hc : PT X c tc) (hb : PSs X body tb) : PS X (.While c body [] pos) (tWhile tc tb) := by
  intro pins s σ H D I h
  obtain ⟨W, ⟨m0, w0⟩, turn⟩ := h
  refine wpAny_While (codeAny_whileLoop (fun n s' => ∃ σ' H', Inv X pins σ' H' s' ∧ W n σ' H') ?_ m0 ⟨σ, H, I, w0⟩)
  rintro n s1 ⟨σ1, H1, I1, w1⟩
  refine wpAny_passesOwn hp (thn (hc pins s1 σ1 H1 _ I1 (turn n σ1 H1 w1)) fun b s2 ⟨H2, I2, q2⟩ => ?_)
  cases b with
  | true =>
    obtain ⟨N, hN, q2⟩ := q2
    rw [if_pos rfl]
    refine wpAny_passesOwn hp (thn (hb pins s2 σ1 H2 _ I2 q2) fun f s3 q3 => ?_)
    cases f with
    | next =>
      obtain ⟨σ3, H3, I3, n3⟩ := q3
      obtain ⟨m', hm, w3⟩ := hN σ3 H3 n3
      exact ⟨m', hm, σ3, H3, I3, w3⟩
    | cont =>
      obtain ⟨σ3, H3, I3, n3⟩ := q3
      obtain ⟨m', hm, w3⟩ := hN σ3 H3 n3
      exact ⟨m', hm, σ3, H3, I3, w3⟩
    | brk => exact q3
    | ret v => exact q3
  | false =>
    rw [if_neg Bool.false_ne_true]
    exact wpAny_execs_nil ⟨σ1, H2, I2, q2⟩
end
structure It where
  go : Nat → Hp → Prop
  yld : Nat → Hp → V → Hp → Prop
  stop : Nat → Hp → Prop
def FpOk (X : Cx) (pins : List (Addr × Obj)) (H : Hp) (b : Addr) : Prop :=
  H b = none ∧ b ≠ X.env.locals ∧ b ∉ X.fs ∧ (b ∈ X.ex ∨ X.s₀.heap.objs.size ≤ b) ∧ (∀ x c, X.env.cells.lookup x = some c → c ≠ b) ∧ ∀ p ∈ X.pn ++ pins, p.1 ≠ b
theorem Inv.fpOk {X : Cx} {pins : List (Addr × Obj)} {σ : St} {H H' : Hp} {s : Shared} {b : Addr} (I : Inv X pins σ H s) (hb : s.heap.objs.size ≤ b) (hn : H' b = none) : FpOk X pins H' b := by
  refine ⟨hn, Nat.ne_of_gt (Nat.lt_of_lt_of_le I.lt hb), I.nofs hb, .inr (Nat.le_trans I.sz hb), fun x c e z => ?_, fun p hp z => ?_⟩
  · obtain ⟨v, q⟩ := I.cell x c e
    exact absurd (Nat.lt_of_lt_of_le q.lt (by rw [z]; exact hb)) (Nat.lt_irrefl _)
  · exact absurd (Nat.lt_of_lt_of_le (Heap.lt_size (I.pin p hp).1) (by rw [z]; exact hb)) (Nat.lt_irrefl _)
structure Turn (P : Program) (w : World) (K : PySem.W.Frag) (tg : Expr) (J : It) (fp : List Addr) (it : Addr) (tn : Nat → Heap → Prop) : Prop where
  mem : it ∈ fp
  obj : ∀ i h, tn i h → ∀ b ∈ fp, ∃ o, h.get? b = some o ∧ ∀ v, o.data ≠ .cell v
  keep : ∀ i h h', tn i h → (∀ b ∈ fp, ∀ o, h.get? b = some o → h'.get? b = some o) → tn i h'
  item : ∀ (X : Cx), X.prog = P → X.w = w → X.K = K → X.calm = true → ∀ (i : Nat) (pins : List (Addr × Obj)) (s : Shared) (σ : St) (H : Hp) (E : Value → Shared → Prop), Inv X pins σ H s → (∀ b ∈ fp, FpOk X pins H b) → tn i s.heap → J.go i H →
    wpAny (model P w) X.A (pyNext (.ref it)) (fun r s1 => ∃ u, r = some u ∧
      wpAny (model P w) X.A (letOwnedTupleGo tg (.ref it) u) (fun _ s2 => ∃ x H', Inv X pins σ H' s2 ∧ RelV x u ∧ J.yld i H x H' ∧ tn (i + 1) s2.heap ∧ ∀ b ∈ fp, H' b = none) E s1) E s
  done : ∀ (X : Cx), X.prog = P → X.w = w → X.K = K → X.calm = true → ∀ (i : Nat) (pins : List (Addr × Obj)) (s : Shared) (σ : St) (H : Hp) (E : Value → Shared → Prop), Inv X pins σ H s → (∀ b ∈ fp, FpOk X pins H b) → tn i s.heap → J.stop i H →
    wpAny (model P w) X.A (pyNext (.ref it)) (fun r s1 => r = none ∧ Inv X pins σ H s1) E s
  self : ∀ (A : Around) (i : Nat) (s : Shared) (Q : Value → Shared → Prop) (E : Value → Shared → Prop), tn i s.heap → Q (.ref it) s → wpAny (model P w) A (pyIter (.ref it)) Q E s
abbrev TI := St → Hp → (It → Hp → Prop) → Prop
def PIE (X : Cx) (pins : List (Addr × Obj)) (σ : St) (tg : Expr) (R : It → Hp → Prop) (itv : Value) (s2 : Shared) : Prop :=
  ∃ (it : Addr) (fp : List Addr) (tn : Nat → Heap → Prop) (J : It) (H' : Hp), itv = .ref it ∧ Inv X pins σ H' s2 ∧ Turn X.prog X.w X.K tg J fp it tn ∧ tn 0 s2.heap ∧ (∀ b ∈ fp, FpOk X pins H' b) ∧ R J H'
def PI (X : Cx) (tg iter : Expr) (wi : TI) : Prop :=
  ∀ (pins : List (Addr × Obj)) (s : Shared) (σ : St) (H : Hp) (R : It → Hp → Prop), Inv X pins σ H s → wi σ H R →
    wpAny (model X.prog X.w) X.A (eval iter X.env) (fun v s1 => wpAny (model X.prog X.w) X.A (pyIter v) (PIE X pins σ tg R) X.xe s1) X.xe s
theorem go_of {M : Model} {A : Around} {E : Value → Shared → Prop} {s : Shared} {tg : Expr} {it : Addr} {u : Value} {o : Obj} {n : String} {vs : Array Value} {Q : Unit → Shared → Prop} (ho : s.heap.get? it = some o) (hc : o.cls = .type n) (hd : o.data = .fields vs)
    (hn : ["enumerate", "zip", "dict_itemiterator", "dict_reverseitemiterator", "odict_iterator", "itertools.zip_longest", "itertools.pairwise"].contains n = false) (hQ : Q () s) : wpAny M A (letOwnedTupleGo tg (.ref it) u) Q E s := by
  unfold letOwnedTupleGo
  cases tg <;> first
    | exact wpAny_pure hQ
    | (cases u <;> first
        | exact wpAny_pure hQ
        | (refine wpAny_bind (wpAny_load ho ?_)
           rw [hc, hd]
           show wpAny M A (if (["enumerate", "zip", "dict_itemiterator", "dict_reverseitemiterator", "odict_iterator", "itertools.zip_longest", "itertools.pairwise"].contains n && vs[0]? == some (rawInt _)) = true then _ else _) Q E s
           rw [if_neg (by intro h; rw [hn, Bool.false_and] at h; cases h)]
           exact wpAny_pure hQ))
def Itl (K : PySem.W.Frag) (a : Addr) : It :=
  ⟨fun i H => ∃ xs x, SqL K H a xs ∧ xs[i]? = some x, fun i H x H' => H' = H ∧ ∀ xs, SqL K H a xs → xs[i]? = some x, fun i H => ∃ xs, SqL K H a xs ∧ xs.length ≤ i⟩
def Itt (K : PySem.W.Frag) (a : Addr) : It :=
  ⟨fun i H => ∃ xs x, SqT K H a xs ∧ xs[i]? = some x, fun i H x H' => H' = H ∧ ∀ xs, SqT K H a xs → xs[i]? = some x, fun i H => ∃ xs, SqT K H a xs ∧ xs.length ≤ i⟩
def Itr (lo : Int) (n : Nat) : It := ⟨fun i _ => i < n, fun i H x H' => H' = H ∧ x = .int (lo + i), fun i _ => n ≤ i⟩
theorem turn_list {P : Program} {w : World} {K : PySem.W.Frag} {tg : Expr} (a it : Addr) : Turn P w K tg (Itl K a) [it] it (fun i h => h.IsListIter it a i) where
  mem := by simp
  obj := fun i h st b hb => by
    have e : b = it := by simpa using hb
    subst e
    obtain ⟨o, e, c, d⟩ := st
    exact ⟨o, e, fun v z => by rw [d] at z; cases z⟩
  keep := fun i h h' st k => st.at fun o e => k it (by simp) o e
  item := by
    intro X hP hw hK hc i pins s σ H E I hf st hg
    subst hP hw hK
    obtain ⟨xs, x, hq, hx⟩ := hg
    obtain ⟨its, rv, p, hz⟩ := I.list hq
    obtain ⟨u, hu, ru⟩ := rv.get hx
    obtain ⟨f0, f1, f2, f3, f4, f5⟩ := hf it (by simp)
    refine wpAny_pyNext_list_item st p.isList (x := u) (by simpa using hu) fun h' st' sb => ?_
    have I1 : Inv X pins σ H { s with heap := h' } := I.turned (t' := s.toks) (fun b o hb e => (sb.2 b hb).trans e) f0 f1 f3 f4 f5
    obtain ⟨o, e, c, d⟩ := id st'
    exact ⟨u, rfl, go_of (s := { s with heap := h' }) e c d (by decide) ⟨x, H, I1, ru, ⟨rfl, fun ys hy => by rw [I.list_inj hy hq]; exact hx⟩, st', fun b hb => (hf b hb).1⟩⟩
  done := by
    intro X hP hw hK hc i pins s σ H E I hf st hg
    subst hP hw hK
    obtain ⟨xs, hq, hx⟩ := hg
    obtain ⟨its, rv, p, hz⟩ := I.list hq
    obtain ⟨f0, f1, f2, f3, f4, f5⟩ := hf it (by simp)
    have hl := rv.length
    exact wpAny_pyNext_list_end (I.ok.hd hc) st p.isList (by simp; omega) fun h' eb => ⟨rfl, I.turned (t' := s.toks) (fun b o hb e => eb b o hb e) f0 f1 f3 f4 f5⟩
  self := fun _ _ _ _ _ st h => wpAny_pyIter_listiter st h
theorem turn_range {P : Program} {w : World} {K : PySem.W.Frag} {tg : Expr} (it : Addr) (lo : Int) (n : Nat) : Turn P w K tg (Itr lo n) [it] it (fun i h => IsRangeIter h it (lo + (i : Nat) * 1) ((n : Int) - (i : Nat)) 1) where
  mem := by simp
  obj := fun i h st b hb => by
    have e : b = it := by simpa using hb
    subst e
    exact ⟨_, st, fun v z => by
      have z' : Data.fields _ = Data.cell v := z
      cases z'⟩
  keep := fun i h h' st k => k it (by simp) _ st
  item := by
    intro X hP hw hK hc i pins s σ H E I hf st hg
    subst hP hw hK
    obtain ⟨f0, f1, f2, f3, f4, f5⟩ := hf it (by simp)
    have W := Walks.range (prog := X.prog) (w := X.w) (I.ok.hd hc) it lo 1 n
    refine W.item i s _ _ hg st fun v h' tk hv st' kk => ?_
    obtain ⟨t, rfl⟩ := hv
    have I1 : Inv X pins σ H { s with heap := h', toks := tk } := I.turned (fun b o hb e => kk b o (by simpa using hb) e) f0 f1 f3 f4 f5
    refine ⟨_, rfl, go_of (s := { s with heap := h', toks := tk }) (n := "range_iterator") st' rfl rfl (by decide) ⟨.int (lo + i), H, I1, ⟨t, ?_⟩, ⟨rfl, rfl⟩, st', fun b hb => (hf b hb).1⟩⟩
    rw [Int.mul_one]
  done := by
    intro X hP hw hK hc i pins s σ H E I hf st hg
    subst hP hw hK
    obtain ⟨f0, f1, f2, f3, f4, f5⟩ := hf it (by simp)
    exact wpAny_pyNext_range_end (I.ok.hd hc) st (by have : n ≤ i := hg; omega) fun h' eb => ⟨rfl, I.turned (t' := s.toks) (fun b o hb e => eb b o hb e) f0 f1 f3 f4 f5⟩
  self := fun _ _ _ _ _ st h => wpAny_pyIter_rangeiter st h
end L2
namespace L2
open PySem PySem.Spec PyProof.Rows
section
variable {X : Cx} {tg : Expr}
def iList (K : PySem.W.Frag) (tl : TE) : TI := fun σ H R => tl σ H fun x H1 => ∃ a, x = .ref a ∧ (∃ xs, SqL K H1 a xs) ∧ R (Itl K a) H1
def iTup (K : PySem.W.Frag) (tl : TE) : TI := fun σ H R => tl σ H fun x H1 => ∃ a, x = .ref a ∧ (∃ xs, SqT K H1 a xs) ∧ R (Itt K a) H1
theorem pi_list {l : Expr} {tl : TE} (hl : PE X l tl) : PI X tg l (iList X.K tl) := by
  intro pins s σ H R I h
  refine thn (hl pins s σ H _ I h) fun v s1 ⟨x, H1, I1, r1, q1⟩ => ?_
  obtain ⟨a, e, ⟨xs, hq⟩, q⟩ := q1
  subst e
  cases r1
  obtain ⟨its, rv, p, hz⟩ := I1.list hq
  refine wpAny_pyIter_list p.isList ?_
  refine ⟨s1.heap.objs.size, [s1.heap.objs.size], _, _, H1, rfl, I1.kept (t' := s1.toks) fun b o e => Heap.get?_push_of_some _ e, turn_list a _, ⟨_, Heap.get?_push_size _ rfl, rfl, rfl⟩, fun b hb => ?_, q⟩
  have e : b = s1.heap.objs.size := by simpa using hb
  subst e
  exact I1.fpOk (Nat.le_refl _) (I1.hok.fresh (Nat.le_refl _))
theorem range_it {pins : List (Addr × Obj)} {σ : St} {H : Hp} {s : Shared} {R : It → Hp → Prop} {E : Value → Shared → Prop} {lo hi : Int} {t u v : Tok} {tk : Nat} (I : Inv X pins σ H s) (h1 : -(2 ^ 62) ≤ lo) (h2 : lo < 2 ^ 62) (h3 : -(2 ^ 62) ≤ hi) (h4 : hi < 2 ^ 62)
    (q : R (Itr lo (hi - lo).toNat) H) : wpAny (model X.prog X.w) X.A (pyIter (.ref s.heap.objs.size)) (PIE X pins σ tg R) E { s with heap := s.heap.push { cls := .type "range", data := .fields #[.int lo t, .int hi u, .int 1 v] }, toks := tk } := by
  refine wpAny_pyIter_range (IsRange.new ..) (small_one h1 h2 h3 h4) ?_
  have I1 : Inv X pins σ H { s with heap := s.heap.push { cls := .type "range", data := .fields #[.int lo t, .int hi u, .int 1 v] }, toks := tk } := I.kept fun b o e => Heap.get?_push_of_some _ e
  refine ⟨(s.heap.push { cls := .type "range", data := .fields #[.int lo t, .int hi u, .int 1 v] }).objs.size, [(s.heap.push { cls := .type "range", data := .fields #[.int lo t, .int hi u, .int 1 v] }).objs.size], _, _, H, rfl,
    I1.kept (t' := tk) fun b o e => Heap.get?_push_of_some _ e, turn_range _ lo (hi - lo).toNat, ?_, fun b hb => ?_, q⟩
  · have e1 : lo + ((0 : Nat) : Int) * 1 = lo := by simp
    have e2 : (((hi - lo).toNat : Nat) : Int) - ((0 : Nat) : Int) = Builtin.Range.rangeSize lo hi 1 := by rw [rangeSize_one]; split <;> omega
    show IsRangeIter _ _ (lo + ((0 : Nat) : Int) * 1) ((((hi - lo).toNat : Nat) : Int) - ((0 : Nat) : Int)) 1
    rw [e1, e2]
    exact Heap.get?_push_size _ rfl
  · have e : b = (s.heap.push { cls := .type "range", data := .fields #[.int lo t, .int hi u, .int 1 v] }).objs.size := by simpa using hb
    subst e
    exact I1.fpOk (Nat.le_refl _) (I1.hok.fresh (Nat.le_refl _))
def iRng1 (ta : TA) : TI := fun σ H R => ta σ H fun vs H1 => ∃ j : Int, vs = [.int j] ∧ -(2 ^ 62) ≤ j ∧ j < 2 ^ 62 ∧ R (Itr 0 j.toNat) H1
def iRng2 (ta : TA) : TI := fun σ H R => ta σ H fun vs H1 => ∃ i j : Int, vs = [.int i, .int j] ∧ (-(2 ^ 62) ≤ i ∧ i < 2 ^ 62 ∧ -(2 ^ 62) ≤ j ∧ j < 2 ^ 62) ∧ R (Itr i (j - i).toNat) H1
theorem pi_range1 {a : Expr} {ta : TA} {p pos : Pos} (hg : Gl X "range") (hm : X.mg "range" = none) (ha : PA X [a] ta) (hs : starEach [a] X.env = [(false, eval a X.env)] := by rfl) : PI X tg (.Call (.Name "range" p) [a] [] pos) (iRng1 ta) := by
  intro pins s σ H R I h
  refine Call_ (ld_blt I hg hm boot_range (PyProof.Rows.callWith_type1 (thn (ha pos pins s σ H _ I h) fun us s1 ⟨vs, H1, I1, r1, q1⟩ => ?_) hs rfl))
  obtain ⟨j, e, q1, q2, q⟩ := q1
  subst e
  cases r1 with
  | cons r rr =>
    cases rr
    obtain ⟨t, rfl⟩ := r
    exact call_range_1 (range_it I1 (by omega) (by omega) q1 q2 (by simpa using q))
theorem pi_range2 {a b : Expr} {ta : TA} {p pos : Pos} (hg : Gl X "range") (hm : X.mg "range" = none) (ha : PA X [a, b] ta) (hs : starEach [a, b] X.env = [(false, eval a X.env), (false, eval b X.env)] := by rfl) (hs2 : starEach [b] X.env = [(false, eval b X.env)] := by rfl) :
    PI X tg (.Call (.Name "range" p) [a, b] [] pos) (iRng2 ta) := by
  intro pins s σ H R I h
  refine Call_ (ld_blt I hg hm boot_range (PyProof.Rows.callWith_type1 (thn (ha pos pins s σ H _ I h) fun us s1 ⟨vs, H1, I1, r1, q1⟩ => ?_) (by rw [hs, hs2]) (by rw [hs2]; rfl)))
  obtain ⟨i, j, e, ⟨q1, q2, q3, q4⟩, q⟩ := q1
  subst e
  cases r1 with
  | cons r rr =>
    cases rr with
    | cons r' rr =>
      cases rr
      obtain ⟨t, rfl⟩ := r
      obtain ⟨t', rfl⟩ := r'
      exact call_range_2 (range_it I1 q1 q2 q3 q4 q)
def tFor (wi : TI) (g : TG) (tb : TS) : TS := fun D σ H => wi σ H fun J H1 => ∃ W : Nat → Nat → St → Hp → Prop, (∃ m, W 0 m σ H1) ∧ ∀ i m σ H, W i m σ H →
  (J.stop i H ∧ D.nx σ H) ∨ (J.go i H ∧ ∃ N : St → Hp → Prop, (∀ σ' H', N σ' H' → ∃ m', m' < m ∧ W (i + 1) m' σ' H') ∧ ∀ x H', J.yld i H x H' → g x σ H' fun σ2 H2 => tb { D with nx := N, ct := N, bk := D.nx } σ2 H2)
def pinsAt (fp : List Addr) (h : Heap) : List (Addr × Obj) := fp.filterMap fun b => (h.get? b).map fun o => (b, o)
theorem mem_pinsAt {fp : List Addr} {h : Heap} {b : Addr} {o : Obj} (hb : b ∈ fp) (e : h.get? b = some o) : (b, o) ∈ pinsAt fp h := List.mem_filterMap.mpr ⟨b, hb, by rw [e]; rfl⟩
theorem of_pinsAt {fp : List Addr} {h : Heap} {p : Addr × Obj} (hp : p ∈ pinsAt fp h) : p.1 ∈ fp ∧ h.get? p.1 = some p.2 := by
  obtain ⟨b, hb, e⟩ := List.mem_filterMap.mp hp
  cases q : h.get? b with
  | none => rw [q] at e; cases e
  | some o =>
    rw [q] at e
    have e' : (b, o) = p := Option.some.inj e
    subst e'
    exact ⟨hb, q⟩
theorem Inv.pinned {pins : List (Addr × Obj)} {σ : St} {H : Hp} {s : Shared} {fp : List Addr} (I : Inv X pins σ H s) (hf : ∀ b ∈ fp, FpOk X pins H b) (ho : ∀ b ∈ fp, ∃ o, s.heap.get? b = some o ∧ ∀ v, o.data ≠ .cell v) : Inv X (pins ++ pinsAt fp s.heap) σ H s :=
  I.pins_of fun p hp => (List.mem_append.mp hp).elim (fun z => I.pin p (List.mem_append_right _ z)) fun z => by
    obtain ⟨hb, e⟩ := of_pinsAt z
    obtain ⟨f0, f1, f2, _⟩ := hf p.1 hb
    obtain ⟨o, e', d⟩ := ho p.1 hb
    rw [e] at e'; cases e'
    exact ⟨e, f0, f1, f2, d⟩
theorem Inv.unpinned {pins pl : List (Addr × Obj)} {σ : St} {H : Hp} {s : Shared} (I : Inv X (pins ++ pl) σ H s) : Inv X pins σ H s := I.pins_of fun p hp => I.pin p (List.mem_append_right _ (List.mem_append_left _ hp))
theorem ps_for {iter : Expr} {body : List Stmt} {wi : TI} {g : TG} {tb : TS} {pos : Pos} (hp : PassesOwn (model X.prog X.w) X.A X.env X.xe) (hc : X.calm = true) (hi : PI X tg iter wi) (hg : PG X tg g) (hb : PSs X body tb)
    (hs : ∀ x, foldedSetIterable iter X.env x = pure x := by intro _; rfl) : PS X (.For tg iter body [] pos) (tFor wi g tb) := by
  intro pins s σ H D I h
  refine wpAny_For (thn (hi pins s σ H _ I h) fun v s1 h1 => thn h1 fun itv s2 h2 => ?_) hs
  obtain ⟨it, fp, tn, J, H2, e, I2, T, st2, f2, W, ⟨m0, w0⟩, turn⟩ := h2
  subst e
  have stat : ∀ {H' : Hp}, (∀ b ∈ fp, H' b = none) → ∀ b ∈ fp, FpOk X pins H' b := fun hn b hb => ⟨hn b hb, (f2 b hb).2⟩
  refine codeAny_forLoop_any (fun n s' => ∃ i σ' H', Inv X pins σ' H' s' ∧ tn i s'.heap ∧ (∀ b ∈ fp, H' b = none) ∧ W i n σ' H') ?_ m0 ⟨0, σ, H2, I2, st2, fun b hb => (f2 b hb).1, w0⟩
  rintro n s3 ⟨i, σ3, H3, I3, st3, fr3, w3⟩
  rcases turn i n σ3 H3 w3 with ⟨stop, qn⟩ | ⟨go, N, hN, step⟩
  · refine wpAny_passesOwn hp (thn (T.done X rfl rfl rfl hc i pins s3 σ3 H3 X.xe I3 (stat fr3) st3 stop) fun r s4 ⟨hr, I4⟩ => ?_)
    subst hr
    exact wpAny_execs_nil ⟨σ3, H3, I4, qn⟩
  · refine wpAny_passesOwn hp (thn (T.item X rfl rfl rfl hc i pins s3 σ3 H3 X.xe I3 (stat fr3) st3 go) fun r s4 ⟨u, hr, h4⟩ => ?_)
    subst hr
    refine wpAny_passesOwn hp (thn h4 fun _ s5 ⟨x, H5, I5, r5, y5, st5, fr5⟩ => ?_)
    have I5' := I5.pinned (stat fr5) (T.obj _ _ st5)
    refine wpAny_passesOwn hp (thn (hg _ s5 σ3 H5 x u _ I5' r5 (step x H5 y5)) fun _ s6 ⟨σ6, H6, I6, q6⟩ => ?_)
    refine wpAny_passesOwn hp (thn (hb _ s6 σ6 H6 _ I6 q6) fun f s7 q7 => ?_)
    have again : ∀ {σ7 : St} {H7 : Hp}, Inv X (pins ++ pinsAt fp s5.heap) σ7 H7 s7 → N σ7 H7 → ∃ m, m < n ∧ ∃ i σ' H', Inv X pins σ' H' s7 ∧ tn i s7.heap ∧ (∀ b ∈ fp, H' b = none) ∧ W i m σ' H' := fun {σ7 H7} I7 n7 => by
      obtain ⟨m', hm, w7⟩ := hN σ7 H7 n7
      refine ⟨m', hm, i + 1, σ7, H7, I7.unpinned, T.keep _ _ _ st5 fun b hb o e => (I7.pin (b, o) (List.mem_append_right _ (List.mem_append_right _ (mem_pinsAt hb e)))).1, fun b hb => ?_, w7⟩
      obtain ⟨o, e, d⟩ := T.obj _ _ st5 b hb
      exact (I7.pin (b, o) (List.mem_append_right _ (List.mem_append_right _ (mem_pinsAt hb e)))).2.1
    cases f with
    | next => obtain ⟨σ7, H7, I7, n7⟩ := q7; exact again I7 n7
    | cont => obtain ⟨σ7, H7, I7, n7⟩ := q7; exact again I7 n7
    | brk => obtain ⟨σ7, H7, I7, q7⟩ := q7; exact ⟨σ7, H7, I7.unpinned, q7⟩
    | ret v => obtain ⟨x7, σ7, H7, I7, r7, q7⟩ := q7; exact ⟨x7, σ7, H7, I7.unpinned, r7, q7⟩
end
theorem for_list {K : PySem.W.Frag} {a : Addr} {xs : List V} {g : TG} {tb : TS} {D : Ends} {σ : St} {H : Hp} (Pv : Nat → St → Hp → Prop) (h0 : Pv 0 σ H) (hl : ∀ i σ H, i ≤ xs.length → Pv i σ H → SqL K H a xs)
    (hs : ∀ i x σ H, xs[i]? = some x → Pv i σ H → g x σ H fun σ2 H2 => tb { D with nx := Pv (i + 1), ct := Pv (i + 1), bk := D.nx } σ2 H2) (hd : ∀ σ H, Pv xs.length σ H → D.nx σ H) :
    ∃ W : Nat → Nat → St → Hp → Prop, (∃ m, W 0 m σ H) ∧ ∀ i m σ H, W i m σ H →
      ((Itl K a).stop i H ∧ D.nx σ H) ∨ ((Itl K a).go i H ∧ ∃ N : St → Hp → Prop, (∀ σ' H', N σ' H' → ∃ m', m' < m ∧ W (i + 1) m' σ' H') ∧ ∀ x H', (Itl K a).yld i H x H' → g x σ H' fun σ2 H2 => tb { D with nx := N, ct := N, bk := D.nx } σ2 H2) := by
  refine ⟨fun i m σ H => m = xs.length - i ∧ i ≤ xs.length ∧ Pv i σ H, ⟨xs.length, by simp, Nat.zero_le _, h0⟩, ?_⟩
  rintro i m σ H ⟨rfl, hi, p⟩
  have q := hl i σ H hi p
  by_cases hlt : i < xs.length
  · refine .inr ⟨⟨xs, xs[i], q, by simp [hlt]⟩, Pv (i + 1), fun σ' H' p' => ⟨xs.length - (i + 1), by omega, rfl, hlt, p'⟩, fun x H' y => ?_⟩
    obtain ⟨e, y⟩ := y
    subst e
    exact hs i x σ _ (y xs q) p
  · have e : i = xs.length := by omega
    subst e
    exact .inl ⟨⟨xs, q, Nat.le_refl _⟩, hd σ H p⟩
theorem for_range {lo : Int} {n : Nat} {g : TG} {tb : TS} {D : Ends} {σ : St} {H : Hp} (Pv : Nat → St → Hp → Prop) (h0 : Pv 0 σ H)
    (hs : ∀ i σ H, i < n → Pv i σ H → g (.int (lo + i)) σ H fun σ2 H2 => tb { D with nx := Pv (i + 1), ct := Pv (i + 1), bk := D.nx } σ2 H2) (hd : ∀ σ H, Pv n σ H → D.nx σ H) :
    ∃ W : Nat → Nat → St → Hp → Prop, (∃ m, W 0 m σ H) ∧ ∀ i m σ H, W i m σ H →
      ((Itr lo n).stop i H ∧ D.nx σ H) ∨ ((Itr lo n).go i H ∧ ∃ N : St → Hp → Prop, (∀ σ' H', N σ' H' → ∃ m', m' < m ∧ W (i + 1) m' σ' H') ∧ ∀ x H', (Itr lo n).yld i H x H' → g x σ H' fun σ2 H2 => tb { D with nx := N, ct := N, bk := D.nx } σ2 H2) := by
  refine ⟨fun i m σ H => m = n - i ∧ i ≤ n ∧ Pv i σ H, ⟨n, by simp, Nat.zero_le _, h0⟩, ?_⟩
  rintro i m σ H ⟨rfl, hi, p⟩
  by_cases hlt : i < n
  · refine .inr ⟨hlt, Pv (i + 1), fun σ' H' p' => ⟨n - (i + 1), by omega, rfl, hlt, p'⟩, fun x H' y => ?_⟩
    obtain ⟨e, y⟩ := y
    subst e y
    exact hs i σ _ hlt p
  · have e : i = n := by omega
    subst e
    exact .inl ⟨Nat.le_refl _, hd σ H p⟩
end L2
namespace L2
open PySem PySem.Spec PyProof.Rows
abbrev R2 := V → V → Hp → VK → Prop
def OpR (X : Cx) (f : Value → Value → Sem Value) (r : R2) : Prop :=
  ∀ (pins : List (Addr × Obj)) (s : Shared) (σ : St) (H : Hp) (x y : V) (v u : Value) (Q : VK), Inv X pins σ H s → RelV x v → RelV y u → r x y H Q →
    wpAny (model X.prog X.w) X.A (f v u) (EP X pins σ Q) X.xe s
def UnR (X : Cx) (f : Value → Sem Value) (r : V → Hp → VK → Prop) : Prop :=
  ∀ (pins : List (Addr × Obj)) (s : Shared) (σ : St) (H : Hp) (x : V) (v : Value) (Q : VK), Inv X pins σ H s → RelV x v → r x H Q →
    wpAny (model X.prog X.w) X.A (f v) (EP X pins σ Q) X.xe s
def CallR (X : Cx) (f : Value) (r : List V → Hp → VK → Prop) : Prop :=
  ∀ (pins : List (Addr × Obj)) (s : Shared) (σ : St) (H : Hp) (xs : List V) (us : List Value) (Q : VK), Inv X pins σ H s → Vals xs us → r xs H Q →
    wpAny (model X.prog X.w) X.A (call f us) (EP X pins σ Q) X.xe s
def tOp (r : R2) (ta tb : TE) : TE := fun σ H Q => ta σ H fun x H1 => tb σ H1 fun y H2 => r x y H2 Q
def tUn (r : V → Hp → VK → Prop) (ta : TE) : TE := fun σ H Q => ta σ H fun x H1 => r x H1 Q
def rI (C : Int → Int → Prop) (g : Int → Int → V) : R2 := fun x y H Q => ∃ i j, x = .int i ∧ y = .int j ∧ C i j ∧ Q (g i j) H
def rI0 (g : Int → Int → V) : R2 := fun x y H Q => ∃ i j, x = .int i ∧ y = .int j ∧ Q (g i j) H
def rU (g : Int → V) : V → Hp → VK → Prop := fun x H Q => ∃ i, x = .int i ∧ Q (g i) H
section
variable {X : Cx} {a b c : Expr} {ta tb tc : TE} {pos : Pos}
theorem binT (ha : PE X a ta) (hb : PE X b tb) {pins : List (Addr × Obj)} {s : Shared} {σ : St} {H : Hp} {R : V → V → Hp → Prop} (I : Inv X pins σ H s)
    (h : ta σ H fun x H1 => tb σ H1 fun y H2 => R x y H2) {Q : Value → Shared → Prop} {f : Value → Value → Sem Value}
    (hf : ∀ v u s2 x y H2, Inv X pins σ H2 s2 → RelV x v → RelV y u → R x y H2 → wpAny (model X.prog X.w) X.A (f v u) Q X.xe s2) :
    wpAny (model X.prog X.w) X.A (eval a X.env) (fun v s₁ => wpAny (model X.prog X.w) X.A (eval b X.env) (fun u s₂ => wpAny (model X.prog X.w) X.A (f v u) Q X.xe s₂) X.xe s₁) X.xe s := by
  refine thn (ha pins s σ H _ I h) fun v s1 ⟨x, H1, I1, r1, q1⟩ => ?_
  refine thn (hb pins s1 σ H1 _ I1 q1) fun u s2 ⟨y, H2, I2, r2, q2⟩ => ?_
  exact hf v u s2 x y H2 I2 r1 r2 q2
theorem pe_op {op : Operator} {r : R2} (ho : OpR X (binaryOp op) r) (ha : PE X a ta) (hb : PE X b tb) : PE X (.BinOp a op b pos) (tOp r ta tb) := by
  intro pins s σ H Q I h
  exact wpAny_BinOp (binT ha hb I h fun v u s2 x y H2 I2 rx ry q => ho pins s2 σ H2 x y v u Q I2 rx ry q)
theorem pe_un {op : UnaryOp} {r : V → Hp → VK → Prop} (ho : UnR X (unaryOp op) r) (ha : PE X a ta) : PE X (.UnaryOp op a pos) (tUn r ta) := by
  intro pins s σ H Q I h
  exact UnaryOp_ (thn (ha pins s σ H _ I h) fun v s1 ⟨x, H1, I1, r1, q1⟩ => ho pins s1 σ H1 x v Q I1 r1 q1)
theorem opI {f : Value → Value → Sem Value} {C : Int → Int → Prop} {g : Int → Int → Int}
    (rule : ∀ (i j : Int) (t u : Tok) (s : Shared) (Q : Value → Shared → Prop) (E : Value → Shared → Prop), C i j → Q (.int (g i j) s.toks) { s with toks := s.toks + 1 } → wpAny (model X.prog X.w) X.A (f (.int i t) (.int j u)) Q E s) :
    OpR X f (rI C fun i j => .int (g i j)) := by
  intro pins s σ H x y v u Q I rx ry h
  obtain ⟨i, j, rfl, rfl, hc, q⟩ := h
  obtain ⟨t, rfl⟩ := rx
  obtain ⟨t', rfl⟩ := ry
  exact rule i j t t' s _ _ hc ⟨.int (g i j), H, I.tok _, ⟨_, rfl⟩, q⟩
theorem opI0 {f : Value → Value → Sem Value} {g : Int → Int → Int}
    (rule : ∀ (i j : Int) (t u : Tok) (s : Shared) (Q : Value → Shared → Prop) (E : Value → Shared → Prop), Q (.int (g i j) s.toks) { s with toks := s.toks + 1 } → wpAny (model X.prog X.w) X.A (f (.int i t) (.int j u)) Q E s) :
    OpR X f (rI0 fun i j => .int (g i j)) := by
  intro pins s σ H x y v u Q I rx ry h
  obtain ⟨i, j, rfl, rfl, q⟩ := h
  obtain ⟨t, rfl⟩ := rx
  obtain ⟨t', rfl⟩ := ry
  exact rule i j t t' s _ _ ⟨.int (g i j), H, I.tok _, ⟨_, rfl⟩, q⟩
theorem opB0 {f : Value → Value → Sem Value} {g : Int → Int → Bool}
    (rule : ∀ (i j : Int) (t u : Tok) (s : Shared) (Q : Value → Shared → Prop) (E : Value → Shared → Prop), Q (.bool (g i j)) s → wpAny (model X.prog X.w) X.A (f (.int i t) (.int j u)) Q E s) :
    OpR X f (rI0 fun i j => .bl (g i j)) := by
  intro pins s σ H x y v u Q I rx ry h
  obtain ⟨i, j, rfl, rfl, q⟩ := h
  obtain ⟨t, rfl⟩ := rx
  obtain ⟨t', rfl⟩ := ry
  exact rule i j t t' s _ _ ⟨.bl (g i j), H, I, rfl, q⟩
def CDiv (i j : Int) : Prop := 0 < j ∧ j < 1073741824
def CPow (i j : Int) : Prop := 0 ≤ j ∧ j ≤ 1000000 ∧ i.natAbs < 2 ^ 64
def CMul (i j : Int) : Prop := (-(2 ^ 64) < i ∧ i < 2 ^ 64) ∨ (-(2 ^ 64) < j ∧ j < 2 ^ 64)
theorem CMul.ok {i j : Int} (h : CMul i j) : IntMulOk i j := by
  rcases h with ⟨h1, h2⟩ | ⟨h1, h2⟩
  · exact .of_left (intBits_le_64 h1 h2)
  · exact .of_right (intBits_le_64 h1 h2)
theorem op_add : OpR X (binaryOp .Add) (rI0 fun i j => .int (i + j)) := opI0 fun _ _ _ _ _ _ _ q => add_int q
theorem op_sub : OpR X (binaryOp .Sub) (rI0 fun i j => .int (i - j)) := opI0 fun _ _ _ _ _ _ _ q => sub_int q
theorem op_mul : OpR X (binaryOp .Mult) (rI CMul fun i j => .int (i * j)) := opI fun _ _ _ _ _ _ _ hc q => mul_int q hc.ok
theorem op_fdiv : OpR X (binaryOp .FloorDiv) (rI CDiv fun i j => .int (i / j)) := opI fun i j _ _ _ _ _ hc q => by
  have h1 : (0 : Int) < j := hc.1
  have h2 : j < 1073741824 := hc.2
  exact floordiv_int (by omega) (by rw [Int.fdiv_eq_ediv_of_nonneg i (by omega)]; exact q) (.inl (PyProof.noPylong_small (by omega)))
theorem op_mod : OpR X (binaryOp .Mod) (rI (fun _ j => 0 < j) fun i j => .int (i % j)) := opI fun i j _ _ _ _ _ hc q => by
  have h1 : (0 : Int) < j := hc
  exact mod_int' (by omega) (by rw [Int.fmod_eq_emod_of_nonneg i (by omega)]; exact q)
theorem unI {f : Value → Sem Value} {g : Int → Int}
    (rule : ∀ (i : Int) (t : Tok) (s : Shared) (Q : Value → Shared → Prop) (E : Value → Shared → Prop), Q (.int (g i) s.toks) { s with toks := s.toks + 1 } → wpAny (model X.prog X.w) X.A (f (.int i t)) Q E s) :
    UnR X f (rU fun i => .int (g i)) := by
  intro pins s σ H x v Q I rx h
  obtain ⟨i, rfl, q⟩ := h
  obtain ⟨t, rfl⟩ := rx
  exact rule i t s _ _ ⟨.int (g i), H, I.tok _, ⟨_, rfl⟩, q⟩
theorem un_neg : UnR X (unaryOp .USub) (rU fun i => .int (-i)) := unI fun _ _ _ _ _ q => neg_int q
end
def scal : V → V → Bool
  | .non, .non => true | .non, .int _ => true | .int _, .non => true | .non, .bl _ => true | .bl _, .non => true | .non, .str _ => true | .str _, .non => true
  | .int _, .int _ => true | .bl _, .bl _ => true | .str _, .str _ => true | .byt _, .byt _ => true
  | .int _, .str _ => true | .str _, .int _ => true | .bl _, .str _ => true | .str _, .bl _ => true
  | _, _ => false
def rEq : R2 := fun x y H Q => scal x y = true ∧ Q (.bl (decide (x = y))) H
def rNe : R2 := fun x y H Q => scal x y = true ∧ Q (.bl (!decide (x = y))) H
theorem dec_int {i j : Int} : decide (V.int i = V.int j) = (i == j) := by
  rw [Bool.eq_iff_iff]
  simp
theorem dec_bl {i j : Bool} : decide (V.bl i = V.bl j) = (i == j) := by
  rw [Bool.eq_iff_iff]
  simp
theorem dec_str {i j : Str} : decide (V.str i = V.str j) = (i == j) := by
  rw [Bool.eq_iff_iff]
  simp
theorem dec_byt {i j : Array UInt8} : decide (V.byt i = V.byt j) = (i.toList == j.toList) := by
  rw [Bool.eq_iff_iff]
  cases i
  cases j
  simp
section
variable {X : Cx} {a b c : Expr} {ta tb tc : TE} {pos : Pos}
theorem fin_bl {pins : List (Addr × Obj)} {σ : St} {H : Hp} {s : Shared} {Q : VK} {k k' : Bool} (I : Inv X pins σ H s) (q : Q (.bl k) H) (e : k = k') : EP X pins σ Q (.bool k') s := by
  subst e
  exact ⟨.bl k, H, I, rfl, q⟩
theorem op_eq : OpR X (compareOp .Eq) rEq := by
  intro pins s σ H x y v u Q I rx ry h
  obtain ⟨hs, q⟩ := h
  cases x with
  | non =>
    cases rx
    cases y with
    | non => cases ry; exact PySem.EqNone.eq_none_none (fin_bl I q (by simp))
    | bl j => cases ry; exact PySem.EqNone.eq_none_bool (fin_bl I q (by simp))
    | int j => obtain ⟨t', rfl⟩ := ry; exact PySem.EqNone.eq_none_int (fin_bl I q (by simp))
    | str j => obtain ⟨t', rfl⟩ := ry; exact PySem.EqNone.eq_none_str (fin_bl I q (by simp))
    | _ => exact absurd (show false = true from hs) Bool.false_ne_true
  | bl i =>
    cases rx
    cases y with
    | non => cases ry; exact PySem.EqNone.eq_bool_none (fin_bl I q (by simp))
    | bl j => cases ry; exact eq_bool (fin_bl I q dec_bl)
    | str j => obtain ⟨t', rfl⟩ := ry; exact PySem.EqMixed.eq_bool_str (fin_bl I q (by simp))
    | _ => exact absurd (show false = true from hs) Bool.false_ne_true
  | int i =>
    obtain ⟨t, rfl⟩ := rx
    cases y with
    | non => cases ry; exact PySem.EqNone.eq_int_none (fin_bl I q (by simp))
    | int j => obtain ⟨t', rfl⟩ := ry; exact eq_int (fin_bl I q dec_int)
    | str j => obtain ⟨t', rfl⟩ := ry; exact PySem.EqMixed.eq_int_str (fin_bl I q (by simp))
    | _ => exact absurd (show false = true from hs) Bool.false_ne_true
  | str i =>
    obtain ⟨t, rfl⟩ := rx
    cases y with
    | non => cases ry; exact PySem.EqNone.eq_str_none (fin_bl I q (by simp))
    | bl j => cases ry; exact PySem.EqMixed.eq_str_bool (fin_bl I q (by simp))
    | int j => obtain ⟨t', rfl⟩ := ry; exact PySem.EqMixed.eq_str_int (fin_bl I q (by simp))
    | str j => obtain ⟨t', rfl⟩ := ry; exact eq_str (fin_bl I q dec_str)
    | _ => exact absurd (show false = true from hs) Bool.false_ne_true
  | byt i =>
    obtain ⟨t, rfl⟩ := rx
    cases y with
    | byt j => obtain ⟨t', rfl⟩ := ry; exact PySem.W.eq_bytes (fin_bl I q dec_byt)
    | _ => exact absurd (show false = true from hs) Bool.false_ne_true
  | _ => cases y <;> exact absurd (show false = true from hs) Bool.false_ne_true
theorem op_ne : OpR X (compareOp .NotEq) rNe := by
  intro pins s σ H x y v u Q I rx ry h
  obtain ⟨hs, q⟩ := h
  cases x with
  | non =>
    cases rx
    cases y with
    | non => cases ry; exact PySem.EqNone.ne_none_none (fin_bl I q (by simp))
    | bl j => cases ry; exact PySem.EqNone.ne_none_bool (fin_bl I q (by simp))
    | int j => obtain ⟨t', rfl⟩ := ry; exact PySem.EqNone.ne_none_int (fin_bl I q (by simp))
    | str j => obtain ⟨t', rfl⟩ := ry; exact PySem.EqNone.ne_none_str (fin_bl I q (by simp))
    | _ => exact absurd (show false = true from hs) Bool.false_ne_true
  | bl i =>
    cases rx
    cases y with
    | non => cases ry; exact PySem.EqNone.ne_bool_none (fin_bl I q (by simp))
    | bl j => cases ry; exact ne_bool (fin_bl I q (congrArg not dec_bl))
    | str j => obtain ⟨t', rfl⟩ := ry; exact PySem.EqMixed.ne_bool_str (fin_bl I q (by simp))
    | _ => exact absurd (show false = true from hs) Bool.false_ne_true
  | int i =>
    obtain ⟨t, rfl⟩ := rx
    cases y with
    | non => cases ry; exact PySem.EqNone.ne_int_none (fin_bl I q (by simp))
    | int j => obtain ⟨t', rfl⟩ := ry; exact ne_int (fin_bl I q (congrArg not dec_int))
    | str j => obtain ⟨t', rfl⟩ := ry; exact PySem.EqMixed.ne_int_str (fin_bl I q (by simp))
    | _ => exact absurd (show false = true from hs) Bool.false_ne_true
  | str i =>
    obtain ⟨t, rfl⟩ := rx
    cases y with
    | non => cases ry; exact PySem.EqNone.ne_str_none (fin_bl I q (by simp))
    | bl j => cases ry; exact PySem.EqMixed.ne_str_bool (fin_bl I q (by simp))
    | int j => obtain ⟨t', rfl⟩ := ry; exact PySem.EqMixed.ne_str_int (fin_bl I q (by simp))
    | str j => obtain ⟨t', rfl⟩ := ry; exact ne_str (fin_bl I q (congrArg not dec_str))
    | _ => exact absurd (show false = true from hs) Bool.false_ne_true
  | byt i =>
    obtain ⟨t, rfl⟩ := rx
    cases y with
    | byt j => obtain ⟨t', rfl⟩ := ry; exact PySem.W.ne_bytes (fin_bl I q (congrArg not dec_byt))
    | _ => exact absurd (show false = true from hs) Bool.false_ne_true
  | _ => cases y <;> exact absurd (show false = true from hs) Bool.false_ne_true
theorem op_lt : OpR X (compareOp .Lt) (rI0 fun i j => .bl (decide (i < j))) := opB0 fun _ _ _ _ _ _ _ q => lt_int q
theorem op_gt : OpR X (compareOp .Gt) (rI0 fun i j => .bl (decide (j < i))) := opB0 fun _ _ _ _ _ _ _ q => gt_int q
theorem op_lt_str : OpR X (compareOp .Lt) (fun x y H Q => ∃ i j, x = .str i ∧ y = .str j ∧ Q (.bl (decide (i.cps.toList < j.cps.toList))) H) := by
  intro pins s σ H x y v u Q I rx ry h
  obtain ⟨i, j, rfl, rfl, q⟩ := h
  obtain ⟨t, rfl⟩ := rx
  obtain ⟨t', rfl⟩ := ry
  exact lt_str (fin_bl I q rfl)
theorem op_in_str : OpR X (compareOp .In) (fun x y H Q => ∃ i j, x = .str i ∧ y = .str j ∧ Q (.bl (!(Builtin.Str.occurrences j i 0 j.length 1).isEmpty)) H) := by
  intro pins s σ H x y v u Q I rx ry h
  obtain ⟨i, j, rfl, rfl, q⟩ := h
  obtain ⟨t, rfl⟩ := rx
  obtain ⟨t', rfl⟩ := ry
  exact in_str (fin_bl I q rfl)
theorem op_isN : OpR X (compareOp .Is) (fun x y H Q => y = .non ∧ Q (.bl (decide (x = .non))) H) := by
  intro pins s σ H x y v u Q I rx ry h
  obtain ⟨rfl, q⟩ := h
  cases ry
  refine is_none_gen (fin_bl I q ?_)
  cases x <;> first
    | (cases rx; rfl)
    | (obtain ⟨t, rfl⟩ := rx; rfl)
theorem op_notN : OpR X (compareOp .IsNot) (fun x y H Q => y = .non ∧ Q (.bl (!decide (x = .non))) H) := by
  intro pins s σ H x y v u Q I rx ry h
  obtain ⟨rfl, q⟩ := h
  cases ry
  refine isnot_none_gen (fin_bl I q ?_)
  cases x <;> first
    | (cases rx; rfl)
    | (obtain ⟨t, rfl⟩ := rx; rfl)
theorem op_notin_str : OpR X (compareOp .NotIn) (fun x y H Q => ∃ i j, x = .str i ∧ y = .str j ∧ Q (.bl (!(!(Builtin.Str.occurrences j i 0 j.length 1).isEmpty))) H) := by
  intro pins s σ H x y v u Q I rx ry h
  obtain ⟨i, j, rfl, rfl, q⟩ := h
  obtain ⟨t, rfl⟩ := rx
  obtain ⟨t', rfl⟩ := ry
  exact notIn_str (fin_bl I q rfl)
theorem OpR.or {f : Value → Value → Sem Value} {r r' : R2} (h : OpR X f r) (h' : OpR X f r') : OpR X f (fun x y H Q => r x y H Q ∨ r' x y H Q) := by
  intro pins s σ H x y v u Q I rx ry q
  rcases q with q | q
  · exact h pins s σ H x y v u Q I rx ry q
  · exact h' pins s σ H x y v u Q I rx ry q
theorem nomark (b : Expr) {op : CmpOp} (h : op ≠ .In := by decide) (h2 : op ≠ .NotIn := by decide) : behindInMarks op b = false := by
  have e1 : (op == CmpOp.In) = false := by cases op <;> first | rfl | exact absurd rfl h
  have e2 : (op == CmpOp.NotIn) = false := by cases op <;> first | rfl | exact absurd rfl h2
  cases b <;> simp [behindInMarks, e1, e2]
theorem pe_cmpR {op : CmpOp} {r : R2} (ho : OpR X (compareOp op) r) (ha : PE X a ta) (hb : PE X b tb) (hm : behindInMarks op b = false) : PE X (.Compare a [op] [b] pos) (tOp r ta tb) := by
  intro pins s σ H Q I h
  exact wpAny_Compare1 (binT ha hb I h fun v u s2 x y H2 I2 rx ry q => ho pins s2 σ H2 x y v u Q I2 rx ry q) hm
def tTest (t : TE) : TT := fun σ H Q => t σ H fun x H' => ∃ k, x = .bl k ∧ Q k H'
theorem pt_cmpR {op : CmpOp} {r : R2} (ho : OpR X (compareOp op) r) (ha : PE X a ta) (hb : PE X b tb) (hm : behindInMarks op b = false) : PT X (.Compare a [op] [b] pos) (tTest (tOp r ta tb)) := by
  intro pins s σ H Q I h
  refine wpAny_isTrue_Compare1 (thn (ha pins s σ H _ I h) fun v s1 ⟨x, H1, I1, r1, q1⟩ => thn (hb pins s1 σ H1 _ I1 q1) fun u s2 ⟨y, H2, I2, r2, q2⟩ =>
    thn (ho pins s2 σ H2 x y v u _ I2 r1 r2 q2) fun c s3 ⟨z, H3, I3, r3, k, e, q3⟩ => ?_) hm
  subst e
  cases r3
  exact wpAny_truthy_bool ⟨H3, I3, q3⟩
def tChain (r r' : R2) (ta tb tc : TE) : TE := fun σ H Q => ta σ H fun x H1 => tb σ H1 fun y H2 => r x y H2 fun z H3 => ∃ k, z = .bl k ∧
  (if k = true then tc σ H3 fun w' H4 => r' y w' H4 Q else Q (.bl false) H3)
theorem line63 : (sizeLine : Nat) < 2 ^ 63 := by rw [sizeLine_eq]; decide
theorem op_add_str : OpR X (binaryOp .Add) (fun x y H Q => ∃ i j, x = .str i ∧ y = .str j ∧ i.length + j.length ≤ sizeLine ∧ Q (.str (i ++ j)) H) := by
  intro pins s σ H x y v u Q I rx ry h
  obtain ⟨i, j, rfl, rfl, hz, q⟩ := h
  obtain ⟨t, rfl⟩ := rx
  obtain ⟨t', rfl⟩ := ry
  exact add_str (fun t' tk => ⟨.str (i ++ j), H, I.tok _, ⟨_, rfl⟩, q⟩) hz
theorem vals1 {x : V} {us : List Value} (r : Vals [x] us) : ∃ u, us = [u] ∧ RelV x u := by
  cases r with
  | cons r1 r2 => cases r2; exact ⟨_, rfl, r1⟩
theorem vals2 {x y : V} {us : List Value} (r : Vals [x, y] us) : ∃ u w', us = [u, w'] ∧ RelV x u ∧ RelV y w' := by
  cases r with
  | cons r1 r2 =>
    cases r2 with
    | cons r3 r4 => cases r4; exact ⟨_, _, rfl, r1, r3⟩
def LenV (K : PySem.W.Frag) (x : V) (H : Hp) (n : Nat) : Prop :=
  match x with
  | .str y => y.length ≤ sizeLine ∧ n = y.length
  | .byt y => y.size ≤ sizeLine ∧ n = y.size
  | .ref p => (∃ xs, SqL K H p xs ∧ n = xs.length) ∨ ∃ xs, SqT K H p xs ∧ n = xs.length
  | _ => False
theorem call_len : CallR X (.builtin "len") (fun xs H Q => ∃ x n, xs = [x] ∧ LenV X.K x H n ∧ Q (.int n) H) := by
  intro pins s σ H xs us Q I r h
  obtain ⟨x, n, rfl, e, q⟩ := h
  obtain ⟨u, rfl, rx⟩ := vals1 r
  have hl := line63
  have hs : sizeLine = 16777216 := sizeLine_eq
  cases x with
  | str y =>
    obtain ⟨t, rfl⟩ := rx
    obtain ⟨hy, e'⟩ : y.length ≤ sizeLine ∧ n = y.length := e
    subst e'
    exact len_str (by omega) ⟨.int _, H, I.tok _, ⟨_, rfl⟩, q⟩
  | byt y =>
    obtain ⟨t, rfl⟩ := rx
    obtain ⟨hy, e'⟩ : y.size ≤ sizeLine ∧ n = y.size := e
    subst e'
    exact PySem.W.len_bytes (by omega) ⟨.int _, H, I.tok _, ⟨_, rfl⟩, q⟩
  | ref p =>
    cases rx
    have e' : (∃ xs, SqL X.K H p xs ∧ n = xs.length) ∨ ∃ xs, SqT X.K H p xs ∧ n = xs.length := e
    rcases e' with ⟨xs, hx, e'⟩ | ⟨xs, hx, e'⟩
    · subst e'
      obtain ⟨its, r', pl, hz⟩ := I.list hx
      have hlen := r'.length
      exact Calls.call_len_list pl.isList (by simp only [List.size_toArray]; omega) ⟨.int xs.length, H, I.tok _, ⟨_, by simp only [List.size_toArray]; rw [hlen]⟩, q⟩
    · subst e'
      obtain ⟨its, r', pl, hz⟩ := I.tuple hx
      have hlen := r'.length
      exact len_tuple pl (by simp only [List.size_toArray]; omega) ⟨.int xs.length, H, I.tok _, ⟨_, by simp only [List.size_toArray]; rw [hlen]⟩, q⟩
  | _ => exact (show False from e).elim
end
end L2
namespace L2
open PySem PySem.Spec PyProof.Rows
structure ObjM (h : Heap) (x dx C : Addr) (mA : Str → Option Value) : Prop where
  obj : h.get? x = some (PySem.W.instObj C dx)
  ns : h.Ns1 dx mA
  ne : dx ≠ x
theorem lookIn_ns {h : Heap} {dx : Addr} {mA : Str → Option Value} (n : h.Ns1 dx mA) : ∃ od, h.get? dx = some od ∧ ∀ name, PySem.W.lookIn name od = some (mA name) := by
  obtain ⟨o, es, ep, ho, hd, hk, _, hm⟩ := n
  refine ⟨o, ho, fun name => ?_⟩
  have e := hm name
  unfold nsFind findBy at e
  rw [← Array.find?_toList] at e
  unfold PySem.W.lookIn
  rw [hd]
  dsimp only
  split
  · rename_i y q
    rw [q] at e
    exact congrArg some e
  · rename_i q
    rw [q] at e
    have a : es.toList.any (·.refKey) = false := by
      rw [List.any_eq_false]
      intro y hy
      obtain ⟨z, t, hkey⟩ := hk y (Array.mem_toList_iff.mp hy)
      simp [DictEntry.refKey, hkey]
    have a' : ¬ es.toList.any (·.refKey) = true := by rw [a]; exact Bool.false_ne_true
    rw [if_neg a']
    exact congrArg some e
theorem ObjM.look {h : Heap} {x dx C : Addr} {mA : Str → Option Value} (I : ObjM h x dx C mA) : ∃ od, PySem.W.InstAt h x (PySem.W.instObj C dx) C (some od) ∧ ∀ name, PySem.W.lookIn name od = some (mA name) :=
  let ⟨od, ho, hl⟩ := lookIn_ns I.ns
  ⟨od, ⟨I.obj, rfl, rfl, ho⟩, hl⟩
section
variable {prog : Program} {w : World} {A : Around} {E : Value → Shared → Prop} {s : Shared} {K : PySem.W.Frag} {x dx C f : Addr} {mA : Str → Option Value} {name : Str} {v : Value}
end
def putF (f : Str) (v : V) : List (Str × V) → List (Str × V)
  | [] => [(f, v)]
  | (g, x) :: r => if g = f then (g, v) :: r else (g, x) :: putF f v r
theorem RelO.some_of {v : V} {o : Option Value} (r : RelO (some v) o) : ∃ u, o = some u ∧ RelV v u := by
  cases o with
  | none => exact (show False from r).elim
  | some u => exact ⟨u, rfl, r⟩
section
variable {P : Program} {w : World} {H H' : Hp} {h h' : Heap} {a C dx : Addr} {fs fs' : List (Str × V)}
theorem ins_get (hok : HOk P w H h) (e : H a = some (.ins C dx fs)) : ∃ mA, ObjM h a dx C mA ∧ (∀ f, RelO (fs.lookup f) (mA f)) ∧ PySem.Within mA (fs.map (·.1)) ∧ fs.length ≤ 1000 ∧ H dx = some (.own a) := by
  obtain ⟨d, z, ne, ob, mA, n, r, q⟩ := (show ObjOk P w H h a (.ins C dx fs) from hok a _ e)
  exact ⟨mA, ⟨ob, n, ne⟩, r, q, z, d⟩
end
structure Cls (K : PySem.W.Frag) (C : Addr) : Prop where
  pg : PySem.W.plainGet K C Str.empty = true
  hd : PySem.W.hasDictIn K C = true
  po : PySem.W.plainOver K C = true
  sa : PySem.W.findIn K (.ref C) "__setattr__" = some (some (.builtin "object.__setattr__"))
theorem Cls.get {K : PySem.W.Frag} {C : Addr} (c : Cls K C) (f : Str) : PySem.W.plainGet K C f = true := c.pg
def NoAttr (K : PySem.W.Frag) (C : Addr) (f : Str) : Prop := PySem.W.findIn K (.ref C) f = some none
section
variable {X : Cx} {pins : List (Addr × Obj)} {σ : St} {H : Hp} {s : Shared} {a C dx : Addr} {fs : List (Str × V)} {f : Str} {v : V} {A : Around} {E : Value → Shared → Prop}
end
def tFld (K : PySem.W.Frag) (ta : TE) (f : Str) : TE := fun σ H Q => ta σ H fun x H1 => ∃ a C dx fs v, x = .ref a ∧ H1 a = some (.ins C dx fs) ∧ Cls K C ∧ NoAttr K C f ∧ fs.lookup f = some v ∧ Q v H1
def sFld (K : PySem.W.Frag) (ta tv : TE) (f : Str) : TS := fun D σ H => tv σ H fun y H1 => ta σ H1 fun x H2 => ∃ a C dx fs, x = .ref a ∧ H2 a = some (.ins C dx fs) ∧ Cls K C ∧ NoAttr K C f ∧ fs.length < 1000 ∧
  D.nx σ (upd H2 a (.ins C dx (putF f y fs)))
section
variable {X : Cx} {o e value : Expr} {f : Str} {pos pos' tpos : Pos} {ta tv : TE}
end
section
variable {X : Cx} {pins : List (Addr × Obj)} {σ : St} {H : Hp} {s : Shared} {A : Around} {E : Value → Shared → Prop} {Q : Value → Shared → Prop} {c : Value} {b : Bool}
inductive TyOf (K : PySem.W.Frag) (H : Hp) : V → Value → Prop where
  | non : TyOf K H .non (.type "NoneType")
  | bl (x : Bool) : TyOf K H (.bl x) (.type "bool")
  | int (i : Int) : TyOf K H (.int i) (.type "int")
  | str (x : Str) : TyOf K H (.str x) (.type "str")
  | flt (x : UInt64) : TyOf K H (.flt x) (.type "float")
  | lst {a : Addr} {xs : List V} (e : H a = some (.lst xs)) : TyOf K H (.ref a) (.type "list")
  | frz {a : Addr} {o : Obj} {xs : List V} (e : H a = some (.frz o (.lst xs))) : TyOf K H (.ref a) (.type "list")
  | tup {a : Addr} {xs : List V} (e : H a = some (.tup xs)) : TyOf K H (.ref a) (.type "tuple")
  | dK {a : Addr} {kvs : List (Key × V)} (e : H a = some (.dK kvs)) : TyOf K H (.ref a) (.type "dict")
  | dT {a : Addr} {kvs : List (List Key × V)} (e : H a = some (.dT kvs)) : TyOf K H (.ref a) (.type "dict")
  | ins {a C dx : Addr} {fs : List (Str × V)} (e : H a = some (.ins C dx fs)) (cl : Cls K C) (ha : PySem.W.findIn K (.ref C) "__class__" = some (some (.builtin "object.__class__")))
      (hn : PySem.W.specialIn K (.builtin "object.__class__") "__get__" = some (some (.builtin "getset_descriptor.__get__"))) (htk : PySem.W.takesIn K (.builtin "object.__class__") = some true)
      (hm : PySem.W.mroIn K C (.type "object") = some true) : TyOf K H (.ref a) (.ref C)
theorem isinst_ok {x : V} {u t : Value} (I : Inv X pins σ H s) (rx : RelV x u) (ty : TyOf X.K H x t) (e : PySem.W.kitOne X.K t c = some b) (h : ∀ tk, Q (.bool b) { s with toks := tk }) :
    wpAny (model X.prog X.w) A (call (.builtin "isinstance") [u, c]) Q E s := by
  cases ty with
  | non => cases (show u = Value.none from rx); exact PySem.W.kia_one PySem.W.kitx_none I.kIn True.intro e (fun z => nomatch z) h
  | bl y => cases (show u = Value.bool y from rx); exact PySem.W.kia_one PySem.W.kitx_bool I.kIn True.intro e (fun z => nomatch z) h
  | int i => obtain ⟨t, q⟩ := (show ∃ t, u = Value.int i t from rx); cases q; exact PySem.W.kia_one PySem.W.kitx_int I.kIn True.intro e (fun z => nomatch z) h
  | str y => obtain ⟨t, q⟩ := (show ∃ t, u = Value.str y t from rx); cases q; exact PySem.W.kia_one PySem.W.kitx_str I.kIn True.intro e (fun z => nomatch z) h
  | flt y => obtain ⟨t, q⟩ := (show ∃ t, u = Value.float y t from rx); cases q; exact PySem.W.kia_one PySem.W.kitx_float I.kIn True.intro e (fun z => nomatch z) h
  | @lst a xs ea =>
    cases (show u = Value.ref a from rx)
    obtain ⟨_, _, n, _, h1⟩ := (show ObjOk X.prog X.w H s.heap a (.lst xs) from I.hok a _ ea)
    exact PySem.W.kia_one PySem.W.kitx_list I.kIn ⟨_, h1, rfl⟩ e (fun z => nomatch z) h
  | @frz a ob xs ea =>
    cases (show u = Value.ref a from rx)
    obtain ⟨_, _, _, n, _, h1⟩ := (show ObjOk X.prog X.w H s.heap a (.frz ob (.lst xs)) from I.hok a _ ea)
    exact PySem.W.kia_one PySem.W.kitx_list I.kIn ⟨_, h1, rfl⟩ e (fun z => nomatch z) h
  | @tup a xs ea =>
    cases (show u = Value.ref a from rx)
    obtain ⟨_, _, _, p⟩ := (show ObjOk X.prog X.w H s.heap a (.tup xs) from I.hok a _ ea)
    obtain ⟨o, h1, h2, _⟩ := p
    exact PySem.W.kia_one PySem.W.kitx_tuple I.kIn ⟨o, h1, h2⟩ e (fun z => nomatch z) h
  | @dK a kvs ea =>
    cases (show u = Value.ref a from rx)
    obtain ⟨_, _, vs, _, p⟩ := (show ObjOk X.prog X.w H s.heap a (.dK kvs) from I.hok a _ ea)
    obtain ⟨o, es, ep, h1, h2, _⟩ := p
    exact PySem.W.kia_one PySem.W.kitx_dict I.kIn ⟨o, h1, h2.1⟩ e (fun z => nomatch z) h
  | @dT a kvs ea =>
    cases (show u = Value.ref a from rx)
    obtain ⟨_, _, xs, _, o, es, ep, h1, h2, _⟩ := (show ObjOk X.prog X.w H s.heap a (.dT kvs) from I.hok a _ ea)
    exact PySem.W.kia_one PySem.W.kitx_dict I.kIn ⟨o, h1, h2.1⟩ e (fun z => nomatch z) h
  | @ins a C dx fs ea cl ha hn htk hm =>
    cases (show u = Value.ref a from rx)
    obtain ⟨mA, O, _⟩ := ins_get I.hok ea
    obtain ⟨od, J, _⟩ := O.look
    exact PySem.W.kia_one (PySem.W.kitx_own (cl.get _) cl.hd ha hn htk hm) I.kIn J e (fun z => nomatch z) h
end
end L2
namespace L2
open PySem PySem.Spec PyProof.Rows
structure Room (k : Nat) (A : Around) : Prop where
  hd : A.handled = none
  dp : A.depth + 3 * k + 5 < recursionLimit
  un : A.units + 16 * k + 200 < cLine
theorem Room.mono {j k : Nat} {A : Around} (r : Room k A) (h : j ≤ k) : Room j A := ⟨r.hd, by have := r.dp; omega, by have := r.un; omega⟩
theorem Room.deeper {k : Nat} {A : Around} (r : Room (k + 1) A) (env : Env) : Room k (A.deeper env) :=
  ⟨r.hd, by have := r.dp; show A.depth + 1 + 3 * k + 5 < _; omega, by have := r.un; show A.units + 3 + 16 * k + 200 < _; omega⟩
theorem Room.in1 {k : Nat} {A : Around} (r : Room (k + 1) A) : Room k A.in1 :=
  ⟨r.hd, by have := r.dp; show A.depth + 3 * k + 5 < _; omega, by have := r.un; show A.units + 1 + 16 * k + 200 < _; omega⟩
theorem Room.depth {k : Nat} {A : Around} (r : Room k A) : A.depth < recursionLimit := by have := r.dp; omega
theorem Room.units {k : Nat} {A : Around} (r : Room k A) : A.units + 64 < cLine := by have := r.un; omega
def tNil : TA := fun _ H Q => Q [] H
def tCons (ta : TE) (tr : TA) : TA := fun σ H Q => ta σ H fun x H1 => tr σ H1 fun xs H2 => Q (x :: xs) H2
section
variable {X : Cx} {e : Expr} {es : List Expr} {te : TE} {t : TA} {pos : Pos}
theorem pa_nil : PA X [] tNil := fun _ _ _ _ H Q I h => Calls.spliced_nil ⟨[], H, I, .nil, h⟩
theorem pa_cons (ha : PE X e te) (hr : PA X es t) (hs : starEach (e :: es) X.env = (false, eval e X.env) :: starEach es X.env := by rfl) : PA X (e :: es) (tCons te t) := by
  intro pos pins s σ H Q I h
  rw [hs]
  show wpAny _ _ (spliced ((false, eval e X.env) :: backTo pos (starEach es X.env))) _ _ s
  refine Calls.spliced_cons (thn (ha pins s σ H _ I h) fun u s1 ⟨x, H1, I1, r1, q1⟩ => ?_)
  exact thn (hr pos pins s1 σ H1 _ I1 q1) fun us s2 ⟨xs, H2, I2, r2, q2⟩ => ⟨x :: xs, H2, I2, .cons r1 r2, q2⟩
def tTup (t : TA) : TE := fun σ H Q => t σ H fun xs H1 => xs.length ≤ sizeLine ∧ ∀ p, H1 p = none → Q (.ref p) (upd H1 p (.tup xs))
def tLst (t : TA) : TE := fun σ H Q => t σ H fun xs H1 => xs.length ≤ sizeLine ∧ ∀ p, H1 p = none → Q (.ref p) (upd H1 p (.lst xs))
theorem pe_tup {x1} (h : PA X es t) : PE X (.Tuple es x1 pos) (tTup t) := by
  intro pins s σ H Q I hq
  refine wpAny_Tuple_spliced (thn (h pos pins s σ H _ I hq) fun us s1 ⟨xs, H1, I1, r, z, q⟩ => ⟨by rw [← r.length]; exact z, ?_⟩)
  have hf : H1 s1.heap.objs.size = none := I1.hok.fresh (Nat.le_refl _)
  refine ⟨.ref s1.heap.objs.size, upd H1 s1.heap.objs.size (.tup xs), I1.laid (t' := s1.toks) (fun b u e => Heap.get?_push_of_some _ e) (Nat.le_refl _) ?_, rfl, q _ hf⟩
  exact ⟨z, us, r, ⟨_, Heap.get?_push_size _ rfl, rfl, _, rfl⟩⟩
theorem pe_lst (h : PA X es t) : PE X (.List es pos) (tLst t) := by
  intro pins s σ H Q I hq
  refine wpAny_List_spliced (thn (h pos pins s σ H _ I hq) fun us s1 ⟨xs, H1, I1, r, z, q⟩ => ⟨by rw [← r.length]; exact z, ?_⟩)
  have hf : H1 s1.heap.objs.size = none := I1.hok.fresh (Nat.le_refl _)
  refine ⟨.ref s1.heap.objs.size, upd H1 s1.heap.objs.size (.lst xs), I1.laid (t' := s1.toks) (fun b u e => Heap.get?_push_of_some _ e) (Nat.le_refl _) ?_, rfl, q _ hf⟩
  exact ⟨z, us, 0, r, Heap.get?_push_size _ rfl⟩
end
abbrev Sp := List V → Hp → VK → XK → Prop
abbrev CXT := List Env → Hp → Shared → XK → Value → Shared → Prop
structure Env0 (P : Program) (w : World) (K : PySem.W.Frag) (mg : Str → Option Value) (base : Heap) (A : Around) (outer : List Env) (s : Shared) (H : Hp) : Prop where
  frames : A.frames = some outer
  mod : Mod K mg base
  bs : ∀ b o, base.get? b = some o → s.heap.get? b = some o ∧ H b = none
  bsz : base.objs.size ≤ s.heap.objs.size
  funs : s.heap.FunFrames base outer
  frf : ∀ b ∈ frs outer, H b = none
  hok : HOk P w H s.heap
  bare : AllBare s.gens
def CE (outer : List Env) (P : Program) (w : World) (H : Hp) (s : Shared) (Q : VK) (u : Value) (s' : Shared) : Prop :=
  ∃ v H', s'.os = s.os ∧ AllBare s'.gens ∧ Un (frs outer) [] H H' s.heap s'.heap ∧ HOk P w H' s'.heap ∧ RelV v u ∧ Q v H'
def CR (CX : CXT) (outer : List Env) (P : Program) (w : World) (H : Hp) (s : Shared) (Q : VK) (E : XK) (r : Result) (s' : Shared) : Prop :=
  match r with
  | .ok (.ret u) => CE outer P w H s Q u s'
  | .ok _ => False
  | .error e => CX outer H s E e s'
structure FnOk (P : Program) (w : World) (K : PySem.W.Frag) (mg : Str → Option Value) (base : Heap) (CX : CXT) (k : Nat) (f : Addr) (fd : FuncData) (ps : List Str) (sp : Sp) : Prop where
  len : ∀ vs H Q E, sp vs H Q E → vs.length = ps.length
  run : ∀ (A : Around) (outer : List Env) (s : Shared) (H : Hp) (args : Args) (us : List Value) (vs : List V) (Q : VK) (E : XK), Room k A → Env0 P w K mg base A outer s H → BindsTo s fd args (ps.zip us) → Vals vs us → sp vs H Q E →
    codeAny (model P w) A (.call (.ref f) args) (CR CX outer P w H s Q E) s
theorem FnOk.mono {P : Program} {w : World} {K : PySem.W.Frag} {mg : Str → Option Value} {base : Heap} {CX : CXT} {j k : Nat} {f : Addr} {fd : FuncData} {ps : List Str} {sp : Sp} (F : FnOk P w K mg base CX j f fd ps sp) (h : j ≤ k) :
    FnOk P w K mg base CX k f fd ps sp := ⟨F.len, fun A outer s H args us vs Q E hr => F.run A outer s H args us vs Q E (hr.mono h)⟩
theorem FnOk.imp {P : Program} {w : World} {K : PySem.W.Frag} {mg : Str → Option Value} {base : Heap} {CX : CXT} {k : Nat} {f : Addr} {fd : FuncData} {ps : List Str} {sp sp' : Sp} (F : FnOk P w K mg base CX k f fd ps sp)
    (h : ∀ vs H Q E, sp' vs H Q E → sp vs H Q E) : FnOk P w K mg base CX k f fd ps sp' :=
  ⟨fun vs H Q E q => F.len vs H Q E (h _ _ _ _ q), fun A outer s H args us vs Q E hr he hb hv hs => F.run A outer s H args us vs Q E hr he hb hv (h _ _ _ _ hs)⟩
theorem Env0.in1 {P : Program} {w : World} {K : PySem.W.Frag} {mg : Str → Option Value} {base : Heap} {A : Around} {outer : List Env} {s : Shared} {H : Hp} (e : Env0 P w K mg base A outer s H) :
    Env0 P w K mg base A.in1 outer s H := ⟨e.frames, e.mod, e.bs, e.bsz, e.funs, e.frf, e.hok, e.bare⟩
section
variable {X : Cx} {pins : List (Addr × Obj)} {σ : St} {H : Hp} {s s' : Shared}
theorem Inv.env0 (I : Inv X pins σ H s) : Env0 X.prog X.w X.K X.mg X.base X.A X.stack s H :=
  ⟨I.ok.frames, I.ok.mod, I.bs, Nat.le_trans I.ok.bsz I.sz, I.stack, I.stkFree, I.hok, I.bare⟩
theorem Inv.after {Q : VK} {u : Value} (I : Inv X pins σ H s) (h : CE X.stack X.prog X.w H s Q u s') : EP X pins σ Q u s' := by
  obtain ⟨v, H', os, bare, un, hok, r, q⟩ := h
  obtain ⟨hh, g, d, t, os'⟩ := s'
  obtain rfl : os' = s.os := os
  exact ⟨v, H', I.call (h' := hh) (g' := g) (d' := d) (t' := t) (ch := []) un hok bare (fun b z => absurd z (by simp)), r, q⟩
end
def tCall (sp : Sp) (dvs : List V) (E : XK) (t : TA) : TE := fun σ H Q => t σ H fun vs H1 => sp (vs ++ dvs) H1 Q E
def tMeth (C : Addr) (m : Str) (sp : Sp) (dvs : List V) (E : XK) (ta : TE) (t : TA) : TE := fun σ H Q => ta σ H fun x H1 => ∃ a dx fs, x = .ref a ∧ H1 a = some (.ins C dx fs) ∧ fs.lookup m = none ∧
  t σ H1 fun vs H2 => sp (x :: (vs ++ dvs)) H2 Q E
def tMake (C : Addr) (sp : Sp) (dvs : List V) (E : XK) (t : TA) : TE := fun σ H Q => t σ H fun vs H1 => ∀ x dx, H1 x = none → H1 dx = none → dx ≠ x →
  sp (.ref x :: (vs ++ dvs)) (upd (upd H1 dx (.own x)) x (.ins C dx [])) (fun v H2 => v = .non ∧ Q (.ref x) H2) E
def Binds (K : PySem.W.Frag) (fd : FuncData) (ps : List Str) (ds : List Value) : Prop :=
  ∀ (s : Shared) (us : List Value), K.In s.heap → (us ++ ds).length = ps.length → BindsTo s fd ⟨us, []⟩ (ps.zip (us ++ ds))
theorem Binds.all {K : PySem.W.Frag} {fd : FuncData} {ps : List Str} (h : ∀ us : List Value, us.length = ps.length → bindArgs fd ⟨us, []⟩ = pure (ps.zip us)) : Binds K fd ps [] := fun s us _ hl => by
  rw [List.append_nil] at hl ⊢
  exact .of_eq (h us hl)
def Passes (CX : CXT) (X : Cx) (E : XK) : Prop := ∀ (pins : List (Addr × Obj)) (σ : St) (H : Hp) (s : Shared) (e : Value) (s' : Shared), Inv X pins σ H s → CX X.stack H s E e s' → X.xe e s'
section
variable {X : Cx} {CX : CXT} {k : Nat} {f C : Addr} {fd : FuncData} {ps : List Str} {sp : Sp} {dvs : List V} {ds : List Value} {E : XK} {x m : Str} {p pos apos : Pos} {e o : Expr} {es : List Expr} {ta : TE} {t : TA}
theorem run_fn {pins : List (Addr × Obj)} {σ : St} {H : Hp} {s : Shared} {Q : VK} {us : List Value} {vs : List V} (F : FnOk X.prog X.w X.K X.mg X.base CX k f fd ps sp) (hr : Room k X.A) (hb : Binds X.K fd ps ds) (hd : Vals dvs ds) (hx : Passes CX X E)
    (I : Inv X pins σ H s) (r : Vals vs us) (h : sp (vs ++ dvs) H Q E) : wpAny (model X.prog X.w) X.A (call (.ref f) us) (EP X pins σ Q) X.xe s := by
  have r2 : Vals (vs ++ dvs) (us ++ ds) := r.append hd
  have hl : (us ++ ds).length = ps.length := by rw [← r2.length]; exact F.len _ _ _ _ h
  refine wpAny_call (codeAny_mono (F.run X.A X.stack s H ⟨us, []⟩ (us ++ ds) (vs ++ dvs) Q E hr I.env0 (hb s us I.kIn hl) r2 h) fun r s' hq => ?_)
  cases r with
  | error e => exact hx pins σ H s e s' I hq
  | ok fl =>
    cases fl with
    | ret u => exact I.after hq
    | next => exact False.elim hq
    | brk => exact False.elim hq
    | cont => exact False.elim hq
theorem pe_call (F : FnOk X.prog X.w X.K X.mg X.base CX k f fd ps sp) (hr : Room k X.A) (hg : Gl X x) (hm : X.mg x = some (.ref f)) (hk : PySem.W.keepIn X.K (.ref f) = true) (hb : Binds X.K fd ps ds) (hd : Vals dvs ds) (hx : Passes CX X E)
    (ha : PA X (e :: es) t) (hdb : (x == ("__debug__" : Str)) = false := by decide) (he : starEach (e :: es) X.env = (false, eval e X.env) :: starEach es X.env := by rfl) (hpl : (backTo pos (starEach es X.env)).any (·.1) = false := by rfl) :
    PE X (.Call (.Name x p) (e :: es) [] pos) (tCall sp dvs E t) := by
  intro pins s σ H Q I h
  refine wpAny_Call_Name_kw (ld_glob I hg hm ?_ hdb)
  refine PySem.W.callWith_K (h₀ := X.base) I.ok.mod.kin hk (thn (ha pos pins s σ H _ I h) fun us s1 ⟨vs, H1, I1, r, q⟩ => ⟨I1.kIn, ?_⟩) he hpl
  exact run_fn F hr hb hd hx I1 r q
end
section
variable {X : Cx} {CX : CXT} {k : Nat} {f C : Addr} {fd : FuncData} {ps ks : List Str} {sp : Sp} {E : XK} {x m : Str} {p pos apos kpos : Pos} {e o : Expr} {es : List Expr} {kws : List Keyword} {te ta : TE} {t tk : TA} {nm : Option Str}
variable {g : List Value → List Value → List Value} {gV : List V → List V → List V}
end
structure FnScope (N P : List Str) (sc : Scope) : Prop where
  kind : sc.kind = .function
  co : sc.isCoroutine = false
  gen : sc.isGenerator = false
  nd : N.Nodup
  pre : N.take P.length = P
  par : ∀ x ∈ P, sc.names.lookup x = some .local ∨ sc.names.lookup x = some .cell
  nofree : ∀ y ∈ sc.names, y.2 ≠ .free
theorem bindL_out {kindOf : Str → Option NameKind} {x : Str} : ∀ {binds : List (Str × Value)} {m : Str → Option Value}, (∀ v, (x, v) ∉ binds) → bindL kindOf binds m x = m x
  | [], _, _ => rfl
  | (n, v) :: r, m, h => by
    unfold bindL
    rw [bindL_out fun w hw => h w (List.mem_cons_of_mem _ hw)]
    split
    · have : x ≠ n := by rintro rfl; exact h v List.mem_cons_self
      simp [this]
    · rfl
theorem bindC_out {kindOf : Str → Option NameKind} {x : Str} : ∀ {binds : List (Str × Value)} {m : Str → Option Value}, (∀ v, (x, v) ∉ binds) → bindC kindOf binds m x = m x
  | [], _, _ => rfl
  | (n, v) :: r, m, h => by
    unfold bindC
    rw [bindC_out fun w hw => h w (List.mem_cons_of_mem _ hw)]
    split
    · rfl
    · have : x ≠ n := by rintro rfl; exact h v List.mem_cons_self
      simp [this]
theorem bindL_get {kindOf : Str → Option NameKind} {x : Str} {v : Value} : ∀ {P : List Str} {vs : List Value} {i : Nat} {m : Str → Option Value}, P.Nodup → P[i]? = some x → vs[i]? = some v → kindOf x = some .local →
    bindL kindOf (P.zip vs) m x = some v
  | [], _, _, _, _, h, _, _ => by simp at h
  | _ :: _, [], _, _, _, _, h, _ => by simp at h
  | p :: P, w :: vs, 0, m, nd, h1, h2, hk => by
    simp at h1 h2; subst h1; subst h2
    show bindL kindOf ((p, w) :: P.zip vs) m p = _
    unfold bindL
    rw [bindL_out fun v hv => (List.nodup_cons.mp nd).1 (List.of_mem_zip hv).1, if_pos hk]
    simp
  | p :: P, w :: vs, i + 1, m, nd, h1, h2, hk => by
    show bindL kindOf ((p, w) :: P.zip vs) m x = _
    unfold bindL
    exact bindL_get (i := i) (List.nodup_cons.mp nd).2 (by simpa using h1) (by simpa using h2) hk
theorem bindC_get {kindOf : Str → Option NameKind} {x : Str} {v : Value} : ∀ {P : List Str} {vs : List Value} {i : Nat} {m : Str → Option Value}, P.Nodup → P[i]? = some x → vs[i]? = some v → kindOf x ≠ some .local →
    bindC kindOf (P.zip vs) m x = some v
  | [], _, _, _, _, h, _, _ => by simp at h
  | _ :: _, [], _, _, _, _, h, _ => by simp at h
  | p :: P, w :: vs, 0, m, nd, h1, h2, hk => by
    simp at h1 h2; subst h1; subst h2
    show bindC kindOf ((p, w) :: P.zip vs) m p = _
    unfold bindC
    rw [bindC_out fun v hv => (List.nodup_cons.mp nd).1 (List.of_mem_zip hv).1, if_neg hk]
    simp
  | p :: P, w :: vs, i + 1, m, nd, h1, h2, hk => by
    show bindC kindOf ((p, w) :: P.zip vs) m x = _
    unfold bindC
    exact bindC_get (i := i) (List.nodup_cons.mp nd).2 (by simpa using h1) (by simpa using h2) hk
def start (N : List Str) (vs : List V) : St := vs.map some ++ List.replicate (N.length - vs.length) none
def cxOf (CX : CXT) (P : Program) (w : World) (K : PySem.W.Frag) (mg : Str → Option Value) (base : Heap) (N : List Str) (qual : Str) (scope : Scope) (f : Addr) (cd : Value) (A : Around) (outer : List Env) (s : Shared) (H : Hp) (E : XK) : Cx where
  prog := P
  w := w
  K := K
  mg := mg
  base := base
  A := A.deeper (envOfC qual scope s.heap.objs.size f cd)
  N := N
  s₀ := s
  H₀ := H
  env := envOfC qual scope s.heap.objs.size f cd
  outer := outer
  stack := envOfC qual scope s.heap.objs.size f cd :: outer
  ex := []
  calm := true
  fn := fun _ => true
  pn := []
  xe := fun e s' => wpAny (model P w) (A.deeper (envOfC qual scope s.heap.objs.size f cd)) (leaving (envOfC qual scope s.heap.objs.size f cd) e) (fun _ s'' => CX outer H s E e s'') (fun e' s'' => CX outer H s E e' s'') s'
theorem cell_has {sc : Scope} {n : Nat} {x : Str} (h : sc.names.lookup x = some .cell) : ∃ c, (cellsFrom n sc.names []).lookup x = some c := by
  have q := PySem.W.cellsFrom_some sc.names n [] (.inl h)
  exact Option.isSome_iff_exists.mp q
theorem inv_start {CX : CXT} {P : Program} {w : World} {K : PySem.W.Frag} {mg : Str → Option Value} {base : Heap} {N ps : List Str} {qual : Str} {scope : Scope} {f : Addr} {cd : Value} {A : Around} {outer : List Env} {s s1 : Shared} {H : Hp} {E : XK} {us : List Value} {vs : List V}
    (S : FnScope N ps scope) (hd : A.handled = none) (e0 : Env0 P w K mg base A outer s H) (hl : vs.length = ps.length) (r : Vals vs us)
    (x : InCallC s s.heap.objs.size (bindL (envOfC qual scope s.heap.objs.size f cd).kindOf (ps.zip us) fun _ => none) (cellsFrom (s.heap.objs.size + 1) scope.names []) (bindC (envOfC qual scope s.heap.objs.size f cd).kindOf (ps.zip us) fun _ => none) s1) :
    Inv (cxOf CX P w K mg base N qual scope f cd A outer s H E) [] (start N vs) H s1 := by
  have hpl : ps.length ≤ N.length := by have := congrArg List.length S.pre; rw [List.length_take] at this; omega
  obtain ⟨h1, tk, rfl, hk⟩ := x.done
  have noA : ∀ b : Addr, b ∉ (cxOf CX P w K mg base N qual scope f cd A outer s H E).ex := fun b z => absurd (show b ∈ ([] : List Addr) from z) (by simp)
  refine ⟨⟨e0.mod, S.kind, rfl, rfl, Nat.le_refl _, fun y z c h1 h2 => ?_, fun y hy => ?_, fun y c _ h => ?_, fun _ => hd, Around.frames_deeper e0.frames, .inr ⟨rfl, rfl⟩, fun b z => absurd z (noA b), e0.bs, e0.bsz, fun b _ _ => noA b, fun b z => absurd z (noA b), e0.funs, e0.frf⟩,
    rfl, e0.bare, Un.kept hk, ⟨_, x.toInCall.ns, fun i y v h1 h2 h3 => ?_⟩, fun y c h => ⟨_, x.cell y c h⟩, e0.hok.fresh (Nat.le_refl _), fun y c h => ?_, fun p hp => absurd (show p ∈ ([] : List (Addr × Obj)) from hp) (by simp), e0.hok.kept hk, ?_⟩
  · exact name_of_addr x.apart (PySem.mem_of_lookup h1) (PySem.mem_of_lookup h2)
  · have hy : scope.names.lookup y = some .cell ∨ scope.names.lookup y = some .free := hy
    rcases hy with hy | hy
    · exact cell_has hy
    · exact absurd rfl (S.nofree _ (PySem.mem_of_lookup hy))
  · exact Nat.le_of_lt (x.above y c (PySem.mem_of_lookup h))
  · have hi : i < vs.length := by
      unfold start at h2
      by_cases hi : i < vs.length
      · exact hi
      · rw [List.getElem?_append_right (by simpa using hi)] at h2
        rw [List.getElem?_replicate] at h2
        split at h2 <;> cases h2
    have ha : vs[i]? = some v := by
      unfold start at h2
      rw [List.getElem?_append_left (by simpa using hi), List.getElem?_map] at h2
      cases e : vs[i]? with
      | none => rw [e] at h2; cases h2
      | some a => rw [e] at h2; cases h2; rfl
    obtain ⟨u, hu, rv⟩ := r.get ha
    have hp : ps[i]? = some y := by
      rw [← S.pre, List.getElem?_take_of_lt (by omega)]; exact h1
    have ndP : ps.Nodup := by rw [← S.pre]; exact S.nd.sublist (List.take_sublist _ _)
    refine ⟨u, rv, ?_⟩
    rcases S.par y (List.mem_of_getElem? hp) with k | k
    · exact .inl ⟨k, bindL_get ndP hp hu k⟩
    · obtain ⟨c, e⟩ := cell_has (n := s.heap.objs.size + 1) k
      refine .inr ⟨.inl k, c, e, ?_⟩
      have q := x.cell y c e
      rw [bindC_get ndP hp hu (by show scope.names.lookup y ≠ _; rw [k]; decide)] at q
      exact q
  · exact e0.hok.fresh (Nat.le_of_lt (x.above y c (PySem.mem_of_lookup h)))
  · unfold start
    show _ = N.length
    rw [List.length_append, List.length_map, List.length_replicate]
    omega
theorem fn_of {CX : CXT} {P : Program} {w : World} {K : PySem.W.Frag} {mg : Str → Option Value} {base : Heap} {k : Nat} {f : Addr} {name qual : Str} {params : Arguments} {body : List Stmt} {scope : Scope} {dV kV doc pm cdv ct oc : Value} {an od : Option Addr}
    {osl : Array (Option Value)} {N ps : List Str} {sp : Sp} (lk : K.lookup f = some ⟨oc, od, .func (PySem.W.fnOf name qual params body scope dV kV doc pm an cdv ct), osl⟩) (hcd : PySem.W.codeIn K cdv qual = true) (S : FnScope N ps scope)
    (len : ∀ vs H Q E, sp vs H Q E → vs.length = ps.length)
    (hbody : ∀ (A : Around) (outer : List Env) (s : Shared) (H : Hp) (vs : List V) (Q : VK) (E : XK), Room k (A.deeper (envOfC qual scope s.heap.objs.size f cdv)) → sp vs H Q E →
      ∃ t, PSs (cxOf CX P w K mg base N qual scope f cdv A outer s H E) body t ∧ t { nx := fun _ H' => Q .non H', rt := Q } (start N vs) H) :
    FnOk P w K mg base CX (k + 1) f (PySem.W.fnOf name qual params body scope dV kV doc pm an cdv ct) ps sp := by
  refine ⟨len, fun A outer s H args us vs Q E hr e0 hb r hsp => ?_⟩
  have hl := len _ _ _ _ hsp
  have KX : K.In s.heap := e0.mod.kin.keeps fun b o e => (e0.bs b o e).1
  have lim : s.heap.NoLimit := e0.mod.nolimit.keeps fun b o e => (e0.bs b o e).1
  have hkind : ∀ y ∈ ps.zip us, scope.names.lookup y.1 = some .local ∨ (scope.names.lookup y.1 = some .cell ∧ ((cellsFrom (s.heap.objs.size + 1) scope.names []).lookup y.1).isSome = true) := fun ⟨n, v⟩ hy => by
    rcases S.par n (List.of_mem_zip hy).1 with q | q
    · exact .inl q
    · exact .inr ⟨q, PySem.W.cellsFrom_some _ _ _ (.inl q)⟩
  refine codeAny_call_function hr.depth (KX _ _ lk) rfl S.co S.gen rfl (PySem.W.codeRec_of KX hcd) (hb _ _ _ _ ?_)
  refine wpAny_newFunctionEnv_cells S.kind hkind fun env he s1 x => ?_
  subst he
  refine ⟨lim.keeps x.toInCall.keep, codeAny_func ?_⟩
  obtain ⟨t, ht, hq⟩ := hbody A outer s H vs Q E (hr.deeper _) hsp
  have I : Inv (cxOf CX P w K mg base N qual scope f cdv A outer s H E) [] (start N vs) H s1 := inv_start S hr.hd e0 hl r x
  refine wpAny_mono (ht [] s1 (start N vs) H _ I hq) (fun fl s' hs => ?_) fun e s' hs => hs
  have fin : ∀ {σ' : St} {H' : Hp} {v : V} {u : Value}, Inv (cxOf CX P w K mg base N qual scope f cdv A outer s H E) [] σ' H' s' → RelV v u → Q v H' → CE outer P w H s Q u s' :=
    fun {σ' H' v u} J rv q => ⟨v, H', J.os, J.bare, J.base, J.hok, rv, q⟩
  cases fl with
  | ret u =>
    obtain ⟨v, σ', H', J, rv, q⟩ := hs
    exact fin J rv q
  | next =>
    obtain ⟨σ', H', J, q⟩ := hs
    exact fin (v := V.non) (u := Value.none) J rfl q
  | brk =>
    obtain ⟨_, _, _, q⟩ := hs
    exact False.elim q
  | cont =>
    obtain ⟨_, _, _, q⟩ := hs
    exact False.elim q
end L2
namespace L2
open PySem PySem.Spec PyProof.Rows
section
variable {X : Cx} {x : Str} {p pos : Pos} {e : Expr} {es : List Expr} {t : TA} {id T : String} {r : List V → Hp → VK → Prop}
def tCB (r : List V → Hp → VK → Prop) (t : TA) : TE := fun σ H Q => t σ H fun vs H1 => r vs H1 Q
theorem pe_callB (hc : CallR X (.builtin id) r) (hg : Gl X x) (hm : X.mg x = none) (hv : bootBuiltins x = some (.builtin id)) (ha : PA X (e :: es) t) (hn : x ≠ "__name__" := by decide) (hdb : (x == ("__debug__" : Str)) = false := by decide)
    (he : starEach (e :: es) X.env = (false, eval e X.env) :: starEach es X.env := by rfl) (hpl : (backTo pos (starEach es X.env)).any (·.1) = false := by rfl) : PE X (.Call (.Name x p) (e :: es) [] pos) (tCB r t) := by
  intro pins s σ H Q I h
  refine wpAny_Call_Name_kw (ld_blt I hg hm hv ?_ hn hdb)
  exact PyProof.Rows.callWith_builtin1 (thn (ha pos pins s σ H _ I h) fun us s1 ⟨vs, H1, I1, r1, q1⟩ => hc pins s1 σ H1 vs us Q I1 r1 q1) he hpl
theorem pe_callTy (hc : CallR X (.type T) r) (hg : Gl X x) (hm : X.mg x = none) (hv : bootBuiltins x = some (.type T)) (ha : PA X (e :: es) t) (hn : x ≠ "__name__" := by decide) (hdb : (x == ("__debug__" : Str)) = false := by decide)
    (he : starEach (e :: es) X.env = (false, eval e X.env) :: starEach es X.env := by rfl) (hpl : (backTo pos (starEach es X.env)).any (·.1) = false := by rfl) : PE X (.Call (.Name x p) (e :: es) [] pos) (tCB r t) := by
  intro pins s σ H Q I h
  refine wpAny_Call_Name_kw (ld_blt I hg hm hv ?_ hn hdb)
  exact PyProof.Rows.callWith_type1 (thn (ha pos pins s σ H _ I h) fun us s1 ⟨vs, H1, I1, r1, q1⟩ => hc pins s1 σ H1 vs us Q I1 r1 q1) he hpl
end
end L2
namespace HT
open PySem PyProof.Rows
section
open PySem.SeqAt
open PySem.AutoSeq1 (wpAny_loadPart')
open PySem.MeetsSeq PySem.MeetsSeq2 PySem.MeetsSeq3
end
section
variable {prog : Program} {w : World} {A : Around} {E : Value → Shared → Prop} {s : Shared}
theorem cat_tup {t b : Addr} {vs ws : List Value} {Q : Value → Shared → Prop} (ht : IsTup s.heap t vs.toArray) (hb : IsTup s.heap b ws.toArray) (hv : vs ≠ [])
    (h1 : ws = [] → Q (.ref t) s) (h2 : ws ≠ [] → Q (.ref s.heap.objs.size) { s with heap := s.heap.push { cls := .type "tuple", data := .seq (vs ++ ws).toArray } })
    (hsz : vs.length + ws.length ≤ sizeLine) : wpAny (model prog w) A (binaryOp .Add (.ref t) (.ref b)) Q E s := by
  obtain ⟨⟨cls, dd, data, sl⟩, ho, hc, n, hd⟩ := id ht
  obtain ⟨⟨cls2, dd2, data2, sl2⟩, ho2, hc2, n2, hd2⟩ := id hb
  simp only at hc hd hc2 hd2
  subst hc hd hc2 hd2
  have e : vs.toArray ++ ws.toArray = (vs ++ ws).toArray := by simp
  by_cases hw : ws = []
  · exact concat_meets ⟨_, ho, rfl⟩ ⟨_, ho2, rfl⟩ noFill_tuple_add seq_tuple_add PySem.F.slot_tuple_add PySem.F.entry_tuple_add (PySem.F.args_tuple_add_2 _ _)
      (tuple_addW1 t b vs.toArray ws.toArray n n2 dd dd2 sl sl2 (by simpa using hv) (by simp [hw])) ⟨ho, ho2, h1 hw⟩
  · refine concat_meets ⟨_, ho, rfl⟩ ⟨_, ho2, rfl⟩ noFill_tuple_add seq_tuple_add PySem.F.slot_tuple_add PySem.F.entry_tuple_add (PySem.F.args_tuple_add_2 _ _)
      (tuple_addW2 t b vs.toArray ws.toArray n n2 dd dd2 sl sl2 (by simpa using hv) (by simpa using hw) (by rw [List.size_toArray, List.size_toArray]; exact hsz)) ⟨ho, ho2, ?_⟩
    rw [e]
    exact h2 hw
def sIx (n d : Nat) : Option Int → Nat
  | none => d
  | some v => if v < 0 then (v + (n : Int)).toNat else min v.toNat n
theorem sIx_le (n d : Nat) (hd : d ≤ n) (o : Option Int) : sIx n d o ≤ n := by
  cases o with
  | none => exact hd
  | some v =>
    show (if v < 0 then (v + (n : Int)).toNat else min v.toNat n) ≤ n
    by_cases hv : v < 0
    · rw [if_pos hv]; omega
    · rw [if_neg hv]; exact Nat.min_le_right _ _
theorem clip_eq (v : Int) (n d : Nat) : (if v < 0 then max (v + (n : Int)) 0 else min v (n : Int)) = ((sIx n d (some v) : Nat) : Int) := by
  show (if v < 0 then max (v + (n : Int)) 0 else min v (n : Int)) = (((if v < 0 then (v + (n : Int)).toNat else min v.toNat n) : Nat) : Int)
  by_cases hv : v < 0
  · simp only [if_pos hv]; omega
  · simp only [if_neg hv]; omega
theorem adjust_gen (lo hi : Option Int) (n : Nat) : Builtin.Slice.sliceAdjust lo hi 1 (n : Int) = (((sIx n 0 lo : Nat) : Int), ((sIx n n hi : Nat) : Int)) := by
  have h1 : ¬ ((1 : Int) < 0) := by omega
  unfold Builtin.Slice.sliceAdjust
  simp only [h1, if_false]
  refine Prod.ext ?_ ?_
  · cases lo with
    | none => rfl
    | some v => exact clip_eq v n 0
  · cases hi with
    | none => rfl
    | some v => exact clip_eq v n n
theorem places_gen (i j : Nat) : Builtin.Slice.slicePlaces (i : Int) (j : Int) 1 = j - i := by
  unfold Builtin.Slice.slicePlaces
  have h1 : (1 : Int) > 0 := by omega
  simp only [h1, if_true, Int.ediv_one]
  split <;> omega
theorem slicePart_ {v : Value} {o : Option Int} {Q : Option Int → Shared → Prop} (p : IsPart v o) (h : Q o s) : wpAny (model prog w) A (Builtin.Slice.slicePartIndex v) Q E s := by
  cases p with
  | none => exact slicePart_none h
  | int i t => exact slicePart_int h
theorem sliceApplied_gen {sl : Addr} {vl vu : Value} {lo hi : Option Int} {n : Nat} {Q : Int × Int × Nat → Shared → Prop} (hs : s.heap.IsSliceOf sl vl vu .none) (pl : IsPart vl lo) (pu : IsPart vu hi)
    (h : Q (((sIx n 0 lo : Nat) : Int), 1, sIx n n hi - sIx n 0 lo) s) : wpAny (model prog w) A (Builtin.Slice.sliceApplied (.ref sl) (pure (n : Int))) Q E s := by
  obtain ⟨os, hos, hcs, hds⟩ := id hs
  unfold Builtin.Slice.sliceApplied Builtin.Slice.sliceFields
  refine wpAny_bind (wpAny_bind (wpAny_field hos hds (x := vl) rfl (wpAny_bind (wpAny_field hos hds (x := vu) rfl (wpAny_bind (wpAny_field hos hds (x := .none) rfl (wpAny_pure ?_)))))))
  refine wpAny_bind (slicePart_none ?_)
  show wpAny _ _ (if ((1 : Int) == 0) = true then _ else _) _ _ s
  rw [if_neg (by decide)]
  refine wpAny_bind (slicePart_ pl (wpAny_bind (slicePart_ pu (wpAny_bind (wpAny_pure ?_)))))
  show wpAny _ _ (match Builtin.Slice.sliceAdjust lo hi 1 (n : Int) with | (lo, hi) => pure (lo, (1 : Int), Builtin.Slice.slicePlaces lo hi 1)) _ _ s
  rw [adjust_gen lo hi n]
  show wpAny _ _ (pure (((sIx n 0 lo : Nat) : Int), (1 : Int), Builtin.Slice.slicePlaces ((sIx n 0 lo : Nat) : Int) ((sIx n n hi : Nat) : Int) 1)) _ _ s
  rw [places_gen]
  exact wpAny_pure h
theorem pick_gen (xs : Array Value) (i k : Nat) : ((List.range k).filterMap fun (m : Nat) => xs[((i : Int) + (m : Int) * 1).toNat]?).toArray = ((xs.toList.drop i).take k).toArray := by
  have e : (fun (m : Nat) => xs[((i : Int) + (m : Int) * 1).toNat]?) = fun m => xs[i + m]? := by
    funext m
    have : ((i : Int) + (m : Int) * 1).toNat = i + m := by omega
    rw [this]
  rw [e]
  have := pick_run xs i k
  rw [List.filterMap_map] at this
  have e2 : ((fun x => xs[x]?) ∘ fun x => i + x) = fun m => xs[i + m]? := rfl
  rw [e2] at this
  rw [this]
theorem getItem_tuple_cut {t sl : Addr} {items : Array Value} {vl vu : Value} {lo hi : Option Int} {Q : Value → Shared → Prop} (ht : IsTup s.heap t items) (hs : s.heap.IsSliceOf sl vl vu .none) (pl : IsPart vl lo) (pu : IsPart vu hi)
    (hw : ¬ (sIx items.size 0 lo = 0 ∧ sIx items.size items.size hi = items.size))
    (h : Q (.ref s.heap.objs.size) { s with heap := s.heap.push { cls := .type "tuple", data := .seq ((items.toList.drop (sIx items.size 0 lo)).take (sIx items.size items.size hi - sIx items.size 0 lo)).toArray } })
    (hsz : items.size ≤ sizeLine) : wpAny (model prog w) A (getItem (.ref t) (.ref sl)) Q E s := by
  have htake : sizeOk (.seq ((items.toList.drop (sIx items.size 0 lo)).take (sIx items.size items.size hi - sIx items.size 0 lo)).toArray) := by
    show ((items.toList.drop (sIx items.size 0 lo)).take (sIx items.size items.size hi - sIx items.size 0 lo)).toArray.size ≤ sizeLine
    rw [List.size_toArray, List.length_take, List.length_drop, Array.length_toList]
    omega
  have hj : sIx items.size items.size hi ≤ items.size := sIx_le _ _ (Nat.le_refl _) hi
  obtain ⟨os, hos, hcs, hds⟩ := id hs
  have hTs : s.TypeIs (.ref sl) "slice" := ⟨os, hos, hcs⟩
  unfold getItem
  try with_reducible refine wpAny_holding ?_
  first | refine wpAny_bind (wpAny_pure ?_) | skip
  refine wpAny_bind (wpAny_sequenceKey ht.typeIs (by decide) ?_)
  refine wpAny_bind (wpAny_callSpecial?_slot (name := Str.ofString "__getitem__") ht.typeIs PyProof.Rows.slot_tuple_getitem
    (wpAny_call_entry PyProof.Rows.slot_tuple_getitem ht.typeIs entry_tuple_getitem ?_ (args_tuple_getitem _ _)))
  show wpAny _ _ (Builtin.Tuple.tupleItemsOf (.ref t) >>= _) _ _ s
  refine wpAny_bind (tupleItemsOf_ ht ?_)
  refine wpAny_bind (wpAny_typeOf hTs ?_)
  rw [if_pos (by decide)]
  refine wpAny_bind (sliceApplied_gen hs pl pu ?_)
  have hno : ¬ ((((sIx items.size 0 lo : Nat) : Int) == 0 && (1 : Int) == 1 && (sIx items.size items.size hi - sIx items.size 0 lo) == items.size) = true) := by
    intro q
    rw [Bool.and_eq_true, Bool.and_eq_true] at q
    have q1 : ((sIx items.size 0 lo : Nat) : Int) = 0 := eq_of_beq q.1.1
    have q2 : sIx items.size items.size hi - sIx items.size 0 lo = items.size := eq_of_beq q.2
    exact hw ⟨by omega, by omega⟩
  show wpAny _ _ (if (((sIx items.size 0 lo : Nat) : Int) == 0 && (1 : Int) == 1 && (sIx items.size items.size hi - sIx items.size 0 lo) == items.size) = true then _ else _) _ _ s
  rw [if_neg hno, pick_gen]
  first
    | exact wpAny_bind (m := Builtin.Tuple.tupleExact _) (wpAny_newObj_type (wpAny_pure ⟨_, rfl, wpAny_pure h⟩) htake)
    | exact wpAny_bind (m := Builtin.Tuple.tupleExact _) (wpAny_newObj_type (wpAny_bind (wpAny_pure (wpAny_pure ⟨_, rfl, wpAny_pure h⟩))) htake)
    | exact wpAny_bind (wpAny_bind (m := Builtin.Tuple.tupleExact _) (wpAny_newObj_type (wpAny_pure (wpAny_pure ⟨_, rfl, wpAny_pure h⟩)) htake))
    | exact wpAny_bind (wpAny_bind (m := Builtin.Tuple.tupleExact _) (wpAny_newObj_type (wpAny_pure ⟨_, rfl, wpAny_pure h⟩) htake))
end
end HT
namespace L2
open PySem PySem.Spec PyProof.Rows
abbrev TO := St → Hp → (Option Int → Hp → Prop) → Prop
def PO (X : Cx) (e : Option Expr) (t : TO) : Prop :=
  ∀ (pins : List (Addr × Obj)) (s : Shared) (σ : St) (H : Hp) (Q : Option Int → Hp → Prop), Inv X pins σ H s → t σ H Q →
    wpAny (model X.prog X.w) X.A (evalPart e X.env) (fun u s' => ∃ o H', Inv X pins σ H' s' ∧ IsPart u o ∧ Q o H') X.xe s
def tNoPart : TO := fun _ H Q => Q none H
def tPart (t : TE) : TO := fun σ H Q => t σ H fun x H1 => ∃ i, x = .int i ∧ Q (some i) H1
section
variable {X : Cx} {e : Expr} {te : TE} {lo hi : Option Expr} {tl th : TO} {pos p2 : Pos}
theorem po_some (h : PE X e te) : PO X (some e) (tPart te) := by
  intro pins s σ H Q I hw
  rw [evalPart_some]
  refine thn (h pins s σ H _ I hw) fun u s1 ⟨x, H1, I1, r1, q1⟩ => ?_
  obtain ⟨i, rfl, q⟩ := q1
  obtain ⟨t, rfl⟩ := r1
  exact ⟨some i, H1, I1, .int i t, q⟩
def SlR (X : Cx) (r : V → Option Int → Option Int → Hp → VK → Prop) : Prop :=
  ∀ (pins : List (Addr × Obj)) (s : Shared) (σ : St) (H : Hp) (x : V) (v vl vu : Value) (lo hi : Option Int) (sl : Addr) (Q : VK), Inv X pins σ H s → RelV x v → s.heap.IsSliceOf sl vl vu .none → IsPart vl lo → IsPart vu hi → r x lo hi H Q →
    ∃ T id, typeLookup (.type T) "__getitem__" = pure (some (.builtin id)) ∧ s.TypeIs v T ∧ wpAny (model X.prog X.w) X.A (getItem v (.ref sl)) (EP X pins σ Q) X.xe s
theorem SlR.or {r r' : V → Option Int → Option Int → Hp → VK → Prop} (h : SlR X r) (h' : SlR X r') : SlR X (fun x lo hi H Q => r x lo hi H Q ∨ r' x lo hi H Q) := by
  intro pins s σ H x v vl vu lo hi sl Q I rx hs pl pu q
  rcases q with q | q
  · exact h pins s σ H x v vl vu lo hi sl Q I rx hs pl pu q
  · exact h' pins s σ H x v vl vu lo hi sl Q I rx hs pl pu q
def tSl (r : V → Option Int → Option Int → Hp → VK → Prop) (te : TE) (tl th : TO) : TE := fun σ H Q => te σ H fun x H1 => tl σ H1 fun l H2 => th σ H2 fun u H3 => r x l u H3 Q
theorem pe_slice {r : V → Option Int → Option Int → Hp → VK → Prop} (hr : SlR X r) (he : PE X e te) (hl : PO X lo tl) (hu : PO X hi th) : PE X (.Subscript e (.Slice lo hi none p2) pos) (tSl r te tl th) := by
  intro pins s σ H Q I h
  refine Subscript_ (thn (he pins s σ H _ I h) fun v s1 ⟨x, H1, I1, r1, q1⟩ => ?_)
  refine wpAny_Slice (thn (hl pins s1 σ H1 _ I1 q1) fun vl s2 ⟨l, H2, I2, pl, q2⟩ => thn (hu pins s2 σ H2 _ I2 q2) fun vu s3 ⟨u, H3, I3, pu, q3⟩ => ?_)
  rw [evalPart_none]
  refine wpAny_pure ?_
  have I4 : Inv X pins σ H3 { s3 with heap := s3.heap.push { cls := .type "slice", data := .fields #[vl, vu, .none] } } := I3.kept (t' := s3.toks) fun b ob q => Heap.get?_push_of_some _ q
  obtain ⟨T, id, hT, ht, hg⟩ := hr pins { s3 with heap := s3.heap.push { cls := .type "slice", data := .fields #[vl, vu, .none] } } σ H3 x v vl vu l u s3.heap.objs.size Q I4 r1 (Heap.IsSliceOf.new ..) pl pu q3
  show wpAny (model X.prog X.w) X.A (subscriptTail e (.Slice lo hi none p2) v (.ref s3.heap.objs.size)) (EP X pins σ Q) X.xe { s3 with heap := s3.heap.push { cls := .type "slice", data := .fields #[vl, vu, .none] } }
  exact tail_any (ops := [.ref s3.heap.objs.size, v]) ht hT hg (by with_unfolding_all rfl)
def cutV (xs : List V) (lo hi : Option Int) : List V := (xs.drop (HT.sIx xs.length 0 lo)).take (HT.sIx xs.length xs.length hi - HT.sIx xs.length 0 lo)
theorem cutV_length (xs : List V) (lo hi : Option Int) : (cutV xs lo hi).length ≤ xs.length := by
  unfold cutV
  rw [List.length_take, List.length_drop]
  omega
def rSlT (K : PySem.W.Frag) : V → Option Int → Option Int → Hp → VK → Prop := fun x lo hi H Q => ∃ a xs, x = .ref a ∧ SqT K H a xs ∧
  ¬ (HT.sIx xs.length 0 lo = 0 ∧ HT.sIx xs.length xs.length hi = xs.length) ∧ ∀ p, H p = none → Q (.ref p) (upd H p (.tup (cutV xs lo hi)))
theorem sl_tup : SlR X (rSlT X.K) := by
  intro pins s σ H x v vl vu lo hi sl Q I rx hs pl pu h
  obtain ⟨a, xs, rfl, hx, hw, q⟩ := h
  cases rx
  obtain ⟨its, r, ht, hz⟩ := I.tuple hx
  have hlen : its.toArray.size = xs.length := by rw [List.size_toArray]; exact r.length.symm
  refine ⟨"tuple", _, PyProof.Rows.slot_tuple_getitem.lookup, ht.typeIs, ?_⟩
  refine HT.getItem_tuple_cut ht hs pl pu (by rw [hlen]; exact hw) ?_ (by rw [hlen]; exact hz)
  rw [hlen]
  refine ⟨.ref s.heap.objs.size, _, I.laid (t' := s.toks) (o := .tup (cutV xs lo hi)) (fun b ob q => Heap.get?_push_of_some _ q) (Nat.le_refl _) ?_, rfl, q _ (I.hok.fresh (Nat.le_refl _))⟩
  exact ⟨Nat.le_trans (cutV_length xs lo hi) hz, _, (r.drop (HT.sIx xs.length 0 lo)).take (HT.sIx xs.length xs.length hi - HT.sIx xs.length 0 lo), IsTup.new _ _⟩
def rCatT (K : PySem.W.Frag) : R2 := fun x y H Q => ∃ a b xs ys, x = .ref a ∧ y = .ref b ∧ SqT K H a xs ∧ SqT K H b ys ∧ xs ≠ [] ∧ xs.length + ys.length ≤ sizeLine ∧
  (ys = [] → Q (.ref a) H) ∧ (ys ≠ [] → ∀ p, H p = none → Q (.ref p) (upd H p (.tup (xs ++ ys))))
theorem Vals.nil_iff {xs : List V} {us : List Value} (r : Vals xs us) : us = [] ↔ xs = [] := by
  cases r with
  | nil => simp
  | cons _ _ => simp
theorem op_catT : OpR X (binaryOp .Add) (rCatT X.K) := by
  intro pins s σ H x y v u Q I rx ry h
  obtain ⟨a, b, xs, ys, rfl, rfl, ha, hb, hx, hz, q1, q2⟩ := h
  cases rx
  cases ry
  obtain ⟨its, r1, p1, _⟩ := I.tuple ha
  obtain ⟨its2, r2, p2, _⟩ := I.tuple hb
  refine HT.cat_tup p1 p2 (fun z => hx (r1.nil_iff.mp z)) (fun z => ⟨.ref a, H, I, rfl, q1 (r2.nil_iff.mp z)⟩) (fun z => ?_) (by rw [← r1.length, ← r2.length]; exact hz)
  refine ⟨.ref s.heap.objs.size, _, I.laid (t' := s.toks) (o := .tup (xs ++ ys)) (fun b ob q => Heap.get?_push_of_some _ q) (Nat.le_refl _) ?_, rfl, q2 (fun w => z (r2.nil_iff.mpr w)) _ (I.hok.fresh (Nat.le_refl _))⟩
  exact ⟨by rw [List.length_append]; exact hz, _, r1.append r2, IsTup.new _ _⟩
end
end L2
namespace L2
open PySem PySem.Spec PyProof.Rows
def ixN (n : Nat) (i : Int) : Option Nat := if 0 ≤ i then (if i < n then some i.toNat else none) else if -(n : Int) ≤ i then some (i + n).toNat else none
def atI {α : Type} (xs : List α) (i : Int) : Option α := (ixN xs.length i).bind fun j => xs[j]?
theorem ixN_seq {n : Nat} {i : Int} {j : Nat} (h : ixN n i = some j) : seqIndex? i n = some j ∧ j < n ∧ -(n : Int) ≤ i ∧ i < n := by
  unfold ixN at h
  by_cases h0 : 0 ≤ i
  · rw [if_pos h0] at h
    by_cases h1 : i < n
    · rw [if_pos h1] at h
      have e : i.toNat = j := Option.some.inj h
      exact ⟨by rw [seqIndex_of h0 h1, e], by omega, by omega, h1⟩
    · rw [if_neg h1] at h; cases h
  · rw [if_neg h0] at h
    by_cases h1 : -(n : Int) ≤ i
    · rw [if_pos h1] at h
      have e : (i + n).toNat = j := Option.some.inj h
      exact ⟨by rw [seqIndex_neg (by omega) h1, e], by omega, h1, by omega⟩
    · rw [if_neg h1] at h; cases h
theorem atI_get {α : Type} {xs : List α} {i : Int} {v : α} (h : atI xs i = some v) : ∃ j, seqIndex? i xs.length = some j ∧ xs[j]? = some v ∧ j < xs.length ∧ -(xs.length : Int) ≤ i ∧ i < xs.length := by
  unfold atI at h
  cases e : ixN xs.length i with
  | none => rw [e] at h; cases h
  | some j =>
    rw [e] at h
    obtain ⟨h1, h2, h3, h4⟩ := ixN_seq e
    exact ⟨j, h1, h, h2, h3, h4⟩
def PlainIx (b : Expr) : Prop := ∀ o i, subscripted b false o i = operate [o, i] (getItem o i)
def IxR (X : Cx) (r : R2) : Prop :=
  ∀ (value slice : Expr) (pins : List (Addr × Obj)) (s : Shared) (σ : St) (H : Hp) (x y : V) (v u : Value) (Q : VK), Inv X pins σ H s → RelV x v → RelV y u → r x y H Q →
    subscripted slice false v u = operate [v, u] (getItem v u) → wpAny (model X.prog X.w) X.A (subscriptTail value slice v u) (EP X pins σ Q) X.xe s
def MtR (X : Cx) (id : String) (r : V → List V → Hp → VK → Prop) : Prop :=
  ∀ (pins : List (Addr × Obj)) (s : Shared) (σ : St) (H : Hp) (x : V) (xs : List V) (v : Value) (us : List Value) (Q : VK), Inv X pins σ H s → RelV x v → Vals xs us → r x xs H Q →
    wpAny (model X.prog X.w) X.A (call (.builtin id) (v :: us)) (EP X pins σ Q) X.xe s
section
variable {X : Cx} {a b : Expr} {ta tb : TE} {pos : Pos}
theorem IxR.or {r r' : R2} (h : IxR X r) (h' : IxR X r') : IxR X (fun x y H Q => r x y H Q ∨ r' x y H Q) := by
  intro value slice pins s σ H x y v u Q I rx ry q hs
  rcases q with q | q
  · exact h value slice pins s σ H x y v u Q I rx ry q hs
  · exact h' value slice pins s σ H x y v u Q I rx ry q hs
theorem MtR.or {id : String} {r r' : V → List V → Hp → VK → Prop} (h : MtR X id r) (h' : MtR X id r') : MtR X id (fun x xs H Q => r x xs H Q ∨ r' x xs H Q) := by
  intro pins s σ H x xs v us Q I rx rs q
  rcases q with q | q
  · exact h pins s σ H x xs v us Q I rx rs q
  · exact h' pins s σ H x xs v us Q I rx rs q
theorem pe_ix {r : R2} (hr : IxR X r) (ha : PE X a ta) (hb : PE X b tb) (hs : PlainIx b) : PE X (.Subscript a b pos) (tOp r ta tb) := by
  intro pins s σ H Q I h
  exact Subscript_ (binT ha hb I h fun v u s2 x y H2 I2 rx ry q => hr a b pins s2 σ H2 x y v u Q I2 rx ry q (hs _ _))
def rIxL (K : PySem.W.Frag) : R2 := fun x y H Q => ∃ p xs i v, x = .ref p ∧ y = .int i ∧ SqL K H p xs ∧ atI xs i = some v ∧ Q v H
def rIxT (K : PySem.W.Frag) : R2 := fun x y H Q => ∃ p xs i v, x = .ref p ∧ y = .int i ∧ SqT K H p xs ∧ atI xs i = some v ∧ Q v H
def rIxS : R2 := fun x y H Q => ∃ z i c, x = .str z ∧ y = .int i ∧ z.length ≤ sizeLine ∧ atI z.cps.toList i = some c ∧ Q (.str ⟨#[c]⟩) H
theorem ix_list : IxR X (rIxL X.K) := by
  intro value slice pins s σ H x y v u Q I rx ry h hs
  obtain ⟨p, xs, i, z, rfl, rfl, hq, he, q⟩ := h
  cases rx
  obtain ⟨t, rfl⟩ := ry
  obtain ⟨its, r, pl, hz⟩ := I.list hq
  obtain ⟨j, h1, h2, h3, h4, h5⟩ := atI_get he
  obtain ⟨w, ew, rw'⟩ := r.get h2
  have hl := r.length
  have hn := line63
  have fin : EP X pins σ Q w s := ⟨z, H, I, rw', q⟩
  by_cases h0 : 0 ≤ i
  · have hj : i.toNat = j := by
      rw [seqIndex_of h0 h5] at h1
      exact Option.some.inj h1
    exact item_listR pl.isList h0 (by omega) (by rw [hj]; simpa using ew) fin hs
  · have hj : (i + (its.toArray.size : Int)).toNat = j := by
      rw [seqIndex_neg (by omega) h4] at h1
      rw [List.size_toArray, ← hl]
      exact Option.some.inj h1
    exact subscriptTail_builtinR (x := w) pl.isList.typeIs slot_list_getitem.lookup
      (wpAny_getItem_list_neg (Q := fun r s' => r = w ∧ EP X pins σ Q r s') pl.isList (by omega) (by rw [List.size_toArray] <;> omega) (by omega) (by rw [hj]; simpa using ew) ⟨rfl, fin⟩) hs
theorem ix_tup : IxR X (rIxT X.K) := by
  intro value slice pins s σ H x y v u Q I rx ry h hs
  obtain ⟨p, xs, i, z, rfl, rfl, hq, he, q⟩ := h
  cases rx
  obtain ⟨t, rfl⟩ := ry
  obtain ⟨its, r, pl, hz⟩ := I.tuple hq
  obtain ⟨j, h1, h2, h3, h4, h5⟩ := atI_get he
  obtain ⟨w, ew, rw'⟩ := r.get h2
  have hl := r.length
  have hn := line63
  have fin : EP X pins σ Q w s := ⟨z, H, I, rw', q⟩
  exact subscriptTail_builtinR (x := w) pl.typeIs slot_tuple_getitem.lookup
    (getItem_tuple (j := j) (Q := fun r s' => r = w ∧ EP X pins σ Q r s') pl (by omega) (by omega) (by rw [List.size_toArray, ← hl]; exact h1) (by simpa using ew) ⟨rfl, fin⟩) hs
theorem ix_str : IxR X rIxS := by
  intro value slice pins s σ H x y v u Q I rx ry h hs
  obtain ⟨z, i, c, rfl, rfl, hz, he, q⟩ := h
  obtain ⟨t, rfl⟩ := rx
  obtain ⟨t', rfl⟩ := ry
  obtain ⟨j, h1, h2, h3, h4, h5⟩ := atI_get he
  have hl : z.cps.toList.length = z.length := by simp [Str.length]
  rw [hl] at h1 h4 h5
  have hn := line63
  exact tail_any (typeIs_str s z t) slot_str_getitem.lookup (getItem_str (c := c) (by
    have e1 : decide (i < -(2 ^ 63 : Int)) = false := decide_eq_false (by omega)
    have e2 : decide (i ≥ 2 ^ 63) = false := decide_eq_false (by omega)
    rw [e1, e2, Bool.or_false]) (by rw [h1]; simpa using h2) ⟨.str ⟨#[c]⟩, H, I.tok _, ⟨_, rfl⟩, q⟩) hs
def rIx (K : PySem.W.Frag) : R2 := fun x y H Q => rIxL K x y H Q ∨ rIxT K x y H Q ∨ rIxS x y H Q
theorem ix_seq : IxR X (rIx X.K) := ix_list.or (ix_tup.or ix_str)
theorem Inv.lst {pins : List (Addr × Obj)} {σ : St} {H : Hp} {s : Shared} {p : Addr} {xs : List V} (I : Inv X pins σ H s) (h : H p = some (.lst xs)) :
    ∃ (its : List Value) (n : Nat), Vals xs its ∧ s.heap.get? p = some { cls := .type "list", data := .seq its.toArray n } ∧ xs.length ≤ sizeLine := by
  obtain ⟨z, its, n, r, e⟩ := I.hok p _ h
  exact ⟨its, n, r, e, z⟩
theorem slice_bounds (lo hi : Option Int) (n : Nat) : (sliceBounds lo hi none n).1 = ((HT.sIx n 0 lo : Nat) : Int) ∧ (sliceBounds lo hi none n).2.1 = ((HT.sIx n n hi : Nat) : Int) ∧ (sliceBounds lo hi none n).2.2 = 1 := by
  refine ⟨?_, ?_, rfl⟩
  · cases lo with
    | none => simp [sliceBounds, HT.sIx]
    | some i =>
      simp only [sliceBounds, HT.sIx, Option.getD_none, show (1 : Int) > 0 by decide, if_true]
      by_cases h : i < 0
      · simp only [h, if_true] <;> omega
      · simp only [h, if_false] <;> omega
  · cases hi with
    | none => simp [sliceBounds, HT.sIx]
    | some i =>
      simp only [sliceBounds, HT.sIx, Option.getD_none, show (1 : Int) > 0 by decide, if_true]
      by_cases h : i < 0
      · simp only [h, if_true] <;> omega
      · simp only [h, if_false] <;> omega
theorem slicePick_cut (its : List Value) (lo hi : Option Int) : slicePick its.toArray lo hi none = ((its.drop (HT.sIx its.length 0 lo)).take (HT.sIx its.length its.length hi - HT.sIx its.length 0 lo)).toArray := by
  obtain ⟨h1, h2, h3⟩ := slice_bounds lo hi its.toArray.size
  unfold slicePick
  rw [h1, h2, h3]
  simp only [sliceRange_one, pick_run, List.size_toArray] <;> rfl
def rSlL (K : PySem.W.Frag) : V → Option Int → Option Int → Hp → VK → Prop := fun x lo hi H Q => ∃ a xs, x = .ref a ∧ SqL K H a xs ∧ ∀ p, H p = none → Q (.ref p) (upd H p (.lst (cutV xs lo hi)))
theorem sl_list : SlR X (rSlL X.K) := by
  intro pins s σ H x v vl vu lo hi sl Q I rx hs pl pu h
  obtain ⟨a, xs, rfl, hx, q⟩ := h
  cases rx
  obtain ⟨its, r, ht, hz⟩ := I.list hx
  have hlen := r.length
  refine ⟨"list", _, slot_list_getitem.lookup, ht.isList.typeIs, ?_⟩
  refine wpAny_getItem_list_slice ht.isList hs pl pu .none (by simp) ?_ (by rw [List.size_toArray] <;> omega)
  rw [slicePick_cut, ← hlen]
  refine ⟨.ref s.heap.objs.size, _, I.laid (t' := s.toks) (o := .lst (cutV xs lo hi)) (fun b ob q => Heap.get?_push_of_some _ q) (Nat.le_refl _) ?_, rfl, q _ (I.hok.fresh (Nat.le_refl _))⟩
  exact ⟨Nat.le_trans (cutV_length xs lo hi) hz, _, 0, (r.drop (HT.sIx xs.length 0 lo)).take (HT.sIx xs.length xs.length hi - HT.sIx xs.length 0 lo), Heap.get?_push_size _ rfl⟩
def flatV : V → Bool
  | .non => true
  | .bl _ => true
  | .int _ => true
  | .str _ => true
  | _ => false
def eqV : V → V → Bool
  | .non, .non => true
  | .bl a, .bl b => a == b
  | .bl a, .int b => (if a then 1 else 0) == b
  | .int a, .bl b => a == (if b then 1 else 0)
  | .int a, .int b => a == b
  | .str a, .str b => a == b
  | _, _ => false
theorem eqAt_V {A : Around} {s : Shared} {y x : V} {u v : Value} (ry : RelV y u) (rx : RelV x v) (fy : flatV y = true) (fx : flatV x = true) : SeqAt.EqAt A s u v (eqV y x) := by
  cases y with
  | non =>
    cases ry
    cases x with
    | non => cases rx; exact SeqAt.EqAt.same _
    | bl b => cases rx; exact SeqAt.EqAt.none_bool b
    | int b => obtain ⟨t, rfl⟩ := rx; exact SeqAt.EqAt.none_int b t
    | str b => obtain ⟨t, rfl⟩ := rx; exact SeqAt.EqAt.none_str b t
    | _ => exact absurd (show false = true from fx) Bool.false_ne_true
  | bl a =>
    cases ry
    cases x with
    | non => cases rx; exact SeqAt.EqAt.bool_none a
    | bl b => cases rx; exact SeqAt.EqAt.bool_bool a b
    | int b => obtain ⟨t, rfl⟩ := rx; exact SeqAt.EqAt.bool_int a b t
    | str b => obtain ⟨t, rfl⟩ := rx; exact SeqAt.EqAt.bool_str a b t
    | _ => exact absurd (show false = true from fx) Bool.false_ne_true
  | int a =>
    obtain ⟨t', rfl⟩ := ry
    cases x with
    | non => cases rx; exact SeqAt.EqAt.int_none a t'
    | bl b => cases rx; exact SeqAt.EqAt.int_bool a t' b
    | int b => obtain ⟨t, rfl⟩ := rx; exact SeqAt.EqAt.int_int a t' b t
    | str b => obtain ⟨t, rfl⟩ := rx; exact SeqAt.EqAt.int_str a t' b t
    | _ => exact absurd (show false = true from fx) Bool.false_ne_true
  | str a =>
    obtain ⟨t', rfl⟩ := ry
    cases x with
    | non => cases rx; exact SeqAt.EqAt.str_none a t'
    | bl b => cases rx; exact SeqAt.EqAt.str_bool a t' b
    | int b => obtain ⟨t, rfl⟩ := rx; exact SeqAt.EqAt.str_int a t' b t
    | str b => obtain ⟨t, rfl⟩ := rx; exact SeqAt.EqAt.str_str a t' b t
    | _ => exact absurd (show false = true from fx) Bool.false_ne_true
  | _ => exact absurd (show false = true from fy) Bool.false_ne_true
def eqU (x : V) (u : Value) : Bool := match u with
  | .none => eqV .non x
  | .bool b => eqV (.bl b) x
  | .int i _ => eqV (.int i) x
  | .str z _ => eqV (.str z) x
  | _ => false
theorem eqU_of {x y : V} {u : Value} (r : RelV y u) (f : flatV y = true) : eqU x u = eqV y x := by
  cases y with
  | non => cases r; rfl
  | bl b => cases r; rfl
  | int i => obtain ⟨t, rfl⟩ := r; rfl
  | str z => obtain ⟨t, rfl⟩ := r; rfl
  | _ => exact absurd (show false = true from f) Bool.false_ne_true
theorem any_eqU {x : V} : ∀ {xs : List V} {us : List Value}, Vals xs us → xs.all flatV = true → us.any (eqU x) = xs.any fun y => eqV y x
  | _, _, .nil, _ => rfl
  | y :: xs, u :: us, .cons r t, f => by
    rw [List.all_cons, Bool.and_eq_true] at f
    rw [List.any_cons, List.any_cons, eqU_of r f.1, any_eqU t f.2]
theorem mem_eqAt {A : Around} {s : Shared} {x : V} {v : Value} (rx : RelV x v) (fx : flatV x = true) : ∀ {xs : List V} {us : List Value}, Vals xs us → xs.all flatV = true → ∀ u ∈ us, SeqAt.EqAt A s u v (eqU x u)
  | _, _, .nil, _ => fun u hu => by cases hu
  | y :: xs, u :: us, .cons r t, f => fun u' hu => by
    rw [List.all_cons, Bool.and_eq_true] at f
    rcases List.mem_cons.mp hu with rfl | hu
    · rw [eqU_of r f.1]; exact eqAt_V r rx f.1 fx
    · exact mem_eqAt rx fx t f.2 u' hu
def inV (x : V) (xs : List V) : Bool := xs.any fun y => eqV y x
def rIn (K : PySem.W.Frag) (neg : Bool) : R2 := fun x y H Q => ∃ p xs, y = .ref p ∧ (SqL K H p xs ∨ SqT K H p xs) ∧ flatV x = true ∧ xs.all flatV = true ∧ Q (.bl (if neg then !inV x xs else inV x xs)) H
theorem op_in_seq : OpR X (compareOp .In) (rIn X.K false) := by
  intro pins s σ H x y v u Q I rx ry h
  obtain ⟨p, xs, rfl, hq, fx, fs, q⟩ := h
  cases ry
  rcases hq with hq | hq
  · obtain ⟨its, r, pl, hz⟩ := I.list hq
    refine SeqAt.in_listAt (eqU x) pl.isList (fun w hw => mem_eqAt rx fx r fs w (by simpa using hw)) ⟨.bl _, H, I, rfl, ?_⟩
    rw [show its.toArray.any (eqU x) = its.any (eqU x) by simp, any_eqU r fs]
    exact q
  · obtain ⟨its, r, pl, hz⟩ := I.tuple hq
    refine SeqAt.in_tupleAt (eqU x) pl (fun w hw => mem_eqAt rx fx r fs w (by simpa using hw)) ⟨.bl _, H, I, rfl, ?_⟩
    rw [show its.toArray.any (eqU x) = its.any (eqU x) by simp, any_eqU r fs]
    exact q
theorem op_notIn_seq : OpR X (compareOp .NotIn) (rIn X.K true) := by
  intro pins s σ H x y v u Q I rx ry h
  obtain ⟨p, xs, rfl, hq, fx, fs, q⟩ := h
  cases ry
  rcases hq with hq | hq
  · obtain ⟨its, r, pl, hz⟩ := I.list hq
    refine SeqAt.notIn_listAt (eqU x) pl.isList (fun w hw => mem_eqAt rx fx r fs w (by simpa using hw)) ⟨.bl _, H, I, rfl, ?_⟩
    rw [show its.toArray.any (eqU x) = its.any (eqU x) by simp, any_eqU r fs]
    exact q
  · obtain ⟨its, r, pl, hz⟩ := I.tuple hq
    refine SeqAt.notIn_tupleAt (eqU x) pl (fun w hw => mem_eqAt rx fx r fs w (by simpa using hw)) ⟨.bl _, H, I, rfl, ?_⟩
    rw [show its.toArray.any (eqU x) = its.any (eqU x) by simp, any_eqU r fs]
    exact q
theorem CallR.or {f : Value} {r r' : List V → Hp → VK → Prop} (h : CallR X f r) (h' : CallR X f r') : CallR X f (fun xs H Q => r xs H Q ∨ r' xs H Q) := by
  intro pins s σ H xs us Q I rs q
  rcases q with q | q
  · exact h pins s σ H xs us Q I rs q
  · exact h' pins s σ H xs us Q I rs q
theorem call_list_of : CallR X (.type "list") (fun xs H Q => ∃ p ys, xs = [.ref p] ∧ (SqL X.K H p ys ∨ SqT X.K H p ys) ∧ ∀ l, H l = none → Q (.ref l) (upd H l (.lst ys))) := by
  intro pins s σ H xs us Q I r h
  obtain ⟨p, ys, rfl, hq, q⟩ := h
  obtain ⟨u, rfl, rx⟩ := vals1 r
  cases rx
  have fin : ∀ (its : List Value), Vals ys its → ys.length ≤ sizeLine → ∀ (h' : Heap) (c' : Nat), (∀ b o', s.heap.get? b = some o' → h'.get? b = some o') →
      h'.get? s.heap.objs.size = some { cls := .type "list", dict := none, data := .seq its.toArray c', slots := #[] } → EP X pins σ Q (.ref s.heap.objs.size) { s with heap := h' } := fun its r' hz h' c' kp e =>
    ⟨.ref s.heap.objs.size, _, I.laid (t' := s.toks) kp (Nat.le_refl _) (show ObjOk X.prog X.w _ h' _ (.lst ys) from ⟨hz, its, c', r', e⟩), rfl, q _ (I.hok.fresh (Nat.le_refl _))⟩
  rcases hq with hq | hq
  · obtain ⟨its, r', pl, hz⟩ := I.list hq
    have hlen := r'.length
    obtain ⟨o, ho, hc, n, hd⟩ := pl.isList
    exact call_list_seq p (.inl rfl) ho hc hd (fun h' c' kp e => fin its r' hz h' c' kp e) (by simp only [List.size_toArray] <;> omega)
  · obtain ⟨its, r', pl, hz⟩ := I.tuple hq
    have hlen := r'.length
    obtain ⟨o, ho, hc, n, hd⟩ := pl
    exact call_list_seq p (.inr rfl) ho hc hd (fun h' c' kp e => fin its r' hz h' c' kp e) (by simp only [List.size_toArray] <;> omega)
def tyV (K : PySem.W.Frag) (T : String) (x : V) (H : Hp) : Prop := match x with
  | .str _ => T = "str"
  | .int _ => T = "int"
  | .ref p => (T = "list" ∧ ∃ xs, SqL K H p xs) ∨ (T = "tuple" ∧ ∃ o, K.lookup p = some o ∧ o.cls = .type "tuple" ∧ o.dict = none) ∨
      (T = "dict" ∧ ((∃ kvs, H p = some (.dK kvs)) ∨ ∃ kvs, H p = some (.dT kvs))) ∨ (T = "set" ∧ ∃ S n, H p = some (.set S n))
  | _ => False
theorem tyV_is {pins : List (Addr × Obj)} {σ : St} {H : Hp} {s : Shared} {T : String} {x : V} {v : Value} (I : Inv X pins σ H s) (r : RelV x v) (ty : tyV X.K T x H) :
    s.TypeIs v T ∧ ∀ a, v = .ref a → ∃ ob, s.heap.get? a = some ob ∧ ob.dict = none := by
  cases x with
  | str z =>
    obtain ⟨t, rfl⟩ := r
    cases (show T = "str" from ty)
    exact ⟨typeIs_str s z t, fun _ e => nomatch e⟩
  | int i =>
    obtain ⟨t, rfl⟩ := r
    cases (show T = "int" from ty)
    exact ⟨typeIs_int s i t, fun _ e => nomatch e⟩
  | ref p =>
    cases r
    rcases ty with ⟨rfl, xs, hq⟩ | ⟨rfl, o, hk, hc, hd⟩ | ⟨rfl, hk⟩ | ⟨rfl, S, n, hk⟩
    · obtain ⟨its, _, pl, _⟩ := I.list hq
      refine ⟨pl.isList.typeIs, fun a e => ?_⟩
      cases e
      obtain ⟨o, n, e, c, hd, _⟩ := pl
      exact ⟨o, e, hd⟩
    · refine ⟨⟨o, I.kIn p o hk, hc⟩, fun a e => ?_⟩
      cases e
      exact ⟨o, I.kIn _ o hk, hd⟩
    · have z : ∃ o, s.heap.get? p = some o ∧ o.ExactDict := by
        rcases hk with ⟨kvs, hk⟩ | ⟨kvs, hk⟩
        · obtain ⟨_, _, _, _, o, _, _, e, ex, _⟩ := I.hok p _ hk
          exact ⟨o, e, ex⟩
        · obtain ⟨_, _, _, _, o, _, _, e, ex, _⟩ := I.hok p _ hk
          exact ⟨o, e, ex⟩
      obtain ⟨o, e, ex⟩ := z
      refine ⟨⟨o, e, ex.1⟩, fun a e2 => ?_⟩
      cases e2
      exact ⟨o, e, ex.2.1⟩
    · obtain ⟨o, _, _, _, e, ex, _⟩ := I.hok p _ hk
      refine ⟨⟨o, e, ex.1⟩, fun a e2 => ?_⟩
      cases e2
      exact ⟨o, e, ex.2.1⟩
  | _ => exact False.elim ty
def tBM0 (K : PySem.W.Frag) (T : String) (r : V → List V → Hp → VK → Prop) (to : TE) : TE := fun σ H Q => to σ H fun x H1 => tyV K T x H1 ∧ r x [] H1 Q
def tBM (K : PySem.W.Frag) (T : String) (r : V → List V → Hp → VK → Prop) (to : TE) (t : TA) : TE := fun σ H Q => to σ H fun x H1 => tyV K T x H1 ∧ t σ H1 fun xs H2 => r x xs H2 Q
variable {o e : Expr} {es : List Expr} {to : TE} {t : TA} {name : Str} {apos cpos : Pos} {T id : String} {r : V → List V → Hp → VK → Prop}
theorem pe_bm0 (pa : PlainAttrs T) (slot : Slot T name id) (hty : typeOf (.builtin id) = pure (.type "method_descriptor")) (hm : MtR X id r) (ho : PE X o to)
    (hbase : attributeBase o name X.env (eval o X.env) = eval o X.env := by rfl) (hline : (apos.endLine == cpos.line) = true := by rfl) : PE X (.Call (.Attribute o name apos) [] [] cpos) (tBM0 X.K T r to) := by
  intro pins s σ H Q I h
  refine wpAny_Call_method0_late hbase hline (thn (ho pins s σ H _ I h) fun v s1 ⟨x, H1, I1, r1, ty, q1⟩ => ?_)
  obtain ⟨h1, h2⟩ := tyV_is I1 r1 ty
  exact ⟨T, id, pa, slot, hty, h1, h2, Calls.callWith_builtin rfl (PySem.evalArgs_none (hm pins s1 σ H1 x [] v [] Q I1 r1 .nil q1))⟩
theorem pe_bm (pa : PlainAttrs T) (slot : Slot T name id) (hty : typeOf (.builtin id) = pure (.type "method_descriptor")) (hm : MtR X id r) (ho : PE X o to) (ha : PA X (e :: es) t)
    (hbase : attributeBase o name X.env (eval o X.env) = eval o X.env := by rfl)
    (hfew : ((backTo cpos (starEach (e :: es) X.env)).all (fun x => !x.1) && (backToKw cpos (keywordEach [] X.env)).all (fun x => x.1.isSome)
      && decide ((e :: es).length + ([] : List Keyword).length + (if ([] : List Keyword).isEmpty then 0 else 1) < 30)) = true := by rfl)
    (hline : (apos.endLine == cpos.line) = true := by rfl) (hs : starEach (e :: es) X.env = (false, eval e X.env) :: starEach es X.env := by rfl) (hplain : (backTo cpos (starEach es X.env)).any (·.1) = false := by rfl) :
    PE X (.Call (.Attribute o name apos) (e :: es) [] cpos) (tBM X.K T r to t) := by
  intro pins s σ H Q I h
  refine wpAny_Call_method_late hbase hfew hline rfl (thn (ho pins s σ H _ I h) fun v s1 ⟨x, H1, I1, r1, ty, q1⟩ => ?_)
  obtain ⟨h1, h2⟩ := tyV_is I1 r1 ty
  refine ⟨T, id, pa, slot, hty, h1, h2, ?_⟩
  have hA := ha cpos pins s1 σ H1 _ I1 q1
  rw [hs] at hA ⊢
  refine Calls.callWith_builtin (by show (false || (backTo cpos (starEach es X.env)).any (·.1)) = false; rw [hplain] <;> rfl) (Calls.evalArgs_plain ?_)
  exact thn hA fun us s2 ⟨vs, H2, I2, r2, q2⟩ => hm pins s2 σ H2 x vs v us Q I2 r1 r2 q2
end
end L2
namespace L2
open PySem PySem.Spec PyProof.Rows
def MtM (X : Cx) (id : String) (r : V → List V → Hp → VK → Prop) : Prop :=
  ∀ (pins : List (Addr × Obj)) (s : Shared) (σ : St) (H : Hp) (x : V) (xs : List V) (v : Value) (us : List Value) (Q : VK), Inv X pins σ H s → RelV x v → Vals xs us → r x xs H Q →
    wpAny (model X.prog X.w) X.A (call (.builtin id) (v :: us)) (EP X pins σ Q) X.xe s
theorem Vals.one : ∀ {x : V} {us : List Value}, Vals [x] us → ∃ u, us = [u] ∧ RelV x u
  | _, _, .cons r .nil => ⟨_, rfl, r⟩
theorem Vals.zero : ∀ {us : List Value}, Vals [] us → us = []
  | _, .nil => rfl
section
variable {X : Cx} {pins : List (Addr × Obj)} {σ : St} {H : Hp} {s : Shared} {l b : Addr} {xs ys zs : List V}
theorem Inv.lset {its its' : List Value} {n : Nat} {f : Array Value → Array Value} {t' : Nat} (I : Inv X pins σ H s) (hH : H l = some (.lst xs))
    (e : s.heap.get? l = some { cls := .type "list", data := .seq its.toArray n }) (hf : f its.toArray = its'.toArray) (hv : Vals ys its') (hz : ys.length ≤ sizeLine) :
    Inv X pins σ (upd H l (.lst ys)) { s with heap := s.heap.update l (Obj.mapSeq f), toks := t' } := by
  have q := PySem.IsL.update e f
  rw [hf] at q
  refine I.write (x := l) (e := l) (by rw [hH]; exact trivial) (.inl rfl) (fun b' u hb hu => (Heap.get?_update_other s.heap (Obj.mapSeq f) (Ne.symm hb)).trans hu) ⟨_, q⟩ ?_
  exact ⟨hz, its', _, hv, q⟩
theorem Inv.lnew {its : List Value} {t' : Nat} (I : Inv X pins σ H s) (hv : Vals ys its) (hz : ys.length ≤ sizeLine) :
    Inv X pins σ (upd H s.heap.objs.size (.lst ys)) { s with heap := s.heap.push { cls := .type "list", data := .seq its.toArray }, toks := t' } :=
  I.laid (fun _ _ q => Heap.get?_push_of_some _ q) (Nat.le_refl _) ⟨hz, its, 0, hv, Heap.get?_push_size _ rfl⟩
theorem Inv.fresh (I : Inv X pins σ H s) : H s.heap.objs.size = none := I.hok.fresh (Nat.le_refl _)
theorem Inv.lstM (I : Inv X pins σ H s) (hH : H l = some (.lst xs)) : xs.length ≤ sizeLine ∧ ∃ (its : List Value) (n : Nat), Vals xs its ∧ xs.length = its.length ∧ s.heap.get? l = some { cls := .type "list", data := .seq its.toArray n } := by
  obtain ⟨z, its, n, r, e⟩ := I.hok l _ hH
  exact ⟨z, its, n, r, r.length, e⟩
end
section
variable {X : Cx}
def rAppend : V → List V → Hp → VK → Prop := fun x vs H Q => ∃ l xs y, x = .ref l ∧ vs = [y] ∧ H l = some (.lst xs) ∧ xs.length < sizeLine ∧ Q .non (upd H l (.lst (xs ++ [y])))
theorem mt_append : MtM X "list.append" rAppend := by
  intro pins s σ H x vs v us Q I rx rv h
  obtain ⟨l, xs, y, rfl, rfl, hH, hz, q⟩ := h
  cases rx
  obtain ⟨u, rfl, ru⟩ := rv.one
  obtain ⟨z, its, n, r, hl, e⟩ := I.lstM hH
  refine call_meets F.slot_list_append ⟨_, e, rfl⟩ F.entry_list_append (F.args_list_append_2 _ _) (PySem.list_append l its.toArray n u (by rw [List.size_toArray]; omega)) ⟨e, ?_⟩
  refine ⟨.non, _, I.lset (its' := its ++ [u]) hH e (by simp) (r.append (.cons ru .nil)) ?_, rfl, q⟩
  rw [List.length_append, List.length_singleton]
  omega
def rClear : V → List V → Hp → VK → Prop := fun x vs H Q => ∃ l xs, x = .ref l ∧ vs = [] ∧ H l = some (.lst xs) ∧ Q .non (upd H l (.lst []))
theorem mt_clear : MtM X "list.clear" rClear := by
  intro pins s σ H x vs v us Q I rx rv h
  obtain ⟨l, xs, rfl, rfl, hH, q⟩ := h
  cases rx
  have hus := rv.zero
  subst hus
  obtain ⟨z, its, n, r, hl, e⟩ := I.lstM hH
  refine call_meets F.slot_list_clear ⟨_, e, rfl⟩ F.entry_list_clear (F.args_list_clear_1 _) (AutoSeq1.list_clear_list_0 l its.toArray n (by rw [List.size_toArray]; omega)) ⟨e, ?_⟩
  exact ⟨.non, _, I.lset (its' := []) (ys := []) hH e rfl .nil (Nat.zero_le _), rfl, q⟩
def rCat : R2 := fun x y H Q => ∃ l b xs zs, x = .ref l ∧ y = .ref b ∧ H l = some (.lst xs) ∧ H b = some (.lst zs) ∧ xs.length + zs.length ≤ sizeLine ∧ ∀ p, H p = none → Q (.ref p) (upd H p (.lst (xs ++ zs)))
theorem op_cat : OpR X (binaryOp .Add) rCat := by
  intro pins s σ H x y v u Q I rx ry h
  obtain ⟨l, b, xs, zs, rfl, rfl, hH, hB, hz, q⟩ := h
  cases rx
  cases ry
  obtain ⟨z, its, n, r, hl, e⟩ := I.lstM hH
  obtain ⟨z2, its2, n2, r2, hl2, e2⟩ := I.lstM hB
  refine PySem.P.add_list e e2 ?_ (by rw [List.size_toArray, List.size_toArray]; omega)
  have ea : its.toArray ++ its2.toArray = (its ++ its2).toArray := by simp
  rw [ea]
  exact ⟨.ref _, _, I.lnew (t' := s.toks) (r.append r2) (by rw [List.length_append]; omega), rfl, q _ I.fresh⟩
end
section
variable {prog : Program} {w : World} {A : Around} {E : Value → Shared → Prop} {s : Shared}
set_option maxRecDepth 100000 in
end
section
variable {X : Cx}
end
end L2
namespace L2
open PySem PySem.Spec PyProof.Rows
section
variable {κ : Type} [DecidableEq κ]
def valV (kvs : List (κ × V)) (k : κ) : Option V := (kvs.find? fun kv => decide (kv.1 = k)).map (·.2)
def putK (kvs : List (κ × V)) (k : κ) (v : V) : List (κ × V) :=
  if (kvs.any fun kv => decide (kv.1 = k)) = true then kvs.map (fun kv => if kv.1 = k then (kv.1, v) else kv) else kvs ++ [(k, v)]
def dropK (kvs : List (κ × V)) (k : κ) : List (κ × V) := kvs.filter fun kv => decide (kv.1 ≠ k)
theorem valV_pos {p : κ × V} {r : List (κ × V)} {k : κ} (e : p.1 = k) : valV (p :: r) k = some p.2 := by simp [valV, List.find?_cons, e]
theorem valV_neg {p : κ × V} {r : List (κ × V)} {k : κ} (e : ¬ p.1 = k) : valV (p :: r) k = valV r k := by simp [valV, List.find?_cons, e]
theorem valV_any (k : κ) : ∀ kvs : List (κ × V), (kvs.any fun kv => decide (kv.1 = k)) = (valV kvs k).isSome
  | [] => rfl
  | p :: r => by
    rw [List.any_cons]
    by_cases e : p.1 = k
    · simp only [valV_pos e, decide_eq_true e, Bool.true_or, Option.isSome_some]
    · rw [valV_neg e, decide_eq_false e, Bool.false_or]; exact valV_any k r
theorem length_putK (kvs : List (κ × V)) (k : κ) (v : V) : (putK kvs k v).length ≤ kvs.length + 1 := by
  unfold putK
  split
  · rw [List.length_map]; omega
  · rw [List.length_append, List.length_cons, List.length_nil]; omega
theorem putK_new {kvs : List (κ × V)} {k : κ} (v : V) (h : valV kvs k = none) : putK kvs k v = kvs ++ [(k, v)] := by
  unfold putK
  rw [valV_any, h]
  exact if_neg (by decide)
theorem RelO.isSome_eq {o : Option V} {u : Option Value} (r : RelO o u) : o.isSome = u.isSome := by
  cases o with
  | none => cases u with
    | none => rfl
    | some _ => exact (show False from r).elim
  | some _ => cases u with
    | none => exact (show False from r).elim
    | some _ => rfl
theorem RelO.getD {o : Option V} {u : Option Value} {d : V} {d' : Value} (r : RelO o u) (rd : RelV d d') : RelV (o.getD d) (u.getD d') := by
  cases o with
  | none => cases u with
    | none => exact rd
    | some _ => exact (show False from r).elim
  | some _ => cases u with
    | none => exact (show False from r).elim
    | some _ => exact r
theorem KV.val {kvs : List (κ × V)} {vs : List (κ × Value)} (r : KV kvs vs) (k : κ) : RelO (valV kvs k) (valueAt vs k) := by
  unfold KV at r
  induction r with
  | nil => exact True.intro
  | @cons p q ps qs h t ih =>
    obtain ⟨h1, h2⟩ := h
    by_cases e : p.1 = k
    · have e' : q.1 = k := h1.symm.trans e
      have b : valueAt (q :: qs) k = some q.2 := by simp [valueAt, List.find?_cons, e']
      rw [valV_pos e, b]; exact h2
    · have e' : ¬ q.1 = k := fun z => e (h1.trans z)
      have b : valueAt (q :: qs) k = valueAt qs k := by simp [valueAt, List.find?_cons, e']
      rw [valV_neg e, b]; exact ih
theorem KV.any {kvs : List (κ × V)} {vs : List (κ × Value)} (r : KV kvs vs) (k : κ) : (kvs.any fun kv => decide (kv.1 = k)) = vs.any fun kv => decide (kv.1 = k) := by
  unfold KV at r
  induction r with
  | nil => rfl
  | cons h t ih => rw [List.any_cons, List.any_cons, ih, h.1]
theorem KV.repl {kvs : List (κ × V)} {vs : List (κ × Value)} (r : KV kvs vs) (k : κ) {y : V} {u : Value} (ry : RelV y u) :
    KV (kvs.map fun kv => if kv.1 = k then (kv.1, y) else kv) (vs.map fun kv => if kv.1 = k then (kv.1, u) else kv) := by
  unfold KV at r ⊢
  induction r with
  | nil => exact .nil
  | @cons p q ps qs h t ih =>
    rw [List.map_cons, List.map_cons]
    refine .cons ?_ ih
    obtain ⟨h1, h2⟩ := h
    by_cases e : p.1 = k
    · rw [if_pos e, if_pos (h1.symm.trans e)]; exact ⟨h1, ry⟩
    · rw [if_neg e, if_neg (fun z => e (h1.trans z))]; exact ⟨h1, h2⟩
theorem KV.put {kvs : List (κ × V)} {vs : List (κ × Value)} (r : KV kvs vs) (k : κ) {y : V} {u : Value} (ry : RelV y u) : KV (putK kvs k y) (stored vs k u) := by
  unfold putK stored
  rw [r.any k]
  by_cases e : (vs.any fun kv => decide (kv.1 = k)) = true
  · rw [if_pos e, if_pos e]; exact r.repl k ry
  · rw [if_neg e, if_neg e]; exact Paired.snoc r ⟨rfl, ry⟩
theorem KV.drop {kvs : List (κ × V)} {vs : List (κ × Value)} (r : KV kvs vs) (k : κ) : KV (dropK kvs k) (without vs k) := by
  unfold KV at r ⊢
  unfold dropK without
  induction r with
  | nil => exact .nil
  | @cons p q ps qs h t ih =>
    obtain ⟨h1, h2⟩ := h
    rw [List.filter_cons, List.filter_cons]
    by_cases e : p.1 = k
    · have a : ¬ decide (p.1 ≠ k) = true := by simp [e]
      have b : ¬ decide (q.1 ≠ k) = true := by simp [h1.symm.trans e]
      rw [if_neg a, if_neg b]; exact ih
    · have e' : ¬ q.1 = k := fun z => e (h1.trans z)
      have a : decide (p.1 ≠ k) = true := by simp [e]
      have b : decide (q.1 ≠ k) = true := by simp [e']
      rw [if_pos a, if_pos b]; exact .cons ⟨h1, h2⟩ ih
theorem KV.length {kvs : List (κ × V)} {vs : List (κ × Value)} (r : KV kvs vs) : kvs.length = vs.length := Paired.length r
end
theorem kV_is {P : Program} {w : World} {k : Key} {u : Value} (r : RelV (kV k) u) : (mixKind P w).is k u = true := by
  cases k with
  | inl i => obtain ⟨t, e⟩ := (show ∃ t, u = Value.int i t from r); subst e; exact mixKind_int P w i t
  | inr x => obtain ⟨t, e⟩ := (show ∃ t, u = Value.str x t from r); subst e; exact mixKind_str P w x t
theorem items_are {P : Program} {w : World} : ∀ {ks : List Key} {us : List Value}, Vals (ks.map kV) us → ItemsAre (mixKind P w) ks us
  | [], _, r => by rw [List.map_nil] at r; cases r; exact .nil
  | k :: ks, _, r => by
    rw [List.map_cons] at r
    cases r with
    | cons h t => exact .cons (kV_is h) (items_are t)
abbrev KT (H : Hp) : List (List Key × V) → List (List Key × Addr × Value) → Prop := Paired fun p q => p.1 = q.1 ∧ H q.2.1 = some (.tup (p.1.map kV)) ∧ RelV p.2 q.2.2
theorem KT.val {H : Hp} {kvs : List (List Key × V)} {xs : List (List Key × Addr × Value)} (r : KT H kvs xs) (k : List Key) : RelO (valV kvs k) ((atKey xs k).map (·.2)) := by
  induction r with
  | nil => exact True.intro
  | @cons p q ps qs h t ih =>
    obtain ⟨h1, _, h2⟩ := h
    by_cases e : p.1 = k
    · have e' : q.1 = k := h1.symm.trans e
      have b : atKey (q :: qs) k = some q.2 := by simp [atKey, List.find?_cons, e']
      rw [valV_pos e, b]; exact h2
    · have e' : ¬ q.1 = k := fun z => e (h1.trans z)
      have b : atKey (q :: qs) k = atKey qs k := by simp [atKey, List.find?_cons, e']
      rw [valV_neg e, b]; exact ih
theorem KT.repl {H : Hp} {kvs : List (List Key × V)} {xs : List (List Key × Addr × Value)} (r : KT H kvs xs) (k : List Key) {y : V} {u : Value} (ry : RelV y u) :
    KT H (kvs.map fun kv => if kv.1 = k then (kv.1, y) else kv) (xs.map (putAt k u)) := by
  induction r with
  | nil => exact .nil
  | @cons p q ps qs h t ih =>
    rw [List.map_cons, List.map_cons]
    refine .cons ?_ ih
    obtain ⟨h1, h2, h3⟩ := h
    unfold putAt
    by_cases e : p.1 = k
    · rw [if_pos e, if_pos (h1.symm.trans e)]; exact ⟨h1, h2, ry⟩
    · rw [if_neg e, if_neg (fun z => e (h1.trans z))]; exact ⟨h1, h2, h3⟩
theorem KT.put {H : Hp} {kvs : List (List Key × V)} {xs : List (List Key × Addr × Value)} (r : KT H kvs xs) (k : List Key) {b : Addr} {y : V} {u : Value} (hb : H b = some (.tup (k.map kV))) (ry : RelV y u) :
    KT H (putK kvs k y) (storedH xs k b u) := by
  have e : (kvs.any fun kv => decide (kv.1 = k)) = (atKey xs k).isSome := by
    rw [valV_any, (r.val k).isSome_eq, Option.isSome_map]
  unfold putK storedH
  rw [e]
  by_cases q : (atKey xs k).isSome = true
  · rw [if_pos q, if_pos q]; exact r.repl k ry
  · rw [if_neg q, if_neg q]; exact Paired.snoc r ⟨rfl, hb, ry⟩
theorem KT.keeps {H H' : Hp} {kvs : List (List Key × V)} {xs : List (List Key × Addr × Value)} (r : KT H kvs xs) (ht : ∀ b ys, H b = some (.tup ys) → H' b = some (.tup ys)) : KT H' kvs xs :=
  Paired.mapP r fun _ _ z => ⟨z.1, ht _ _ z.2.1, z.2.2⟩
section
variable {P : Program} {w : World} {H : Hp} {h : Heap} {a : Addr}
theorem rd_of {u : HO} (ok : HOk P w H h) (e : Rd H a u) : ObjOk P w H h a u := e.ok ok
theorem dk_rd {kvs : List (Key × V)} (ok : HOk P w H h) (e : Rd H a (.dK kvs)) : kvs.length ≤ sizeLine ∧ (a == sysModules) = false ∧ ∃ vs, KV kvs vs ∧ h.DictOf (mixKind P w) a vs :=
  show ObjOk P w H h a (.dK kvs) from rd_of ok e
theorem dk_of {kvs : List (Key × V)} (ok : HOk P w H h) (e : H a = some (.dK kvs)) : kvs.length ≤ sizeLine ∧ (a == sysModules) = false ∧ ∃ vs, KV kvs vs ∧ h.DictOf (mixKind P w) a vs := dk_rd ok (.inl e)
theorem key_of {ks : List Key} (ok : HOk P w H h) (e : H a = some (.tup (ks.map kV))) : (tupleKind (mixKind P w)).is h ks a := by
  obtain ⟨_, its, r, o, h1, h2, n, h3⟩ := (show ObjOk P w H h a (.tup (ks.map kV)) from ok a _ e)
  exact ⟨o, its.toArray, n, h1, h2, h3, by simpa using items_are r⟩
theorem dt_rd {kvs : List (List Key × V)} (ok : HOk P w H h) (e : Rd H a (.dT kvs)) : kvs.length ≤ sizeLine ∧ (a == sysModules) = false ∧
    ∃ xs, KT H kvs xs ∧ h.DictOfH (tupleKind (mixKind P w)) a xs := by
  obtain ⟨z, y, xs, r, o, es, ep, h1, h2, h3, h4, h5⟩ := (show ObjOk P w H h a (.dT kvs) from rd_of ok e)
  refine ⟨z, y, xs, r, o, es, ep, h1, h2, h3, h4, fun x hx => ?_, h5⟩
  have all : ∀ {l : List (List Key × V)} {m : List (List Key × Addr × Value)}, KT H l m → ∀ x ∈ m, (tupleKind (mixKind P w)).is h x.1 x.2.1 := by
    intro l m q
    induction q with
    | nil => intro x hx; exact nomatch hx
    | @cons p q ps qs hq t ih =>
      intro x hx
      rcases List.mem_cons.mp hx with e | hx
      · subst e
        exact key_of ok (by rw [← hq.1]; exact hq.2.1)
      · exact ih x hx
  exact all r x hx
theorem dt_of {kvs : List (List Key × V)} (ok : HOk P w H h) (e : H a = some (.dT kvs)) : kvs.length ≤ sizeLine ∧ (a == sysModules) = false ∧
    ∃ xs, KT H kvs xs ∧ h.DictOfH (tupleKind (mixKind P w)) a xs := dt_rd ok (.inl e)
end
def DGet (H : Hp) (a : Addr) (y : V) (r : Option V) : Prop :=
  (∃ kvs k, Rd H a (.dK kvs) ∧ y = kV k ∧ r = valV kvs k) ∨ ∃ kvs k b, Rd H a (.dT kvs) ∧ y = .ref b ∧ H b = some (.tup (k.map kV)) ∧ r = valV kvs k
def DPut (H : Hp) (a : Addr) (y v : V) (H' : Hp) : Prop :=
  (∃ kvs k, H a = some (.dK kvs) ∧ y = kV k ∧ kvs.length < sizeLine ∧ H' = upd H a (.dK (putK kvs k v))) ∨
  ∃ kvs k b, H a = some (.dT kvs) ∧ y = .ref b ∧ H b = some (.tup (k.map kV)) ∧ kvs.length < sizeLine ∧ H' = upd H a (.dT (putK kvs k v))
theorem DGet.k {H : Hp} {a : Addr} {kvs : List (Key × V)} {k : Key} (e : H a = some (.dK kvs)) : DGet H a (kV k) (valV kvs k) := .inl ⟨kvs, k, .inl e, rfl, rfl⟩
theorem DPut.k {H : Hp} {a : Addr} {kvs : List (Key × V)} {k : Key} {v : V} (e : H a = some (.dK kvs)) (hl : kvs.length < sizeLine) : DPut H a (kV k) v (upd H a (.dK (putK kvs k v))) := .inl ⟨kvs, k, e, rfl, hl, rfl⟩
section
variable {X : Cx} {pins : List (Addr × Obj)} {σ : St} {H : Hp} {s : Shared} {a : Addr} {y v : V} {u r : Value} {o : Option V} {A : Around} {E : Value → Shared → Prop}
theorem Inv.big (I : Inv X pins σ H s) : sysModules < s.heap.objs.size := by
  have h : mainGlobals < s.heap.objs.size := (I.mod.glob.keeps I.bk).lt
  exact Nat.lt_trans (by decide) h
theorem d_getItem {Q : Value → Shared → Prop} (hu : A.units + 1 < cLine) (I : Inv X pins σ H s) (g : DGet H a y (some v)) (ry : RelV y u) (h : ∀ w' s', Inv X pins σ H s' → RelV v w' → Q w' s') :
    wpAny (model X.prog X.w) A (getItem (.ref a) u) Q E s := by
  rcases g with ⟨kvs, k, e, ey, l⟩ | ⟨kvs, k, b, e, ey, eb, l⟩
  · subst ey
    obtain ⟨z, hd, vs, rel, dd⟩ := dk_rd I.hok e
    obtain ⟨w', hw, rw'⟩ := RelO.some_of (v := v) (o := valueAt vs k) (by rw [l]; exact rel.val k)
    exact wpAny_getItem_of (kV_is ry) dd.mapOf hw (h w' _ (I.tok _) rw')
  · subst ey
    cases (show u = Value.ref b from ry)
    obtain ⟨z, hd, xs, rel, dd⟩ := dt_rd I.hok e
    obtain ⟨w', hw, rw'⟩ := RelO.some_of (v := v) (o := (atKey xs k).map (·.2)) (by rw [l]; exact rel.val k)
    obtain ⟨p, hp, hp2⟩ := Option.map_eq_some_iff.mp hw
    refine wpAny_getItem_heap (tupleKind_room_in1 hu) (key_of I.hok eb) dd hp ?_
    rw [hp2]
    exact h w' _ (I.tok _) rw'
theorem d_in {Q : Value → Shared → Prop} (hu : A.units + 1 < cLine) (I : Inv X pins σ H s) (g : DGet H a y o) (ry : RelV y u) (h : ∀ s', Inv X pins σ H s' → Q (.bool o.isSome) s') :
    wpAny (model X.prog X.w) A (compareOp .In u (.ref a)) Q E s := by
  rcases g with ⟨kvs, k, e, ey, l⟩ | ⟨kvs, k, b, e, ey, eb, l⟩
  · subst ey
    obtain ⟨z, hd, vs, rel, dd⟩ := dk_rd I.hok e
    refine wpAny_in_of (kV_is ry) hd dd.mapOf ?_
    rw [← (rel.val k).isSome_eq, ← l]
    exact h _ (I.tok _)
  · subst ey
    cases (show u = Value.ref b from ry)
    obtain ⟨z, hd, xs, rel, dd⟩ := dt_rd I.hok e
    refine wpAny_in_heap (tupleKind_room_in1 hu) (key_of I.hok eb) hd dd ?_
    have q := (rel.val k).isSome_eq
    rw [Option.isSome_map] at q
    rw [← q, ← l]
    exact h _ (I.tok _)
theorem d_notIn {Q : Value → Shared → Prop} (hu : A.units + 1 < cLine) (I : Inv X pins σ H s) (g : DGet H a y o) (ry : RelV y u) (h : ∀ s', Inv X pins σ H s' → Q (.bool (!o.isSome)) s') :
    wpAny (model X.prog X.w) A (compareOp .NotIn u (.ref a)) Q E s := by
  rcases g with ⟨kvs, k, e, ey, l⟩ | ⟨kvs, k, b, e, ey, eb, l⟩
  · subst ey
    obtain ⟨z, hd, vs, rel, dd⟩ := dk_rd I.hok e
    refine wpAny_notIn_of (kV_is ry) hd dd.mapOf ?_
    rw [← (rel.val k).isSome_eq, ← l]
    exact h _ (I.tok _)
  · subst ey
    cases (show u = Value.ref b from ry)
    obtain ⟨z, hd, xs, rel, dd⟩ := dt_rd I.hok e
    refine wpAny_notIn_heap (tupleKind_room_in1 hu) (key_of I.hok eb) hd dd ?_
    have q := (rel.val k).isSome_eq
    rw [Option.isSome_map] at q
    rw [← q, ← l]
    exact h _ (I.tok _)
theorem d_write {h' : Heap} {t' : Nat} {ob : HO} (I : Inv X pins σ H s) (mu : Mut (H a)) (hs : Heap.SameBut a s.heap h') (he : ∃ q, h'.get? a = some q) (new : ObjOk X.prog X.w (upd H a ob) h' a ob) :
    Inv X pins σ (upd H a ob) { s with heap := h', toks := t' } :=
  I.write (x := a) (e := a) mu (.inl rfl) (fun b q hb z => (hs.2 b hb).trans z) he new
theorem dk_new {P : Program} {w : World} {H' : Hp} {h' : Heap} {kvs : List (Key × V)} {vs : List (Key × Value)} (z : kvs.length ≤ sizeLine) (hd : (a == sysModules) = false) (rel : KV kvs vs) (dd : h'.DictOf (mixKind P w) a vs) :
    ObjOk P w H' h' a (.dK kvs) := ⟨z, hd, vs, rel, dd⟩
theorem d_setItem {H' : Hp} {Q : Unit → Shared → Prop} (hu : A.units + 1 < cLine) (I : Inv X pins σ H s) (g : DPut H a y v H') (ry : RelV y u) (rv : RelV v r) (h : ∀ s', Inv X pins σ H' s' → Q () s') :
    wpAny (model X.prog X.w) A (setItem (.ref a) u r) Q E s := by
  rcases g with ⟨kvs, k, e, ey, l, eH⟩ | ⟨kvs, k, b, e, ey, eb, l, eH⟩
  · subst ey eH
    obtain ⟨z, hd, vs, rel, dd⟩ := dk_of I.hok e
    have hz : vs.length ≤ sizeLine := by rw [← rel.length]; exact z
    have hl : (putK kvs k v).length ≤ sizeLine := by have := length_putK kvs k v; omega
    refine wpAny_setItem_pairs (hsz := hz) (kV_is ry) dd fun h' dd' hs => h _ ?_
    have he : ∃ q, h'.get? a = some q := let ⟨q, _, _, hq, _⟩ := dd'; ⟨q, hq⟩
    exact d_write I (by rw [e]; exact True.intro) hs he (dk_new hl hd (rel.put k rv) dd')
  · subst ey eH
    cases (show u = Value.ref b from ry)
    obtain ⟨z, hd, xs, rel, dd⟩ := dt_of I.hok e
    have hz : xs.length ≤ sizeLine := by rw [← Paired.length rel]; exact z
    have hl : (putK kvs k v).length ≤ sizeLine := by have := length_putK kvs k v; omega
    refine wpAny_setItem_heap (hsz := hz) (tupleKind_room_in1 hu) (key_of I.hok eb) dd fun h' dd' hs => h _ ?_
    obtain ⟨q, es, ep, hq, h2, h3, h4, _, h5⟩ := dd'
    refine d_write I (by rw [e]; exact True.intro) hs ⟨q, hq⟩ ⟨hl, hd, _, (rel.put k eb rv).keeps fun c ys ec => ?_, q, es, ep, hq, h2, h3, h4, h5⟩
    rw [upd_ne (ne_of ec e (fun z => nomatch z))]
    exact ec
end
section
variable {X : Cx} {pins : List (Addr × Obj)} {σ : St} {H : Hp} {s : Shared} {a : Addr} {kvs : List (Key × V)} {k : Key} {u : Value} {A : Around} {E : Value → Shared → Prop}
theorem d_len {Q : Value → Shared → Prop} (I : Inv X pins σ H s) (e : Rd H a (.dK kvs)) (h : ∀ t s', Inv X pins σ H s' → Q (.int kvs.length t) s') : wpAny (model X.prog X.w) A (call (.builtin "len") [.ref a]) Q E s := by
  obtain ⟨z, hd, vs, rel, dd⟩ := dk_rd I.hok e
  refine call_len_dict hd dd (by rw [← rel.length]; rw [sizeLine_eq] at z; omega) ?_
  rw [← rel.length]
  exact h _ _ (I.tok _)
end
def NoSl (i : Expr) : Prop := ∀ ov iv, subscripted i false ov iv = operate [ov, iv] (getItem ov iv)
theorem subD_of {prog : Program} {w : World} {A : Around} {E : Value → Shared → Prop} {s : Shared} {env : Env} {value slice : Expr} {pos : Pos} {T id : String} {Q : Value → Shared → Prop}
    (hl : typeLookup (.type T) "__getitem__" = pure (some (.builtin id))) (hs : NoSl slice)
    (h : wpAny (model prog w) A (eval value env) (fun o s₁ => wpAny (model prog w) A (eval slice env) (fun i s₂ => s₂.TypeIs o T ∧ wpAny (model prog w) A (getItem o i) Q E s₂) E s₁) E s) :
    wpAny (model prog w) A (eval (.Subscript value slice pos) env) Q E s := by
  refine Subscript_ (wpAny_mono h (fun o s₁ h₁ => wpAny_mono h₁ (fun i s₂ h₂ => ?_) fun _ _ x => x) fun _ _ x => x)
  obtain ⟨hT, h₂⟩ := h₂
  unfold subscriptTail
  refine wpAny_bind ?_
  rw [getitemInPython_of_ne hT.not_modules]
  refine wpAny_bind (wpAny_specialOf hT hl ?_)
  have fin : wpAny (model prog w) A (subscripted slice false o i) (fun r s₃ => wpAny (model prog w) A (letTemporaryGo value o r >>= fun _ => pure r) Q E s₃) E s₂ := by
    rw [hs o i]
    exact wpAny_operating (wpAny_mono h₂ (fun r s₃ h₃ => wpAny_bind (wpAny_letTemporaryGo (wpAny_pure h₃))) fun _ _ x => x)
  first
    | exact wpAny_pure (wpAny_bind fin)
    | exact wpAny_bind (wpAny_pure (wpAny_bind fin))
    | exact wpAny_bind fin
theorem dict_typeIs {X : Cx} {pins : List (Addr × Obj)} {σ : St} {H : Hp} {s : Shared} {a : Addr} {y : V} {o : Option V} (I : Inv X pins σ H s) (g : DGet H a y o) : s.TypeIs (.ref a) "dict" := by
  rcases g with ⟨kvs, k, e, _, _⟩ | ⟨kvs, k, b, e, _, _, _⟩
  · obtain ⟨_, _, vs, _, dd⟩ := dk_rd I.hok e
    exact dd.typeIs
  · obtain ⟨_, _, xs, _, dd⟩ := dt_rd I.hok e
    exact dd.typeIs
def tDGet (td ty : TE) : TE := fun σ H Q => td σ H fun x H1 => ty σ H1 fun y H2 => ∃ a v, x = .ref a ∧ DGet H2 a y (some v) ∧ Q v H2
def tDIn (ty td : TE) : TE := fun σ H Q => ty σ H fun y H1 => td σ H1 fun x H2 => ∃ a o, x = .ref a ∧ DGet H2 a y o ∧ Q (.bl o.isSome) H2
def tDNotIn (ty td : TE) : TE := fun σ H Q => ty σ H fun y H1 => td σ H1 fun x H2 => ∃ a o, x = .ref a ∧ DGet H2 a y o ∧ Q (.bl (!o.isSome)) H2
def sDPut (td ty tv : TE) : TS := fun D σ H => tv σ H fun v H1 => td σ H1 fun x H2 => ty σ H2 fun y H3 => ∃ a H4, x = .ref a ∧ DPut H3 a y v H4 ∧ D.nx σ H4
section
variable {X : Cx} {o i e value : Expr} {pos pos' tpos : Pos} {td ty tv : TE}
theorem pe_dget (hu : X.A.units + 1 < cLine) (ho : PE X o td) (hi : PE X i ty) (hs : NoSl i) : PE X (.Subscript o i pos) (tDGet td ty) := by
  intro pins s σ H Q I h
  refine subD_of PySem.F.slot_dict_getitem.lookup hs (thn (ho pins s σ H _ I h) fun u s1 ⟨x, H1, I1, rx, q1⟩ => thn (hi pins s1 σ H1 _ I1 q1) fun iv s2 ⟨y, H2, I2, ry, a, v, ex, g, q2⟩ => ?_)
  subst ex
  obtain rfl : u = Value.ref a := rx
  exact ⟨dict_typeIs I2 g, d_getItem hu I2 g ry fun w' s3 I3 rw' => ⟨v, H2, I3, rw', q2⟩⟩
theorem pc_din (hu : X.A.units + 1 < cLine) (hi : PE X i ty) (ho : PE X o td) : PC X .In i o (tDIn ty td) := by
  intro pins s σ H Q I h
  refine thn (hi pins s σ H _ I h) fun iv s1 ⟨y, H1, I1, ry, q1⟩ => thn (ho pins s1 σ H1 _ I1 q1) fun u s2 ⟨x, H2, I2, rx, a, ov, ex, g, q2⟩ => ?_
  subst ex
  obtain rfl : u = Value.ref a := rx
  exact d_in hu I2 g ry fun s3 I3 => ⟨.bl ov.isSome, H2, I3, rfl, q2⟩
theorem pc_dnotin (hu : X.A.units + 1 < cLine) (hi : PE X i ty) (ho : PE X o td) : PC X .NotIn i o (tDNotIn ty td) := by
  intro pins s σ H Q I h
  refine thn (hi pins s σ H _ I h) fun iv s1 ⟨y, H1, I1, ry, q1⟩ => thn (ho pins s1 σ H1 _ I1 q1) fun u s2 ⟨x, H2, I2, rx, a, ov, ex, g, q2⟩ => ?_
  subst ex
  obtain rfl : u = Value.ref a := rx
  exact d_notIn hu I2 g ry fun s3 I3 => ⟨.bl (!ov.isSome), H2, I3, rfl, q2⟩
theorem ps_dput (hu : X.A.units + 1 < cLine) (ho : PE X o td) (hi : PE X i ty) (hv : PE X value tv) (hs : swapsWith value (some (.Subscript o i pos')) pos.line X.env = pure false) :
    PS X (.Assign [.Subscript o i pos'] value pos) (sDPut td ty tv) := by
  intro pins s σ H D I h
  refine wpAny_Assign_Subscript (thn (hv pins s σ H _ I h) fun r s1 ⟨v, H1, I1, rv, q1⟩ => thn (ho pins s1 σ H1 _ I1 q1) fun u s2 ⟨x, H2, I2, rx, q2⟩ => thn (hi pins s2 σ H2 _ I2 q2) fun iv s3 ⟨y, H3, I3, ry, a, H4, ex, g, q3⟩ => ?_) hs
  subst ex
  obtain rfl : u = Value.ref a := rx
  exact d_setItem hu I3 g ry rv fun s4 I4 => ⟨σ, H4, I4, q3⟩
end
theorem dk_empty {P : Program} {w : World} {H : Hp} (h : Heap) (hb : sysModules < h.objs.size) : ObjOk P w H (h.push { cls := .type "dict", data := .dict #[] }) h.objs.size (.dK []) :=
  ⟨Nat.zero_le _, beq_eq_false_iff_ne.mpr (Ne.symm (Nat.ne_of_lt hb)), [], .nil, Heap.DictOf.new h⟩
def tDNewK : TE := fun _ H Q => ∀ p, H p = none → Q (.ref p) (upd H p (.dK []))
section
variable {X : Cx} {pos : Pos}
end
def tPairs : List (TE × TE) → St → Hp → (List (V × V) → Hp → Prop) → Prop
  | [], _, H, Q => Q [] H
  | (tk, tv) :: r, σ, H, Q => tk σ H fun x H1 => tv σ H1 fun y H2 => tPairs r σ H2 fun ps H3 => Q ((x, y) :: ps) H3
abbrev VV : List (V × V) → List (Value × Value) → Prop := Paired fun p q => RelV p.1 q.1 ∧ RelV p.2 q.2
def PPs (X : Cx) (pos : Pos) (keys : List (Option Expr)) (values : List Expr) (trs : List (TE × TE)) : Prop :=
  ∀ (pins : List (Addr × Obj)) (s : Shared) (σ : St) (H : Hp) (Q : List (V × V) → Hp → Prop), Inv X pins σ H s → tPairs trs σ H Q →
    wpAny (model X.prog X.w) X.A (evalPairs (pairTrees keys values X.env pos)) (fun vs s' => ∃ ps H', Inv X pins σ H' s' ∧ VV ps vs ∧ Q ps H') X.xe s
theorem pps_nil {X : Cx} {pos : Pos} : PPs X pos [] [] [] := fun pins s σ H Q I h => pairTrees_nil_walk ⟨[], H, I, .nil, h⟩
theorem pps_cons {X : Cx} {pos : Pos} {k v : Expr} {ks : List (Option Expr)} {vs : List Expr} {tk tv : TE} {trs : List (TE × TE)} (hk : PE X k tk) (hv : PE X v tv) (hr : PPs X pos ks vs trs) :
    PPs X pos (some k :: ks) (v :: vs) ((tk, tv) :: trs) := fun pins s σ H Q I h =>
  pairTrees_cons_walk (thn (hk pins s σ H _ I h) fun u s1 ⟨x, H1, I1, rx, q1⟩ => thn (hv pins s1 σ H1 _ I1 q1) fun w2 s2 ⟨y, H2, I2, ry, q2⟩ =>
    thn (hr pins s2 σ H2 _ I2 q2) fun ws s3 ⟨ps, H3, I3, rel, q3⟩ => ⟨(x, y) :: ps, H3, I3, .cons ⟨rx, ry⟩ rel, q3⟩)
def mergeK (kvs more : List (Key × V)) : List (Key × V) := more.foldl (fun acc kv => putK acc kv.1 kv.2) kvs
theorem KV.merge : ∀ {more : List (Key × V)} {rs : List (Key × Value)} {kvs : List (Key × V)} {vs : List (Key × Value)}, KV more rs → KV kvs vs → KV (mergeK kvs more) (merged vs rs) := by
  intro more rs kvs vs r
  unfold KV at r
  induction r generalizing kvs vs with
  | nil => intro q; exact q
  | @cons p q ps qs h t ih =>
    intro r0
    have e : KV (putK kvs p.1 p.2) (stored vs q.1 q.2) := by
      have := r0.put p.1 h.2
      rw [← h.1]; exact this
    exact ih e
theorem length_mergeK : ∀ (more kvs : List (Key × V)), (mergeK kvs more).length ≤ kvs.length + more.length
  | [], kvs => by show kvs.length ≤ kvs.length + 0; omega
  | p :: r, kvs => by
    have h1 := length_mergeK r (putK kvs p.1 p.2)
    have h2 := length_putK kvs p.1 p.2
    show (mergeK (putK kvs p.1 p.2) r).length ≤ _
    rw [List.length_cons]; omega
theorem carries_of {P : Program} {w : World} : ∀ {kvs : List (Key × V)} {ws : List (Value × Value)}, VV (kvs.map fun kv => (kV kv.1, kv.2)) ws → ∃ rs, Carries (mixKind P w) ws rs ∧ KV kvs rs
  | [], _, r => by rw [List.map_nil] at r; cases r; exact ⟨[], True.intro, .nil⟩
  | p :: kvs, _, r => by
    rw [List.map_cons] at r
    cases r with
    | @cons a b as bs h t =>
      obtain ⟨rs, c, q⟩ := carries_of (P := P) (w := w) t
      obtain ⟨b1, b2⟩ := b
      exact ⟨(p.1, b2) :: rs, ⟨kV_is h.1, rfl, c⟩, .cons ⟨rfl, h.2⟩ q⟩
def tDisp (trs : List (TE × TE)) : TE := fun σ H Q => ∀ p, H p = none → tPairs trs σ (upd H p (.dK [])) fun ps H2 => H2 p = some (.dK []) ∧ ∃ kvs : List (Key × V), ps = kvs.map (fun kv => (kV kv.1, kv.2)) ∧ kvs.length ≤ 15 ∧ Q (.ref p) (upd H2 p (.dK (mergeK [] kvs)))
theorem pe_disp {X : Cx} {pos : Pos} {keys : List (Option Expr)} {values : List Expr} {trs : List (TE × TE)} (h : PPs X pos keys values trs) (hall : keys.all (·.isSome) = true) (hl : keys.length = values.length) (h0 : keys ≠ [])
    (h15 : keys.length ≤ 15) : PE X (.Dict keys values pos) (tDisp trs) := by
  intro pins s σ H Q I q
  have hn := I.hok.fresh (Nat.le_refl s.heap.objs.size)
  have I1 := I.laid (a := s.heap.objs.size) (o := .dK []) (h' := s.heap.push { cls := .type "dict", data := .dict #[] }) (t' := s.toks) (fun _ _ q => Heap.get?_push_of_some _ q) (Nat.le_refl _) (dk_empty s.heap I.big)
  refine wpAny_Dict_walk (knd := mixKind X.prog X.w) hall hl h0 h15 (thn (h pins _ σ _ _ I1 (q _ hn)) fun ws s2 ⟨ps, H2, I2, rel, e, kvs, ep, lk, q2⟩ => ?_)
  subst ep
  obtain ⟨rs, c, rk⟩ := carries_of (P := X.prog) (w := X.w) rel
  obtain ⟨z, hd, vs0, r0, dd⟩ := dk_of I2.hok e
  cases r0
  refine ⟨rs, c, dd, fun h' dd' hs => ⟨.ref s.heap.objs.size, _, ?_, rfl, q2⟩⟩
  have hz : (mergeK [] kvs).length ≤ sizeLine := by
    have h1 := length_mergeK kvs []
    rw [List.length_nil] at h1
    rw [sizeLine_eq]; omega
  have he : ∃ q, h'.get? s.heap.objs.size = some q := let ⟨q, _, _, hq, _⟩ := dd'; ⟨q, hq⟩
  exact d_write I2 (by rw [e]; exact True.intro) hs he (dk_new hz hd (rk.merge .nil) dd')
structure M1 (X : Cx) (o : Expr) (m : Str) (apos : Pos) (e : Expr) (cpos : Pos) : Prop where
  base : attributeBase o m X.env (eval o X.env) = eval o X.env
  few : ((backTo cpos (starEach [e] X.env)).all (fun x => !x.1) && (backToKw cpos (keywordEach [] X.env)).all (fun x => x.1.isSome)
    && decide (([e] : List Expr).length + ([] : List Keyword).length + (if ([] : List Keyword).isEmpty then 0 else 1) < 30)) = true
  line : (apos.endLine == cpos.line) = true
  trees : backTo cpos (starEach [e] X.env) = [(false, eval e X.env)]
structure M2 (X : Cx) (o : Expr) (m : Str) (apos : Pos) (e f : Expr) (cpos : Pos) : Prop where
  base : attributeBase o m X.env (eval o X.env) = eval o X.env
  few : ((backTo cpos (starEach [e, f] X.env)).all (fun x => !x.1) && (backToKw cpos (keywordEach [] X.env)).all (fun x => x.1.isSome)
    && decide (([e, f] : List Expr).length + ([] : List Keyword).length + (if ([] : List Keyword).isEmpty then 0 else 1) < 30)) = true
  line : (apos.endLine == cpos.line) = true
  trees : backTo cpos (starEach [e, f] X.env) = [(false, eval e X.env), (false, eval f X.env)]
def IsD (H : Hp) (a : Addr) : Prop := (∃ kvs, Rd H a (.dK kvs)) ∨ ∃ kvs, Rd H a (.dT kvs)
theorem isD_at {X : Cx} {pins : List (Addr × Obj)} {σ : St} {H : Hp} {s : Shared} {a : Addr} (I : Inv X pins σ H s) (d : IsD H a) :
    s.TypeIs (.ref a) "dict" ∧ (∀ b, Value.ref a = .ref b → ∃ ob, s.heap.get? b = some ob ∧ ob.dict = none) ∧ (a == sysModules) = false := by
  rcases d with ⟨kvs, e⟩ | ⟨kvs, e⟩
  · obtain ⟨_, hd, vs, _, dd⟩ := dk_rd I.hok e
    refine ⟨dd.typeIs, fun b q => ?_, hd⟩
    cases q
    obtain ⟨ob, _, _, h1, h2, _⟩ := dd
    exact ⟨ob, h1, h2.2.1⟩
  · obtain ⟨_, hd, xs, _, dd⟩ := dt_rd I.hok e
    refine ⟨dd.typeIs, fun b q => ?_, hd⟩
    cases q
    obtain ⟨ob, _, _, h1, h2, _⟩ := dd
    exact ⟨ob, h1, h2.2.1⟩
section
variable {X : Cx} {pins : List (Addr × Obj)} {σ : St} {H : Hp} {s : Shared} {a : Addr} {y d : V} {u r : Value} {o : Option V} {A : Around} {E : Value → Shared → Prop}
theorem d_get1 {Q : Value → Shared → Prop} (hu : A.units + 1 < cLine) (I : Inv X pins σ H s) (g : DGet H a y o) (ry : RelV y u) (h : ∀ w' s', Inv X pins σ H s' → RelV (o.getD .non) w' → Q w' s') :
    wpAny (model X.prog X.w) A (call (.builtin "dict.get") [.ref a, u]) Q E s := by
  rcases g with ⟨kvs, k, e, ey, l⟩ | ⟨kvs, k, b, e, ey, eb, l⟩
  · subst ey
    obtain ⟨z, hd, vs, rel, dd⟩ := dk_rd I.hok e
    refine call_meetsIn PySem.F.slot_dict_get dd.typeIs PySem.F.entry_dict_get (PySem.F.args_dict_get_2 _ _) (meets_dict_get (mixKind X.prog X.w) a (kV_is ry) hd) ⟨_, dd.mapOf, h _ _ (I.tok _) ?_⟩
    rw [l]
    exact (rel.val k).getD rfl
  · subst ey
    cases (show u = Value.ref b from ry)
    obtain ⟨z, hd, xs, rel, dd⟩ := dt_rd I.hok e
    refine call_meetsIn PySem.F.slot_dict_get dd.typeIs PySem.F.entry_dict_get (PySem.F.args_dict_get_2 _ _) (meetsH_dict_get (tupleKind (mixKind X.prog X.w)) a b hd) ⟨tupleKind_room_in1 hu, k, xs, key_of I.hok eb, dd, h _ _ (I.tok _) ?_⟩
    rw [l]
    exact (rel.val k).getD rfl
theorem d_get2 {Q : Value → Shared → Prop} (hu : A.units + 1 < cLine) (I : Inv X pins σ H s) (g : DGet H a y o) (ry : RelV y u) (rd : RelV d r) (h : ∀ w' s', Inv X pins σ H s' → RelV (o.getD d) w' → Q w' s') :
    wpAny (model X.prog X.w) A (call (.builtin "dict.get") [.ref a, u, r]) Q E s := by
  rcases g with ⟨kvs, k, e, ey, l⟩ | ⟨kvs, k, b, e, ey, eb, l⟩
  · subst ey
    obtain ⟨z, hd, vs, rel, dd⟩ := dk_rd I.hok e
    refine call_meetsIn PySem.F.slot_dict_get dd.typeIs PySem.F.entry_dict_get (PySem.F.args_dict_get_3 _ _ _) (meets_dict_get_default (mixKind X.prog X.w) a (kV_is ry) hd r) ⟨_, dd.mapOf, h _ _ (I.tok _) ?_⟩
    rw [l]
    exact (rel.val k).getD rd
  · subst ey
    cases (show u = Value.ref b from ry)
    obtain ⟨z, hd, xs, rel, dd⟩ := dt_rd I.hok e
    refine call_meetsIn PySem.F.slot_dict_get dd.typeIs PySem.F.entry_dict_get (PySem.F.args_dict_get_3 _ _ _) (meetsH_dict_get_default (tupleKind (mixKind X.prog X.w)) a b hd r) ⟨tupleKind_room_in1 hu, k, xs, key_of I.hok eb, dd, h _ _ (I.tok _) ?_⟩
    rw [l]
    exact (rel.val k).getD rd
end
def tDGet1 (td ty : TE) : TE := fun σ H Q => td σ H fun x H1 => ∃ a, x = .ref a ∧ IsD H1 a ∧ ty σ H1 fun y H2 => ∃ o, DGet H2 a y o ∧ Q (o.getD .non) H2
def tDGet2 (td ty tx : TE) : TE := fun σ H Q => td σ H fun x H1 => ∃ a, x = .ref a ∧ IsD H1 a ∧ ty σ H1 fun y H2 => tx σ H2 fun z H3 => ∃ o, DGet H3 a y o ∧ Q (o.getD z) H3
section
variable {X : Cx} {o e f : Expr} {apos cpos : Pos} {td ty tx : TE}
theorem pe_dget1 (hu : X.A.units + 1 < cLine) (ho : PE X o td) (he : PE X e ty) (m : M1 X o "get" apos e cpos) : PE X (.Call (.Attribute o "get" apos) [e] [] cpos) (tDGet1 td ty) := by
  intro pins s σ H Q I h
  refine wpAny_Call_method m.base m.few m.line PySem.F.plainAttrs_dict PySem.F.slot_dict_get PySem.F.type_dict_get (thn (ho pins s σ H _ I h) fun u s1 ⟨x, H1, I1, rx, a, ex, d, q1⟩ => ?_)
  subst ex
  obtain rfl : u = Value.ref a := rx
  obtain ⟨t1, t2, _⟩ := isD_at I1 d
  refine ⟨t1, t2, ?_⟩
  rw [m.trees]
  refine Calls.callWith_builtin rfl (Calls.evalArgs_plain (Calls.spliced_cons (thn (he pins s1 σ H1 _ I1 q1) fun iv s2 ⟨y, H2, I2, ry, ov, g, q2⟩ => Calls.spliced_nil ?_)))
  exact d_get1 hu I2 g ry fun w' s3 I3 rw' => ⟨_, H2, I3, rw', q2⟩
theorem pe_dget2 (hu : X.A.units + 1 < cLine) (ho : PE X o td) (he : PE X e ty) (hf : PE X f tx) (m : M2 X o "get" apos e f cpos) : PE X (.Call (.Attribute o "get" apos) [e, f] [] cpos) (tDGet2 td ty tx) := by
  intro pins s σ H Q I h
  refine wpAny_Call_method m.base m.few m.line PySem.F.plainAttrs_dict PySem.F.slot_dict_get PySem.F.type_dict_get (thn (ho pins s σ H _ I h) fun u s1 ⟨x, H1, I1, rx, a, ex, d, q1⟩ => ?_)
  subst ex
  obtain rfl : u = Value.ref a := rx
  obtain ⟨t1, t2, _⟩ := isD_at I1 d
  refine ⟨t1, t2, ?_⟩
  rw [m.trees]
  refine Calls.callWith_builtin rfl (Calls.evalArgs_plain (Calls.spliced_cons (thn (he pins s1 σ H1 _ I1 q1) fun iv s2 ⟨y, H2, I2, ry, q2⟩ =>
    Calls.spliced_cons (thn (hf pins s2 σ H2 _ I2 q2) fun fv s3 ⟨z, H3, I3, rz, ov, g, q3⟩ => Calls.spliced_nil ?_))))
  exact d_get2 hu I3 g ry rz fun w' s4 I4 rw' => ⟨_, H3, I4, rw', q3⟩
end
section
variable {X : Cx} {pins : List (Addr × Obj)} {σ : St} {H : Hp} {s : Shared} {a : Addr} {kvs : List (Key × V)} {A : Around} {E : Value → Shared → Prop}
end
section
variable {X : Cx} {pins : List (Addr × Obj)} {σ : St} {H : Hp} {s : Shared} {a : Addr} {y : V} {u : Value} {A : Around} {E : Value → Shared → Prop}
end
end L2
namespace Att
open PySem PySem.W PySem.Calls PyProof.Rows
theorem ints_of_wellAll {P : Params} {h : Heap} : ∀ (ns : List Int) (vs : List Value), WellAll P h vs (ns.map WData.int) → IntsAre vs ns := by
  intro ns
  induction ns with
  | nil =>
    intro vs w
    rw [List.map_nil] at w
    cases w
    exact .nil
  | cons n ns ih =>
    intro vs w
    rw [List.map_cons] at w
    cases w with
    | cons a b =>
      cases a
      exact .cons _ _ (ih _ b)
theorem script_of {l : OpenLaw} {n : Nat} (hn : l.most = some n) {P : Params} {h : Heap} {args : List WData} {vals : List Value}
    (hpre : l.row.toRowW.claim.pre args = true) (hwl : WellAll P h vals args) :
    ∃ a vs ns, vals = [Value.ref a] ∧ args = [WData.list (ns.map WData.int)] ∧ h.get? a = some { cls := .type "list", data := .seq vs.toArray } ∧ IntsAre vs ns ∧ ns.length ≤ n := by
  have hsh : WShape.hasAll [] args [.list .int] = true := (pre_splitW hpre).1
  have hc : l.pre.holds [] { args := args } = true := (pre_splitW hpre).2
  obtain ⟨d, r, rfl, h1, h2⟩ := hasAllW_cons hsh
  obtain rfl := hasAllW_nil h2
  obtain ⟨xs, rfl, h3⟩ := hasW_list h1
  obtain ⟨ns, rfl⟩ := items_int h3
  have hlen : ns.length ≤ n := by
    unfold OpenLaw.pre at hc
    have h4 : (WTm.not (.lt (.lit (.int (n : Int))) (.len (.arg 0)))).holds [] { args := [.list (ns.map .int)] } = true := by
      have h4 := (holds_andW hc).1
      rw [hn] at h4
      exact h4
    have h5 := condW_of h4 (w_not (w_lt w_lit (w_len_list (w_arg rfl))))
    rw [List.length_map] at h5
    refine Nat.le_of_not_lt fun q => ?_
    have q' : (n : Int) < ((ns.length : Nat) : Int) := by omega
    first
      | (rw [decide_eq_true q'] at h5; exact absurd h5 (by decide))
      | (simp at h5; omega)
  cases hwl with
  | cons w1 w2 =>
    cases w2
    cases w1 with
    | list ho hall => exact ⟨_, _, ns, rfl, rfl, ho, ints_of_wellAll ns _ hall, hlen⟩
theorem post_true (l : OpenLaw) (args : List WData) : l.row.toRowW.claim.post args (.bool true) args = true :=
  postW_of (r := l.row.toRowW) (X := (true == true))
    (show WShape.has [] (.bool true) .bool = true by first | rfl | decide | simp [WShape.has, WShape.arms, WShape.armsAll])
    (show (WTm.eq .res (.lit (.bool true))).value [] { args := args, res := some (.bool true), after := args } = some (.bool (true == true)) from w_eq_bool (w_res rfl) w_lit) rfl
theorem attach_call {l : OpenLaw} {n : Nat} {q : Program} {loose : List Str} {XP : (Str → Option Value) → Heap → Prop} {YP : World → Heap → Prop} {d : DefRec}
    (hn : l.most = some n) (hdf : d.params.defaults = [])
    (call : ∀ (w : World) (s₀ s₁ : Shared) (mg mb : Str → Option Value) (fa : Addr) (o : Obj) (pm cd doc : Value) (a : Addr) (vs : List Value) (ns : List Int),
      Ground q loose [] XP w s₀ mg mb s₁.heap → YP w s₁.heap →
      s₁.heap.get? fa = some o → o.data = .func (docDef d.name d.params d.body d.scope pm cd doc) → s₁.heap.CodeRec cd d.name → mg d.name = some (.ref fa) →
      s₁.heap.get? a = some { cls := .type "list", data := .seq vs.toArray } → IntsAre vs ns → ns.length ≤ n → s₁.gens = #[] →
      codeAny (model l.prog w) callerA (.call (.ref fa) ⟨[.ref a], []⟩) (fun r s' => r = .ok (.ret (.bool true)) ∧ OldK s₁.heap s'.heap ∧ s'.os = s₁.os ∧ AllBare s'.gens) s₁) :
    WalkO q loose XP YP l.row.toRowW d [] (fun f vs => PySem.call f vs) := by
  intro w s₀ s₁ mg mb G Y fa o pm cd doc dV kV ho hd hcd hD hmg hg args vals as hpre hlay hrd hwl hlo
  obtain rfl : dV = .none := Dflts.none hD hdf
  obtain rfl : kV = .none := Dflts.noKw hD
  obtain ⟨a, vs, ns, rfl, rfl, hobj, hints, hlen⟩ := script_of hn hpre hwl
  refine enter_call (codeAny_mono (call w s₀ s₁ mg mb fa o pm cd doc a vs ns G Y ho (fd_plain hd) hcd hmg hobj hints hlen hg) fun r s' hq => ?_)
  obtain ⟨rfl, h2, h3, h4⟩ := hq
  exact ⟨.inl ⟨.bool true, .bool true, [], rfl, fun _ => rfl, .bool true, post_true l _, fun _ => ⟨List.Pairwise.nil, fun _ hm => (nomatch hm)⟩⟩, h2, h3, h4⟩
section
variable {prog : Program} {w : World} {A : Around} {E : Value → Shared → Prop} {s : Shared} {K : Frag}
end
end Att
namespace L2
open PySem PySem.Spec PyProof.Rows
theorem vals_ints : ∀ {vs : List Value} {ns : List Int}, IntsAre vs ns → Vals (ns.map V.int) vs
  | _, _, .nil => .nil
  | _, _, .cons n t h => .cons ⟨t, rfl⟩ (vals_ints h)
def Only (H : Hp) : Prop := ∀ b, H b = none ∨ ∃ o xs, H b = some (.frz o (.lst xs))
theorem law_call {P : Program} {w : World} {K : PySem.W.Frag} {mg mb : Str → Option Value} {CX : CXT} {k : Nat} {fa a : Addr} {fd : FuncData} {x : Str} {sp : Sp} {s₁ : Shared} {vs : List Value} {ns : List Int}
    (KX : K.In s₁.heap) (hns : s₁.heap.Ns mainGlobals mg) (hb : s₁.heap.Ns builtinsNs mb) (hbb : ∀ x : Str, x ≠ "__name__" → mb x = bootBuiltins x) (hlim : s₁.heap.NoLimit) (hg : s₁.gens = #[])
    (ha : s₁.heap.get? a = some { cls := .type "list", data := .seq vs.toArray }) (hi : IntsAre vs ns) (hl : ns.length ≤ sizeLine) (hr : Room k callerA)
    (F : ∀ base : Heap, K.In base → base.Ns mainGlobals mg → FnOk P w K mg base CX k fa fd [x] sp) (hbind : ∀ (s : Shared) (u : Value), BindsTo s fd ⟨[u], []⟩ [(x, u)])
    (hsp : ∀ H : Hp, Only H → SqL K H a (ns.map V.int) → sp [.ref a] H (fun v _ => v = .bl true) fun _ _ _ => False)
    (hCX : ∀ H e s', CX [] H s₁ (fun _ _ _ => False) e s' → False) :
    codeAny (model P w) callerA (.call (.ref fa) ⟨[.ref a], []⟩) (fun r s' => r = .ok (.ret (.bool true)) ∧ OldK s₁.heap s'.heap ∧ s'.os = s₁.os ∧ AllBare s'.gens) s₁ := by
  have rv := vals_ints hi
  have lenV := hi.length
  have core : ∀ H : Hp, Only H → SqL K H a (ns.map V.int) → HOk P w H s₁.heap → (∀ b, H b ≠ none → b = a) → (H a ≠ none → K.lookup a = none) →
      codeAny (model P w) callerA (.call (.ref fa) ⟨[.ref a], []⟩) (fun r s' => r = .ok (.ret (.bool true)) ∧ OldK s₁.heap s'.heap ∧ s'.os = s₁.os ∧ AllBare s'.gens) s₁ := by
    intro H hO hS hok hA hK
    have base_of : ∀ {b : Addr} {o : Obj}, s₁.heap.get? b = some o → H b = none → (hidT s₁.heap H).get? b = some o := fun e n => hidT_get e n
    have noA : ∀ {b : Addr} {o : Obj} {es : Array DictEntry} {ep : Nat}, s₁.heap.get? b = some o → o.data = .dict es ep → H b = none := fun {b o es ep} e d => by
      cases q : H b with
      | none => rfl
      | some u =>
        have e' : b = a := hA b (by rw [q]; simp)
        subst e'
        rw [ha] at e; cases e
        have d' : Data.seq vs.toArray _ = Data.dict es ep := d
        cases d'
    have nsK : ∀ {b : Addr} {m : Str → Option Value}, s₁.heap.Ns b m → (hidT s₁.heap H).Ns b m := fun {b m} ⟨o, es, ep, e, d, r⟩ => ⟨o, es, ep, base_of e (noA e d), d, r⟩
    have hKb : K.In (hidT s₁.heap H) := fun b o e => base_of (KX b o e) (by
      cases q : H b with
      | none => rfl
      | some u =>
        have e' : b = a := hA b (by rw [q]; simp)
        subst e'
        rw [hK (by rw [q]; simp)] at e; cases e)
    have hM : Mod K mg (hidT s₁.heap H) := ⟨hKb, nsK hns, ⟨mb, nsK hb, hbb⟩, let ⟨mc, h1, h2⟩ := hlim; ⟨mc, nsK h1, h2⟩⟩
    have e0 : Env0 P w K mg (hidT s₁.heap H) callerA [] s₁ H := ⟨rfl, hM, fun b o e => of_hidT e, Nat.le_of_eq (hidT_size _ _), trivial, fun b hb => absurd (show b ∈ ([] : List Addr) from hb) (by simp), hok, .of_eq hg⟩
    refine codeAny_mono ((F _ hKb (nsK hns)).run callerA [] s₁ H ⟨[.ref a], []⟩ [.ref a] [.ref a] _ _ hr e0 (hbind s₁ (.ref a)) (.cons rfl .nil) (hsp H hO hS)) fun r s' h => ?_
    cases r with
    | error e => exact (hCX H e s' h).elim
    | ok fl =>
      cases fl with
      | next => exact False.elim h
      | brk => exact False.elim h
      | cont => exact False.elim h
      | ret u =>
        obtain ⟨v, H', os, bare, un, hok', r', q⟩ := h
        have q' : v = .bl true := q
        subst q'
        obtain rfl : u = Value.bool true := r'
        refine ⟨rfl, OldK.of_keep fun b o e => ?_, os, bare⟩
        cases q : H b with
        | none => exact un.keep b o e q (by intro z; exact absurd (show b ∈ ([] : List Addr) from z) (by simp)) (by simp)
        | some u =>
          rcases hO b with z | ⟨ob, xs, z⟩
          · rw [q] at z; cases z
          · have z2 := un.frzs b ob _ z
            obtain ⟨e1, _⟩ := hok b _ z
            obtain ⟨e2, _⟩ := hok' b _ z2
            rw [e] at e1; cases e1
            exact e2
  cases hk : K.lookup a with
  | some o =>
    have e := KX a o hk
    rw [ha] at e
    cases e
    refine core (fun _ => none) (fun _ => .inl rfl) (.inr ⟨_, vs.toArray, _, hk, rfl, rfl, rfl, by rw [List.size_toArray, lenV]; exact hl, by simpa using rv⟩) (fun b u z => by have z' : (none : Option HO) = some u := z; cases z') (fun b z => absurd rfl z) fun z => absurd rfl z
  | none =>
    refine core (fun b => if b = a then some (.frz { cls := .type "list", data := .seq vs.toArray } (.lst (ns.map V.int))) else none) (fun b => ?_) (.inl (.inr ⟨{ cls := .type "list", data := .seq vs.toArray }, if_pos rfl⟩)) (fun b u z => ?_) (fun b z => ?_) fun _ => hk
    · by_cases hb : b = a
      · exact .inr ⟨_, _, if_pos hb⟩
      · exact .inl (if_neg hb)
    · by_cases hb : b = a
      · have z' := (if_pos hb).symm.trans z
        cases z'
        subst hb
        exact ⟨ha, by rw [List.length_map]; exact hl, vs, _, rv, ha⟩
      · have z' := (if_neg hb).symm.trans z
        cases z'
    · by_cases hb : b = a
      · exact hb
      · exact absurd (if_neg hb) z
end L2
namespace L2
open PySem PySem.Spec PyProof.Rows
abbrev KOf {K : PySem.W.Frag} {h : Heap} (_ : K.In h) : PySem.W.Frag := K
theorem walk_of {l : PySem.W.OpenLaw} {n k : Nat} {q : Program} {loose : List Str} {XP : (Str → Option Value) → Heap → Prop} {YP : World → Heap → Prop} {d : DefRec} {K : Params → PySem.W.Frag} {CX : World → CXT} {sp : World → Sp} {x : Str}
    (hn : l.most = some n) (hn2 : n ≤ sizeLine) (hdf : d.params.defaults = []) (hr : Room k callerA)
    (hY : ∀ (w : World) (h : Heap), YP w h → (K w.params).In h)
    (F : ∀ (w : World) (mg : Str → Option Value) (fa : Addr) (h : Heap), (K w.params).In h → h.Ns mainGlobals mg → mg d.name = some (.ref fa) →
      ∃ fd : FuncData, (∀ (s : Shared) (u : Value), BindsTo s fd ⟨[u], []⟩ [(x, u)]) ∧
        ∀ base : Heap, (K w.params).In base → base.Ns mainGlobals mg → FnOk l.prog w (K w.params) mg base (CX w) k fa fd [x] (sp w))
    (hsp : ∀ (w : World) (H : Hp) (a : Addr) (ns : List Int), ns.length ≤ n → Only H → SqL (K w.params) H a (ns.map V.int) → sp w [.ref a] H (fun v _ => v = .bl true) fun _ _ _ => False)
    (hCX : ∀ (w : World) (H : Hp) (s : Shared) (e : Value) (s' : Shared), CX w [] H s (fun _ _ _ => False) e s' → False) :
    PySem.W.WalkO q loose XP YP l.row.toRowW d [] (fun f vs => PySem.call f vs) := by
  refine Att.attach_call hn hdf fun w s₀ s₁ mg mb fa o pm cd doc a vs ns G Y ho hd hcd hmg hobj hints hlen hg => ?_
  have KX := hY w _ Y
  obtain ⟨fd, hb, hF⟩ := F w mg fa _ KX G.T.g hmg
  exact law_call KX G.T.g G.T.b G.T.builtins G.T.nolimit hg hobj hints (Nat.le_trans hlen hn2) hr hF hb (fun H hO hS => hsp w H a ns hlen hO hS) fun H e s' => hCX w H s₁ e s'
theorem walk_ofK {l : PySem.W.OpenLaw} {n k : Nat} {q : Program} {loose : List Str} {XP : (Str → Option Value) → Heap → Prop} {YP : World → Heap → Prop} {d : DefRec} {K : Params → PySem.W.Frag} {CX : CXT} {sp : PySem.W.Frag → Sp} {x : Str}
    (hn : l.most = some n) (hn2 : n ≤ sizeLine) (hdf : d.params.defaults = []) (hr : Room k callerA)
    (hY : ∀ (w : World) (h : Heap), YP w h → (K w.params).In h)
    (F : ∀ (w : World) (mg : Str → Option Value) (fa : Addr) (h : Heap), (K w.params).In h → h.Ns mainGlobals mg → mg d.name = some (.ref fa) →
      ∃ fd : FuncData, (∀ (s : Shared) (u : Value), BindsTo s fd ⟨[u], []⟩ [(x, u)]) ∧
        ∀ base : Heap, (K w.params).In base → base.Ns mainGlobals mg → FnOk l.prog w (K w.params) mg base CX k fa fd [x] (sp (K w.params)))
    (hsp : ∀ (K : PySem.W.Frag) (H : Hp) (a : Addr) (ns : List Int), ns.length ≤ n → Only H → SqL K H a (ns.map V.int) → sp K [.ref a] H (fun v _ => v = .bl true) fun _ _ _ => False)
    (hCX : ∀ (H : Hp) (s : Shared) (e : Value) (s' : Shared), CX [] H s (fun _ _ _ => False) e s' → False) :
    PySem.W.WalkO q loose XP YP l.row.toRowW d [] (fun f vs => PySem.call f vs) :=
  walk_of (K := K) (CX := fun _ => CX) (sp := fun w => sp (K w.params)) hn hn2 hdf hr hY F (fun w H a ns h1 h2 h3 => hsp (K w.params) H a ns h1 h2 h3) fun _ H s e s' => hCX H s e s'
end L2
namespace L2
open PySem PySem.Spec PyProof.Rows
def defArgs (s : Stmt) : Arguments := match s with
  | .FunctionDef _ a _ _ _ _ _ _ _ _ => a
  | _ => { posonlyargs := [], args := [], vararg := none, kwonlyargs := [], kw_defaults := [], kwarg := none, defaults := [] }
def defBody (s : Stmt) : List Stmt := match s with
  | .FunctionDef _ _ b _ _ _ _ _ _ _ => b
  | _ => []
def defScope (s : Stmt) : Scope := match s with
  | .FunctionDef _ _ _ _ _ _ sc _ _ _ => sc
  | _ => { kind := .function, names := [], isGenerator := false, isCoroutine := false }
abbrev CX0 : CXT := fun _ _ _ _ _ _ => False
abbrev E0 : XK := fun _ _ _ => False
theorem pass0 {X : Cx} : Passes CX0 X E0 := fun _ _ _ _ _ _ _ h => h.elim
structure Fun (K : PySem.W.Frag) (x qual : Str) (st : Stmt) (f : Addr) (fd : FuncData) : Prop where
  ex : ∃ (oc : Value) (od : Option Addr) (kV doc pm : Value) (an : Option Addr) (cdv ct : Value) (osl : Array (Option Value)),
    fd = PySem.W.fnOf x qual (defArgs st) (defBody st) (defScope st) .none kV doc pm an cdv ct ∧ K.lookup f = some ⟨oc, od, .func fd, osl⟩ ∧ PySem.W.codeIn K cdv qual = true
  kp : PySem.W.keepIn K (.ref f) = true
section
variable {P : Program} {w : World} {K : PySem.W.Frag} {mg : Str → Option Value} {base : Heap}
theorem Fun.ok {x qual : Str} {st : Stmt} {f : Addr} {fd : FuncData} {N ps : List Str} {k : Nat} {sp : Sp} (F : Fun K x qual st f fd) (S : FnScope N ps (defScope st)) (len : ∀ vs H Q E, sp vs H Q E → vs.length = ps.length)
    (hbody : ∀ (cdv : Value) (A : Around) (outer : List Env) (s : Shared) (H : Hp) (vs : List V) (Q : VK) (E : XK), Room k (A.deeper (envOfC qual (defScope st) s.heap.objs.size f cdv)) → sp vs H Q E →
      ∃ t, PSs (cxOf CX0 P w K mg base N qual (defScope st) f cdv A outer s H E).nox (defBody st) t ∧ t { nx := fun _ H' => Q .non H', rt := Q } (start N vs) H) : FnOk P w K mg base CX0 (k + 1) f fd ps sp := by
  obtain ⟨oc, od, kV, doc, pm, an, cdv, ct, osl, rfl, lk, hcd⟩ := F.ex
  refine fn_of lk hcd S len fun A outer s H vs Q E hr hsp => ?_
  obtain ⟨t, h, q⟩ := hbody cdv A outer s H vs Q E hr hsp
  exact ⟨t, h.nox, q⟩
theorem Fun.binds {x qual : Str} {st : Stmt} {f : Addr} {fd : FuncData} {ps : List Str} (F : Fun K x qual st f fd)
    (h : ∀ (kV doc pm : Value) (an : Option Addr) (cdv ct : Value) (us : List Value), us.length = ps.length → bindArgs (PySem.W.fnOf x qual (defArgs st) (defBody st) (defScope st) .none kV doc pm an cdv ct) ⟨us, []⟩ = pure (ps.zip us)) : Binds K fd ps [] := by
  obtain ⟨oc, od, kV, doc, pm, an, cdv, ct, osl, rfl, lk, hcd⟩ := F.ex
  exact .all (h kV doc pm an cdv ct)
theorem fun_mk {x qual : Str} {st : Stmt} {f : Addr} {oc : Value} {od an : Option Addr} {osl : Array (Option Value)} {kV doc pm cdv ct : Value} (l : K.lookup f = some ⟨oc, od, .func (PySem.W.fnOf x qual (defArgs st) (defBody st) (defScope st) .none kV doc pm an cdv ct), osl⟩)
    (c : PySem.W.codeIn K cdv qual = true) (k : PySem.W.keepIn K (.ref f) = true) : Fun K x qual st f (PySem.W.fnOf x qual (defArgs st) (defBody st) (defScope st) .none kV doc pm an cdv ct) := ⟨⟨oc, od, kV, doc, pm, an, cdv, ct, osl, rfl, l, c⟩, k⟩
end
theorem hu_of {A : Around} {k : Nat} (hr : Room k A) : A.units + 1 < cLine := Nat.lt_of_le_of_lt (Nat.add_le_add_left (by decide : 1 ≤ 64) _) hr.units
section
variable {X : Cx}
theorem pv (i : Nat) {x : Str} {pos : Pos} (hN : X.N[i]? = some x := by rfl) (hv : Vis X.env.scope x := by first | exact Or.inl rfl | exact Or.inr (Or.inl rfl) | exact Or.inr (Or.inr rfl)) (hd : (x == ("__debug__" : Str)) = false := by decide)
    (hcd : (x == ("__classdict__" : Str)) = false := by decide) : PE X (.Name x pos) (tVar i) := pe_var hN hv hd hcd
end
theorem ite2 {c A B : Prop} [Decidable c] (h1 : c → A) (h2 : ¬ c → B) : if c then A else B := by
  by_cases h : c
  · rw [if_pos h]
    exact h1 h
  · rw [if_neg h]
    exact h2 h
def Same (H H' : Hp) : Prop := ∀ b o, H b = some o → H' b = some o
theorem Same.refl (H : Hp) : Same H H := fun _ _ h => h
theorem Same.trans {H H1 H2 : Hp} (a : Same H H1) (b : Same H1 H2) : Same H H2 := fun c o h => b c o (a c o h)
theorem Same.free {H H' : Hp} (e : Same H H') {l : Addr} (h : H' l = Option.none) : H l = Option.none := by
  cases q : H l with
  | none => rfl
  | some o =>
    rw [e l o q] at h
    cases h
theorem Same.seq {K : PySem.W.Frag} {H H' : Hp} {a : Addr} {xs : List V} (e : Same H H') (h : SqL K H a xs) : SqL K H' a xs := by
  rcases h with (h | ⟨o, h⟩) | h
  · exact .inl (.inl (e _ _ h))
  · exact .inl (.inr ⟨o, e _ _ h⟩)
  · exact .inr h
section
variable {X : Cx}
theorem call_lenD : CallR X (.builtin "len") (fun xs H Q => ∃ a kvs, xs = [V.ref a] ∧ H a = some (.dK kvs) ∧ Q (.int kvs.length) H) := by
  intro pins s σ H xs us Q I r h
  obtain ⟨a, kvs, rfl, ha, q⟩ := h
  obtain ⟨u, rfl, ru⟩ := vals1 r
  cases ru
  exact d_len I (.inl ha) fun t s' I' => ⟨.int kvs.length, H, I', ⟨t, rfl⟩, q⟩
end
section
variable {κ : Type} [DecidableEq κ]
end
end L2
namespace Tx
open PySem PySem.Builtin PySem.Builtin.Str PySem.StrLaws PyProof.Rows
abbrev mk (l : List Nat) : Str := ⟨l.toArray⟩
theorem mk_len (l : List Nat) : (mk l).length = l.length := by show l.toArray.size = _; simp
theorem mk_app (a b : List Nat) : mk a ++ mk b = mk (a ++ b) := by
  show (⟨a.toArray ++ b.toArray⟩ : Str) = _
  simp
end Tx
namespace L2
open PySem PySem.Spec PyProof.Rows
abbrev NoE : Value → Shared → Prop := fun _ _ => False
section
variable {prog : Program} {w : World} {A : Around} {R : Result → Shared → Prop} {s : Shared}
theorem compLoop_any {elt target iter : Expr} {ifs : List Expr} {scope : Scope} {pos : Pos} {it acc : Value} {env : Env} (I : Nat → Shared → Prop)
    (turn : ∀ n s, I n s → wpAny (model prog w) A (pyNext it) (fun r s₁ => match r with
      | none => R (.ok .next) s₁
      | some v => wpAny (model prog w) A (letOwnedTupleGo target it v) (fun _ s₂ => wpAny (model prog w) A (assign target env v) (fun _ s₃ =>
          wpAny (model prog w) A (forIn ifs true fun c r => if r = true then do let ok ← isTrue c env (eval c env); pure (ForInStep.yield ok) else pure (ForInStep.yield r)) (fun ok s₄ =>
            if ok = true then wpAny (model prog w) A (eval elt env) (fun x s₅ => wpAny (model prog w) A (call (.builtin "list.append") [acc, x]) (fun _ s₆ => ∃ m, m < n ∧ I m s₆) NoE s₅) NoE s₄
            else ∃ m, m < n ∧ I m s₄) NoE s₃) NoE s₂) NoE s₁) NoE s)
    (n : Nat) (h : I n s) : codeAny (model prog w) A (.compLoop (.ListComp elt [⟨target, iter, ifs, 0⟩] scope pos) 0 it acc env) R s := by
  refine codeAny_loop rfl I (fun n s hI => ?_) n h
  show wpAny _ A ((compTurn (.ListComp elt [⟨target, iter, ifs, 0⟩] scope pos) 0 it acc env).onRaise (fun x => do noteFrame x env; theTreesLotGoes x)) _ _ s
  refine wpAny_noted ?_
  rw [compTurn_list]
  refine wpAny_noRaise ?_
  refine wpAny_bind (wpAny_standAt (wpAny_bind (wpAny_mono (turn n s hI) (fun r s₁ h₁ => ?_) fun _ _ h' => h')))
  cases r with
  | none => exact wpAny_pure h₁
  | some v =>
    refine wpAny_bind (wpAny_mono h₁ (fun _ s₂ h₂ => wpAny_bind (wpAny_mono h₂ (fun _ s₃ h₃ => wpAny_bind (wpAny_mono h₃ (fun ok s₄ h₄ => ?_) fun _ _ h' => h')) fun _ _ h' => h')) fun _ _ h' => h')
    cases ok with
    | false => exact wpAny_pure ⟨rfl, h₄⟩
    | true => exact wpAny_bind (wpAny_bind (wpAny_mono h₄ (fun x s₅ h₅ => wpAny_bind (wpAny_mono h₅ (fun _ s₆ h₆ => wpAny_pure (wpAny_pure ⟨rfl, h₆⟩)) fun _ _ h' => h')) fun _ _ h' => h'))
end
def clos (env : Env) : List (Str × NameKind) → List (Str × Addr) → List (Str × Addr)
  | [], cs => cs
  | (n, k) :: r, cs => clos env r (if (k == NameKind.free) = true then (n, (env.cells.lookup n).getD 0) :: cs else cs)
theorem closureFor_clos {scope : Scope} {env : Env} (h : ∀ y ∈ scope.names, y.2 = NameKind.free → ∃ c, env.cells.lookup y.1 = some c) : closureFor scope env = pure (clos env scope.names []) := by
  have all : ∀ (l : List (Str × NameKind)) (cs : List (Str × Addr)), (∀ y ∈ l, y.2 = NameKind.free → ∃ c, env.cells.lookup y.1 = some c) →
      (forIn l cs fun (x : Str × NameKind) (cs : List (Str × Addr)) => (if (x.2 == NameKind.free) = true then do let a ← cellOf env x.1; pure (ForInStep.yield ((x.1, a) :: cs)) else pure (ForInStep.yield cs) : Sem (ForInStep (List (Str × Addr))))) = pure (clos env l cs) := by
    intro l
    induction l with
    | nil => intro cs _; rfl
    | cons y l ih =>
      intro cs hy
      obtain ⟨n, k⟩ := y
      rw [List.forIn_cons]
      by_cases hk : (k == NameKind.free) = true
      · obtain ⟨c, hc⟩ := hy (n, k) List.mem_cons_self (by simpa using hk)
        have e1 : cellOf env n = pure c := by unfold cellOf; rw [hc]
        have e2 : clos env ((n, k) :: l) cs = clos env l ((n, c) :: cs) := by
          show clos env l (if (k == NameKind.free) = true then (n, (env.cells.lookup n).getD 0) :: cs else cs) = _
          rw [if_pos hk, hc]; rfl
        rw [e2, ← ih ((n, c) :: cs) fun z hz => hy z (List.mem_cons_of_mem _ hz)]
        simp only [hk, if_true, e1, pure_bind]
      · have e2 : clos env ((n, k) :: l) cs = clos env l cs := by
          show clos env l (if (k == NameKind.free) = true then (n, (env.cells.lookup n).getD 0) :: cs else cs) = _
          rw [if_neg hk]
        rw [e2, ← ih cs fun z hz => hy z (List.mem_cons_of_mem _ hz)]
        have hk' : (k == NameKind.free) = false := by simpa using hk
        simp only [hk', Bool.false_eq_true, if_false, pure_bind]
  have e := all scope.names [] h
  unfold closureFor
  first
    | (rw [show (pure (clos env scope.names []) : Sem (List (Str × Addr))) = (pure (clos env scope.names []) >>= fun cs => pure cs) from rfl, ← e]; rfl)
    | (simp only [bind_pure]; exact e)
    | (simpa using e)
theorem clos_look {env : Env} {x : Str} {c : Addr} : ∀ {l : List (Str × NameKind)} {cs : List (Str × Addr)}, (∀ y ∈ l, y.2 = NameKind.free → ∃ c, env.cells.lookup y.1 = some c) →
    (∀ y d, cs.lookup y = some d → env.cells.lookup y = some d) → (clos env l cs).lookup x = some c → env.cells.lookup x = some c
  | [], _, _, hc, h => hc x c h
  | (n, k) :: r, cs, hy, hc, h => by
    refine clos_look (l := r) (cs := if (k == NameKind.free) = true then (n, (env.cells.lookup n).getD 0) :: cs else cs) (fun z hz => hy z (List.mem_cons_of_mem _ hz)) (fun y d q => ?_) h
    by_cases hk : (k == NameKind.free) = true
    · rw [if_pos hk] at q
      obtain ⟨c', hc'⟩ := hy (n, k) List.mem_cons_self (by simpa using hk)
      rw [hc', List.lookup_cons] at q
      by_cases e : (y == n) = true
      · rw [e] at q
        have e' : y = n := by simpa using e
        rw [e', hc']; exact q
      · have e' : (y == n) = false := by simpa using e
        rw [e'] at q
        exact hc y d q
    · rw [if_neg hk] at q
      exact hc y d q
theorem clos_has {env : Env} {x : Str} : ∀ {l : List (Str × NameKind)} {cs : List (Str × Addr)}, ((x, NameKind.free) ∈ l ∨ ∃ c, cs.lookup x = some c) → ∃ c, (clos env l cs).lookup x = some c
  | [], _, h => by
    rcases h with h | h
    · cases h
    · exact h
  | (n, k) :: r, cs, h => by
    refine clos_has (l := r) (cs := if (k == NameKind.free) = true then (n, (env.cells.lookup n).getD 0) :: cs else cs) ?_
    rcases h with h | ⟨c, h⟩
    · rcases List.mem_cons.mp h with e | e
      · cases e
        refine .inr ?_
        rw [if_pos (by rfl), List.lookup_cons, beq_self_eq_true]
        exact ⟨_, rfl⟩
      · exact .inl e
    · refine .inr ?_
      by_cases hk : (k == NameKind.free) = true
      · rw [if_pos hk, List.lookup_cons]
        by_cases e : (x == n) = true
        · rw [e]; exact ⟨_, rfl⟩
        · have e' : (x == n) = false := by simpa using e
          rw [e']; exact ⟨c, h⟩
      · rw [if_neg hk]; exact ⟨c, h⟩
theorem lookup_relabel_free {env : Env} : ∀ {names : List (Str × NameKind)} {x : Str}, names.lookup x = some .free →
    (names.map fun (n, k) => if (k == NameKind.free && env.scope.kind == .function && env.kindOf n == some .cell) then (n, NameKind.cell) else (n, k)).lookup x = some .cell ∨
    (names.map fun (n, k) => if (k == NameKind.free && env.scope.kind == .function && env.kindOf n == some .cell) then (n, NameKind.cell) else (n, k)).lookup x = some .free
  | [], _, h => by simp at h
  | (n, k) :: r, x, h => by
    have ih := @lookup_relabel_free env r x
    rw [List.map_cons]
    show List.lookup x ((if (k == NameKind.free && env.scope.kind == .function && env.kindOf n == some .cell) = true then (n, NameKind.cell) else (n, k)) :: _) = _ ∨ List.lookup x ((if (k == NameKind.free && env.scope.kind == .function && env.kindOf n == some .cell) = true then (n, NameKind.cell) else (n, k)) :: _) = _
    cases hx : x == n with
    | true =>
      simp only [List.lookup_cons, hx] at h
      cases h
      by_cases hc : (NameKind.free == NameKind.free && env.scope.kind == .function && env.kindOf n == some .cell) = true
      · rw [if_pos hc]; exact .inl (by simp only [List.lookup_cons, hx])
      · rw [if_neg hc]; exact .inr (by simp only [List.lookup_cons, hx])
    | false =>
      simp only [List.lookup_cons, hx] at h
      by_cases hc : (k == NameKind.free && env.scope.kind == .function && env.kindOf n == some .cell) = true
      · rw [if_pos hc]; simp only [List.lookup_cons, hx]; exact ih h
      · rw [if_neg hc]; simp only [List.lookup_cons, hx]; exact ih h
theorem relabel_cf {env : Env} : ∀ {names : List (Str × NameKind)} {x : Str}, (∀ y ∈ names, y.2 ≠ NameKind.cell) →
    ((names.map fun (n, k) => if (k == NameKind.free && env.scope.kind == .function && env.kindOf n == some .cell) then (n, NameKind.cell) else (n, k)).lookup x = some .cell ∨
    (names.map fun (n, k) => if (k == NameKind.free && env.scope.kind == .function && env.kindOf n == some .cell) then (n, NameKind.cell) else (n, k)).lookup x = some .free) → (x, NameKind.free) ∈ names
  | [], _, _, h => by rcases h with h | h <;> simp at h
  | (n, k) :: r, x, hn, h => by
    have ih := @relabel_cf env r x fun y hy => hn y (List.mem_cons_of_mem _ hy)
    have hk := hn (n, k) List.mem_cons_self
    rw [List.map_cons] at h
    by_cases hc : (k == NameKind.free && env.scope.kind == .function && env.kindOf n == some .cell) = true
    · have hk1 : k = NameKind.free := by
        rw [Bool.and_eq_true, Bool.and_eq_true] at hc
        simpa using hc.1.1
      simp only [hc, if_true, List.lookup_cons] at h
      cases hx : x == n with
      | true => have e : x = n := by simpa using hx
                rw [e, hk1]; exact List.mem_cons_self
      | false => rw [hx] at h; exact List.mem_cons_of_mem _ (ih h)
    · have hc' : (k == NameKind.free && env.scope.kind == .function && env.kindOf n == some .cell) = false := by simpa using hc
      simp only [hc', Bool.false_eq_true, if_false, List.lookup_cons] at h
      cases hx : x == n with
      | true =>
        rw [hx] at h
        have e : x = n := by simpa using hx
        rcases h with h | h
        · exact absurd (Option.some.inj h) hk
        · rw [e, Option.some.inj h]; exact List.mem_cons_self
      | false => rw [hx] at h; exact List.mem_cons_of_mem _ (ih h)
def cxComp (X : Cx) (Nc : List Str) (scope : Scope) (cl : List (Str × Addr)) (C : Addr) (s : Shared) (H : Hp) (ex : List Addr) : Cx where
  prog := X.prog
  w := X.w
  K := X.K
  mg := X.mg
  base := X.base
  A := X.A
  N := Nc
  s₀ := s
  H₀ := H
  env := compEnvC scope cl C X.env
  outer := X.stack
  stack := X.stack
  ex := ex
  fn := fun _ => false
  calm := X.calm
  pn := []
  xe := NoE
def pickS (js : List (Option Nat)) (σ : St) : St := js.map fun o => match o with
  | none => none
  | some j => (σ[j]?).getD none
structure CompOk (X : Cx) (Nc : List Str) (js : List (Option Nat)) (scope : Scope) : Prop where
  kind : scope.kind = .function
  nocell : ∀ y ∈ scope.names, y.2 ≠ NameKind.cell
  names : ∀ y ∈ scope.names, y.2 = NameKind.local → scope.names.lookup y.1 = some NameKind.local
  free : ∀ y ∈ scope.names, y.2 = NameKind.free → X.env.kindOf y.1 = some NameKind.cell ∨ X.env.kindOf y.1 = some NameKind.free
  len : js.length = Nc.length
  map : ∀ (i : Nat) (y : Str) (j : Nat), Nc[i]? = some y → js[i]? = some (some j) → X.N[j]? = some y ∧ scope.names.lookup y = some NameKind.free
def compB (sc : Scope) (N Nc : List Str) (js : List (Option Nat)) (scope : Scope) : Bool :=
  scope.kind == .function && scope.names.all (fun y => y.2 != NameKind.cell) && scope.names.all (fun y => y.2 != NameKind.local || scope.names.lookup y.1 == some NameKind.local) &&
  scope.names.all (fun y => y.2 != NameKind.free || sc.names.lookup y.1 == some NameKind.cell || sc.names.lookup y.1 == some NameKind.free) && js.length == Nc.length &&
  (Nc.zip js).all (fun p => match p.2 with | none => true | some j => N[j]? == some p.1 && scope.names.lookup p.1 == some NameKind.free)
theorem compOk_of {X : Cx} {sc : Scope} {N Nc : List Str} {js : List (Option Nat)} {scope : Scope} (hsc : X.env.scope = sc) (hN : X.N = N) (h : compB sc N Nc js scope = true) : CompOk X Nc js scope := by
  unfold compB at h
  rw [Bool.and_eq_true, Bool.and_eq_true, Bool.and_eq_true, Bool.and_eq_true, Bool.and_eq_true] at h
  obtain ⟨⟨⟨⟨⟨h1, h2⟩, h3⟩, h4⟩, h5⟩, h6⟩ := h
  rw [List.all_eq_true] at h2 h3 h4 h6
  have h5' : js.length = Nc.length := by simpa using h5
  refine ⟨by simpa using h1, fun y hy => by simpa using h2 y hy, fun y hy e => ?_, fun y hy e => ?_, h5', fun i y j e1 e2 => ?_⟩
  · have q := h3 y hy
    rw [e] at q
    simpa using q
  · have q := h4 y hy
    rw [e] at q
    show X.env.scope.names.lookup y.1 = _ ∨ X.env.scope.names.lookup y.1 = _
    rw [hsc]
    simpa using q
  · have hm : (y, some j) ∈ Nc.zip js := by
      refine List.mem_of_getElem? (i := i) ?_
      rw [List.getElem?_zip_eq_some]
      exact ⟨e1, e2⟩
    have q := h6 _ hm
    simp only [Bool.and_eq_true, beq_iff_eq] at q
    rw [hN]
    exact q
def PTs (X : Cx) (ifs : List Expr) (t : TT) : Prop :=
  ∀ (pins : List (Addr × Obj)) (s : Shared) (σ : St) (H : Hp) (Q : Bool → Hp → Prop), Inv X pins σ H s → t σ H Q →
    wpAny (model X.prog X.w) X.A (forIn ifs true fun c r => if r = true then do let ok ← isTrue c X.env (eval c X.env); pure (ForInStep.yield ok) else pure (ForInStep.yield r)) (TP X pins σ Q) X.xe s
def tYes : TT := fun _ H Q => Q true H
theorem pts_one {X : Cx} {c : Expr} {t : TT} (hc : PT X c t) : PTs X [c] t := fun pins s σ H Q I h => wpAny_tests_one (hc pins s σ H Q I h)
def tComp (js : List (Option Nat)) (wi : TI) (g : TG) (tt : TT) (te : TE) : TE := fun σ H Q => wi σ H fun J H1 => ∀ D, H1 D = none → ∃ W : Nat → Nat → St → Hp → List V → Prop, (∃ m, W 0 m (pickS js σ) (upd H1 D (.lst [])) []) ∧
  ∀ i m σ' H' ys, W i m σ' H' ys → H' D = some (.lst ys) ∧ ((J.stop i H' ∧ Q (.ref D) H') ∨ (J.go i H' ∧ ys.length < sizeLine ∧ ∀ x H2, J.yld i H' x H2 → g x σ' H2 fun σ2 H3 => tt σ2 H3 fun b H4 =>
    if b = true then te σ2 H4 fun v H5 => H5 D = some (.lst ys) ∧ ∃ m', m' < m ∧ W (i + 1) m' σ2 (upd H5 D (.lst (ys ++ [v]))) (ys ++ [v]) else ∃ m', m' < m ∧ W (i + 1) m' σ2 H4 ys))
section
variable {X : Cx} {elt target iter : Expr} {ifs : List Expr} {scope : Scope} {pos : Pos} {Nc : List Str} {js : List (Option Nat)} {wi : TI} {g : TG} {tt : TT} {te : TE}
theorem comp_block {pins : List (Addr × Obj)} {σ : St} {H2 : Hp} {s₂ : Shared} {E : Value → Shared → Prop} {it : Addr} {fp : List Addr} {tn : Nat → Heap → Prop} {J : It} {Q : VK} {RR : Value → Addr → Result → Shared → Prop} (ok : CompOk X Nc js scope) (hc : X.calm = true)
    (hg : ∀ C cl s H ex, PG (cxComp X Nc scope cl C s H ex) target g) (ht : ∀ C cl s H ex, PTs (cxComp X Nc scope cl C s H ex) ifs tt) (he : ∀ C cl s H ex, PE (cxComp X Nc scope cl C s H ex) elt te)
    (I2 : Inv X pins σ H2 s₂) (T : Turn X.prog X.w X.K target J fp it tn) (st2 : tn 0 s₂.heap) (f2 : ∀ b ∈ fp, FpOk X pins H2 b)
    (h : ∀ D, H2 D = none → ∃ W : Nat → Nat → St → Hp → List V → Prop, (∃ m, W 0 m (pickS js σ) (upd H2 D (.lst [])) []) ∧
      ∀ i m σ' H' ys, W i m σ' H' ys → H' D = some (.lst ys) ∧ ((J.stop i H' ∧ Q (.ref D) H') ∨ (J.go i H' ∧ ys.length < sizeLine ∧ ∀ x H2, J.yld i H' x H2 → g x σ' H2 fun σ2 H3 => tt σ2 H3 fun b H4 =>
        if b = true then te σ2 H4 fun v H5 => H5 D = some (.lst ys) ∧ ∃ m', m' < m ∧ W (i + 1) m' σ2 (upd H5 D (.lst (ys ++ [v]))) (ys ++ [v]) else ∃ m', m' < m ∧ W (i + 1) m' σ2 H4 ys)))
    (hRR : ∀ (D C : Addr) (s' : Shared) (H' : Hp) (m : Str → Option Value), Inv X pins σ H' s' → s'.heap.Ns C m → FpOk X pins H' C → Q (.ref D) H' → RR (.ref D) C (.ok .next) s') :
    wpAny (model X.prog X.w) X.A (newList []) (fun acc s₃ => wpAny (model X.prog X.w) X.A (newFunctionEnv scope X.env.globals (clos X.env scope.names []) [] X.env.qual none .none (some X.env)) (fun cenv s₄ =>
      codeAny (model X.prog X.w) X.A (.compStart (.ListComp elt [⟨target, iter, ifs, 0⟩] scope pos) 0 (.ref it) acc { cenv with scope := relabel scope X.env }) (RR acc cenv.locals) s₄) E s₃) E s₂ := by
  have hfr : ∀ y ∈ scope.names, y.2 = NameKind.free → ∃ c, X.env.cells.lookup y.1 = some c := fun y hy e => I2.ok.has y.1 (ok.free y hy e)
  refine wpAny_newObj_type (wpAny_newFunctionEnv ok.nocell (by intro y hy; simp at hy) (fun h₁ hns₁ hsb₁ => ?_) ok.kind)
  dsimp only at hns₁ hsb₁ ⊢
  generalize hHL : s₂.heap.push { cls := .type "list", dict := none, data := .seq ([] : List Value).toArray } = HL at hns₁ hsb₁ ⊢
  have hC : HL.objs.size = s₂.heap.objs.size + 1 := by rw [← hHL, Heap.size_push]
  have hCle : s₂.heap.objs.size ≤ HL.objs.size := by rw [hC]; exact Nat.le_succ _
  have hDC : s₂.heap.objs.size ≠ HL.objs.size := by rw [hC]; exact Nat.ne_of_lt (Nat.lt_succ_self _)
  have old : ∀ b o, s₂.heap.get? b = some o → h₁.get? b = some o := fun b o e => hsb₁.extBut b o (Nat.ne_of_lt (Nat.lt_of_lt_of_le (Heap.lt_size e) hCle)) (Heap.get?_push_of_some _ (hHL ▸ Heap.get?_push_of_some _ e))
  have hacc : h₁.get? s₂.heap.objs.size = some { cls := .type "list", dict := none, data := .seq ([] : List Value).toArray } := hsb₁.extBut _ _ hDC (Heap.get?_push_of_some _ (hHL ▸ Heap.get?_push_size _ rfl))
  have hD0 : H2 s₂.heap.objs.size = none := I2.hok.fresh (Nat.le_refl _)
  have hC0 : H2 HL.objs.size = none := I2.hok.fresh hCle
  obtain ⟨W, ⟨m0, w0⟩, turn⟩ := h _ hD0
  have hlook : ∀ x c, (clos X.env scope.names []).lookup x = some c → X.env.cells.lookup x = some c := fun x c e => clos_look hfr (fun y d q => by simp at q) e
  have hlt : ∀ b ∈ fp, b < s₂.heap.objs.size := fun b hb => let ⟨o, e, _⟩ := T.obj 0 _ st2 b hb; Heap.lt_size e
  have okc : (cxComp X Nc scope (clos X.env scope.names []) HL.objs.size s₂ H2 fp).Ok := by
    refine ⟨I2.ok.mod, by show scope.kind = _; exact ok.kind, I2.ok.glob, I2.ok.blt, hCle, fun x y c e1 e2 => I2.ok.inj x y c (hlook x c e1) (hlook y c e2), fun x hx => ?_, fun x c z _ => absurd z Bool.false_ne_true, I2.ok.hd, I2.ok.frames, .inl rfl, fun b hb => ⟨?_, fun x c e => (f2 b hb).2.2.2.2.1 x c (hlook x c e)⟩,
      I2.bs, Nat.le_trans I2.ok.bsz I2.sz, fun b o e hb => ?_, fun b hb z => ?_, I2.stack, I2.stkFree⟩
    · exact clos_has (.inl (relabel_cf ok.nocell hx))
    · exact Nat.ne_of_lt (Nat.lt_of_lt_of_le (hlt b hb) hCle)
    · rcases (f2 b hb).2.2.2.1 with z | z
      · exact I2.ok.noex b o e z
      · exact absurd (Nat.lt_of_lt_of_le (Heap.lt_size e) (Nat.le_trans I2.ok.bsz z)) (Nat.lt_irrefl _)
    · rcases List.mem_cons.mp (I2.stkSub b z) with e | e
      · exact (f2 b hb).2.1 e
      · exact (f2 b hb).2.2.1 e
  have fpc : ∀ {H' : Hp}, (∀ b ∈ fp, H' b = none) → ∀ b ∈ fp, FpOk (cxComp X Nc scope (clos X.env scope.names []) HL.objs.size s₂ H2 fp) [] H' b := fun {H'} hn b hb =>
    ⟨hn b hb, (okc.exf b hb).1, okc.exfs b hb, .inl hb, (okc.exf b hb).2, fun p hp => absurd (show p ∈ ([] : List (Addr × Obj)) from hp) (by simp)⟩
  have Ic : Inv (cxComp X Nc scope (clos X.env scope.names []) HL.objs.size s₂ H2 fp) [] (pickS js σ) (upd H2 s₂.heap.objs.size (.lst [])) { s₂ with heap := h₁, toks := s₂.toks + ([] : List (Str × Value)).length } := by
    refine ⟨okc, rfl, I2.bare, Un.laid old (Nat.le_refl _) hD0, ⟨_, hns₁, fun i x v e1 e2 e3 => ?_⟩, fun x c e => ?_, ?_, fun x c e => ?_, fun p hp => absurd (show p ∈ ([] : List (Addr × Obj)) from hp) (by simp), ?_, ?_⟩
    · have e1' : Nc[i]? = some x := e1
      unfold pickS at e2
      rw [List.getElem?_map] at e2
      cases ej : js[i]? with
      | none => rw [ej] at e2; simp at e2
      | some oj =>
        rw [ej] at e2
        cases oj with
        | none => simp at e2
        | some j =>
          have e2' : (σ[j]?).getD none = some v := by simpa using e2
          have e2'' : σ[j]? = some (some v) := by
            cases q : σ[j]? with
            | none => rw [q] at e2'; simp at e2'
            | some z => rw [q] at e2'; simp at e2'; rw [e2']
          obtain ⟨hN, hF⟩ := ok.map i x j e1' ej
          have hmem : (x, NameKind.free) ∈ scope.names := PySem.mem_of_lookup hF
          have hkX := ok.free _ hmem rfl
          obtain ⟨m, hn, hl⟩ := I2.loc
          have hvis : Vis X.env.scope x := by
            rcases hkX with z | z
            · exact .inr (.inl z)
            · exact .inr (.inr z)
          obtain ⟨u, ru, lk⟩ := hl j x v hN e2'' hvis
          refine ⟨u, ru, .inr ?_⟩
          rcases lk with ⟨k1, _⟩ | ⟨_, c, ec, ic⟩
          · have k1' : X.env.kindOf x = some NameKind.local := k1
            rcases hkX with z | z
            · rw [z] at k1'; cases k1'
            · rw [z] at k1'; cases k1'
          · obtain ⟨c', hc'⟩ := clos_has (env := X.env) (l := scope.names) (cs := []) (x := x) (.inl hmem)
            have e' := hlook x c' hc'
            rw [ec] at e'
            cases e'
            exact ⟨lookup_relabel_free hF, c, hc', ic.keeps old⟩
    · obtain ⟨v, q⟩ := I2.cell x c (hlook x c e)
      exact ⟨v, q.keeps old⟩
    · show upd H2 s₂.heap.objs.size (.lst []) HL.objs.size = none
      rw [upd_ne (Ne.symm hDC)]; exact hC0
    · obtain ⟨v, q⟩ := I2.cell x c (hlook x c e)
      rw [upd_ne (Nat.ne_of_lt q.lt)]
      exact I2.freeC x c (hlook x c e)
    · exact I2.hok.laid old (Nat.le_refl _) ⟨Nat.zero_le _, [], _, .nil, hacc⟩
    · show (pickS js σ).length = Nc.length
      unfold pickS
      rw [List.length_map]; exact ok.len
  have back : ∀ {σ' : St} {H' : Hp} {s' : Shared}, Inv (cxComp X Nc scope (clos X.env scope.names []) HL.objs.size s₂ H2 fp) [] σ' H' s' → Inv X pins σ H' s' := fun {σ' H' s'} I4 =>
    I2.call' (ch := fp) I4.os I4.base I4.hok I4.bare fun b hb => ⟨(f2 b hb).2.2.2.1, (f2 b hb).2.1, (f2 b hb).2.2.2.2.1, (f2 b hb).2.2.2.2.2⟩
  have st1 : tn 0 h₁ := T.keep 0 _ _ st2 fun b _ o e => old b o e
  have loop : ∀ s₃ : Shared, s₃ = { s₂ with heap := h₁, toks := s₂.toks + ([] : List (Str × Value)).length } →
      codeAny (model X.prog X.w) X.A (.compLoop (.ListComp elt [⟨target, iter, ifs, 0⟩] scope pos) 0 (.ref it) (.ref s₂.heap.objs.size) (compEnvC scope (clos X.env scope.names []) HL.objs.size X.env))
        (RR (.ref s₂.heap.objs.size) HL.objs.size) s₃ := by
    rintro s₃ rfl
    refine compLoop_any (fun n s' => ∃ i σ' H' ys, Inv (cxComp X Nc scope (clos X.env scope.names []) HL.objs.size s₂ H2 fp) [] σ' H' s' ∧ tn i s'.heap ∧ (∀ b ∈ fp, H' b = none) ∧ W i n σ' H' ys) ?_ m0
      ⟨0, pickS js σ, _, [], Ic, st1, fun b hb => by rw [upd_ne (Nat.ne_of_lt (hlt b hb))]; exact (f2 b hb).1, w0⟩
    rintro n s3 ⟨i, σ3, H3, ys, I3, st3, fr3, w3⟩
    obtain ⟨hD3, tn3⟩ := turn i n σ3 H3 ys w3
    rcases tn3 with ⟨stop, q⟩ | ⟨go, hys, step⟩
    · refine thn (T.done (cxComp X Nc scope (clos X.env scope.names []) HL.objs.size s₂ H2 fp) rfl rfl rfl hc i [] s3 σ3 H3 NoE I3 (fpc fr3) st3 stop) fun r s4 ⟨hr, I4⟩ => ?_
      subst hr
      obtain ⟨m4, n4, _⟩ := I4.loc
      exact hRR _ _ s4 H3 m4 (back I4) n4 (I2.fpOk hCle I4.free) q
    · refine thn (T.item (cxComp X Nc scope (clos X.env scope.names []) HL.objs.size s₂ H2 fp) rfl rfl rfl hc i [] s3 σ3 H3 NoE I3 (fpc fr3) st3 go) fun r s4 ⟨u, hr, h4⟩ => ?_
      subst hr
      refine thn h4 fun _ s5 ⟨x, H5, I5, r5, y5, st5, fr5⟩ => ?_
      have I5' := I5.pinned (fpc fr5) (T.obj _ _ st5)
      have fin : ∀ {σ7 : St} {H7 : Hp} {s7 : Shared} {zs : List V} {m' : Nat}, Inv (cxComp X Nc scope (clos X.env scope.names []) HL.objs.size s₂ H2 fp) ([] ++ pinsAt fp s5.heap) σ7 H7 s7 → m' < n → W (i + 1) m' σ7 H7 zs →
          ∃ m, m < n ∧ ∃ i σ' H' ys, Inv (cxComp X Nc scope (clos X.env scope.names []) HL.objs.size s₂ H2 fp) [] σ' H' s7 ∧ tn i s7.heap ∧ (∀ b ∈ fp, H' b = none) ∧ W i m σ' H' ys := fun {σ7 H7 s7 zs m'} I7 hm w7 => by
        refine ⟨m', hm, i + 1, σ7, H7, zs, I7.unpinned, T.keep _ _ _ st5 fun b hb o e => (I7.pin (b, o) (List.mem_append_right _ (List.mem_append_right _ (mem_pinsAt hb e)))).1, fun b hb => ?_, w7⟩
        obtain ⟨o, e, d⟩ := T.obj _ _ st5 b hb
        exact (I7.pin (b, o) (List.mem_append_right _ (List.mem_append_right _ (mem_pinsAt hb e)))).2.1
      refine thn (hg _ _ _ _ _ _ s5 σ3 H5 x u _ I5' r5 (step x H5 y5)) fun _ s6 ⟨σ6, H6, I6, q6⟩ => ?_
      refine thn (ht _ _ _ _ _ _ s6 σ6 H6 _ I6 q6) fun b s7 ⟨H7, I7, q7⟩ => ?_
      cases b with
      | false =>
        obtain ⟨m', hm, w7⟩ := q7
        exact fin I7 hm w7
      | true =>
        refine thn (he _ _ _ _ _ _ s7 σ6 H7 _ I7 q7) fun v s8 ⟨y, H8, I8, r8, hD8, m', hm, w8⟩ => ?_
        refine thn (mt_append _ s8 σ6 H8 (.ref s₂.heap.objs.size) [y] (.ref s₂.heap.objs.size) [v] (fun _ H9 => H9 = upd H8 s₂.heap.objs.size (.lst (ys ++ [y]))) I8 rfl (.cons r8 .nil) ⟨_, ys, y, rfl, rfl, hD8, hys, rfl⟩) fun v9 s9 ⟨_, H9, I9, _, e9⟩ => ?_
        subst e9
        exact fin I9 hm w8
  exact codeAny_compStart_list (loop _ rfl) (T.self X.A 0 _ _ _ st1 (loop _ rfl))
theorem pe_comp (ok : CompOk X Nc js scope) (hc : X.calm = true) (hi : PI X target iter wi)
    (hg : ∀ C cl s H ex, PG (cxComp X Nc scope cl C s H ex) target g) (ht : ∀ C cl s H ex, PTs (cxComp X Nc scope cl C s H ex) ifs tt) (he : ∀ C cl s H ex, PE (cxComp X Nc scope cl C s H ex) elt te)
    (hs : ∀ x, foldedSetIterable iter X.env x = pure x := by intro _; rfl) : PE X (.ListComp elt [⟨target, iter, ifs, 0⟩] scope pos) (tComp js wi g tt te) := by
  intro pins s σ H Q I h
  have hfr : ∀ y ∈ scope.names, y.2 = NameKind.free → ∃ c, X.env.cells.lookup y.1 = some c := fun y hy e => I.ok.has y.1 (ok.free y hy e)
  rw [eval_ListComp]
  refine wpAny_comprehension_free (use := none) rfl hs (closureFor_clos hfr) ok.kind ok.names (thn (hi pins s σ H _ I h) fun v s1 h1 => thn h1 fun itv s2 h2 => ?_)
  obtain ⟨it, fp, tn, J, H2, e, I2, T, st2, f2, h⟩ := h2
  subst e
  refine comp_block (RR := fun acc C => compPost (model X.prog X.w) X.A X.xe none (EP X pins σ Q) acc C) (Q := Q) ok hc hg ht he I2 T st2 f2 h ?_
  intro D C s' H' m I' n' fC q
  refine ⟨m, n', fun h' sb => ⟨.ref D, H', ?_, rfl, q⟩⟩
  exact I'.turned (t' := s'.toks) (fun b o hb e => (sb.2 b hb).trans e) fC.1 fC.2.1 fC.2.2.2.1 fC.2.2.2.2.1 fC.2.2.2.2.2
theorem ps_setComp {i : Nat} {y : Str} {py spos : Pos} (ok : CompOk X Nc js scope) (hc : X.calm = true) (hi : PI X target iter wi)
    (hg : ∀ C cl s H ex, PG (cxComp X Nc scope cl C s H ex) target g) (ht : ∀ C cl s H ex, PTs (cxComp X Nc scope cl C s H ex) ifs tt) (he : ∀ C cl s H ex, PE (cxComp X Nc scope cl C s H ex) elt te)
    (hN : X.N.Nodup) (hy : X.N[i]? = some y) (hx : Loc X.env.scope y) (hsw : swapsWith (.ListComp elt [⟨target, iter, ifs, 0⟩] scope pos) (some (.Name y py)) spos.line X.env = pure true)
    (hs : ∀ x, foldedSetIterable iter X.env x = pure x := by intro _; rfl) (hf : X.fn y = true ∨ X.env.scope.names.lookup y = some .local := by first | exact .inl rfl | exact .inr rfl | assumption) :
    PS X (.Assign [.Name y py] (.ListComp elt [⟨target, iter, ifs, 0⟩] scope pos) spos) (fun D σ H => tComp js wi g tt te σ H fun v H' => D.nx (σ.set i (some v)) H') := by
  intro pins s σ H D I h
  have hfr : ∀ y ∈ scope.names, y.2 = NameKind.free → ∃ c, X.env.cells.lookup y.1 = some c := fun y hy e => I.ok.has y.1 (ok.free y hy e)
  rw [exec_Assign_Name_used _ _ _ _ hsw]
  refine wpAny_bind (wpAny_standAt (wpAny_bind ?_))
  show wpAny _ X.A (do let _ ← comprehension (.ListComp elt [⟨target, iter, ifs, 0⟩] scope pos) scope X.env _ (newList []) false (eval iter X.env) (some (assign (.Name y py) X.env))) _ _ s
  refine wpAny_bind (thn (wpAny_comprehension_free (use := some (assign (.Name y py) X.env)) (Q := fun _ s' => SP X pins D .next s') rfl hs (closureFor_clos hfr) ok.kind ok.names
    (thn (hi pins s σ H _ I h) fun v s1 h1 => thn h1 fun itv s2 h2 => ?_)) fun _ s' hq => wpAny_pure (wpAny_pure hq))
  obtain ⟨it, fp, tn, J, H2, e, I2, T, st2, f2, h⟩ := h2
  subst e
  refine comp_block (RR := fun acc C => compPost (model X.prog X.w) X.A X.xe (some (assign (.Name y py) X.env)) (fun _ s' => SP X pins D .next s') acc C) (Q := fun v H' => D.nx (σ.set i (some v)) H') ok hc hg ht he I2 T st2 f2 h ?_
  intro Da C s' H' m I' n' fC q
  show wpAny _ X.A (assign (.Name y py) X.env (.ref Da)) _ _ _
  refine wpAny_assign_Name (store_ok2 I' hN hy hx (show RelV (.ref Da) (.ref Da) from rfl) (fun s'' I'' hsb => ?_) hf)
  obtain ⟨a, sb, ha⟩ := hsb
  have hCa : C ≠ a := by
    rcases ha with e | e
    · rw [e]; exact fC.2.1
    · exact fun z => fC.2.2.2.2.1 y a e z.symm
  refine ⟨m, n'.sameBut sb hCa, fun h' sb' => ⟨σ.set i (some (.ref Da)), H', ?_, q⟩⟩
  exact I''.turned (t' := s''.toks) (fun b o hb e => (sb'.2 b hb).trans e) fC.1 fC.2.1 fC.2.2.2.1 fC.2.2.2.2.1 fC.2.2.2.2.2
end
section
variable {js : List (Option Nat)} {g : TG} {tt : TT} {te : TE} {σ : St} {H : Hp} {Q : VK}
def CompW (J : It) (js : List (Option Nat)) (g : TG) (tt : TT) (te : TE) (σ : St) (H : Hp) (Q : VK) : Prop :=
  ∀ D, H D = none → ∃ W : Nat → Nat → St → Hp → List V → Prop, (∃ m, W 0 m (pickS js σ) (upd H D (.lst [])) []) ∧
  ∀ i m σ' H' ys, W i m σ' H' ys → H' D = some (.lst ys) ∧ ((J.stop i H' ∧ Q (.ref D) H') ∨ (J.go i H' ∧ ys.length < sizeLine ∧ ∀ x H2, J.yld i H' x H2 → g x σ' H2 fun σ2 H3 => tt σ2 H3 fun b H4 =>
    if b = true then te σ2 H4 fun v H5 => H5 D = some (.lst ys) ∧ ∃ m', m' < m ∧ W (i + 1) m' σ2 (upd H5 D (.lst (ys ++ [v]))) (ys ++ [v]) else ∃ m', m' < m ∧ W (i + 1) m' σ2 H4 ys))
structure Src (J : It) (n : Nat) (f : Nat → V) (Ok : Hp → Prop) : Prop where
  go : ∀ i H, i < n → Ok H → J.go i H
  yld : ∀ i H x H', i < n → Ok H → J.yld i H x H' → H' = H ∧ x = f i
  stop : ∀ H, Ok H → J.stop n H
theorem src_list {K : PySem.W.Frag} {a : Addr} {xs : List V} : Src (Itl K a) xs.length (fun i => (xs[i]?).getD .non) (fun H => SqL K H a xs) :=
  ⟨fun i H hi h => ⟨xs, xs[i], h, by simp [hi]⟩, fun i H x H' hi h y => ⟨y.1, by rw [y.2 xs h]; rfl⟩, fun H h => ⟨xs, h, Nat.le_refl _⟩⟩
theorem comp_by {J : It} {n : Nat} {f : Nat → V} {Ok : Hp → Prop} (S : Src J n f Ok) (hn : n ≤ sizeLine) (Pv : Addr → Nat → St → Hp → List V → Prop) (h0 : ∀ D, H D = none → Pv D 0 (pickS js σ) (upd H D (.lst [])) [])
    (hk : ∀ D i σ' H' ys, H D = none → i ≤ n → Pv D i σ' H' ys → Ok H' ∧ H' D = some (.lst ys) ∧ ys.length ≤ i)
    (hs : ∀ D i σ' H' ys (R : St → Hp → List V → Prop), H D = none → i < n → Pv D i σ' H' ys → (∀ a b c, Pv D (i + 1) a b c → R a b c) → g (f i) σ' H' fun σ2 H3 => tt σ2 H3 fun b H4 =>
      if b = true then te σ2 H4 fun v H5 => H5 D = some (.lst ys) ∧ R σ2 (upd H5 D (.lst (ys ++ [v]))) (ys ++ [v]) else R σ2 H4 ys)
    (hd : ∀ D σ' H' ys, H D = none → Pv D n σ' H' ys → Q (.ref D) H') : CompW J js g tt te σ H Q := by
  intro D hD
  refine ⟨fun i m σ' H' ys => m = n - i ∧ i ≤ n ∧ Pv D i σ' H' ys, ⟨n, by simp, Nat.zero_le _, h0 D hD⟩, ?_⟩
  rintro i m σ' H' ys ⟨rfl, hi, p⟩
  obtain ⟨q1, q2, q3⟩ := hk D i σ' H' ys hD hi p
  refine ⟨q2, ?_⟩
  by_cases hlt : i < n
  · refine .inr ⟨S.go i H' hlt q1, by omega, fun x H2 y => ?_⟩
    obtain ⟨rfl, rfl⟩ := S.yld i H' x H2 hlt q1 y
    exact hs D i σ' _ ys (fun σ2 H3 ys' => ∃ m', m' < n - i ∧ (m' = n - (i + 1) ∧ i + 1 ≤ n ∧ Pv D (i + 1) σ2 H3 ys')) hD hlt p fun a b c r => ⟨n - (i + 1), by omega, rfl, hlt, r⟩
  · have e : i = n := by omega
    subst e
    exact .inl ⟨S.stop H' q1, hd D σ' H' ys hD p⟩
end
end L2
namespace L2
open PySem PySem.Spec PyProof.Rows
def Itf (n : Nat) (f : Nat → V) : It := ⟨fun i _ => i < n, fun i H x H' => H' = H ∧ x = f i, fun i _ => i = n⟩
def signV (z : Str) (i : Nat) : V := .str ⟨#[(z.cps[i]?).getD 0]⟩
section
variable {X : Cx} {tg : Expr}
def iStr (tl : TE) : TI := fun σ H R => tl σ H fun x H1 => ∃ z, x = .str z ∧ R (Itf z.cps.size (signV z)) H1
end
section
variable {X : Cx}
def clsV : V → Option Value
  | .ty n => some (.type n)
  | .ref a => some (.ref a)
  | _ => none
theorem clsV_rel {c : V} {u v : Value} (h : clsV c = some u) (r : RelV c v) : v = u := by
  cases c with
  | ty n => cases h; exact r
  | ref a => cases h; exact r
  | _ => cases h
def rIsi (K : PySem.W.Frag) : List V → Hp → VK → Prop := fun xs H Q => ∃ x c u t b, xs = [x, c] ∧ clsV c = some u ∧ TyOf K H x t ∧ PySem.W.kitOne K t u = some b ∧ Q (.bl b) H
theorem call_isinst : CallR X (.builtin "isinstance") (rIsi X.K) := by
  intro pins s σ H xs us Q I r h
  obtain ⟨x, c, u, t, b, rfl, hu, ty, e, q⟩ := h
  obtain ⟨v, u', rfl, rv, ru'⟩ := vals2 r
  cases clsV_rel hu ru'
  exact isinst_ok I rv ty e fun tk => ⟨.bl b, H, I.tok _, rfl, q⟩
def rSlS : V → Option Int → Option Int → Hp → VK → Prop := fun x lo hi H Q => ∃ z, x = .str z ∧ z.length ≤ sizeLine ∧ Q (.str (Txt.slice z lo hi)) H
theorem sl_str : SlR X rSlS := by
  intro pins s σ H x v vl vu lo hi sl Q I rx hs pl pu h
  obtain ⟨z, rfl, hz, q⟩ := h
  obtain ⟨t, rfl⟩ := rx
  obtain ⟨o, ho, hc, hd⟩ := hs
  refine ⟨"str", _, PySem.F.slot_str_getitem.lookup, typeIs_str _ _ _, ?_⟩
  have fin : ∀ (l u : Option Int) (t' : Tok) (k : Nat), Q (.str (Txt.slice z l u)) H → EP X pins σ Q (.str (Txt.slice z l u) t') { s with toks := k } := fun l u t' k q => ⟨.str _, H, I.tok _, ⟨_, rfl⟩, q⟩
  cases pl with
  | none =>
    cases pu with
    | none => exact wpAny_getItem_str_slice (l := none) (u := none) (st := none) ⟨o, ho, hc, hd⟩ rfl (post_val_or_str ⟨Nat.le_trans (Txt.slice_le z _ _) hz, fun t' k => fin _ _ t' k q⟩)
    | int j uj => exact wpAny_getItem_str_slice (l := none) (u := some (j, uj)) (st := none) ⟨o, ho, hc, hd⟩ rfl (post_val_or_str ⟨Nat.le_trans (Txt.slice_le z _ _) hz, fun t' k => fin _ _ t' k q⟩)
  | int i ui =>
    cases pu with
    | none => exact wpAny_getItem_str_slice (l := some (i, ui)) (u := none) (st := none) ⟨o, ho, hc, hd⟩ rfl (post_val_or_str ⟨Nat.le_trans (Txt.slice_le z _ _) hz, fun t' k => fin _ _ t' k q⟩)
    | int j uj => exact wpAny_getItem_str_slice (l := some (i, ui)) (u := some (j, uj)) (st := none) ⟨o, ho, hc, hd⟩ rfl (post_val_or_str ⟨Nat.le_trans (Txt.slice_le z _ _) hz, fun t' k => fin _ _ t' k q⟩)
end
end L2
namespace L2
open PySem PySem.Spec PyProof.Rows
theorem boot_lenT : bootBuiltins "len" = some (.builtin "len") := by decide +kernel
theorem boot_isinstanceT : bootBuiltins "isinstance" = some (.builtin "isinstance") := by decide +kernel
theorem boot_listT : bootBuiltins "list" = some (.type "list") := by decide +kernel
section
variable {X : Cx}
def rAddS : R2 := fun x y H Q => ∃ i j, x = .str i ∧ y = .str j ∧ i.length + j.length ≤ sizeLine ∧ Q (.str (i ++ j)) H
def rAddI : R2 := rI0 fun i j => .int (i + j)
def rAddA (K : PySem.W.Frag) : R2 := fun x y H Q => rAddI x y H Q ∨ rAddS x y H Q ∨ rCat x y H Q ∨ rCatT K x y H Q
theorem op_addA : OpR X (binaryOp .Add) (rAddA X.K) := op_add.or (op_add_str.or (op_cat.or op_catT))
theorem rAddA_int {K : PySem.W.Frag} {i j : Int} {H : Hp} {Q : VK} : rAddA K (.int i) (.int j) H Q ↔ Q (.int (i + j)) H := by
  constructor
  · rintro (⟨a, b, e1, e2, q⟩ | ⟨a, b, e1, _⟩ | ⟨a, b, _, _, e1, _⟩ | ⟨a, b, _, _, e1, _⟩)
    · cases e1; cases e2; exact q
    · cases e1
    · cases e1
    · cases e1
  · exact fun q => .inl ⟨i, j, rfl, rfl, q⟩
theorem rAddA_str {K : PySem.W.Frag} {i j : Str} {H : Hp} {Q : VK} : rAddA K (.str i) (.str j) H Q ↔ (i.length + j.length ≤ sizeLine ∧ Q (.str (i ++ j)) H) := by
  constructor
  · rintro (⟨a, b, e1, _⟩ | ⟨a, b, e1, e2, q⟩ | ⟨a, b, _, _, e1, _⟩ | ⟨a, b, _, _, e1, _⟩)
    · cases e1
    · cases e1; cases e2; exact q
    · cases e1
    · cases e1
  · exact fun q => .inr (.inl ⟨i, j, rfl, rfl, q⟩)
theorem rEq_int {i j : Int} {H : Hp} {Q : VK} : rEq (.int i) (.int j) H Q ↔ Q (.bl (decide (i = j))) H := by
  unfold rEq
  have e : decide (V.int i = V.int j) = decide (i = j) := by
    by_cases h : i = j
    · subst h; simp
    · simp [h]
  rw [e]
  exact ⟨fun h => h.2, fun h => ⟨rfl, h⟩⟩
theorem rEq_bl {i j : Bool} {H : Hp} {Q : VK} : rEq (.bl i) (.bl j) H Q ↔ Q (.bl (i == j)) H := by
  unfold rEq
  have e : decide (V.bl i = V.bl j) = (i == j) := dec_bl
  rw [e]
  exact ⟨fun h => h.2, fun h => ⟨rfl, h⟩⟩
theorem rEq_str {i j : Str} {H : Hp} {Q : VK} : rEq (.str i) (.str j) H Q ↔ Q (.bl (decide (i = j))) H := by
  unfold rEq
  have e : decide (V.str i = V.str j) = decide (i = j) := by
    by_cases h : i = j
    · subst h; simp
    · simp [h]
  rw [e]
  exact ⟨fun h => h.2, fun h => ⟨rfl, h⟩⟩
def inS (c s : Str) : Bool := !(Builtin.Str.occurrences s c 0 s.length 1).isEmpty
def rInS : R2 := fun x y H Q => ∃ i j, x = .str i ∧ y = .str j ∧ Q (.bl (inS i j)) H
def rNotInS : R2 := fun x y H Q => ∃ i j, x = .str i ∧ y = .str j ∧ Q (.bl (!inS i j)) H
def rInA (K : PySem.W.Frag) : R2 := fun x y H Q => rInS x y H Q ∨ rIn K false x y H Q
def rNotInA (K : PySem.W.Frag) : R2 := fun x y H Q => rNotInS x y H Q ∨ rIn K true x y H Q
theorem op_inS : OpR X (compareOp .In) rInS := op_in_str
theorem op_notinS : OpR X (compareOp .NotIn) rNotInS := op_notin_str
theorem op_inA : OpR X (compareOp .In) (rInA X.K) := op_inS.or op_in_seq
theorem op_notinA : OpR X (compareOp .NotIn) (rNotInA X.K) := op_notinS.or op_notIn_seq
theorem rInA_str {K : PySem.W.Frag} {i j : Str} {H : Hp} {Q : VK} : rInA K (.str i) (.str j) H Q ↔ Q (.bl (inS i j)) H := by
  constructor
  · rintro (⟨a, b, e1, e2, q⟩ | ⟨a, b, e1, _⟩)
    · cases e1; cases e2; exact q
    · cases e1
  · exact fun q => .inl ⟨i, j, rfl, rfl, q⟩
theorem rNotInA_str {K : PySem.W.Frag} {i j : Str} {H : Hp} {Q : VK} : rNotInA K (.str i) (.str j) H Q ↔ Q (.bl (!inS i j)) H := by
  constructor
  · rintro (⟨a, b, e1, e2, q⟩ | ⟨a, b, e1, _⟩)
    · cases e1; cases e2; exact q
    · cases e1
  · exact fun q => .inl ⟨i, j, rfl, rfl, q⟩
def rLenA (K : PySem.W.Frag) : List V → Hp → VK → Prop := fun xs H Q => (∃ x n, xs = [x] ∧ LenV K x H n ∧ Q (.int n) H) ∨ ∃ a kvs, xs = [V.ref a] ∧ H a = some (.dK kvs) ∧ Q (.int kvs.length) H
theorem call_lenA : CallR X (.builtin "len") (rLenA X.K) := call_len.or call_lenD
theorem rLenA_str {K : PySem.W.Frag} {z : Str} {H : Hp} {Q : VK} : rLenA K [.str z] H Q ↔ (z.length ≤ sizeLine ∧ Q (.int z.length) H) := by
  constructor
  · rintro (⟨x, n, e1, e2, q⟩ | ⟨a, kvs, e1, _⟩)
    · cases e1
      obtain ⟨h1, rfl⟩ : z.length ≤ sizeLine ∧ n = z.length := e2
      exact ⟨h1, q⟩
    · cases e1
  · exact fun q => .inl ⟨.str z, z.length, rfl, ⟨q.1, rfl⟩, q.2⟩
theorem rLenA_lst {K : PySem.W.Frag} {a : Addr} {xs : List V} {H : Hp} {Q : VK} (h : SqL K H a xs) (q : Q (.int xs.length) H) : rLenA K [.ref a] H Q := .inl ⟨.ref a, xs.length, rfl, .inl ⟨xs, h, rfl⟩, q⟩
def rSlA (K : PySem.W.Frag) : V → Option Int → Option Int → Hp → VK → Prop := fun x lo hi H Q => rSlS x lo hi H Q ∨ rSlL K x lo hi H Q ∨ rSlT K x lo hi H Q
theorem sl_any : SlR X (rSlA X.K) := sl_str.or (sl_list.or sl_tup)
theorem rSlA_str {K : PySem.W.Frag} {z : Str} {lo hi : Option Int} {H : Hp} {Q : VK} : rSlA K (.str z) lo hi H Q ↔ (z.length ≤ sizeLine ∧ Q (.str (Txt.slice z lo hi)) H) := by
  constructor
  · rintro (⟨x, e1, q⟩ | ⟨a, xs, e1, _⟩ | ⟨a, xs, e1, _⟩)
    · cases e1; exact q
    · cases e1
    · cases e1
  · exact fun q => .inl ⟨z, rfl, q⟩
theorem rIx_str {K : PySem.W.Frag} {z : Str} {i : Int} {H : Hp} {Q : VK} : rIx K (.str z) (.int i) H Q ↔ (z.length ≤ sizeLine ∧ ∃ c, atI z.cps.toList i = some c ∧ Q (.str ⟨#[c]⟩) H) := by
  constructor
  · rintro (⟨p, xs, j, v, e1, _⟩ | ⟨p, xs, j, v, e1, _⟩ | ⟨y, j, c, e1, e2, h1, h2, q⟩)
    · cases e1
    · cases e1
    · cases e1; cases e2; exact ⟨h1, c, h2, q⟩
  · rintro ⟨h1, c, h2, q⟩
    exact .inr (.inr ⟨z, i, c, rfl, rfl, h1, h2, q⟩)
theorem rIx_lst {K : PySem.W.Frag} {a : Addr} {xs : List V} {i : Int} {v : V} {H : Hp} {Q : VK} (h : SqL K H a xs) (e : atI xs i = some v) (q : Q v H) : rIx K (.ref a) (.int i) H Q := .inl ⟨a, xs, i, v, rfl, rfl, h, e, q⟩
theorem rIx_tup {K : PySem.W.Frag} {a : Addr} {xs : List V} {i : Int} {v : V} {H : Hp} {Q : VK} (h : SqT K H a xs) (e : atI xs i = some v) (q : Q v H) : rIx K (.ref a) (.int i) H Q := .inr (.inl ⟨a, xs, i, v, rfl, rfl, h, e, q⟩)
theorem rI_int {C : Int → Int → Prop} {g : Int → Int → V} {i j : Int} {H : Hp} {Q : VK} : rI C g (.int i) (.int j) H Q ↔ (C i j ∧ Q (g i j) H) := by
  constructor
  · rintro ⟨a, b, e1, e2, q⟩; cases e1; cases e2; exact q
  · exact fun q => ⟨i, j, rfl, rfl, q⟩
theorem rI0_int {g : Int → Int → V} {i j : Int} {H : Hp} {Q : VK} : rI0 g (.int i) (.int j) H Q ↔ Q (g i j) H := by
  constructor
  · rintro ⟨a, b, e1, e2, q⟩; cases e1; cases e2; exact q
  · exact fun q => ⟨i, j, rfl, rfl, q⟩
theorem rU_int {g : Int → V} {i : Int} {H : Hp} {Q : VK} : rU g (.int i) H Q ↔ Q (g i) H := by
  constructor
  · rintro ⟨a, e1, q⟩; cases e1; exact q
  · exact fun q => ⟨i, rfl, q⟩
theorem exBl {k : Bool} {P : Bool → Prop} : (∃ c, V.bl k = V.bl c ∧ P c) ↔ P k := by
  constructor
  · rintro ⟨c, e, q⟩; cases e; exact q
  · exact fun q => ⟨k, rfl, q⟩
theorem exInt {k : Int} {P : Int → Prop} : (∃ c, V.int k = V.int c ∧ P c) ↔ P k := by
  constructor
  · rintro ⟨c, e, q⟩; cases e; exact q
  · exact fun q => ⟨k, rfl, q⟩
theorem exStr {k : Str} {P : Str → Prop} : (∃ c, V.str k = V.str c ∧ P c) ↔ P k := by
  constructor
  · rintro ⟨c, e, q⟩; cases e; exact q
  · exact fun q => ⟨k, rfl, q⟩
theorem exSlot {v : V} {P : V → Prop} : (∃ x, some (some v) = some (some x) ∧ P x) ↔ P v := by
  constructor
  · rintro ⟨c, e, q⟩; cases e; exact q
  · exact fun q => ⟨v, rfl, q⟩
end
theorem Same.upd {H : Hp} {a : Addr} {o : HO} (h : H a = none) : Same H (upd H a o) := fun b u e => by rw [upd_ne (ne_of_none e h)]; exact e
theorem Same.tup {K : PySem.W.Frag} {H H' : Hp} {a : Addr} {xs : List V} (e : Same H H') (h : SqT K H a xs) : SqT K H' a xs := by
  rcases h with (h | ⟨o, h⟩) | h
  · exact .inl (.inl (e _ _ h))
  · exact .inl (.inr ⟨o, e _ _ h⟩)
  · exact .inr h
theorem TyOf.same {K : PySem.W.Frag} {H H' : Hp} {x : V} {t : Value} (s : Same H H') (h : TyOf K H x t) : TyOf K H' x t := by
  cases h with
  | non => exact .non
  | bl b => exact .bl b
  | int i => exact .int i
  | str z => exact .str z
  | flt z => exact .flt z
  | lst e => exact .lst (s _ _ e)
  | frz e => exact .frz (s _ _ e)
  | tup e => exact .tup (s _ _ e)
  | dK e => exact .dK (s _ _ e)
  | dT e => exact .dT (s _ _ e)
  | ins e cl ha hn htk hm => exact .ins (s _ _ e) cl ha hn htk hm
section
variable {X : Cx} {st : Stmt} {rest : List Stmt} {t u : TS}
def tMid (t u : TS) : TS := fun D σ H => ∃ M : St → Hp → Prop, t { D with nx := M } σ H ∧ ∀ σ' H', M σ' H' → u D σ' H'
theorem pss_mid (h1 : PS X st t) (h2 : PSs X rest u) : PSs X (st :: rest) (tMid t u) := by
  intro pins s σ H D I h
  obtain ⟨M, q1, q2⟩ := h
  refine wpAny_execs_cons (thn (h1 pins s σ H { D with nx := M } I q1) fun f s1 q => ?_)
  cases f with
  | next =>
    obtain ⟨σ', H', I', q⟩ := q
    exact h2 pins s1 σ' H' D I' (q2 σ' H' q)
  | ret v => exact q
  | brk => exact q
  | cont => exact q
end
theorem kit_str_str {K : PySem.W.Frag} : PySem.W.kitOne K (.type "str") (.type "str") = some true := by kernel_rfl
theorem kit_bool_bool {K : PySem.W.Frag} : PySem.W.kitOne K (.type "bool") (.type "bool") = some true := by kernel_rfl
end L2
namespace L2
open PySem PySem.Spec PyProof.Rows
theorem exRef {k : Addr} {P : Addr → Prop} : (∃ c, V.ref k = V.ref c ∧ P c) ↔ P k := by
  constructor
  · rintro ⟨c, e, q⟩; cases e; exact q
  · exact fun q => ⟨k, rfl, q⟩
theorem rNe_int {i j : Int} {H : Hp} {Q : VK} : rNe (.int i) (.int j) H Q ↔ Q (.bl (!decide (i = j))) H := by
  unfold rNe
  have e : decide (V.int i = V.int j) = decide (i = j) := by
    by_cases h : i = j
    · subst h; simp
    · simp [h]
  rw [e]
  exact ⟨fun h => h.2, fun h => ⟨rfl, h⟩⟩
theorem rNe_str {i j : Str} {H : Hp} {Q : VK} : rNe (.str i) (.str j) H Q ↔ Q (.bl (!decide (i = j))) H := by
  unfold rNe
  have e : decide (V.str i = V.str j) = decide (i = j) := by
    by_cases h : i = j
    · subst h; simp
    · simp [h]
  rw [e]
  exact ⟨fun h => h.2, fun h => ⟨rfl, h⟩⟩
theorem atI_in {α : Type} {xs : List α} {i : Int} (h0 : 0 ≤ i) (h1 : i < xs.length) : ∃ v, atI xs i = some v ∧ v ∈ xs ∧ xs[i.toNat]? = some v := by
  have hk : i.toNat < xs.length := by omega
  refine ⟨xs[i.toNat], ?_, List.getElem_mem hk, List.getElem?_eq_getElem hk⟩
  unfold atI ixN
  rw [if_pos h0, if_pos h1]
  exact List.getElem?_eq_getElem hk
theorem mod_lt' {i j : Int} (h : 0 < j) : 0 ≤ i % j ∧ i % j < j := ⟨Int.emod_nonneg _ (by omega), Int.emod_lt_of_pos _ h⟩
theorem ite_tt {A B : Prop} : (if true = true then A else B) = A := if_pos rfl
theorem ite_ft {A B : Prop} : (if false = true then A else B) = B := if_neg Bool.false_ne_true
theorem ite_tf {A B : Prop} : (if true = false then A else B) = B := if_neg (by decide)
theorem ite_ff {A B : Prop} : (if false = false then A else B) = A := if_pos rfl
theorem newO {H : Hp} {p : Addr} (hp : H p = none) (o : HO) : ∃ H', upd H p o = H' ∧ Same H H' ∧ H' p = some o := ⟨_, rfl, Same.upd hp, upd_same⟩
def ForW (J : It) (g : TG) (tb : TS) (D : Ends) (σ : St) (H : Hp) : Prop := ∃ W : Nat → Nat → St → Hp → Prop, (∃ m, W 0 m σ H) ∧ ∀ i m σ H, W i m σ H →
  (J.stop i H ∧ D.nx σ H) ∨ (J.go i H ∧ ∃ N : St → Hp → Prop, (∀ σ' H', N σ' H' → ∃ m', m' < m ∧ W (i + 1) m' σ' H') ∧ ∀ x H', J.yld i H x H' → g x σ H' fun σ2 H2 => tb { D with nx := N, ct := N, bk := D.nx } σ2 H2)
theorem tFor_eq {wi : TI} {g : TG} {tb : TS} {D : Ends} {σ : St} {H : Hp} : tFor wi g tb D σ H = wi σ H fun J H1 => ForW J g tb D σ H1 := rfl
theorem tComp_eq {js : List (Option Nat)} {wi : TI} {g : TG} {tt : TT} {te : TE} {σ : St} {H : Hp} {Q : VK} : tComp js wi g tt te σ H Q = wi σ H fun J H1 => CompW J js g tt te σ H1 Q := rfl
section
variable {K : PySem.W.Frag} {H : Hp} {Q : VK}
theorem rIsi_str_str {z : Str} : rIsi K [.str z, .ty "str"] H Q ↔ Q (.bl true) H := by
  constructor
  · rintro ⟨x, c, u, t, b, e1, hu, ty, e, q⟩
    cases e1; cases hu; cases ty
    rw [kit_str_str] at e; cases e; exact q
  · exact fun q => ⟨_, _, _, _, _, rfl, rfl, .str z, kit_str_str, q⟩
theorem rIsi_bl_bool {z : Bool} : rIsi K [.bl z, .ty "bool"] H Q ↔ Q (.bl true) H := by
  constructor
  · rintro ⟨x, c, u, t, b, e1, hu, ty, e, q⟩
    cases e1; cases hu; cases ty
    rw [kit_bool_bool] at e; cases e; exact q
  · exact fun q => ⟨_, _, _, _, _, rfl, rfl, .bl z, kit_bool_bool, q⟩
def NotStr (K : PySem.W.Frag) (H : Hp) (x : V) : Prop := ∃ t, TyOf K H x t ∧ PySem.W.kitOne K t (.type "str") = some false
theorem NotStr.same {H' : Hp} {x : V} (s : Same H H') (h : NotStr K H x) : NotStr K H' x := let ⟨t, a, b⟩ := h; ⟨t, a.same s, b⟩
end
end L2
namespace L2
open PySem PySem.Spec PyProof.Rows
theorem kit_list_list {K : PySem.W.Frag} : PySem.W.kitOne K (.type "list") (.type "list") = some true := by kernel_rfl
section
variable {K : PySem.W.Frag} {H : Hp} {Q : VK}
def rStarts : V → List V → Hp → VK → Prop := fun x xs H Q => ∃ a b, x = .str a ∧ xs = [.str b] ∧ Q (.bl (Txt.startswith a b)) H
def rEnds : V → List V → Hp → VK → Prop := fun x xs H Q => ∃ a b, x = .str a ∧ xs = [.str b] ∧ Q (.bl (Txt.endswith a b)) H
def rFind : V → List V → Hp → VK → Prop := fun x xs H Q => ∃ a b, x = .str a ∧ xs = [.str b] ∧ Q (.int (Txt.find a b)) H
def rSplit : V → List V → Hp → VK → Prop := fun x xs H Q => ∃ a b, x = .str a ∧ xs = [.str b] ∧ (b.length == 0) = false ∧ a.length + 2 ≤ sizeLine ∧ ∀ p, H p = none → Q (.ref p) (upd H p (.lst ((Txt.split a b).map V.str)))
def rPart : V → List V → Hp → VK → Prop := fun x xs H Q => ∃ a b, x = .str a ∧ xs = [.str b] ∧ (b.length == 0) = false ∧ a.length ≤ sizeLine ∧
  ∀ p, H p = none → Q (.ref p) (upd H p (.tup [.str (Txt.partition a b).1, .str (Txt.partition a b).2.1, .str (Txt.partition a b).2.2]))
theorem rStarts_at {a b : Str} : rStarts (.str a) [.str b] H Q ↔ Q (.bl (Txt.startswith a b)) H := ⟨by rintro ⟨_, _, e1, e2, q⟩; cases e1; cases e2; exact q, fun q => ⟨_, _, rfl, rfl, q⟩⟩
theorem rEnds_at {a b : Str} : rEnds (.str a) [.str b] H Q ↔ Q (.bl (Txt.endswith a b)) H := ⟨by rintro ⟨_, _, e1, e2, q⟩; cases e1; cases e2; exact q, fun q => ⟨_, _, rfl, rfl, q⟩⟩
theorem rFind_at {a b : Str} : rFind (.str a) [.str b] H Q ↔ Q (.int (Txt.find a b)) H := ⟨by rintro ⟨_, _, e1, e2, q⟩; cases e1; cases e2; exact q, fun q => ⟨_, _, rfl, rfl, q⟩⟩
theorem rSplit_at {a b : Str} : rSplit (.str a) [.str b] H Q ↔ ((b.length == 0) = false ∧ a.length + 2 ≤ sizeLine ∧ ∀ p, H p = none → Q (.ref p) (upd H p (.lst ((Txt.split a b).map V.str)))) :=
  ⟨by rintro ⟨_, _, e1, e2, q⟩; cases e1; cases e2; exact q, fun q => ⟨_, _, rfl, rfl, q⟩⟩
theorem rPart_at {a b : Str} : rPart (.str a) [.str b] H Q ↔ ((b.length == 0) = false ∧ a.length ≤ sizeLine ∧
    ∀ p, H p = none → Q (.ref p) (upd H p (.tup [.str (Txt.partition a b).1, .str (Txt.partition a b).2.1, .str (Txt.partition a b).2.2]))) := ⟨by rintro ⟨_, _, e1, e2, q⟩; cases e1; cases e2; exact q, fun q => ⟨_, _, rfl, rfl, q⟩⟩
theorem tyV_str {z : Str} {P : Prop} : (tyV K "str" (.str z) H ∧ P) ↔ P := ⟨fun h => h.2, fun h => ⟨rfl, h⟩⟩
def rInt1 : List V → Hp → VK → Prop := fun xs H Q => (∃ i, xs = [.int i] ∧ Q (.int i) H) ∨ ∃ k, xs = [.bl k] ∧ Q (.int (if k then 1 else 0)) H
theorem rInt1_bl {k : Bool} : rInt1 [.bl k] H Q ↔ Q (.int (if k then 1 else 0)) H := ⟨by
  rintro (⟨_, e, q⟩ | ⟨_, e, q⟩)
  · cases e
  · cases e; exact q, fun q => .inr ⟨_, rfl, q⟩⟩
theorem rInt1_int {i : Int} : rInt1 [.int i] H Q ↔ Q (.int i) H := by
  constructor
  · rintro (⟨_, e, q⟩ | ⟨_, e, q⟩)
    · cases e; exact q
    · cases e
  · exact fun q => .inl ⟨_, rfl, q⟩
def rListOf (K : PySem.W.Frag) : List V → Hp → VK → Prop := fun xs H Q => ∃ p ys, xs = [.ref p] ∧ (SqL K H p ys ∨ SqT K H p ys) ∧ ∀ l, H l = none → Q (.ref l) (upd H l (.lst ys))
end
def rIsN : R2 := fun x y H Q => y = .non ∧ Q (.bl (decide (x = .non))) H
def rNotN : R2 := fun x y H Q => y = .non ∧ Q (.bl (!decide (x = .non))) H
section
variable {H : Hp} {Q : VK}
theorem rIsN_ref {a : Addr} : rIsN (.ref a) .non H Q ↔ Q (.bl false) H := ⟨fun h => h.2, fun h => ⟨rfl, h⟩⟩
theorem rIsN_non : rIsN .non .non H Q ↔ Q (.bl true) H := ⟨fun h => h.2, fun h => ⟨rfl, h⟩⟩
theorem rIsN_str {a : Str} : rIsN (.str a) .non H Q ↔ Q (.bl false) H := ⟨fun h => h.2, fun h => ⟨rfl, h⟩⟩
theorem rNotN_ref {a : Addr} : rNotN (.ref a) .non H Q ↔ Q (.bl true) H := ⟨fun h => h.2, fun h => ⟨rfl, h⟩⟩
theorem rNotN_non : rNotN .non .non H Q ↔ Q (.bl false) H := ⟨fun h => h.2, fun h => ⟨rfl, h⟩⟩
end
mutual
inductive Den (K : PySem.W.Frag) (H : Hp) : V → PyData → Prop
  | non : Den K H .non .none
  | bl (b : Bool) : Den K H (.bl b) (.bool b)
  | int (i : Int) : Den K H (.int i) (.int i)
  | str (x : Str) : Den K H (.str x) (.str x)
  | lst {a : Addr} {xs : List V} {ds : List PyData} : SqL K H a xs → DenAll K H xs ds → Den K H (.ref a) (.list ds)
  | tup {a : Addr} {xs : List V} {ds : List PyData} : SqT K H a xs → DenAll K H xs ds → Den K H (.ref a) (.tuple ds)
inductive DenAll (K : PySem.W.Frag) (H : Hp) : List V → List PyData → Prop
  | nil : DenAll K H [] []
  | cons {x : V} {xs : List V} {d : PyData} {ds : List PyData} : Den K H x d → DenAll K H xs ds → DenAll K H (x :: xs) (d :: ds)
end
theorem denStrs {K : PySem.W.Frag} {H : Hp} : ∀ ys : List Str, DenAll K H (ys.map V.str) (ys.map PyData.str)
  | [] => .nil
  | y :: ys => .cons (.str y) (denStrs ys)
def rEqD (K : PySem.W.Frag) : R2 := fun x y H Q => ∃ d e, Den K H x d ∧ Den K H y e ∧ SeqAt.shaped d = true ∧ SeqAt.shaped e = true ∧ Q (.bl (PyData.eqv d e)) H
def rNeD (K : PySem.W.Frag) : R2 := fun x y H Q => ∃ d e, Den K H x d ∧ Den K H y e ∧ SeqAt.shaped d = true ∧ SeqAt.shaped e = true ∧ Q (.bl (!PyData.eqv d e)) H
def rEqH (K : PySem.W.Frag) : R2 := fun x y H Q => rEq x y H Q ∨ rEqD K x y H Q
def rNeH (K : PySem.W.Frag) : R2 := fun x y H Q => rNe x y H Q ∨ rNeD K x y H Q
section
variable {K : PySem.W.Frag} {H : Hp} {Q : VK}
theorem rEqH_str {i j : Str} : rEqH K (.str i) (.str j) H Q ↔ Q (.bl (decide (i = j))) H := by
  constructor
  · rintro (h | ⟨d, e, h1, h2, _, _, q⟩)
    · exact rEq_str.mp h
    · cases h1; cases h2
      rw [show decide (i = j) = PyData.eqv (.str i) (.str j) from by simp only [PyData.eqv]; by_cases z : i = j <;> simp [z]]; exact q
  · exact fun q => .inl (rEq_str.mpr q)
theorem rEqH_int {i j : Int} : rEqH K (.int i) (.int j) H Q ↔ Q (.bl (decide (i = j))) H := by
  constructor
  · rintro (h | ⟨d, e, h1, h2, _, _, q⟩)
    · exact rEq_int.mp h
    · cases h1; cases h2
      rw [show decide (i = j) = PyData.eqv (.int i) (.int j) from by simp only [PyData.eqv]; by_cases z : i = j <;> simp [z]]; exact q
  · exact fun q => .inl (rEq_int.mpr q)
theorem rEqH_bl {i j : Bool} : rEqH K (.bl i) (.bl j) H Q ↔ Q (.bl (i == j)) H := by
  constructor
  · rintro (h | ⟨d, e, h1, h2, _, _, q⟩)
    · exact rEq_bl.mp h
    · cases h1; cases h2
      rw [show (i == j) = PyData.eqv (.bool i) (.bool j) from by simp only [PyData.eqv]]; exact q
  · exact fun q => .inl (rEq_bl.mpr q)
theorem rNeH_str {i j : Str} : rNeH K (.str i) (.str j) H Q ↔ Q (.bl (!decide (i = j))) H := by
  constructor
  · rintro (h | ⟨d, e, h1, h2, _, _, q⟩)
    · exact rNe_str.mp h
    · cases h1; cases h2
      rw [show decide (i = j) = PyData.eqv (.str i) (.str j) from by simp only [PyData.eqv]; by_cases z : i = j <;> simp [z]]; exact q
  · exact fun q => .inl (rNe_str.mpr q)
theorem rNeH_int {i j : Int} : rNeH K (.int i) (.int j) H Q ↔ Q (.bl (!decide (i = j))) H := by
  constructor
  · rintro (h | ⟨d, e, h1, h2, _, _, q⟩)
    · exact rNe_int.mp h
    · cases h1; cases h2
      rw [show decide (i = j) = PyData.eqv (.int i) (.int j) from by simp only [PyData.eqv]; by_cases z : i = j <;> simp [z]]; exact q
  · exact fun q => .inl (rNe_int.mpr q)
mutual
theorem eqv_self : ∀ d : PyData, SeqAt.shaped d = true → PyData.eqv d d = true
  | .none, _ => rfl
  | .bool b, _ => by simp [PyData.eqv]
  | .int i, _ => by simp [PyData.eqv]
  | .str x, _ => by simp [PyData.eqv]
  | .list xs, h => by
    simp only [PyData.eqv]
    exact eqvAll_self xs (by unfold SeqAt.shaped at h; simpa [PyData.canLay0] using (Bool.and_eq_true_iff.mp h).1)
  | .tuple xs, h => by
    simp only [PyData.eqv]
    exact eqvAll_self xs (by unfold SeqAt.shaped at h; simpa [PyData.canLay0] using (Bool.and_eq_true_iff.mp h).1)
  | .dict _, h => by unfold SeqAt.shaped at h; simp [PyData.canLay0] at h
theorem eqvAll_self : ∀ ds : List PyData, PyData.canLayAll0 ds = true → PyData.eqvAll ds ds = true
  | [], _ => rfl
  | d :: ds, h => by
    simp only [PyData.canLayAll0, Bool.and_eq_true] at h
    simp only [PyData.eqvAll, Bool.and_eq_true]
    exact ⟨eqv_self' d h.1, eqvAll_self ds h.2⟩
theorem eqv_self' : ∀ d : PyData, PyData.canLay0 d = true → PyData.eqv d d = true
  | .none, _ => rfl
  | .bool b, _ => by simp [PyData.eqv]
  | .int i, _ => by simp [PyData.eqv]
  | .str x, _ => by simp [PyData.eqv]
  | .list xs, h => by
    simp only [PyData.eqv]
    exact eqvAll_self xs (by simpa [PyData.canLay0] using h)
  | .tuple xs, h => by
    simp only [PyData.eqv]
    exact eqvAll_self xs (by simpa [PyData.canLay0] using h)
  | .dict _, h => by simp [PyData.canLay0] at h
end
theorem rEqD_same {x y : V} {d : PyData} (h1 : Den K H x d) (h2 : Den K H y d) (hs : SeqAt.shaped d = true) (q : Q (.bl true) H) : rEqH K x y H Q := .inr ⟨d, d, h1, h2, hs, hs, by rw [eqv_self d hs]; exact q⟩
theorem rNeD_same {x y : V} {d : PyData} (h1 : Den K H x d) (h2 : Den K H y d) (hs : SeqAt.shaped d = true) (q : Q (.bl false) H) : rNeH K x y H Q := .inr ⟨d, d, h1, h2, hs, hs, by rw [eqv_self d hs]; exact q⟩
theorem rIsi_lst {a : Addr} {xs : List V} (h : H a = some (.lst xs)) (q : Q (.bl true) H) : rIsi K [.ref a, .ty "list"] H Q := ⟨_, _, _, _, _, rfl, rfl, .lst h, kit_list_list, q⟩
end
section
variable {X : Cx}
theorem op_isX : OpR X (compareOp .Is) rIsN := op_isN
theorem op_isnotX : OpR X (compareOp .IsNot) rNotN := op_notN
theorem call_listOf : CallR X (.type "list") (rListOf X.K) := call_list_of
mutual
theorem Den.reads {pins : List (Addr × Obj)} {σ : St} {H : Hp} {s : Shared} (I : Inv X pins σ H s) : ∀ {x : V} {d : PyData} {u : Value}, Den X.K H x d → RelV x u → ∃ as, Reads s.heap u d as
  | _, _, _, .non, r => by cases r; exact ⟨_, .none⟩
  | _, _, _, .bl b, r => by cases r; exact ⟨_, .bool b⟩
  | _, _, _, .int i, r => by obtain ⟨t, rfl⟩ := r; exact ⟨_, .int i t⟩
  | _, _, _, .str x, r => by obtain ⟨t, rfl⟩ := r; exact ⟨_, .str x t⟩
  | _, _, _, .lst h hs, r => by
    cases r
    obtain ⟨its, rv, pl, _⟩ := I.list h
    obtain ⟨o, ho, hc, n, hd⟩ := pl.isList
    obtain ⟨as, ra⟩ := DenAll.reads I hs rv
    exact ⟨_, .list ho hc hd (by simpa using ra)⟩
  | _, _, _, .tup h hs, r => by
    cases r
    obtain ⟨its, rv, pl, _⟩ := I.tuple h
    obtain ⟨o, ho, hc, n, hd⟩ := pl
    obtain ⟨as, ra⟩ := DenAll.reads I hs rv
    exact ⟨_, .tuple ho hc hd (by simpa using ra)⟩
theorem DenAll.reads {pins : List (Addr × Obj)} {σ : St} {H : Hp} {s : Shared} (I : Inv X pins σ H s) : ∀ {xs : List V} {ds : List PyData} {us : List Value}, DenAll X.K H xs ds → Vals xs us → ∃ as, ReadsAll s.heap us ds as
  | _, _, _, .nil, r => by cases r; exact ⟨_, .nil⟩
  | _, _, _, .cons h hs, r => by
    cases r with
    | cons r1 r2 =>
      obtain ⟨as, ra⟩ := Den.reads I h r1
      obtain ⟨bs, rb⟩ := DenAll.reads I hs r2
      exact ⟨_, .cons ra rb⟩
end
theorem op_eqD (hu : X.A.units + 64 < cLine) : OpR X (compareOp .Eq) (rEqD X.K) := by
  intro pins s σ H x y v u Q I rx ry h
  obtain ⟨d, e, h1, h2, s1, s2, q⟩ := h
  obtain ⟨as, ra⟩ := h1.reads I rx
  obtain ⟨bs, rb⟩ := h2.reads I ry
  exact eq_dataH ra rb s1 s2 hu ⟨.bl _, H, I, rfl, q⟩
theorem op_neD (hu : X.A.units + 64 < cLine) : OpR X (compareOp .NotEq) (rNeD X.K) := by
  intro pins s σ H x y v u Q I rx ry h
  obtain ⟨d, e, h1, h2, s1, s2, q⟩ := h
  obtain ⟨as, ra⟩ := h1.reads I rx
  obtain ⟨bs, rb⟩ := h2.reads I ry
  exact ne_dataH ra rb s1 s2 hu ⟨.bl _, H, I, rfl, q⟩
theorem op_eqH (hu : X.A.units + 64 < cLine) : OpR X (compareOp .Eq) (rEqH X.K) := op_eq.or (op_eqD hu)
theorem op_neH (hu : X.A.units + 64 < cLine) : OpR X (compareOp .NotEq) (rNeH X.K) := op_ne.or (op_neD hu)
variable {K : PySem.W.Frag}
theorem op_eqK (hu : X.A.units + 64 < cLine) (h : X.K = K) : OpR X (compareOp .Eq) (rEqH K) := h ▸ op_eqH hu
theorem ix_seqK (h : X.K = K) : IxR X (rIx K) := h ▸ ix_seq
end
end L2
namespace L2
open PySem PySem.Spec PyProof.Rows PySem.W
section
variable {H : Hp} {Q : VK}
end
section
variable {X : Cx}
end
end L2
namespace L2
open PySem PySem.Spec PyProof.Rows
theorem comp_f {J : It} {n : Nat} {f : Nat → V} {Ok : Hp → Prop} {js : List (Option Nat)} {tt : TT} {te : TE} {σ : St} {H : Hp} {Q : VK} (S : Src J n f Ok) (hn : n ≤ sizeLine) (σr : St) (hσ : pickS js σ = none :: σr) (keep : Nat → Bool) (val : Nat → V)
    (hOk : ∀ H', Same H H' → Ok H') (hs : ∀ i H' (R : Bool → Hp → Prop), i < n → Same H H' → (∀ H'', Same H' H'' → R (keep i) H'') → tt (some (f i) :: σr) H' R)
    (he : ∀ i H' (R : V → Hp → Prop), i < n → Same H H' → (∀ H'', Same H' H'' → R (val i) H'') → te (some (f i) :: σr) H' R)
    (hd : ∀ D H', H D = none → Same H H' → H' D = some (.lst (((List.range n).filter keep).map val)) → Q (.ref D) H') : CompW J js (gName 0) tt te σ H Q := by
  refine comp_by S hn (fun D i σ' H' ys => (∃ a, σ' = a :: σr) ∧ Same H H' ∧ H' D = some (.lst ys) ∧ ys = ((List.range i).filter keep).map val) ?_ ?_ ?_ ?_
  · intro D hD
    exact ⟨⟨none, hσ⟩, Same.upd hD, upd_same, rfl⟩
  · rintro D i σ' H' ys hD hi ⟨_, s, h, rfl⟩
    refine ⟨hOk _ s, h, ?_⟩
    rw [List.length_map]
    exact Nat.le_trans (List.length_filter_le _ _) (by simp)
  · rintro D i σ' H' ys R hD hi ⟨⟨a, rfl⟩, s, h, rfl⟩ hR
    show tt (some (f i) :: σr) H' _
    refine hs i H' _ hi s fun H2 s2 => ?_
    cases hk : keep i with
    | false =>
      rw [if_neg Bool.false_ne_true]
      refine hR _ _ _ ⟨⟨_, rfl⟩, s.trans s2, s2 _ _ h, ?_⟩
      rw [List.range_succ, List.filter_append, List.filter_cons, hk]; simp
    | true =>
      rw [if_pos rfl]
      refine he i H2 _ hi (s.trans s2) fun H3 s3 => ⟨s3 _ _ (s2 _ _ h), hR _ _ _ ⟨⟨_, rfl⟩, ?_, upd_same, ?_⟩⟩
      · intro b o e
        rw [upd_ne (ne_of_none e hD)]
        exact s3 b o (s2 b o (s b o e))
      · rw [List.range_succ, List.filter_append, List.filter_cons, hk]; simp
  · rintro D σ' H' ys hD ⟨_, s, h, rfl⟩
    exact hd D H' hD s h
section
variable {X : Cx}
def rLtS : R2 := fun x y H Q => ∃ i j, x = .str i ∧ y = .str j ∧ Q (.bl (decide (i.cps.toList < j.cps.toList))) H
def rLtA : R2 := fun x y H Q => rI0 (fun i j => .bl (decide (i < j))) x y H Q ∨ rLtS x y H Q
theorem op_ltA : OpR X (compareOp .Lt) rLtA := op_lt.or op_lt_str
theorem rLtA_int {i j : Int} {H : Hp} {Q : VK} : rLtA (.int i) (.int j) H Q ↔ Q (.bl (decide (i < j))) H := by
  constructor
  · rintro (⟨a, b, e1, e2, q⟩ | ⟨a, b, e1, _⟩)
    · cases e1; cases e2; exact q
    · cases e1
  · exact fun q => .inl ⟨i, j, rfl, rfl, q⟩
theorem rLtA_str {i j : Str} {H : Hp} {Q : VK} : rLtA (.str i) (.str j) H Q ↔ Q (.bl (decide (i.cps.toList < j.cps.toList))) H := by
  constructor
  · rintro (⟨a, b, e1, _⟩ | ⟨a, b, e1, e2, q⟩)
    · cases e1
    · cases e1; cases e2; exact q
  · exact fun q => .inr ⟨i, j, rfl, rfl, q⟩
end
section
variable {X : Cx} {o e : Expr} {es : List Expr} {apos pos : Pos} {m : Str} {C f : Addr} {fd : FuncData} {ps : List Str} {sp : Sp} {CX : CXT} {k : Nat} {E : XK} {dvs : List V} {ds : List Value} {ta : TE} {t : TA}
def tCMeth (C : Addr) (sp : Sp) (dvs : List V) (E : XK) (ta : TE) (t : TA) : TE := fun σ H Q => ta σ H fun x H1 => x = .ref C ∧ t σ H1 fun vs H2 => sp (vs ++ dvs) H2 Q E
end
end L2
namespace L2
open PySem PySem.Spec PyProof.Rows
theorem while_w {c : TT} {tb : TS} {D : Ends} {σ : St} {H : Hp} (W : Nat → St → Hp → Prop) (m0 : Nat) (h0 : W m0 σ H)
    (hs : ∀ m σ H, W m σ H → c σ H fun b H1 => if b = true then ∃ N : St → Hp → Prop, (∀ σ' H', N σ' H' → ∃ m', m' < m ∧ W m' σ' H') ∧ tb { D with nx := N, ct := N, bk := D.nx } σ H1 else D.nx σ H1) : tWhile c tb D σ H := ⟨W, ⟨m0, h0⟩, hs⟩
theorem comp_g {J : It} {n : Nat} {f : Nat → V} {Ok : Hp → Prop} {js : List (Option Nat)} {g : TG} {tt : TT} {te : TE} {σ : St} {H : Hp} {Q : VK} (S : Src J n f Ok) (hn : n ≤ sizeLine) (pre : St → Prop) (st : Nat → St) (h0 : pre (pickS js σ)) (h1 : ∀ i, i < n → pre (st i)) (keep : Nat → Bool) (val : Nat → V)
    (hOk : ∀ H', Same H H' → Ok H') (hg : ∀ i σ' H' (R : St → Hp → Prop), i < n → Same H H' → pre σ' → R (st i) H' → g (f i) σ' H' R)
    (hs : ∀ i H' (R : Bool → Hp → Prop), i < n → Same H H' → (∀ H'', Same H' H'' → R (keep i) H'') → tt (st i) H' R)
    (he : ∀ i H' (R : V → Hp → Prop), i < n → Same H H' → (∀ H'', Same H' H'' → R (val i) H'') → te (st i) H' R)
    (hd : ∀ D H', H D = none → Same H H' → H' D = some (.lst (((List.range n).filter keep).map val)) → Q (.ref D) H') : CompW J js g tt te σ H Q := by
  refine comp_by S hn (fun D i σ' H' ys => pre σ' ∧ Same H H' ∧ H' D = some (.lst ys) ∧ ys = ((List.range i).filter keep).map val) ?_ ?_ ?_ ?_
  · intro D hD
    exact ⟨h0, Same.upd hD, upd_same, rfl⟩
  · rintro D i σ' H' ys hD hi ⟨_, s, h, rfl⟩
    refine ⟨hOk _ s, h, ?_⟩
    rw [List.length_map]
    exact Nat.le_trans (List.length_filter_le _ _) (by simp)
  · rintro D i σ' H' ys R hD hi ⟨hp, s, h, rfl⟩ hR
    refine hg i σ' H' _ hi s hp ?_
    refine hs i H' _ hi s fun H2 s2 => ?_
    cases hk : keep i with
    | false =>
      rw [if_neg Bool.false_ne_true]
      refine hR _ _ _ ⟨h1 i hi, s.trans s2, s2 _ _ h, ?_⟩
      rw [List.range_succ, List.filter_append, List.filter_cons, hk]; simp
    | true =>
      rw [if_pos rfl]
      refine he i H2 _ hi (s.trans s2) fun H3 s3 => ⟨s3 _ _ (s2 _ _ h), hR _ _ _ ⟨h1 i hi, ?_, upd_same, ?_⟩⟩
      · intro b o e
        rw [upd_ne (ne_of_none e hD)]
        exact s3 b o (s2 b o (s b o e))
      · rw [List.range_succ, List.filter_append, List.filter_cons, hk]; simp
  · rintro D σ' H' ys hD ⟨_, s, h, rfl⟩
    exact hd D H' hD s h
theorem range_filter {α β : Type} (d : α) (P : α → Bool) (g : α → β) : ∀ ps : List α, ((List.range ps.length).filter fun i => P ((ps[i]?).getD d)).map (fun i => g ((ps[i]?).getD d)) = (ps.filter P).map g := by
  intro ps
  have h : (List.range ps.length).map (fun i => (ps[i]?).getD d) = ps := by
    refine List.ext_getElem? fun i => ?_
    rw [List.getElem?_map]
    by_cases hi : i < ps.length
    · rw [List.getElem?_range hi, List.getElem?_eq_getElem hi, Option.map_some, List.getElem?_eq_getElem hi]; rfl
    · rw [List.getElem?_eq_none (by simp; omega), List.getElem?_eq_none (by omega)]; rfl
  conv => rhs; rw [← h]
  rw [List.filter_map, List.map_map]; rfl
def ltS (a b : Str) : Bool := decide (a.cps.toList < b.cps.toList)
def minS (ss : List Str) : Str := (ss[argBest (fun i j => ltS ((ss[i]?).getD "") ((ss[j]?).getD "")) (ss.length - 1)]?).getD ""
theorem argBest_le (bt : Nat → Nat → Bool) : ∀ k, argBest bt k ≤ k
  | 0 => Nat.le_refl _
  | k + 1 => by
    show (if bt (k + 1) (argBest bt k) then k + 1 else argBest bt k) ≤ k + 1
    have := argBest_le bt k
    split <;> omega
theorem minS_mem {ss : List Str} (h : ss ≠ []) : minS ss ∈ ss := by
  unfold minS
  have h1 := argBest_le (fun i j => ltS ((ss[i]?).getD "") ((ss[j]?).getD "")) (ss.length - 1)
  have h2 := List.length_pos_iff.mpr h
  rw [List.getElem?_eq_getElem (by omega)]
  exact List.getElem_mem _
def rMin (K : PySem.W.Frag) : List V → Hp → VK → Prop := fun xs H Q => ∃ (p : Addr) (ss : List Str), xs = [.ref p] ∧ SqL K H p (ss.map V.str) ∧ ss ≠ [] ∧ Q (.str (minS ss)) H
theorem rMin_at {K : PySem.W.Frag} {H : Hp} {Q : VK} {p : Addr} {ss : List Str} (h : SqL K H p (ss.map V.str)) (hn : ss ≠ []) (q : Q (.str (minS ss)) H) : rMin K [.ref p] H Q := ⟨p, ss, rfl, h, hn, q⟩
theorem inV_str (z : Str) (r : List Str) : inV (.str z) (r.map V.str) = decide (z ∈ r) := by
  unfold inV
  rw [Bool.eq_iff_iff, List.any_eq_true, decide_eq_true_eq]
  constructor
  · rintro ⟨v, hv, e⟩
    obtain ⟨l, hl, rfl⟩ := List.mem_map.mp hv
    have e' : (l == z) = true := e
    rw [← eq_of_beq e']; exact hl
  · intro h
    exact ⟨.str z, List.mem_map.mpr ⟨z, h, rfl⟩, (beq_self_eq_true z : (z == z) = true)⟩
theorem flat_strs (qs : List Str) : (qs.map V.str).all flatV = true := by
  rw [List.all_eq_true]; intro v hv
  obtain ⟨l, _, rfl⟩ := List.mem_map.mp hv; rfl
theorem rIn_lst {K : PySem.W.Frag} {H : Hp} {Q : VK} {z : Str} {a : Addr} {r : List Str} (h : SqL K H a (r.map V.str)) (q : Q (.bl (decide (z ∈ r))) H) : rInA K (.str z) (.ref a) H Q :=
  .inr ⟨a, _, rfl, .inl h, rfl, flat_strs _, by rw [if_neg Bool.false_ne_true, inV_str]; exact q⟩
theorem rNotIn_lst {K : PySem.W.Frag} {H : Hp} {Q : VK} {z : Str} {a : Addr} {r : List Str} (h : SqL K H a (r.map V.str)) (q : Q (.bl (!decide (z ∈ r))) H) : rNotInA K (.str z) (.ref a) H Q :=
  .inr ⟨a, _, rfl, .inl h, rfl, flat_strs _, by rw [if_pos rfl, inV_str]; exact q⟩
theorem atI_neg {α : Type} (l : List α) (v : α) : atI (l ++ [v]) (-1) = some v := by
  unfold atI ixN
  rw [if_neg (by decide), if_pos (by simp; omega)]
  show (l ++ [v])[((-1 : Int) + ((l ++ [v]).length : Nat)).toNat]? = some v
  rw [show ((-1 : Int) + ((l ++ [v]).length : Nat)).toNat = l.length by simp; omega]
  simp
theorem none_of {H H' : Hp} (s : Same H H') {p : Addr} (h : H' p = none) : H p = none := by
  cases e : H p with
  | none => rfl
  | some o => rw [s _ _ e] at h; cases h
theorem rEqH_non_int {K : PySem.W.Frag} {i : Int} {H : Hp} {Q : VK} (q : Q (.bl false) H) : rEqH K .non (.int i) H Q := .inl ⟨rfl, by rw [decide_eq_false (by intro z; cases z)]; exact q⟩
section
variable {X : Cx}
theorem cmp_strs {prog : Program} {w : World} {A : Around} {P : Nat → Value → Prop} (val : Nat → Str) (hval : ∀ i v, P i v → ∃ t, v = .str (val i) t) : CmpOf prog w A .Lt P (fun i j => ltS (val i) (val j)) := fun i j vi vj s Q E hi hj h => by
  obtain ⟨t, rfl⟩ := hval i vi hi
  obtain ⟨u, rfl⟩ := hval j vj hj
  exact richCompare_gives (op := .Lt) (typeIs_str s _ t) (typeIs_str s _ u) PySem.F.slot_str_lt PySem.F.entry_str_lt (PySem.F.args_str_lt_2 _ _) (gives_str_lt _ _ t u) (fun x => nomatch x) h
theorem strs_at {ss : List Str} {its : List Value} (r : Vals (ss.map V.str) its) {i : Nat} {v : Value} (h : its[i]? = some v) : ∃ x t, ss[i]? = some x ∧ v = .str x t := by
  have hi : i < its.length := (List.getElem?_eq_some_iff.mp h).1
  have hl := r.length
  rw [List.length_map] at hl
  have hb : ss[i]? = some ss[i] := List.getElem?_eq_getElem (by omega)
  obtain ⟨u, hu, ru⟩ := r.get (i := i) (x := V.str ss[i]) (by rw [List.getElem?_map, hb]; rfl)
  rw [h] at hu; cases hu
  obtain ⟨t, rfl⟩ := ru
  exact ⟨_, t, hb, rfl⟩
theorem call_min_strs (hc : X.calm = true) : CallR X (.builtin "min") (rMin X.K) := by
  intro pins s σ H xs us Q I r h
  obtain ⟨p, ss, rfl, hq, hne, q⟩ := h
  obtain ⟨u, rfl, ru⟩ := vals1 r
  cases ru
  obtain ⟨its, rv, pl, hz⟩ := I.list hq
  have hl := pl.isList
  have hlt : p < s.heap.objs.size := by obtain ⟨_, e, _⟩ := hl; exact Heap.lt_size e
  have hn := rv.length
  rw [List.length_map] at hn
  have hpos := List.length_pos_iff.mpr hne
  refine call_min_walk (wpAny_pyIter_list hl ?_)
  refine ⟨s.heap.objs.size, [s.heap.objs.size, p], [s.heap.objs.size], its.toArray.size, _, _, fun i j => ltS ((ss[i]?).getD "") ((ss[j]?).getD ""), rfl, Walks.list (A := X.A.in1) (I.ok.hd hc) _ p (Nat.ne_of_lt hlt) its.toArray,
    ⟨⟨_, Heap.get?_push_size _ rfl, rfl, rfl⟩, hl.push _⟩, fun b hb => ?_, by rw [List.size_toArray]; omega, cmp_strs (fun i => (ss[i]?).getD "") (fun i v hP => ?_), fun v h' tk hP hk => ?_⟩
  · show b < (s.heap.push _).objs.size
    rw [Heap.size_push]
    rcases List.mem_cons.mp hb with rfl | hb
    · exact Nat.lt_succ_self _
    · rw [List.mem_singleton.mp hb]; exact Nat.lt_succ_of_lt hlt
  · obtain ⟨x, t, e, rfl⟩ := strs_at rv (i := i) (v := v) (by simpa using hP)
    exact ⟨t, by rw [e]; rfl⟩
  · obtain ⟨x, t, e, rfl⟩ := strs_at rv (by simpa using hP)
    have e2 : minS ss = x := by
      unfold minS
      rw [← hn] at e
      rw [e]; rfl
    exact ⟨.str (minS ss), H, I.kept (t' := tk) (LSm.kept_iter hk), ⟨t, by rw [e2]⟩, q⟩
theorem pg_tupK {K : PySem.W.Frag} {pos : Pos} {es : List Expr} {k : Nat} {t : TGs} {n : Nat} (hK : X.K = K) (hc : X.calm = true) (h : PGs X es t)
    (hn : (assignEach es X.env).length = n := by rfl) (hst : (assignEach es X.env).findIdx? (·.1) = none := by rfl) : PG X (.Tuple es k pos) (gTup K n t) := hK ▸ pg_tup hc h hn hst
end
theorem boot_minT : bootBuiltins "min" = some (.builtin "min") := by decide +kernel
end L2
namespace L2
open PySem
theorem vis0 {a b c : Prop} (h : a) : a ∨ b ∨ c := Or.inl h
theorem vis1 {a b c : Prop} (h : b) : a ∨ b ∨ c := Or.inr (Or.inl h)
theorem vis2 {a b c : Prop} (h : c) : a ∨ b ∨ c := Or.inr (Or.inr h)
end L2
namespace K15
open PySem L2 Tx
def top (i : Nat) : Stmt := PySem.Challenge.pw_mostwise_k15_roads.main.body.getD i (.Pass ⟨0, 0, 0, 0⟩)
abbrev s_d_steps_to : Stmt := top 1
abbrev n_d_steps_to : List Str := ["pairs", "other", "steps", "reached", "fresh", "pair"]
theorem sc_d_steps_to : FnScope n_d_steps_to ["pairs", "other"] (defScope s_d_steps_to) := ⟨rfl, rfl, rfl, by decide +kernel, rfl, by decide +kernel, by decide +kernel⟩
abbrev s_d_least_nearer : Stmt := top 2
abbrev n_d_least_nearer : List Str := ["pairs", "steps", "label"]
theorem sc_d_least_nearer : FnScope n_d_least_nearer ["pairs", "steps", "label"] (defScope s_d_least_nearer) := ⟨rfl, rfl, rfl, by decide +kernel, rfl, by decide +kernel, by decide +kernel⟩
abbrev s_d_road : Stmt := top 3
abbrev n_d_road : List Str := ["pairs", "one", "other", "steps", "told"]
theorem sc_d_road : FnScope n_d_road ["pairs", "one", "other"] (defScope s_d_road) := ⟨rfl, rfl, rfl, by decide +kernel, rfl, by decide +kernel, by decide +kernel⟩
abbrev s_d_l_cell_at : Stmt := top 5
abbrev n_d_l_cell_at : List Str := ["_law_script", "_law_k"]
theorem sc_d_l_cell_at : FnScope n_d_l_cell_at ["_law_script", "_law_k"] (defScope s_d_l_cell_at) := ⟨rfl, rfl, rfl, by decide +kernel, rfl, by decide +kernel, by decide +kernel⟩
abbrev s_d_l_mix : Stmt := top 6
abbrev n_d_l_mix : List Str := ["_law_cell", "_law_k", "_law_m"]
theorem sc_d_l_mix : FnScope n_d_l_mix ["_law_cell", "_law_k"] (defScope s_d_l_mix) := ⟨rfl, rfl, rfl, by decide +kernel, rfl, by decide +kernel, by decide +kernel⟩
abbrev s_d_l_text : Stmt := top 7
abbrev n_d_l_text : List Str := ["_law_cell", "_law_signs", "_law_most", "_law_number", "_law_found", "_law_k"]
theorem sc_d_l_text : FnScope n_d_l_text ["_law_cell", "_law_signs", "_law_most"] (defScope s_d_l_text) := ⟨rfl, rfl, rfl, by decide +kernel, rfl, by decide +kernel, by decide +kernel⟩
abbrev s_d_l_label : Stmt := top 9
abbrev n_d_l_label : List Str := ["_law_cell"]
theorem sc_d_l_label : FnScope n_d_l_label ["_law_cell"] (defScope s_d_l_label) := ⟨rfl, rfl, rfl, by decide +kernel, rfl, by decide +kernel, by decide +kernel⟩
abbrev s_d_l_labels : Stmt := top 14
abbrev n_d_l_labels : List Str := ["_law_cell", "_law_many", "_law_found", "_law_k", "_law_label_here"]
theorem sc_d_l_labels : FnScope n_d_l_labels ["_law_cell"] (defScope s_d_l_labels) := ⟨rfl, rfl, rfl, by decide +kernel, rfl, by decide +kernel, by decide +kernel⟩
abbrev s_d_l_steps : Stmt := top 15
abbrev n_d_l_steps : List Str := ["_law_pairs", "_law_labels_here", "_law_other", "_law_steps_here", "_law_far", "_law_one", "_law_next_one"]
theorem sc_d_l_steps : FnScope n_d_l_steps ["_law_pairs", "_law_labels_here", "_law_other"] (defScope s_d_l_steps) := ⟨rfl, rfl, rfl, by decide +kernel, rfl, by decide +kernel, by decide +kernel⟩
abbrev s_d_l_road : Stmt := top 16
abbrev n_d_l_road : List Str := ["_law_pairs", "_law_labels_here", "_law_one", "_law_other", "_law_steps_here", "_law_found", "_law_near"]
theorem sc_d_l_road : FnScope n_d_l_road ["_law_pairs", "_law_labels_here", "_law_one", "_law_other"] (defScope s_d_l_road) := ⟨rfl, rfl, rfl, by decide +kernel, rfl, by decide +kernel, by decide +kernel⟩
abbrev s_d_l_same : Stmt := top 17
abbrev n_d_l_same : List Str := ["_law_found", "_law_due"]
theorem sc_d_l_same : FnScope n_d_l_same ["_law_found", "_law_due"] (defScope s_d_l_same) := ⟨rfl, rfl, rfl, by decide +kernel, rfl, by decide +kernel, by decide +kernel⟩
abbrev s_d_law : Stmt := top 18
abbrev n_d_law : List Str := ["_law_script", "_law_labels_here", "_law_pairs", "_law_cell", "_law_number", "_law_k", "_law_one", "_law_other", "_law_due", "_law_handed", "_law_found"]
theorem sc_d_law : FnScope n_d_law ["_law_script"] (defScope s_d_law) := ⟨rfl, rfl, rfl, by decide +kernel, rfl, by decide +kernel, by decide +kernel⟩
structure Adr where
  f_d_steps_to : Addr
  fd_d_steps_to : FuncData
  f_d_least_nearer : Addr
  fd_d_least_nearer : FuncData
  f_d_road : Addr
  fd_d_road : FuncData
  f_d_l_cell_at : Addr
  fd_d_l_cell_at : FuncData
  f_d_l_mix : Addr
  fd_d_l_mix : FuncData
  f_d_l_text : Addr
  fd_d_l_text : FuncData
  f_d_l_label : Addr
  fd_d_l_label : FuncData
  f_d_l_labels : Addr
  fd_d_l_labels : FuncData
  f_d_l_steps : Addr
  fd_d_l_steps : FuncData
  f_d_l_road : Addr
  fd_d_l_road : FuncData
  f_d_l_same : Addr
  fd_d_l_same : FuncData
  f_d_law : Addr
  fd_d_law : FuncData
structure Txt (K : PySem.W.Frag) (mg : Str → Option Value) (t : Adr) : Prop where
  F_d_steps_to : Fun K "steps_to" "steps_to" s_d_steps_to t.f_d_steps_to t.fd_d_steps_to
  b_d_steps_to : Binds K t.fd_d_steps_to ["pairs", "other"] []
  g_d_steps_to : mg "steps_to" = some (.ref t.f_d_steps_to)
  F_d_least_nearer : Fun K "least_nearer" "least_nearer" s_d_least_nearer t.f_d_least_nearer t.fd_d_least_nearer
  b_d_least_nearer : Binds K t.fd_d_least_nearer ["pairs", "steps", "label"] []
  g_d_least_nearer : mg "least_nearer" = some (.ref t.f_d_least_nearer)
  F_d_road : Fun K "road" "road" s_d_road t.f_d_road t.fd_d_road
  b_d_road : Binds K t.fd_d_road ["pairs", "one", "other"] []
  g_d_road : mg "road" = some (.ref t.f_d_road)
  F_d_l_cell_at : Fun K "_law_cell_at" "_law_cell_at" s_d_l_cell_at t.f_d_l_cell_at t.fd_d_l_cell_at
  b_d_l_cell_at : Binds K t.fd_d_l_cell_at ["_law_script", "_law_k"] []
  g_d_l_cell_at : mg "_law_cell_at" = some (.ref t.f_d_l_cell_at)
  F_d_l_mix : Fun K "_law_mix" "_law_mix" s_d_l_mix t.f_d_l_mix t.fd_d_l_mix
  b_d_l_mix : Binds K t.fd_d_l_mix ["_law_cell", "_law_k"] []
  g_d_l_mix : mg "_law_mix" = some (.ref t.f_d_l_mix)
  F_d_l_text : Fun K "_law_text" "_law_text" s_d_l_text t.f_d_l_text t.fd_d_l_text
  b_d_l_text : Binds K t.fd_d_l_text ["_law_cell", "_law_signs", "_law_most"] []
  g_d_l_text : mg "_law_text" = some (.ref t.f_d_l_text)
  F_d_l_label : Fun K "_law_label" "_law_label" s_d_l_label t.f_d_l_label t.fd_d_l_label
  b_d_l_label : Binds K t.fd_d_l_label ["_law_cell"] []
  g_d_l_label : mg "_law_label" = some (.ref t.f_d_l_label)
  F_d_l_labels : Fun K "_law_labels" "_law_labels" s_d_l_labels t.f_d_l_labels t.fd_d_l_labels
  b_d_l_labels : Binds K t.fd_d_l_labels ["_law_cell"] []
  g_d_l_labels : mg "_law_labels" = some (.ref t.f_d_l_labels)
  F_d_l_steps : Fun K "_law_steps" "_law_steps" s_d_l_steps t.f_d_l_steps t.fd_d_l_steps
  b_d_l_steps : Binds K t.fd_d_l_steps ["_law_pairs", "_law_labels_here", "_law_other"] []
  g_d_l_steps : mg "_law_steps" = some (.ref t.f_d_l_steps)
  F_d_l_road : Fun K "_law_road" "_law_road" s_d_l_road t.f_d_l_road t.fd_d_l_road
  b_d_l_road : Binds K t.fd_d_l_road ["_law_pairs", "_law_labels_here", "_law_one", "_law_other"] []
  g_d_l_road : mg "_law_road" = some (.ref t.f_d_l_road)
  F_d_l_same : Fun K "_law_same" "_law_same" s_d_l_same t.f_d_l_same t.fd_d_l_same
  b_d_l_same : Binds K t.fd_d_l_same ["_law_found", "_law_due"] []
  g_d_l_same : mg "_law_same" = some (.ref t.f_d_l_same)
  F_d_law : Fun K "law" "law" s_d_law t.f_d_law t.fd_d_law
  b_d_law : Binds K t.fd_d_law ["_law_script"] []
  g_d_law : mg "law" = some (.ref t.f_d_law)
  z_isinstance : mg "isinstance" = none
  z_len : mg "len" = none
  z_list : mg "list" = none
  z_min : mg "min" = none
  z_range : mg "range" = none
theorem txt_mk {K : PySem.W.Frag} {h : Heap} {mg : Str → Option Value} (X : K.In h) (G : h.Ns mainGlobals mg)
    {f_d_steps_to : Addr} {od_d_steps_to an_d_steps_to : Option Addr} {sl_d_steps_to : Array (Option Value)} {oc_d_steps_to kV_d_steps_to dc_d_steps_to pm_d_steps_to cd_d_steps_to ct_d_steps_to : Value}
    {f_d_least_nearer : Addr} {od_d_least_nearer an_d_least_nearer : Option Addr} {sl_d_least_nearer : Array (Option Value)} {oc_d_least_nearer kV_d_least_nearer dc_d_least_nearer pm_d_least_nearer cd_d_least_nearer ct_d_least_nearer : Value}
    {f_d_road : Addr} {od_d_road an_d_road : Option Addr} {sl_d_road : Array (Option Value)} {oc_d_road kV_d_road dc_d_road pm_d_road cd_d_road ct_d_road : Value}
    {f_d_l_cell_at : Addr} {od_d_l_cell_at an_d_l_cell_at : Option Addr} {sl_d_l_cell_at : Array (Option Value)} {oc_d_l_cell_at kV_d_l_cell_at dc_d_l_cell_at pm_d_l_cell_at cd_d_l_cell_at ct_d_l_cell_at : Value}
    {f_d_l_mix : Addr} {od_d_l_mix an_d_l_mix : Option Addr} {sl_d_l_mix : Array (Option Value)} {oc_d_l_mix kV_d_l_mix dc_d_l_mix pm_d_l_mix cd_d_l_mix ct_d_l_mix : Value}
    {f_d_l_text : Addr} {od_d_l_text an_d_l_text : Option Addr} {sl_d_l_text : Array (Option Value)} {oc_d_l_text kV_d_l_text dc_d_l_text pm_d_l_text cd_d_l_text ct_d_l_text : Value}
    {f_d_l_label : Addr} {od_d_l_label an_d_l_label : Option Addr} {sl_d_l_label : Array (Option Value)} {oc_d_l_label kV_d_l_label dc_d_l_label pm_d_l_label cd_d_l_label ct_d_l_label : Value}
    {f_d_l_labels : Addr} {od_d_l_labels an_d_l_labels : Option Addr} {sl_d_l_labels : Array (Option Value)} {oc_d_l_labels kV_d_l_labels dc_d_l_labels pm_d_l_labels cd_d_l_labels ct_d_l_labels : Value}
    {f_d_l_steps : Addr} {od_d_l_steps an_d_l_steps : Option Addr} {sl_d_l_steps : Array (Option Value)} {oc_d_l_steps kV_d_l_steps dc_d_l_steps pm_d_l_steps cd_d_l_steps ct_d_l_steps : Value}
    {f_d_l_road : Addr} {od_d_l_road an_d_l_road : Option Addr} {sl_d_l_road : Array (Option Value)} {oc_d_l_road kV_d_l_road dc_d_l_road pm_d_l_road cd_d_l_road ct_d_l_road : Value}
    {f_d_l_same : Addr} {od_d_l_same an_d_l_same : Option Addr} {sl_d_l_same : Array (Option Value)} {oc_d_l_same kV_d_l_same dc_d_l_same pm_d_l_same cd_d_l_same ct_d_l_same : Value}
    {f_d_law : Addr} {od_d_law an_d_law : Option Addr} {sl_d_law : Array (Option Value)} {oc_d_law kV_d_law dc_d_law pm_d_law cd_d_law ct_d_law : Value}
    (a_d_steps_to : PySem.W.nsIn K mainGlobals "steps_to" = some (some (.ref f_d_steps_to)))
    (l_d_steps_to : K.lookup f_d_steps_to = some ⟨oc_d_steps_to, od_d_steps_to, .func (PySem.W.fnOf "steps_to" "steps_to" (defArgs s_d_steps_to) (defBody s_d_steps_to) (defScope s_d_steps_to) .none kV_d_steps_to dc_d_steps_to pm_d_steps_to an_d_steps_to cd_d_steps_to ct_d_steps_to), sl_d_steps_to⟩)
    (c_d_steps_to : PySem.W.codeIn K cd_d_steps_to "steps_to" = true) (p_d_steps_to : PySem.W.keepIn K (.ref f_d_steps_to) = true)
    (a_d_least_nearer : PySem.W.nsIn K mainGlobals "least_nearer" = some (some (.ref f_d_least_nearer)))
    (l_d_least_nearer : K.lookup f_d_least_nearer = some ⟨oc_d_least_nearer, od_d_least_nearer, .func (PySem.W.fnOf "least_nearer" "least_nearer" (defArgs s_d_least_nearer) (defBody s_d_least_nearer) (defScope s_d_least_nearer) .none kV_d_least_nearer dc_d_least_nearer pm_d_least_nearer an_d_least_nearer cd_d_least_nearer ct_d_least_nearer), sl_d_least_nearer⟩)
    (c_d_least_nearer : PySem.W.codeIn K cd_d_least_nearer "least_nearer" = true) (p_d_least_nearer : PySem.W.keepIn K (.ref f_d_least_nearer) = true)
    (a_d_road : PySem.W.nsIn K mainGlobals "road" = some (some (.ref f_d_road)))
    (l_d_road : K.lookup f_d_road = some ⟨oc_d_road, od_d_road, .func (PySem.W.fnOf "road" "road" (defArgs s_d_road) (defBody s_d_road) (defScope s_d_road) .none kV_d_road dc_d_road pm_d_road an_d_road cd_d_road ct_d_road), sl_d_road⟩)
    (c_d_road : PySem.W.codeIn K cd_d_road "road" = true) (p_d_road : PySem.W.keepIn K (.ref f_d_road) = true)
    (a_d_l_cell_at : PySem.W.nsIn K mainGlobals "_law_cell_at" = some (some (.ref f_d_l_cell_at)))
    (l_d_l_cell_at : K.lookup f_d_l_cell_at = some ⟨oc_d_l_cell_at, od_d_l_cell_at, .func (PySem.W.fnOf "_law_cell_at" "_law_cell_at" (defArgs s_d_l_cell_at) (defBody s_d_l_cell_at) (defScope s_d_l_cell_at) .none kV_d_l_cell_at dc_d_l_cell_at pm_d_l_cell_at an_d_l_cell_at cd_d_l_cell_at ct_d_l_cell_at), sl_d_l_cell_at⟩)
    (c_d_l_cell_at : PySem.W.codeIn K cd_d_l_cell_at "_law_cell_at" = true) (p_d_l_cell_at : PySem.W.keepIn K (.ref f_d_l_cell_at) = true)
    (a_d_l_mix : PySem.W.nsIn K mainGlobals "_law_mix" = some (some (.ref f_d_l_mix)))
    (l_d_l_mix : K.lookup f_d_l_mix = some ⟨oc_d_l_mix, od_d_l_mix, .func (PySem.W.fnOf "_law_mix" "_law_mix" (defArgs s_d_l_mix) (defBody s_d_l_mix) (defScope s_d_l_mix) .none kV_d_l_mix dc_d_l_mix pm_d_l_mix an_d_l_mix cd_d_l_mix ct_d_l_mix), sl_d_l_mix⟩)
    (c_d_l_mix : PySem.W.codeIn K cd_d_l_mix "_law_mix" = true) (p_d_l_mix : PySem.W.keepIn K (.ref f_d_l_mix) = true)
    (a_d_l_text : PySem.W.nsIn K mainGlobals "_law_text" = some (some (.ref f_d_l_text)))
    (l_d_l_text : K.lookup f_d_l_text = some ⟨oc_d_l_text, od_d_l_text, .func (PySem.W.fnOf "_law_text" "_law_text" (defArgs s_d_l_text) (defBody s_d_l_text) (defScope s_d_l_text) .none kV_d_l_text dc_d_l_text pm_d_l_text an_d_l_text cd_d_l_text ct_d_l_text), sl_d_l_text⟩)
    (c_d_l_text : PySem.W.codeIn K cd_d_l_text "_law_text" = true) (p_d_l_text : PySem.W.keepIn K (.ref f_d_l_text) = true)
    (a_d_l_label : PySem.W.nsIn K mainGlobals "_law_label" = some (some (.ref f_d_l_label)))
    (l_d_l_label : K.lookup f_d_l_label = some ⟨oc_d_l_label, od_d_l_label, .func (PySem.W.fnOf "_law_label" "_law_label" (defArgs s_d_l_label) (defBody s_d_l_label) (defScope s_d_l_label) .none kV_d_l_label dc_d_l_label pm_d_l_label an_d_l_label cd_d_l_label ct_d_l_label), sl_d_l_label⟩)
    (c_d_l_label : PySem.W.codeIn K cd_d_l_label "_law_label" = true) (p_d_l_label : PySem.W.keepIn K (.ref f_d_l_label) = true)
    (a_d_l_labels : PySem.W.nsIn K mainGlobals "_law_labels" = some (some (.ref f_d_l_labels)))
    (l_d_l_labels : K.lookup f_d_l_labels = some ⟨oc_d_l_labels, od_d_l_labels, .func (PySem.W.fnOf "_law_labels" "_law_labels" (defArgs s_d_l_labels) (defBody s_d_l_labels) (defScope s_d_l_labels) .none kV_d_l_labels dc_d_l_labels pm_d_l_labels an_d_l_labels cd_d_l_labels ct_d_l_labels), sl_d_l_labels⟩)
    (c_d_l_labels : PySem.W.codeIn K cd_d_l_labels "_law_labels" = true) (p_d_l_labels : PySem.W.keepIn K (.ref f_d_l_labels) = true)
    (a_d_l_steps : PySem.W.nsIn K mainGlobals "_law_steps" = some (some (.ref f_d_l_steps)))
    (l_d_l_steps : K.lookup f_d_l_steps = some ⟨oc_d_l_steps, od_d_l_steps, .func (PySem.W.fnOf "_law_steps" "_law_steps" (defArgs s_d_l_steps) (defBody s_d_l_steps) (defScope s_d_l_steps) .none kV_d_l_steps dc_d_l_steps pm_d_l_steps an_d_l_steps cd_d_l_steps ct_d_l_steps), sl_d_l_steps⟩)
    (c_d_l_steps : PySem.W.codeIn K cd_d_l_steps "_law_steps" = true) (p_d_l_steps : PySem.W.keepIn K (.ref f_d_l_steps) = true)
    (a_d_l_road : PySem.W.nsIn K mainGlobals "_law_road" = some (some (.ref f_d_l_road)))
    (l_d_l_road : K.lookup f_d_l_road = some ⟨oc_d_l_road, od_d_l_road, .func (PySem.W.fnOf "_law_road" "_law_road" (defArgs s_d_l_road) (defBody s_d_l_road) (defScope s_d_l_road) .none kV_d_l_road dc_d_l_road pm_d_l_road an_d_l_road cd_d_l_road ct_d_l_road), sl_d_l_road⟩)
    (c_d_l_road : PySem.W.codeIn K cd_d_l_road "_law_road" = true) (p_d_l_road : PySem.W.keepIn K (.ref f_d_l_road) = true)
    (a_d_l_same : PySem.W.nsIn K mainGlobals "_law_same" = some (some (.ref f_d_l_same)))
    (l_d_l_same : K.lookup f_d_l_same = some ⟨oc_d_l_same, od_d_l_same, .func (PySem.W.fnOf "_law_same" "_law_same" (defArgs s_d_l_same) (defBody s_d_l_same) (defScope s_d_l_same) .none kV_d_l_same dc_d_l_same pm_d_l_same an_d_l_same cd_d_l_same ct_d_l_same), sl_d_l_same⟩)
    (c_d_l_same : PySem.W.codeIn K cd_d_l_same "_law_same" = true) (p_d_l_same : PySem.W.keepIn K (.ref f_d_l_same) = true)
    (a_d_law : PySem.W.nsIn K mainGlobals "law" = some (some (.ref f_d_law)))
    (l_d_law : K.lookup f_d_law = some ⟨oc_d_law, od_d_law, .func (PySem.W.fnOf "law" "law" (defArgs s_d_law) (defBody s_d_law) (defScope s_d_law) .none kV_d_law dc_d_law pm_d_law an_d_law cd_d_law ct_d_law), sl_d_law⟩)
    (c_d_law : PySem.W.codeIn K cd_d_law "law" = true) (p_d_law : PySem.W.keepIn K (.ref f_d_law) = true)
    (z_isinstance : PySem.W.nsIn K mainGlobals "isinstance" = some none)
    (z_len : PySem.W.nsIn K mainGlobals "len" = some none)
    (z_list : PySem.W.nsIn K mainGlobals "list" = some none)
    (z_min : PySem.W.nsIn K mainGlobals "min" = some none)
    (z_range : PySem.W.nsIn K mainGlobals "range" = some none)
    : ∃ t : Adr, t.f_d_law = f_d_law ∧ t.fd_d_law = PySem.W.fnOf "law" "law" (defArgs s_d_law) (defBody s_d_law) (defScope s_d_law) .none kV_d_law dc_d_law pm_d_law an_d_law cd_d_law ct_d_law ∧ Txt K mg t := by
  refine ⟨⟨f_d_steps_to, PySem.W.fnOf "steps_to" "steps_to" (defArgs s_d_steps_to) (defBody s_d_steps_to) (defScope s_d_steps_to) .none kV_d_steps_to dc_d_steps_to pm_d_steps_to an_d_steps_to cd_d_steps_to ct_d_steps_to, f_d_least_nearer, PySem.W.fnOf "least_nearer" "least_nearer" (defArgs s_d_least_nearer) (defBody s_d_least_nearer) (defScope s_d_least_nearer) .none kV_d_least_nearer dc_d_least_nearer pm_d_least_nearer an_d_least_nearer cd_d_least_nearer ct_d_least_nearer, f_d_road, PySem.W.fnOf "road" "road" (defArgs s_d_road) (defBody s_d_road) (defScope s_d_road) .none kV_d_road dc_d_road pm_d_road an_d_road cd_d_road ct_d_road, f_d_l_cell_at, PySem.W.fnOf "_law_cell_at" "_law_cell_at" (defArgs s_d_l_cell_at) (defBody s_d_l_cell_at) (defScope s_d_l_cell_at) .none kV_d_l_cell_at dc_d_l_cell_at pm_d_l_cell_at an_d_l_cell_at cd_d_l_cell_at ct_d_l_cell_at, f_d_l_mix, PySem.W.fnOf "_law_mix" "_law_mix" (defArgs s_d_l_mix) (defBody s_d_l_mix) (defScope s_d_l_mix) .none kV_d_l_mix dc_d_l_mix pm_d_l_mix an_d_l_mix cd_d_l_mix ct_d_l_mix, f_d_l_text, PySem.W.fnOf "_law_text" "_law_text" (defArgs s_d_l_text) (defBody s_d_l_text) (defScope s_d_l_text) .none kV_d_l_text dc_d_l_text pm_d_l_text an_d_l_text cd_d_l_text ct_d_l_text, f_d_l_label, PySem.W.fnOf "_law_label" "_law_label" (defArgs s_d_l_label) (defBody s_d_l_label) (defScope s_d_l_label) .none kV_d_l_label dc_d_l_label pm_d_l_label an_d_l_label cd_d_l_label ct_d_l_label, f_d_l_labels, PySem.W.fnOf "_law_labels" "_law_labels" (defArgs s_d_l_labels) (defBody s_d_l_labels) (defScope s_d_l_labels) .none kV_d_l_labels dc_d_l_labels pm_d_l_labels an_d_l_labels cd_d_l_labels ct_d_l_labels, f_d_l_steps, PySem.W.fnOf "_law_steps" "_law_steps" (defArgs s_d_l_steps) (defBody s_d_l_steps) (defScope s_d_l_steps) .none kV_d_l_steps dc_d_l_steps pm_d_l_steps an_d_l_steps cd_d_l_steps ct_d_l_steps, f_d_l_road, PySem.W.fnOf "_law_road" "_law_road" (defArgs s_d_l_road) (defBody s_d_l_road) (defScope s_d_l_road) .none kV_d_l_road dc_d_l_road pm_d_l_road an_d_l_road cd_d_l_road ct_d_l_road, f_d_l_same, PySem.W.fnOf "_law_same" "_law_same" (defArgs s_d_l_same) (defBody s_d_l_same) (defScope s_d_l_same) .none kV_d_l_same dc_d_l_same pm_d_l_same an_d_l_same cd_d_l_same ct_d_l_same, f_d_law, PySem.W.fnOf "law" "law" (defArgs s_d_law) (defBody s_d_law) (defScope s_d_law) .none kV_d_law dc_d_law pm_d_law an_d_law cd_d_law ct_d_law⟩, rfl, rfl, ?_⟩
  constructor
  · exact fun_mk (st := s_d_steps_to) l_d_steps_to c_d_steps_to p_d_steps_to
  · exact (fun_mk (st := s_d_steps_to) l_d_steps_to c_d_steps_to p_d_steps_to).binds (ps := ["pairs", "other"]) fun _ _ _ _ _ _ us hl => match us, hl with | [_, _], _ => rfl
  · exact PySem.W.mg_of X G a_d_steps_to
  · exact fun_mk (st := s_d_least_nearer) l_d_least_nearer c_d_least_nearer p_d_least_nearer
  · exact (fun_mk (st := s_d_least_nearer) l_d_least_nearer c_d_least_nearer p_d_least_nearer).binds (ps := ["pairs", "steps", "label"]) fun _ _ _ _ _ _ us hl => match us, hl with | [_, _, _], _ => rfl
  · exact PySem.W.mg_of X G a_d_least_nearer
  · exact fun_mk (st := s_d_road) l_d_road c_d_road p_d_road
  · exact (fun_mk (st := s_d_road) l_d_road c_d_road p_d_road).binds (ps := ["pairs", "one", "other"]) fun _ _ _ _ _ _ us hl => match us, hl with | [_, _, _], _ => rfl
  · exact PySem.W.mg_of X G a_d_road
  · exact fun_mk (st := s_d_l_cell_at) l_d_l_cell_at c_d_l_cell_at p_d_l_cell_at
  · exact (fun_mk (st := s_d_l_cell_at) l_d_l_cell_at c_d_l_cell_at p_d_l_cell_at).binds (ps := ["_law_script", "_law_k"]) fun _ _ _ _ _ _ us hl => match us, hl with | [_, _], _ => rfl
  · exact PySem.W.mg_of X G a_d_l_cell_at
  · exact fun_mk (st := s_d_l_mix) l_d_l_mix c_d_l_mix p_d_l_mix
  · exact (fun_mk (st := s_d_l_mix) l_d_l_mix c_d_l_mix p_d_l_mix).binds (ps := ["_law_cell", "_law_k"]) fun _ _ _ _ _ _ us hl => match us, hl with | [_, _], _ => rfl
  · exact PySem.W.mg_of X G a_d_l_mix
  · exact fun_mk (st := s_d_l_text) l_d_l_text c_d_l_text p_d_l_text
  · exact (fun_mk (st := s_d_l_text) l_d_l_text c_d_l_text p_d_l_text).binds (ps := ["_law_cell", "_law_signs", "_law_most"]) fun _ _ _ _ _ _ us hl => match us, hl with | [_, _, _], _ => rfl
  · exact PySem.W.mg_of X G a_d_l_text
  · exact fun_mk (st := s_d_l_label) l_d_l_label c_d_l_label p_d_l_label
  · exact (fun_mk (st := s_d_l_label) l_d_l_label c_d_l_label p_d_l_label).binds (ps := ["_law_cell"]) fun _ _ _ _ _ _ us hl => match us, hl with | [_], _ => rfl
  · exact PySem.W.mg_of X G a_d_l_label
  · exact fun_mk (st := s_d_l_labels) l_d_l_labels c_d_l_labels p_d_l_labels
  · exact (fun_mk (st := s_d_l_labels) l_d_l_labels c_d_l_labels p_d_l_labels).binds (ps := ["_law_cell"]) fun _ _ _ _ _ _ us hl => match us, hl with | [_], _ => rfl
  · exact PySem.W.mg_of X G a_d_l_labels
  · exact fun_mk (st := s_d_l_steps) l_d_l_steps c_d_l_steps p_d_l_steps
  · exact (fun_mk (st := s_d_l_steps) l_d_l_steps c_d_l_steps p_d_l_steps).binds (ps := ["_law_pairs", "_law_labels_here", "_law_other"]) fun _ _ _ _ _ _ us hl => match us, hl with | [_, _, _], _ => rfl
  · exact PySem.W.mg_of X G a_d_l_steps
  · exact fun_mk (st := s_d_l_road) l_d_l_road c_d_l_road p_d_l_road
  · exact (fun_mk (st := s_d_l_road) l_d_l_road c_d_l_road p_d_l_road).binds (ps := ["_law_pairs", "_law_labels_here", "_law_one", "_law_other"]) fun _ _ _ _ _ _ us hl => match us, hl with | [_, _, _, _], _ => rfl
  · exact PySem.W.mg_of X G a_d_l_road
  · exact fun_mk (st := s_d_l_same) l_d_l_same c_d_l_same p_d_l_same
  · exact (fun_mk (st := s_d_l_same) l_d_l_same c_d_l_same p_d_l_same).binds (ps := ["_law_found", "_law_due"]) fun _ _ _ _ _ _ us hl => match us, hl with | [_, _], _ => rfl
  · exact PySem.W.mg_of X G a_d_l_same
  · exact fun_mk (st := s_d_law) l_d_law c_d_law p_d_law
  · exact (fun_mk (st := s_d_law) l_d_law c_d_law p_d_law).binds (ps := ["_law_script"]) fun _ _ _ _ _ _ us hl => match us, hl with | [_], _ => rfl
  · exact PySem.W.mg_of X G a_d_law
  · exact PySem.W.mg_none_of X G z_isinstance
  · exact PySem.W.mg_none_of X G z_len
  · exact PySem.W.mg_none_of X G z_list
  · exact PySem.W.mg_none_of X G z_min
  · exact PySem.W.mg_none_of X G z_range

section
variable {α : Type} [DecidableEq α]
def lk (d : List (α × Nat)) (x : α) : Option Nat := (d.find? fun p => decide (p.1 = x)).map (·.2)
theorem lk_mem {d : List (α × Nat)} {x : α} {m : Nat} (h : lk d x = some m) : (x, m) ∈ d := by
  unfold lk at h
  cases e : d.find? fun p => decide (p.1 = x) with
  | none => rw [e] at h; cases h
  | some p =>
    rw [e] at h
    have h1 := List.mem_of_find?_eq_some e
    have h2 := List.find?_some e
    obtain ⟨a, b⟩ := p
    cases h
    have h3 : a = x := of_decide_eq_true h2
    rw [← h3]; exact h1
theorem lk_none {d : List (α × Nat)} {x : α} (h : lk d x = none) {p : α × Nat} (hp : p ∈ d) : p.1 ≠ x := by
  unfold lk at h
  rw [Option.map_eq_none_iff, List.find?_eq_none] at h
  intro e
  exact h p hp (decide_eq_true e)
theorem lk_snoc {d : List (α × Nat)} {y : α} {m : Nat} (h : lk d y = none) (x : α) : lk (d ++ [(y, m)]) x = if x = y then some m else lk d x := by
  unfold lk at *
  rw [List.find?_append]
  by_cases e : x = y
  · subst e
    rw [Option.map_eq_none_iff] at h
    rw [h, if_pos rfl]; simp
  · rw [if_neg e]
    have : List.find? (fun p : α × Nat => decide (p.1 = x)) [(y, m)] = none := by simp; exact fun z => e z.symm
    rw [this, Option.or_none]
theorem lk_of {d : List (α × Nat)} (nd : (d.map (·.1)).Nodup) {p : α × Nat} (hp : p ∈ d) : lk d p.1 = some p.2 := by
  induction d with
  | nil => cases hp
  | cons q r ih =>
    rw [List.map_cons, List.nodup_cons] at nd
    unfold lk
    rw [List.find?_cons]
    by_cases e : q.1 = p.1
    · rw [decide_eq_true e]
      rcases List.mem_cons.mp hp with z | z
      · rw [z]; rfl
      · exact absurd (List.mem_map.mpr ⟨p, z, e.symm⟩) nd.1
    · rw [decide_eq_false e]
      rcases List.mem_cons.mp hp with z | z
      · exact absurd (by rw [z]) e
      · exact ih nd.2 z
def stp (n : Nat) (d : List (α × Nat)) (p : α × α) : List (α × Nat) := if lk d p.2 = some n ∧ lk d p.1 = none then d ++ [(p.1, n + 1)] else d
def rnd (ps : List (α × α)) (n : Nat) (d : List (α × Nat)) : List (α × Nat) := ps.foldl (stp n) d
def dD (ps : List (α × α)) (o : α) : Nat → List (α × Nat)
  | 0 => [(o, 0)]
  | n + 1 => rnd ps n (dD ps o n)
structure Ok (ps : List (α × α)) (ls : List α) (o : α) (d : List (α × Nat)) : Prop where
  nd : (d.map (·.1)).Nodup
  sub : ∀ p ∈ d, p.1 ∈ o :: ls
  low : ∀ p ∈ d, p.2 < d.length
  zer : ∀ p ∈ d, p.2 = 0 → p.1 = o
  prv : ∀ p ∈ d, ∀ m, p.2 = m + 1 → ∃ b, (p.1, b) ∈ ps ∧ lk d b = some m
  one : lk d o = some 0
theorem Ok.go {ps : List (α × α)} {ls : List α} {o : α} {d : List (α × Nat)} (h : Ok ps ls o d) (n : Nat) {p : α × α} (hp : p ∈ ps) (hl : p.1 ∈ ls) : Ok ps ls o (stp n d p) := by
  unfold stp
  by_cases c : lk d p.2 = some n ∧ lk d p.1 = none
  · rw [if_pos c]
    have hne : p.1 ≠ o := fun z => by rw [z, h.one] at c; cases c.2
    refine ⟨?_, ?_, ?_, ?_, ?_, ?_⟩
    · rw [List.map_append, List.nodup_append]
      refine ⟨h.nd, by simp, ?_⟩
      intro a ha b hb e
      obtain ⟨q, hq, rfl⟩ := List.mem_map.mp ha
      rw [List.mem_map] at hb
      obtain ⟨r, hr, rfl⟩ := hb
      rw [List.mem_singleton] at hr
      subst hr
      exact lk_none c.2 hq e
    · intro q hq
      rcases List.mem_append.mp hq with z | z
      · exact h.sub q z
      · rw [List.mem_singleton] at z; subst z; exact List.mem_cons_of_mem _ hl
    · intro q hq
      rw [List.length_append]
      rcases List.mem_append.mp hq with z | z
      · have := h.low q z; simp; omega
      · rw [List.mem_singleton] at z; subst z
        have := h.low _ (lk_mem c.1); simp at *; omega
    · intro q hq e
      rcases List.mem_append.mp hq with z | z
      · exact h.zer q z e
      · rw [List.mem_singleton] at z; subst z; cases e
    · intro q hq m e
      rcases List.mem_append.mp hq with z | z
      · obtain ⟨b, h1, h2⟩ := h.prv q z m e
        refine ⟨b, h1, ?_⟩
        rw [lk_snoc c.2, if_neg (fun z => by rw [z, c.2] at h2; cases h2)]; exact h2
      · rw [List.mem_singleton] at z; subst z
        have e' : n = m := Nat.succ.inj e
        refine ⟨p.2, hp, ?_⟩
        rw [lk_snoc c.2, if_neg (fun z => by rw [z, c.2] at c; cases c.1), ← e']; exact c.1
    · rw [lk_snoc c.2, if_neg hne.symm]; exact h.one
  · rw [if_neg c]; exact h
theorem rnd_app {ps : List (α × α)} (n : Nat) : ∀ d : List (α × Nat), ∃ ex, rnd ps n d = d ++ ex ∧ ∀ p ∈ ex, p.2 = n + 1 := by
  unfold rnd
  induction ps with
  | nil => exact fun d => ⟨[], by simp, by simp⟩
  | cons p r ih =>
    intro d
    rw [List.foldl_cons]
    obtain ⟨ex, h1, h2⟩ := ih (stp n d p)
    rw [h1]
    unfold stp
    by_cases c : lk d p.2 = some n ∧ lk d p.1 = none
    · rw [if_pos c]
      refine ⟨(p.1, n + 1) :: ex, by simp, fun q hq => ?_⟩
      rcases List.mem_cons.mp hq with z | z
      · rw [z]
      · exact h2 q z
    · rw [if_neg c]; exact ⟨ex, rfl, h2⟩
theorem Ok.goR {ps qs : List (α × α)} {ls : List α} {o : α} (n : Nat) (hq : ∀ p ∈ qs, p ∈ ps) (hl : ∀ p ∈ ps, p.1 ∈ ls) : ∀ {d : List (α × Nat)}, Ok ps ls o d → Ok ps ls o (rnd qs n d) := by
  unfold rnd
  induction qs with
  | nil => exact fun h => h
  | cons p r ih =>
    intro d h
    rw [List.foldl_cons]
    exact ih (fun q z => hq q (List.mem_cons_of_mem _ z)) (h.go n (hq p List.mem_cons_self) (hl p (hq p List.mem_cons_self)))
theorem Ok.at' {ps : List (α × α)} {ls : List α} {o : α} (hl : ∀ p ∈ ps, p.1 ∈ ls) : ∀ n, Ok ps ls o (dD ps o n)
  | 0 => by
    refine ⟨by simp [dD], by simp [dD], by simp [dD], by simp [dD], ?_, by simp [dD, lk]⟩
    intro p hp m e
    simp [dD] at hp; subst hp; cases e
  | n + 1 => (Ok.at' hl n).goR n (fun _ h => h) hl
theorem sub_len : ∀ {l m : List α}, l.Nodup → (∀ x ∈ l, x ∈ m) → l.length ≤ m.length
  | [], m, _, _ => Nat.zero_le _
  | x :: l, m, h, s => by
    rw [List.nodup_cons] at h
    have h1 := sub_len (l := l) (m := m.erase x) h.2 (fun y hy => (List.mem_erase_of_ne (fun z => h.1 (by rw [← z]; exact hy))).mpr (s y (List.mem_cons_of_mem _ hy)))
    have h2 : x ∈ m := s x List.mem_cons_self
    have h3 := List.length_erase_of_mem h2
    have h4 := List.length_pos_of_mem h2
    simp only [List.length_cons]; omega
theorem Ok.len {ps : List (α × α)} {ls : List α} {o : α} {d : List (α × Nat)} (h : Ok ps ls o d) : d.length ≤ ls.length + 1 := by
  have := sub_len (m := o :: ls) h.nd (fun x hx => by
    obtain ⟨p, hp, rfl⟩ := List.mem_map.mp hx
    exact h.sub p hp)
  simpa using this
theorem Ok.lev {ps : List (α × α)} {ls : List α} {o : α} {d : List (α × Nat)} (h : Ok ps ls o d) {x : α} {m : Nat} (e : lk d x = some m) : m ≤ ls.length := by
  have := h.low _ (lk_mem e)
  have := h.len
  simp at *; omega
theorem dD_top (ps : List (α × α)) (o : α) : ∀ n, ∀ p ∈ dD ps o n, p.2 ≤ n
  | 0 => by simp [dD]
  | n + 1 => by
    obtain ⟨ex, h1, h2⟩ := rnd_app (ps := ps) n (dD ps o n)
    intro p hp
    rw [dD, h1] at hp
    rcases List.mem_append.mp hp with z | z
    · exact Nat.le_succ_of_le (dD_top ps o n p z)
    · rw [h2 p z]; exact Nat.le_refl _
theorem rnd_same {ps : List (α × α)} {n : Nat} {d : List (α × Nat)} (h : ∀ x, lk d x ≠ some n) : rnd ps n d = d := by
  unfold rnd
  induction ps with
  | nil => rfl
  | cons p r ih =>
    rw [List.foldl_cons]
    have : stp n d p = d := by unfold stp; rw [if_neg fun c => h _ c.1]
    rw [this]; exact ih
theorem dD_const {ps : List (α × α)} {o : α} {n : Nat} (h : ∀ x, lk (dD ps o n) x ≠ some n) : ∀ k, dD ps o (n + k) = dD ps o n
  | 0 => rfl
  | k + 1 => by
    have ih := dD_const h k
    show rnd ps (n + k) (dD ps o (n + k)) = _
    rw [ih]
    refine rnd_same fun x e => ?_
    by_cases hk : k = 0
    · subst hk; exact h x e
    · have := dD_top ps o n _ (lk_mem e)
      simp at this; omega
theorem dD_far {ps : List (α × α)} {ls : List α} {o : α} (hl : ∀ p ∈ ps, p.1 ∈ ls) : dD ps o (ls.length + 1) = dD ps o ls.length := by
  obtain ⟨ex, h1, h2⟩ := rnd_app (ps := ps) ls.length (dD ps o ls.length)
  have hk := Ok.at' (o := o) hl (ls.length + 1)
  show rnd ps ls.length (dD ps o ls.length) = _
  rw [h1]
  cases ex with
  | nil => simp
  | cons p r =>
    have hm : p ∈ dD ps o (ls.length + 1) := by
      show p ∈ rnd ps ls.length (dD ps o ls.length)
      rw [h1]; exact List.mem_append_right _ List.mem_cons_self
    have := hk.low p hm
    have := hk.len
    have := h2 p List.mem_cons_self
    omega
theorem dD_stop {ps : List (α × α)} {ls : List α} {o : α} (hl : ∀ p ∈ ps, p.1 ∈ ls) {n : Nat} (h : ∀ x, lk (dD ps o n) x ≠ some n) : dD ps o n = dD ps o ls.length := by
  by_cases c : n ≤ ls.length
  · obtain ⟨k, e⟩ := Nat.le.dest c
    rw [← e]; exact (dD_const h k).symm
  · obtain ⟨k, e⟩ := Nat.le.dest (Nat.lt_of_not_le c)
    rw [← e, show (ls.length.succ + k) = (ls.length + 1) + k from rfl, dD_const (n := ls.length + 1) (fun x e2 => ?_) k, dD_far hl]
    rw [dD_far hl] at e2
    have := dD_top ps o ls.length _ (lk_mem e2)
    simp at this; omega
def near (ps : List (α × α)) (F : List (α × Nat)) (x : α) (m : Nat) : List α := (ps.filter fun p => decide (p.1 = x) && decide (lk F p.2 = some m)).map (·.2)
theorem near_ne {ps : List (α × α)} {ls : List α} {o : α} {F : List (α × Nat)} (h : Ok ps ls o F) {x : α} {m : Nat} (e : lk F x = some (m + 1)) : near ps F x m ≠ [] := by
  obtain ⟨b, h1, h2⟩ := h.prv _ (lk_mem e) m rfl
  intro z
  have : b ∈ near ps F x m := List.mem_map.mpr ⟨(x, b), List.mem_filter.mpr ⟨h1, by simp [h2]⟩, rfl⟩
  rw [z] at this; cases this
theorem near_lk {ps : List (α × α)} {F : List (α × Nat)} {x y : α} {m : Nat} (h : y ∈ near ps F x m) : lk F y = some m := by
  obtain ⟨p, hp, rfl⟩ := List.mem_map.mp h
  have := (List.mem_filter.mp hp).2
  simp at this; exact this.2
def path (mn : List α → α) (ps : List (α × α)) (F : List (α × Nat)) : Nat → α → List α
  | 0, _ => []
  | m + 1, x => mn (near ps F x m) :: path mn ps F m (mn (near ps F x m))
end

def lows : List Nat := [97, 98, 99, 100, 101, 102, 103, 104, 105, 106, 107, 108, 109, 110, 111, 112, 113, 114, 115, 116, 117, 118, 119, 120, 121, 122]
def figs : List Nat := lows ++ [48, 49, 50, 51, 52, 53, 54, 55, 56, 57]
abbrev sv (l : List Nat) : V := .str (mk l)
theorem fig_eq : ("abcdefghijklmnopqrstuvwxyz0123456789" : Str) = mk figs := by decide +kernel
theorem fig_lt {c : Nat} (h : c ∈ figs) : c < 128 := by
  revert c
  decide
theorem short_le {n : Nat} (h : n ≤ 100000) : n ≤ sizeLine := Nat.le_trans h (by decide)


theorem strOk_mk {l : List Nat} (h : ∀ c ∈ l, c < 1114112) : PyData.strOk (mk l) = true := by
  unfold PyData.strOk; simpa using h
def dv (d : List (Str × Nat)) : List (Key × V) := d.map fun p => (Sum.inr p.1, V.int p.2)
theorem dv_len (d : List (Str × Nat)) : (dv d).length = d.length := List.length_map _
theorem dv_snoc (d : List (Str × Nat)) (x : Str) (m : Nat) : dv (d ++ [(x, m)]) = dv d ++ [(Sum.inr x, V.int m)] := by unfold dv; rw [List.map_append]; rfl
theorem valV_dv (x : Str) : ∀ d : List (Str × Nat), valV (dv d) (Sum.inr x : Key) = (lk d x).map fun m : Nat => V.int m
  | [] => rfl
  | p :: r => by
    by_cases e : p.1 = x
    · rw [show dv (p :: r) = (Sum.inr p.1, V.int p.2) :: dv r from rfl, valV_pos (by rw [e])]
      unfold lk; rw [List.find?_cons, decide_eq_true e]; rfl
    · rw [show dv (p :: r) = (Sum.inr p.1, V.int p.2) :: dv r from rfl, valV_neg (fun z => e (Sum.inr.inj z)), valV_dv x r]
      unfold lk; rw [List.find?_cons, decide_eq_false e]
theorem dask {H : Hp} {S : Addr} {d : List (Str × Nat)} (h : H S = some (.dK (dv d))) (x : Str) : DGet H S (.str x) ((lk d x).map fun m : Nat => V.int m) := by
  have := DGet.k (k := (Sum.inr x : Key)) h
  rw [valV_dv] at this; exact this
theorem dget {H : Hp} {S : Addr} {d : List (Str × Nat)} (h : H S = some (.dK (dv d))) {x : Str} {m : Nat} (e : lk d x = some m) : DGet H S (.str x) (some (V.int m)) := by
  have := dask h x
  rw [e] at this; exact this
theorem dput {H : Hp} {S : Addr} {d : List (Str × Nat)} (h : H S = some (.dK (dv d))) {x : Str} (hn : lk d x = none) (hl : d.length ≤ 100000) (m : Nat) : DPut H S (.str x) (V.int m) (upd H S (.dK (dv (d ++ [(x, m)])))) := by
  have := DPut.k (k := (Sum.inr x : Key)) (v := V.int m) h (by rw [dv_len]; exact Nat.lt_of_le_of_lt hl (by decide))
  rw [putK_new _ (by rw [valV_dv, hn]; rfl), ← dv_snoc] at this; exact this
theorem isD_of {H : Hp} {S : Addr} {d : List (Key × V)} (h : H S = some (.dK d)) : IsD H S := .inl ⟨_, .inl h⟩
/-- the values xs are tuples of two texts, those of ps -/
structure PrL (H : Hp) (xs : List V) (ps : List (Str × Str)) : Prop where
  len : xs.length = ps.length
  get : ∀ (i : Nat) (p : Str × Str), ps[i]? = some p → ∃ q, xs[i]? = some (.ref q) ∧ H q = some (.tup [.str p.1, .str p.2])
theorem PrL.same {H H' : Hp} {xs : List V} {ps : List (Str × Str)} (s : Same H H') (h : PrL H xs ps) : PrL H' xs ps := ⟨h.len, fun i p e => let ⟨q, a, b⟩ := h.get i p e; ⟨q, a, s _ _ b⟩⟩
theorem PrL.at {H : Hp} {xs : List V} {ps : List (Str × Str)} (h : PrL H xs ps) {i : Nat} {x : V} (e : xs[i]? = some x) : ∃ p q, ps[i]? = some p ∧ x = .ref q ∧ H q = some (.tup [.str p.1, .str p.2]) := by
  have hi := (List.getElem?_eq_some_iff.mp e).1
  rw [h.len] at hi
  obtain ⟨q, a, b⟩ := h.get i ps[i] (List.getElem?_eq_getElem hi)
  rw [e] at a
  exact ⟨ps[i], q, List.getElem?_eq_getElem hi, Option.some.inj a, b⟩
theorem PrL.snoc {H : Hp} {xs : List V} {ps : List (Str × Str)} (h : PrL H xs ps) {q : Addr} {p : Str × Str} (hq : H q = some (.tup [.str p.1, .str p.2])) : PrL H (xs ++ [.ref q]) (ps ++ [p]) := by
  refine ⟨by simp [h.len], fun i r e => ?_⟩
  by_cases hi : i < ps.length
  · rw [List.getElem?_append_left hi] at e
    rw [List.getElem?_append_left (by rw [h.len]; exact hi)]
    exact h.get i r e
  · have hi2 := (List.getElem?_eq_some_iff.mp e).1
    have : i = ps.length := by simp at hi2; omega
    subst this
    rw [List.getElem?_append_right (Nat.le_refl _), Nat.sub_self] at e
    cases e
    refine ⟨q, ?_, hq⟩
    rw [← h.len, List.getElem?_append_right (Nat.le_refl _), Nat.sub_self]; rfl
theorem PrL.den {K : PySem.W.Frag} {H : Hp} : ∀ {xs : List V} {ps : List (Str × Str)}, PrL H xs ps → DenAll K H xs (ps.map fun p => PyData.tuple [.str p.1, .str p.2])
  | [], [], _ => .nil
  | x :: xs, p :: ps, h => by
    obtain ⟨q, a, b⟩ := h.get 0 p rfl
    refine .cons ?_ (PrL.den (ps := ps) ⟨Nat.succ.inj h.len, fun i r e => h.get (i + 1) r e⟩)
    cases a
    exact .tup (SqT.of b) (.cons (.str _) (.cons (.str _) .nil))
  | [], p :: ps, h => by cases h.len
  | x :: xs, [], h => by cases h.len
def RoadQ (ps : List (Str × Str)) (ls : List Str) (one o : Str) (H : Hp) (Q : VK) : Prop :=
  (lk (dD ps o ls.length) one = none → ∀ H', Same H H' → Q .non H') ∧
  ∀ M, lk (dD ps o ls.length) one = some M → ∀ D H', H D = none → Same H H' → H' D = some (.lst ((one :: path minS ps (dD ps o ls.length) M one).map V.str)) → Q (.ref D) H'
def Wel (ps : List (Str × Str)) (ls : List Str) : Prop := (∀ p ∈ ps, p.1 ∈ ls) ∧ ls.length ≤ 1000 ∧ ps.length ≤ 1000
def spCell (K : PySem.W.Frag) : Sp := fun vs H Q _ => ∃ (a : Addr) (ns : List Int) (k : Int), vs = [.ref a, .int k] ∧ SqL K H a (ns.map V.int) ∧ ns.length ≤ 63 ∧ 0 ≤ k ∧ k ≤ 1000 ∧ ∀ i, Q (.int i) H
def spMix : Sp := fun vs H Q _ => ∃ (c k : Int), vs = [.int c, .int k] ∧ ∀ r : Int, 0 ≤ r → Q (.int r) H
def spTxt : Sp := fun vs H Q _ => ∃ (c : Int) (sg : List Nat), vs = [.int c, sv sg, .int 8] ∧ (0 < sg.length ∧ sg.length ≤ 100) ∧ ∀ l : List Nat, (1 ≤ l.length ∧ l.length ≤ 8) → (∀ x ∈ l, x ∈ sg) → Q (sv l) H
def spLabel : Sp := fun vs H Q _ => ∃ (c : Int), vs = [.int c] ∧ ∀ l : List Nat, (1 ≤ l.length ∧ l.length ≤ 8) → (∀ x ∈ l, x ∈ figs) → Q (sv l) H
theorem spMix_at {c k : Int} {H : Hp} {Q : VK} {E : XK} : spMix [.int c, .int k] H Q E ↔ ∀ r : Int, 0 ≤ r → Q (.int r) H := ⟨by rintro ⟨_, _, e, q⟩; cases e; exact q, fun q => ⟨_, _, rfl, q⟩⟩
def spLabels : Sp := fun vs H Q _ => ∃ (c : Int), vs = [.int c] ∧ ∀ (D : Addr) (ls : List Str) (H' : Hp), Same H H' → H D = none → H' D = some (.lst (ls.map V.str)) → ls ≠ [] → ls.length ≤ 9 → (∀ z ∈ ls, PyData.strOk z = true) → Q (.ref D) H'
def spSteps (K : PySem.W.Frag) : Sp := fun vs H Q _ => ∃ (a : Addr) (xs : List V) (ps : List (Str × Str)) (ls : List Str) (o : Str), vs = [.ref a, .str o] ∧ SqL K H a xs ∧ PrL H xs ps ∧ Wel ps ls ∧
  ∀ D H', H D = none → Same H H' → H' D = some (.dK (dv (dD ps o ls.length))) → Q (.ref D) H'
def spLSteps (K : PySem.W.Frag) : Sp := fun vs H Q _ => ∃ (a b : Addr) (xs : List V) (ps : List (Str × Str)) (ls : List Str) (o : Str), vs = [.ref a, .ref b, .str o] ∧ SqL K H a xs ∧ H b = some (.lst (ls.map V.str)) ∧ PrL H xs ps ∧ Wel ps ls ∧
  ∀ D H', H D = none → Same H H' → H' D = some (.dK (dv (dD ps o ls.length))) → Q (.ref D) H'
def spLeast (K : PySem.W.Frag) : Sp := fun vs H Q _ => ∃ (a S : Addr) (xs : List V) (ps : List (Str × Str)) (F : List (Str × Nat)) (x : Str) (m : Nat), vs = [.ref a, .ref S, .str x] ∧ SqL K H a xs ∧ PrL H xs ps ∧ ps.length ≤ 1000 ∧ H S = some (.dK (dv F)) ∧ lk F x = some (m + 1) ∧ near ps F x m ≠ [] ∧
  ∀ H', Same H H' → Q (.str (minS (near ps F x m))) H'
def spRoad (K : PySem.W.Frag) : Sp := fun vs H Q _ => ∃ (a : Addr) (xs : List V) (ps : List (Str × Str)) (ls : List Str) (one o : Str), vs = [.ref a, .str one, .str o] ∧ SqL K H a xs ∧ PrL H xs ps ∧ Wel ps ls ∧ RoadQ ps ls one o H Q
def spLRoad (K : PySem.W.Frag) : Sp := fun vs H Q _ => ∃ (a b : Addr) (xs : List V) (ps : List (Str × Str)) (ls : List Str) (one o : Str), vs = [.ref a, .ref b, .str one, .str o] ∧ SqL K H a xs ∧ H b = some (.lst (ls.map V.str)) ∧ PrL H xs ps ∧ Wel ps ls ∧ RoadQ ps ls one o H Q
def spSameR (K : PySem.W.Frag) : Sp := fun vs H Q _ => ∃ (x y : V), vs = [x, y] ∧ ((x = .non ∧ y = .non) ∨ ∃ (f d : Addr) (zs : List Str), x = .ref f ∧ y = .ref d ∧ H f = some (.lst (zs.map V.str)) ∧ H d = some (.lst (zs.map V.str)) ∧ ∀ z ∈ zs, PyData.strOk z = true) ∧ Q (.bl true) H
def Res (ps : List (Str × Str)) (ls : List Str) (one o : Str) (H : Hp) (v : V) (H' : Hp) : Prop :=
  (v = .non ∧ lk (dD ps o ls.length) one = none) ∨ ∃ D M, v = .ref D ∧ H D = none ∧ lk (dD ps o ls.length) one = some M ∧ H' D = some (.lst ((one :: path minS ps (dD ps o ls.length) M one).map V.str))
theorem roadq_of {ps : List (Str × Str)} {ls : List Str} {one o : Str} {H : Hp} {Q : VK} (h : ∀ v H', Same H H' → Res ps ls one o H v H' → Q v H') : RoadQ ps ls one o H Q :=
  ⟨fun e H' s => h _ _ s (.inl ⟨rfl, e⟩), fun M e D H' hD s hL => h _ _ s (.inr ⟨D, M, rfl, hD, e, hL⟩)⟩
theorem Res.same {ps : List (Str × Str)} {ls : List Str} {one o : Str} {H H' H2 : Hp} {v : V} (s : Same H' H2) (h : Res ps ls one o H v H') : Res ps ls one o H v H2 := by
  rcases h with h | ⟨D, M, a, b, c, d⟩
  · exact .inl h
  · exact .inr ⟨D, M, a, b, c, s _ _ d⟩
theorem canS : ∀ zs : List Str, (∀ z ∈ zs, PyData.strOk z = true) → PyData.canLayAll0 (zs.map PyData.str) = true ∧ PyData.depthAll (zs.map PyData.str) = 0
  | [], _ => ⟨rfl, rfl⟩
  | z :: zs, h => by
    obtain ⟨a, b⟩ := canS zs fun p hp => h p (List.mem_cons_of_mem _ hp)
    refine ⟨?_, ?_⟩
    · show (PyData.canLay0 (.str z) && _) = true
      rw [a, Bool.and_true]; exact h z List.mem_cons_self
    · show max (PyData.depth (.str z)) _ = 0
      rw [b]; rfl
theorem shapedZ {zs : List Str} (h : ∀ z ∈ zs, PyData.strOk z = true) : SeqAt.shaped (.list (zs.map PyData.str)) = true := by
  obtain ⟨a, b⟩ := canS zs h
  unfold SeqAt.shaped
  simp only [PyData.canLay0, PyData.depth, a, b]
  decide
theorem canP : ∀ ps : List (Str × Str), (∀ p ∈ ps, PyData.strOk p.1 = true ∧ PyData.strOk p.2 = true) → PyData.canLayAll0 (ps.map fun p => PyData.tuple [.str p.1, .str p.2]) = true ∧ PyData.depthAll (ps.map fun p => PyData.tuple [.str p.1, .str p.2]) ≤ 1
  | [], _ => ⟨rfl, by decide⟩
  | p :: ps, h => by
    obtain ⟨a, b⟩ := canP ps fun p hp => h p (List.mem_cons_of_mem _ hp)
    obtain ⟨c, d⟩ := canS [p.1, p.2] (by
      intro z hz
      rcases List.mem_cons.mp hz with e | e
      · rw [e]; exact (h p List.mem_cons_self).1
      · rw [List.mem_singleton.mp e]; exact (h p List.mem_cons_self).2)
    refine ⟨?_, ?_⟩
    · show (PyData.canLay0 (.tuple [.str p.1, .str p.2]) && _) = true
      rw [a, Bool.and_true]; exact c
    · show max (PyData.depth (.tuple [.str p.1, .str p.2])) _ ≤ 1
      have : PyData.depth (.tuple [.str p.1, .str p.2]) = 1 := rfl
      rw [this]; exact Nat.max_le.mpr ⟨Nat.le_refl _, b⟩
theorem shapedP {ps : List (Str × Str)} (h : ∀ p ∈ ps, PyData.strOk p.1 = true ∧ PyData.strOk p.2 = true) : SeqAt.shaped (.list (ps.map fun p => PyData.tuple [.str p.1, .str p.2])) = true := by
  obtain ⟨a, b⟩ := canP ps h
  unfold SeqAt.shaped
  simp only [PyData.canLay0, PyData.depth, a, Bool.true_and, decide_eq_true_eq]
  exact decide_eq_true (by omega)
theorem path_ok {ps : List (Str × Str)} {ls : List Str} {o : Str} {F : List (Str × Nat)} (h : Ok ps ls o F) (hp : ∀ p ∈ ps, PyData.strOk p.2 = true) : ∀ (m : Nat) (x : Str), lk F x = some m → ∀ z ∈ path minS ps F m x, PyData.strOk z = true
  | 0, x, _, z, hz => by cases hz
  | m + 1, x, e, z, hz => by
    have hm := minS_mem (near_ne h e)
    rcases List.mem_cons.mp hz with rfl | h2
    · obtain ⟨p, h3, h4⟩ := List.mem_map.mp hm
      rw [← h4]; exact hp p (List.mem_filter.mp h3).1
    · exact path_ok h hp m _ (near_lk hm) z h2
theorem res_same {K : PySem.W.Frag} {ps : List (Str × Str)} {ls : List Str} {one o : Str} {H1 H2 H : Hp} {v u : V} {Q : VK} {E : XK} (hl : ∀ p ∈ ps, p.1 ∈ ls) (h1 : PyData.strOk one = true) (hp : ∀ p ∈ ps, PyData.strOk p.2 = true)
    (a : Res ps ls one o H1 v H) (b : Res ps ls one o H2 u H) (q : Q (.bl true) H) : spSameR K [v, u] H Q E := by
  refine ⟨_, _, rfl, ?_, q⟩
  rcases a with ⟨rfl, e⟩ | ⟨D, M, rfl, _, e, hD⟩
  · rcases b with ⟨rfl, e2⟩ | ⟨D2, M2, _, _, e2, _⟩
    · exact .inl ⟨rfl, rfl⟩
    · rw [e] at e2; cases e2
  · rcases b with ⟨_, e2⟩ | ⟨D2, M2, rfl, _, e2, hD2⟩
    · rw [e] at e2; cases e2
    · rw [e] at e2; cases e2
      refine .inr ⟨D, D2, _, rfl, rfl, hD, hD2, fun z hz => ?_⟩
      rcases List.mem_cons.mp hz with rfl | h
      · exact h1
      · exact path_ok (Ok.at' hl _) hp _ _ e z h

def spLaw (K : PySem.W.Frag) : Sp := fun vs H Q _ => ∃ (a : Addr) (ns : List Int), vs = [.ref a] ∧ SqL K H a (ns.map V.int) ∧ ns.length ≤ 63 ∧ ∀ H', Q (.bl true) H'
theorem spLaw_of {K : PySem.W.Frag} {H : Hp} {a : Addr} {ns : List Int} (hl : ns.length ≤ 63) (_ : Only H) (hS : SqL K H a (ns.map V.int)) : spLaw K [.ref a] H (fun v _ => v = .bl true) fun _ _ _ => False := ⟨a, ns, rfl, hS, hl, fun _ => rfl⟩
end K15
namespace K15
open PySem L2 Tx

section
variable {P : Program} {w : World} {K : PySem.W.Frag} {mg : Str → Option Value} {base : Heap} {t : Adr}
theorem ok_d_l_cell_at (T : Txt K mg t) : FnOk P w K mg base CX0 1 t.f_d_l_cell_at t.fd_d_l_cell_at ["_law_script", "_law_k"] (spCell K) := by
  refine T.F_d_l_cell_at.ok sc_d_l_cell_at (fun vs H Q E h => ?_) (fun cdv A outer s H vs Q E hr h => ?_)
  · obtain ⟨a, ns, k, rfl, hS, hl, k0, k1, q⟩ := h; rfl
  · obtain ⟨a, ns, k, rfl, hS, hl, k0, k1, q⟩ := h
    refine ⟨_, (@pss_cons _ _ _ _ _ (@ps_if _ _ _ _ _ _ _ _ (@pt_cmpR _ _ _ _ _ _ _ _ op_ltA (@pv _ 1 _ _ (by rfl) (by first | exact vis0 rfl | exact vis1 rfl | exact vis2 rfl) (by decide) (by decide)) (@pe_callB _ _ _ _ _ _ _ _ _ call_lenA rfl T.z_len boot_lenT (@pa_cons _ _ _ _ _ (@pv _ 0 _ _ (by rfl) (by first | exact vis0 rfl | exact vis1 rfl | exact vis2 rfl) (by decide) (by decide)) (@pa_nil _) (by rfl)) (by decide) (by decide) (by rfl) (by rfl)) (nomark _)) (@pss_one _ _ _ (@ps_ret _ _ _ _ (@pe_ix _ _ _ _ _ _ _ ix_seq (@pv _ 0 _ _ (by rfl) (by first | exact vis0 rfl | exact vis1 rfl | exact vis2 rfl) (by decide) (by decide)) (@pv _ 1 _ _ (by rfl) (by first | exact vis0 rfl | exact vis1 rfl | exact vis2 rfl) (by decide) (by decide)) (fun _ _ => rfl)))) (@pss_nil _)) (@pss_one _ _ _ (@ps_ret _ _ _ _ (@pe_int _ _ _ _)))), ?_⟩
    rw [show start n_d_l_cell_at [V.ref a, V.int k] = [some (V.ref a), some (V.int k)] from rfl]
    try simp only [tSeq, tAsg, tOp, tUn, tVar, tC, tRet, tRetN, tDrop, tNext, tIfS, tNever, gName, tCons, tNil, tCall, tCB, tAndV, tOrV, tNotV, tAnd, tOr, tNot, tTest, tB, tIf, tChain, tLst, tTup, tSl, tNoPart, tPart, tBM, tBM0, tFor_eq, iList, iTup, iRng1, iRng2, iStr, tYes, tDNewK, tDisp, tPairs, List.getElem?_cons_zero, List.getElem?_cons_succ, List.set_cons_zero, List.set_cons_succ, List.append_nil, List.nil_append, List.cons_append, exSlot, exBl, exInt, exStr, exRef, rI_int, rI0_int, rU_int, rAddA_int, rAddA_str, rInA_str, rNotInA_str, rLenA_str, rSlA_str, rIx_str, CMul, CDiv, CPow, rIsi_str_str, rIsi_bl_bool, tComp_eq, ite_tt, ite_ft, ite_tf, ite_ff, decide_eq_true_eq, Bool.not_eq_true', decide_eq_false_iff_not, decide_true, decide_false, rEqH_str, rEqH_int, rEqH_bl, rNeH_str, rNeH_int, rStarts_at, rEnds_at, rFind_at, rSplit_at, rPart_at, tyV_str, rInt1_bl, rInt1_int, gTup, gCons, gNil, gSub, rIsN_ref, rIsN_non, rIsN_str, rNotN_ref, rNotN_non, tDGet, tDIn, tDNotIn, sDPut, tDGet1, tDGet2, tFld, sFld, tMeth, tMake, tCMeth, rLtA_int, rLtA_str, spMix_at]
    refine rLenA_lst hS ?_
    try simp only [tSeq, tAsg, tOp, tUn, tVar, tC, tRet, tRetN, tDrop, tNext, tIfS, tNever, gName, tCons, tNil, tCall, tCB, tAndV, tOrV, tNotV, tAnd, tOr, tNot, tTest, tB, tIf, tChain, tLst, tTup, tSl, tNoPart, tPart, tBM, tBM0, tFor_eq, iList, iTup, iRng1, iRng2, iStr, tYes, tDNewK, tDisp, tPairs, List.getElem?_cons_zero, List.getElem?_cons_succ, List.set_cons_zero, List.set_cons_succ, List.append_nil, List.nil_append, List.cons_append, exSlot, exBl, exInt, exStr, exRef, rI_int, rI0_int, rU_int, rAddA_int, rAddA_str, rInA_str, rNotInA_str, rLenA_str, rSlA_str, rIx_str, CMul, CDiv, CPow, rIsi_str_str, rIsi_bl_bool, tComp_eq, ite_tt, ite_ft, ite_tf, ite_ff, decide_eq_true_eq, Bool.not_eq_true', decide_eq_false_iff_not, decide_true, decide_false, rEqH_str, rEqH_int, rEqH_bl, rNeH_str, rNeH_int, rStarts_at, rEnds_at, rFind_at, rSplit_at, rPart_at, tyV_str, rInt1_bl, rInt1_int, gTup, gCons, gNil, gSub, rIsN_ref, rIsN_non, rIsN_str, rNotN_ref, rNotN_non, tDGet, tDIn, tDNotIn, sDPut, tDGet1, tDGet2, tFld, sFld, tMeth, tMake, tCMeth, rLtA_int, rLtA_str, spMix_at]
    refine ite2 (fun c => ?_) (fun c => q 0)
    obtain ⟨v, e, hv, _⟩ := atI_in (xs := ns.map V.int) (i := k) k0 (by simpa using c)
    obtain ⟨i, _, rfl⟩ := List.mem_map.mp hv
    exact rIx_lst hS e (q i)
end
end K15
namespace K15
open PySem L2 Tx

section
variable {P : Program} {w : World} {K : PySem.W.Frag} {mg : Str → Option Value} {base : Heap} {t : Adr}
theorem ok_d_l_mix (T : Txt K mg t) : FnOk P w K mg base CX0 1 t.f_d_l_mix t.fd_d_l_mix ["_law_cell", "_law_k"] spMix := by
  refine T.F_d_l_mix.ok sc_d_l_mix (fun vs H Q E h => ?_) (fun cdv A outer s H vs Q E hr h => ?_)
  · obtain ⟨c, k, rfl, q⟩ := h; rfl
  · obtain ⟨c, k, rfl, q⟩ := h
    refine ⟨_, (@pss_cons _ _ _ _ _ (@ps_set _ _ (2) _ _ _ _ sc_d_l_mix.nd rfl (by first | exact Or.inl rfl | exact Or.inr rfl) (@pe_op _ _ _ _ _ _ _ _ op_mod (@pe_op _ _ _ _ _ _ _ _ op_mul (@pe_op _ _ _ _ _ _ _ _ op_addA (@pe_op _ _ _ _ _ _ _ _ op_addA (@pe_op _ _ _ _ _ _ _ _ op_mod (@pv _ 0 _ _ (by rfl) (by first | exact vis0 rfl | exact vis1 rfl | exact vis2 rfl) (by decide) (by decide)) (@pe_int _ _ _ _)) (@pe_op _ _ _ _ _ _ _ _ op_mul (@pe_int _ _ _ _) (@pv _ 1 _ _ (by rfl) (by first | exact vis0 rfl | exact vis1 rfl | exact vis2 rfl) (by decide) (by decide)))) (@pe_int _ _ _ _)) (@pe_int _ _ _ _)) (@pe_int _ _ _ _)) (by rfl) (by first | exact Or.inl rfl | exact Or.inr rfl | assumption)) (@pss_cons _ _ _ _ _ (@ps_set _ _ (2) _ _ _ _ sc_d_l_mix.nd rfl (by first | exact Or.inl rfl | exact Or.inr rfl) (@pe_op _ _ _ _ _ _ _ _ op_mod (@pe_op _ _ _ _ _ _ _ _ op_mul (@pv _ 2 _ _ (by rfl) (by first | exact vis0 rfl | exact vis1 rfl | exact vis2 rfl) (by decide) (by decide)) (@pv _ 2 _ _ (by rfl) (by first | exact vis0 rfl | exact vis1 rfl | exact vis2 rfl) (by decide) (by decide))) (@pe_int _ _ _ _)) (by rfl) (by first | exact Or.inl rfl | exact Or.inr rfl | assumption)) (@pss_one _ _ _ (@ps_ret _ _ _ _ (@pe_op _ _ _ _ _ _ _ _ op_mod (@pe_op _ _ _ _ _ _ _ _ op_mul (@pv _ 2 _ _ (by rfl) (by first | exact vis0 rfl | exact vis1 rfl | exact vis2 rfl) (by decide) (by decide)) (@pv _ 2 _ _ (by rfl) (by first | exact vis0 rfl | exact vis1 rfl | exact vis2 rfl) (by decide) (by decide))) (@pe_int _ _ _ _)))))), ?_⟩
    rw [show start n_d_l_mix [V.int c, V.int k] = [some (V.int c), some (V.int k), none] from rfl]
    try simp only [tSeq, tAsg, tOp, tUn, tVar, tC, tRet, tRetN, tDrop, tNext, tIfS, tNever, gName, tCons, tNil, tCall, tCB, tAndV, tOrV, tNotV, tAnd, tOr, tNot, tTest, tB, tIf, tChain, tLst, tTup, tSl, tNoPart, tPart, tBM, tBM0, tFor_eq, iList, iTup, iRng1, iRng2, iStr, tYes, tDNewK, tDisp, tPairs, List.getElem?_cons_zero, List.getElem?_cons_succ, List.set_cons_zero, List.set_cons_succ, List.append_nil, List.nil_append, List.cons_append, exSlot, exBl, exInt, exStr, exRef, rI_int, rI0_int, rU_int, rAddA_int, rAddA_str, rInA_str, rNotInA_str, rLenA_str, rSlA_str, rIx_str, CMul, CDiv, CPow, rIsi_str_str, rIsi_bl_bool, tComp_eq, ite_tt, ite_ft, ite_tf, ite_ff, decide_eq_true_eq, Bool.not_eq_true', decide_eq_false_iff_not, decide_true, decide_false, rEqH_str, rEqH_int, rEqH_bl, rNeH_str, rNeH_int, rStarts_at, rEnds_at, rFind_at, rSplit_at, rPart_at, tyV_str, rInt1_bl, rInt1_int, gTup, gCons, gNil, gSub, rIsN_ref, rIsN_non, rIsN_str, rNotN_ref, rNotN_non, tDGet, tDIn, tDNotIn, sDPut, tDGet1, tDGet2, tFld, sFld, tMeth, tMake, tCMeth, rLtA_int, rLtA_str, spMix_at]
    have h1 := mod_lt' (i := (c % 2147483647 + 7919 * k + 17) * 48271) (j := 2147483647) (by decide)
    generalize (c % 2147483647 + 7919 * k + 17) * 48271 % 2147483647 = n at h1 ⊢
    have h2 := mod_lt' (i := n * n) (j := 2147483629) (by decide)
    generalize n * n % 2147483629 = m at h2 ⊢
    exact ⟨by decide, .inl (by decide), .inr (by decide), by decide, .inl (by omega), by decide, .inl (by omega), by decide, q _ (Int.emod_nonneg _ (by decide))⟩
end
end K15
namespace K15
open PySem L2 Tx

section
variable {P : Program} {w : World} {K : PySem.W.Frag} {mg : Str → Option Value} {base : Heap} {t : Adr}
theorem ok_d_l_text (T : Txt K mg t) : FnOk P w K mg base CX0 2 t.f_d_l_text t.fd_d_l_text ["_law_cell", "_law_signs", "_law_most"] spTxt := by
  refine T.F_d_l_text.ok sc_d_l_text (fun vs H Q E h => ?_) (fun cdv A outer s H vs Q E hr h => ?_)
  · obtain ⟨c, sg, rfl, hsg, q⟩ := h; rfl
  · obtain ⟨c, sg, rfl, hsg, q⟩ := h
    refine ⟨_, (@pss_cons _ _ _ _ _ (@ps_set _ _ (3) _ _ _ _ sc_d_l_text.nd rfl (by first | exact Or.inl rfl | exact Or.inr rfl) (@pe_call _ _ _ _ _ _ _ _ _ _ _ _ _ _ _ _ (ok_d_l_mix T) (hr.mono (by decide)) rfl T.g_d_l_mix T.F_d_l_mix.kp T.b_d_l_mix .nil pass0 (@pa_cons _ _ _ _ _ (@pv _ 0 _ _ (by rfl) (by first | exact vis0 rfl | exact vis1 rfl | exact vis2 rfl) (by decide) (by decide)) (@pa_cons _ _ _ _ _ (@pe_int _ _ _ _) (@pa_nil _) (by rfl)) (by rfl)) (by decide) (by rfl) (by rfl)) (by rfl) (by first | exact Or.inl rfl | exact Or.inr rfl | assumption)) (@pss_cons _ _ _ _ _ (@ps_set _ _ (4) _ _ _ _ sc_d_l_text.nd rfl (by first | exact Or.inl rfl | exact Or.inr rfl) (@pe_str _ _ _ _) (by rfl) (by first | exact Or.inl rfl | exact Or.inr rfl | assumption)) (@pss_cons _ _ _ _ _ (@ps_for _ _ _ _ _ _ _ _ PassesOwn.never rfl (@pi_range1 _ _ _ _ _ _ rfl T.z_range (@pa_cons _ _ _ _ _ (@pe_op _ _ _ _ _ _ _ _ op_addA (@pe_int _ _ _ _) (@pe_op _ _ _ _ _ _ _ _ op_mod (@pv _ 3 _ _ (by rfl) (by first | exact vis0 rfl | exact vis1 rfl | exact vis2 rfl) (by decide) (by decide)) (@pv _ 2 _ _ (by rfl) (by first | exact vis0 rfl | exact vis1 rfl | exact vis2 rfl) (by decide) (by decide)))) (@pa_nil _) (by rfl)) (by rfl)) (@pg_name _ _ (5) _ sc_d_l_text.nd rfl (by first | exact Or.inl rfl | exact Or.inr rfl) (by first | exact Or.inl rfl | exact Or.inr rfl | assumption)) (@pss_one _ _ _ (@ps_set _ _ (4) _ _ _ _ sc_d_l_text.nd rfl (by first | exact Or.inl rfl | exact Or.inr rfl) (@pe_op _ _ _ _ _ _ _ _ op_addA (@pv _ 4 _ _ (by rfl) (by first | exact vis0 rfl | exact vis1 rfl | exact vis2 rfl) (by decide) (by decide)) (@pe_ix _ _ _ _ _ _ _ ix_seq (@pv _ 1 _ _ (by rfl) (by first | exact vis0 rfl | exact vis1 rfl | exact vis2 rfl) (by decide) (by decide)) (@pe_op _ _ _ _ _ _ _ _ op_mod (@pe_op _ _ _ _ _ _ _ _ op_addA (@pe_op _ _ _ _ _ _ _ _ op_fdiv (@pe_call _ _ _ _ _ _ _ _ _ _ _ _ _ _ _ _ (ok_d_l_mix T) (hr.mono (by decide)) rfl T.g_d_l_mix T.F_d_l_mix.kp T.b_d_l_mix .nil pass0 (@pa_cons _ _ _ _ _ (@pv _ 0 _ _ (by rfl) (by first | exact vis0 rfl | exact vis1 rfl | exact vis2 rfl) (by decide) (by decide)) (@pa_cons _ _ _ _ _ (@pe_int _ _ _ _) (@pa_nil _) (by rfl)) (by rfl)) (by decide) (by rfl) (by rfl)) (@pe_op _ _ _ _ _ _ _ _ op_addA (@pv _ 5 _ _ (by rfl) (by first | exact vis0 rfl | exact vis1 rfl | exact vis2 rfl) (by decide) (by decide)) (@pe_int _ _ _ _))) (@pe_op _ _ _ _ _ _ _ _ op_mul (@pe_op _ _ _ _ _ _ _ _ op_mul (@pe_int _ _ _ _) (@pv _ 5 _ _ (by rfl) (by first | exact vis0 rfl | exact vis1 rfl | exact vis2 rfl) (by decide) (by decide))) (@pv _ 5 _ _ (by rfl) (by first | exact vis0 rfl | exact vis1 rfl | exact vis2 rfl) (by decide) (by decide)))) (@pe_callB _ _ _ _ _ _ _ _ _ call_lenA rfl T.z_len boot_lenT (@pa_cons _ _ _ _ _ (@pv _ 1 _ _ (by rfl) (by first | exact vis0 rfl | exact vis1 rfl | exact vis2 rfl) (by decide) (by decide)) (@pa_nil _) (by rfl)) (by decide) (by decide) (by rfl) (by rfl))) (fun _ _ => rfl))) (by rfl) (by first | exact Or.inl rfl | exact Or.inr rfl | assumption))) (by intro _ ; rfl)) (@pss_one _ _ _ (@ps_ret _ _ _ _ (@pv _ 4 _ _ (by rfl) (by first | exact vis0 rfl | exact vis1 rfl | exact vis2 rfl) (by decide) (by decide))))))), ?_⟩
    rw [show start n_d_l_text [V.int c, sv sg, V.int 8] = [some (V.int c), some (sv sg), some (V.int 8), none, none, none] from rfl]
    try simp only [tSeq, tAsg, tOp, tUn, tVar, tC, tRet, tRetN, tDrop, tNext, tIfS, tNever, gName, tCons, tNil, tCall, tCB, tAndV, tOrV, tNotV, tAnd, tOr, tNot, tTest, tB, tIf, tChain, tLst, tTup, tSl, tNoPart, tPart, tBM, tBM0, tFor_eq, iList, iTup, iRng1, iRng2, iStr, tYes, tDNewK, tDisp, tPairs, List.getElem?_cons_zero, List.getElem?_cons_succ, List.set_cons_zero, List.set_cons_succ, List.append_nil, List.nil_append, List.cons_append, exSlot, exBl, exInt, exStr, exRef, rI_int, rI0_int, rU_int, rAddA_int, rAddA_str, rInA_str, rNotInA_str, rLenA_str, rSlA_str, rIx_str, CMul, CDiv, CPow, rIsi_str_str, rIsi_bl_bool, tComp_eq, ite_tt, ite_ft, ite_tf, ite_ff, decide_eq_true_eq, Bool.not_eq_true', decide_eq_false_iff_not, decide_true, decide_false, rEqH_str, rEqH_int, rEqH_bl, rNeH_str, rNeH_int, rStarts_at, rEnds_at, rFind_at, rSplit_at, rPart_at, tyV_str, rInt1_bl, rInt1_int, gTup, gCons, gNil, gSub, rIsN_ref, rIsN_non, rIsN_str, rNotN_ref, rNotN_non, tDGet, tDIn, tDNotIn, sDPut, tDGet1, tDGet2, tFld, sFld, tMeth, tMake, tCMeth, rLtA_int, rLtA_str, spMix_at]
    intro n _
    have hn := mod_lt' (i := n) (j := 8) (by decide)
    try simp only [tSeq, tAsg, tOp, tUn, tVar, tC, tRet, tRetN, tDrop, tNext, tIfS, tNever, gName, tCons, tNil, tCall, tCB, tAndV, tOrV, tNotV, tAnd, tOr, tNot, tTest, tB, tIf, tChain, tLst, tTup, tSl, tNoPart, tPart, tBM, tBM0, tFor_eq, iList, iTup, iRng1, iRng2, iStr, tYes, tDNewK, tDisp, tPairs, List.getElem?_cons_zero, List.getElem?_cons_succ, List.set_cons_zero, List.set_cons_succ, List.append_nil, List.nil_append, List.cons_append, exSlot, exBl, exInt, exStr, exRef, rI_int, rI0_int, rU_int, rAddA_int, rAddA_str, rInA_str, rNotInA_str, rLenA_str, rSlA_str, rIx_str, CMul, CDiv, CPow, rIsi_str_str, rIsi_bl_bool, tComp_eq, ite_tt, ite_ft, ite_tf, ite_ff, decide_eq_true_eq, Bool.not_eq_true', decide_eq_false_iff_not, decide_true, decide_false, rEqH_str, rEqH_int, rEqH_bl, rNeH_str, rNeH_int, rStarts_at, rEnds_at, rFind_at, rSplit_at, rPart_at, tyV_str, rInt1_bl, rInt1_int, gTup, gCons, gNil, gSub, rIsN_ref, rIsN_non, rIsN_str, rNotN_ref, rNotN_non, tDGet, tDIn, tDNotIn, sDPut, tDGet1, tDGet2, tFld, sFld, tMeth, tMake, tCMeth, rLtA_int, rLtA_str, spMix_at]
    refine ⟨by decide, _, rfl, by omega, by omega, ?_⟩
    refine for_range (n := (1 + n % 8).toNat) (lo := 0) (fun i σ H' => H = H' ∧ ∃ (l : List Nat) (b : Option V), l.length = i ∧ (∀ c ∈ l, c ∈ sg) ∧ σ = [some (V.int c), some (sv sg), some (V.int 8), some (V.int n), some (sv l), b]) ⟨rfl, [], _, rfl, by simp, rfl⟩ ?_ ?_
    · rintro i σ H' hi ⟨rfl, l, b, hl, hc, rfl⟩
      try simp only [tSeq, tAsg, tOp, tUn, tVar, tC, tRet, tRetN, tDrop, tNext, tIfS, tNever, gName, tCons, tNil, tCall, tCB, tAndV, tOrV, tNotV, tAnd, tOr, tNot, tTest, tB, tIf, tChain, tLst, tTup, tSl, tNoPart, tPart, tBM, tBM0, tFor_eq, iList, iTup, iRng1, iRng2, iStr, tYes, tDNewK, tDisp, tPairs, List.getElem?_cons_zero, List.getElem?_cons_succ, List.set_cons_zero, List.set_cons_succ, List.append_nil, List.nil_append, List.cons_append, exSlot, exBl, exInt, exStr, exRef, rI_int, rI0_int, rU_int, rAddA_int, rAddA_str, rInA_str, rNotInA_str, rLenA_str, rSlA_str, rIx_str, CMul, CDiv, CPow, rIsi_str_str, rIsi_bl_bool, tComp_eq, ite_tt, ite_ft, ite_tf, ite_ff, decide_eq_true_eq, Bool.not_eq_true', decide_eq_false_iff_not, decide_true, decide_false, rEqH_str, rEqH_int, rEqH_bl, rNeH_str, rNeH_int, rStarts_at, rEnds_at, rFind_at, rSplit_at, rPart_at, tyV_str, rInt1_bl, rInt1_int, gTup, gCons, gNil, gSub, rIsN_ref, rIsN_non, rIsN_str, rNotN_ref, rNotN_non, tDGet, tDIn, tDNotIn, sDPut, tDGet1, tDGet2, tFld, sFld, tMeth, tMake, tCMeth, rLtA_int, rLtA_str, spMix_at]
      intro r hr
      try simp only [tSeq, tAsg, tOp, tUn, tVar, tC, tRet, tRetN, tDrop, tNext, tIfS, tNever, gName, tCons, tNil, tCall, tCB, tAndV, tOrV, tNotV, tAnd, tOr, tNot, tTest, tB, tIf, tChain, tLst, tTup, tSl, tNoPart, tPart, tBM, tBM0, tFor_eq, iList, iTup, iRng1, iRng2, iStr, tYes, tDNewK, tDisp, tPairs, List.getElem?_cons_zero, List.getElem?_cons_succ, List.set_cons_zero, List.set_cons_succ, List.append_nil, List.nil_append, List.cons_append, exSlot, exBl, exInt, exStr, exRef, rI_int, rI0_int, rU_int, rAddA_int, rAddA_str, rInA_str, rNotInA_str, rLenA_str, rSlA_str, rIx_str, CMul, CDiv, CPow, rIsi_str_str, rIsi_bl_bool, tComp_eq, ite_tt, ite_ft, ite_tf, ite_ff, decide_eq_true_eq, Bool.not_eq_true', decide_eq_false_iff_not, decide_true, decide_false, rEqH_str, rEqH_int, rEqH_bl, rNeH_str, rNeH_int, rStarts_at, rEnds_at, rFind_at, rSplit_at, rPart_at, tyV_str, rInt1_bl, rInt1_int, gTup, gCons, gNil, gSub, rIsN_ref, rIsN_non, rIsN_str, rNotN_ref, rNotN_non, tDGet, tDIn, tDNotIn, sDPut, tDGet1, tDGet2, tFld, sFld, tMeth, tMake, tCMeth, rLtA_int, rLtA_str, spMix_at]
      have hm := mod_lt' (i := r / (0 + (i : Int) + 1) + 7 * (0 + (i : Int)) * (0 + (i : Int))) (j := ((mk sg).length : Int)) (by rw [mk_len]; omega)
      obtain ⟨d, e, hv, _⟩ := atI_in (xs := (mk sg).cps.toList) hm.1 (by rw [show ((mk sg).cps.toList.length : Int) = ((mk sg).length : Int) by rw [mk_len]]; exact hm.2)
      have hd : d ∈ sg := hv
      refine ⟨⟨by omega, by omega⟩, .inl (by decide), .inl ⟨by omega, by omega⟩, short_le (by rw [mk_len]; omega), by rw [mk_len]; omega, short_le (by rw [mk_len]; omega), d, e, ?_, (by trivial), l ++ [d], _, by simp [hl], fun x hx => ?_, by rw [show (mk l ++ (⟨#[d]⟩ : Str)) = mk (l ++ [d]) from mk_app l [d]]⟩
      · show (mk l).length + 1 ≤ sizeLine
        rw [mk_len]
        exact Nat.le_trans (show l.length + 1 ≤ 1000 by omega) (by decide)
      · rcases List.mem_append.mp hx with z | z
        · exact hc x z
        · have e2 : x = d := by simpa using z
          rw [e2]; exact hd
    · rintro σ H' ⟨rfl, l, b, hl, hc, rfl⟩
      try simp only [tSeq, tAsg, tOp, tUn, tVar, tC, tRet, tRetN, tDrop, tNext, tIfS, tNever, gName, tCons, tNil, tCall, tCB, tAndV, tOrV, tNotV, tAnd, tOr, tNot, tTest, tB, tIf, tChain, tLst, tTup, tSl, tNoPart, tPart, tBM, tBM0, tFor_eq, iList, iTup, iRng1, iRng2, iStr, tYes, tDNewK, tDisp, tPairs, List.getElem?_cons_zero, List.getElem?_cons_succ, List.set_cons_zero, List.set_cons_succ, List.append_nil, List.nil_append, List.cons_append, exSlot, exBl, exInt, exStr, exRef, rI_int, rI0_int, rU_int, rAddA_int, rAddA_str, rInA_str, rNotInA_str, rLenA_str, rSlA_str, rIx_str, CMul, CDiv, CPow, rIsi_str_str, rIsi_bl_bool, tComp_eq, ite_tt, ite_ft, ite_tf, ite_ff, decide_eq_true_eq, Bool.not_eq_true', decide_eq_false_iff_not, decide_true, decide_false, rEqH_str, rEqH_int, rEqH_bl, rNeH_str, rNeH_int, rStarts_at, rEnds_at, rFind_at, rSplit_at, rPart_at, tyV_str, rInt1_bl, rInt1_int, gTup, gCons, gNil, gSub, rIsN_ref, rIsN_non, rIsN_str, rNotN_ref, rNotN_non, tDGet, tDIn, tDNotIn, sDPut, tDGet1, tDGet2, tFld, sFld, tMeth, tMake, tCMeth, rLtA_int, rLtA_str, spMix_at]
      exact q l (by omega) hc
end
end K15
namespace K15
open PySem L2 Tx

section
variable {P : Program} {w : World} {K : PySem.W.Frag} {mg : Str → Option Value} {base : Heap} {t : Adr}
theorem ok_d_l_label (T : Txt K mg t) : FnOk P w K mg base CX0 3 t.f_d_l_label t.fd_d_l_label ["_law_cell"] spLabel := by
  refine T.F_d_l_label.ok sc_d_l_label (fun vs H Q E h => ?_) (fun cdv A outer s H vs Q E hr h => ?_)
  · obtain ⟨c, rfl, q⟩ := h; rfl
  · obtain ⟨c, rfl, q⟩ := h
    refine ⟨_, (@pss_one _ _ _ (@ps_ret _ _ _ _ (@pe_call _ _ _ _ _ _ _ _ _ _ _ _ _ _ _ _ (ok_d_l_text T) (hr.mono (by decide)) rfl T.g_d_l_text T.F_d_l_text.kp T.b_d_l_text .nil pass0 (@pa_cons _ _ _ _ _ (@pv _ 0 _ _ (by rfl) (by first | exact vis0 rfl | exact vis1 rfl | exact vis2 rfl) (by decide) (by decide)) (@pa_cons _ _ _ _ _ (@pe_str _ _ _ _) (@pa_cons _ _ _ _ _ (@pe_int _ _ _ _) (@pa_nil _) (by rfl)) (by rfl)) (by rfl)) (by decide) (by rfl) (by rfl)))), ?_⟩
    rw [show start n_d_l_label [V.int c] = [some (V.int c)] from rfl]
    try simp only [tSeq, tAsg, tOp, tUn, tVar, tC, tRet, tRetN, tDrop, tNext, tIfS, tNever, gName, tCons, tNil, tCall, tCB, tAndV, tOrV, tNotV, tAnd, tOr, tNot, tTest, tB, tIf, tChain, tLst, tTup, tSl, tNoPart, tPart, tBM, tBM0, tFor_eq, iList, iTup, iRng1, iRng2, iStr, tYes, tDNewK, tDisp, tPairs, List.getElem?_cons_zero, List.getElem?_cons_succ, List.set_cons_zero, List.set_cons_succ, List.append_nil, List.nil_append, List.cons_append, exSlot, exBl, exInt, exStr, exRef, rI_int, rI0_int, rU_int, rAddA_int, rAddA_str, rInA_str, rNotInA_str, rLenA_str, rSlA_str, rIx_str, CMul, CDiv, CPow, rIsi_str_str, rIsi_bl_bool, tComp_eq, ite_tt, ite_ft, ite_tf, ite_ff, decide_eq_true_eq, Bool.not_eq_true', decide_eq_false_iff_not, decide_true, decide_false, rEqH_str, rEqH_int, rEqH_bl, rNeH_str, rNeH_int, rStarts_at, rEnds_at, rFind_at, rSplit_at, rPart_at, tyV_str, rInt1_bl, rInt1_int, gTup, gCons, gNil, gSub, rIsN_ref, rIsN_non, rIsN_str, rNotN_ref, rNotN_non, tDGet, tDIn, tDNotIn, sDPut, tDGet1, tDGet2, tFld, sFld, tMeth, tMake, tCMeth, rLtA_int, rLtA_str, spMix_at]
    rw [fig_eq]
    exact ⟨c, figs, rfl, by decide, fun l h1 h2 => q l h1 h2⟩
end
end K15
namespace K15
open PySem L2 Tx

section
variable {P : Program} {w : World} {K : PySem.W.Frag} {mg : Str → Option Value} {base : Heap} {t : Adr}
theorem ok_d_l_labels (T : Txt K mg t) : FnOk P w K mg base CX0 4 t.f_d_l_labels t.fd_d_l_labels ["_law_cell"] spLabels := by
  refine T.F_d_l_labels.ok sc_d_l_labels (fun vs H Q E h => ?_) (fun cdv A outer s H vs Q E hr h => ?_)
  · obtain ⟨c, rfl, q⟩ := h; rfl
  · obtain ⟨c, rfl, q⟩ := h
    refine ⟨_, (@pss_cons _ _ _ _ _ (@ps_set _ _ (1) _ _ _ _ sc_d_l_labels.nd rfl (by first | exact Or.inl rfl | exact Or.inr rfl) (@pe_op _ _ _ _ _ _ _ _ op_addA (@pe_int _ _ _ _) (@pe_op _ _ _ _ _ _ _ _ op_mod (@pe_call _ _ _ _ _ _ _ _ _ _ _ _ _ _ _ _ (ok_d_l_mix T) (hr.mono (by decide)) rfl T.g_d_l_mix T.F_d_l_mix.kp T.b_d_l_mix .nil pass0 (@pa_cons _ _ _ _ _ (@pv _ 0 _ _ (by rfl) (by first | exact vis0 rfl | exact vis1 rfl | exact vis2 rfl) (by decide) (by decide)) (@pa_cons _ _ _ _ _ (@pe_int _ _ _ _) (@pa_nil _) (by rfl)) (by rfl)) (by decide) (by rfl) (by rfl)) (@pe_int _ _ _ _))) (by rfl) (by first | exact Or.inl rfl | exact Or.inr rfl | assumption)) (@pss_cons _ _ _ _ _ (@ps_set _ _ (2) _ _ _ _ sc_d_l_labels.nd rfl (by first | exact Or.inl rfl | exact Or.inr rfl) (@pe_lst _ _ _ _ (@pa_nil _)) (by rfl) (by first | exact Or.inl rfl | exact Or.inr rfl | assumption)) (@pss_cons _ _ _ _ _ (@ps_for _ _ _ _ _ _ _ _ PassesOwn.never rfl (@pi_range1 _ _ _ _ _ _ rfl T.z_range (@pa_cons _ _ _ _ _ (@pv _ 1 _ _ (by rfl) (by first | exact vis0 rfl | exact vis1 rfl | exact vis2 rfl) (by decide) (by decide)) (@pa_nil _) (by rfl)) (by rfl)) (@pg_name _ _ (3) _ sc_d_l_labels.nd rfl (by first | exact Or.inl rfl | exact Or.inr rfl) (by first | exact Or.inl rfl | exact Or.inr rfl | assumption)) (@pss_cons _ _ _ _ _ (@ps_set _ _ (4) _ _ _ _ sc_d_l_labels.nd rfl (by first | exact Or.inl rfl | exact Or.inr rfl) (@pe_call _ _ _ _ _ _ _ _ _ _ _ _ _ _ _ _ (ok_d_l_label T) (hr.mono (by decide)) rfl T.g_d_l_label T.F_d_l_label.kp T.b_d_l_label .nil pass0 (@pa_cons _ _ _ _ _ (@pe_op _ _ _ _ _ _ _ _ op_addA (@pv _ 0 _ _ (by rfl) (by first | exact vis0 rfl | exact vis1 rfl | exact vis2 rfl) (by decide) (by decide)) (@pe_op _ _ _ _ _ _ _ _ op_mul (@pe_int _ _ _ _) (@pv _ 3 _ _ (by rfl) (by first | exact vis0 rfl | exact vis1 rfl | exact vis2 rfl) (by decide) (by decide)))) (@pa_nil _) (by rfl)) (by decide) (by rfl) (by rfl)) (by rfl) (by first | exact Or.inl rfl | exact Or.inr rfl | assumption)) (@pss_one _ _ _ (@ps_if _ _ _ _ _ _ _ _ (@pt_cmpR _ _ _ _ _ _ _ _ op_notinA (@pv _ 4 _ _ (by rfl) (by first | exact vis0 rfl | exact vis1 rfl | exact vis2 rfl) (by decide) (by decide)) (@pv _ 2 _ _ (by rfl) (by first | exact vis0 rfl | exact vis1 rfl | exact vis2 rfl) (by decide) (by decide)) (by with_unfolding_all rfl)) (@pss_one _ _ _ (@ps_expr _ _ _ _ (@pe_bm _ _ _ _ _ _ _ _ _ _ _ _ PySem.F.plainAttrs_list PySem.F.slot_list_append PySem.F.type_list_append mt_append (@pv _ 2 _ _ (by rfl) (by first | exact vis0 rfl | exact vis1 rfl | exact vis2 rfl) (by decide) (by decide)) (@pa_cons _ _ _ _ _ (@pv _ 4 _ _ (by rfl) (by first | exact vis0 rfl | exact vis1 rfl | exact vis2 rfl) (by decide) (by decide)) (@pa_nil _) (by rfl)) (by rfl) (by rfl) (by rfl) (by rfl) (by rfl)) (by rfl))) (@pss_nil _)))) (by intro _ ; rfl)) (@pss_one _ _ _ (@ps_ret _ _ _ _ (@pv _ 2 _ _ (by rfl) (by first | exact vis0 rfl | exact vis1 rfl | exact vis2 rfl) (by decide) (by decide))))))), ?_⟩
    rw [show start n_d_l_labels [V.int c] = [some (V.int c), none, none, none, none] from rfl]
    try simp only [tSeq, tAsg, tOp, tUn, tVar, tC, tRet, tRetN, tDrop, tNext, tIfS, tNever, gName, tCons, tNil, tCall, tCB, tAndV, tOrV, tNotV, tAnd, tOr, tNot, tTest, tB, tIf, tChain, tLst, tTup, tSl, tNoPart, tPart, tBM, tBM0, tFor_eq, iList, iTup, iRng1, iRng2, iStr, tYes, tDNewK, tDisp, tPairs, List.getElem?_cons_zero, List.getElem?_cons_succ, List.set_cons_zero, List.set_cons_succ, List.append_nil, List.nil_append, List.cons_append, exSlot, exBl, exInt, exStr, exRef, rI_int, rI0_int, rU_int, rAddA_int, rAddA_str, rInA_str, rNotInA_str, rLenA_str, rSlA_str, rIx_str, CMul, CDiv, CPow, rIsi_str_str, rIsi_bl_bool, tComp_eq, ite_tt, ite_ft, ite_tf, ite_ff, decide_eq_true_eq, Bool.not_eq_true', decide_eq_false_iff_not, decide_true, decide_false, rEqH_str, rEqH_int, rEqH_bl, rNeH_str, rNeH_int, rStarts_at, rEnds_at, rFind_at, rSplit_at, rPart_at, tyV_str, rInt1_bl, rInt1_int, gTup, gCons, gNil, gSub, rIsN_ref, rIsN_non, rIsN_str, rNotN_ref, rNotN_non, tDGet, tDIn, tDNotIn, sDPut, tDGet1, tDGet2, tFld, sFld, tMeth, tMake, tCMeth, rLtA_int, rLtA_str, spMix_at]
    intro n _
    have hn := mod_lt' (i := n) (j := 8) (by decide)
    try simp only [tSeq, tAsg, tOp, tUn, tVar, tC, tRet, tRetN, tDrop, tNext, tIfS, tNever, gName, tCons, tNil, tCall, tCB, tAndV, tOrV, tNotV, tAnd, tOr, tNot, tTest, tB, tIf, tChain, tLst, tTup, tSl, tNoPart, tPart, tBM, tBM0, tFor_eq, iList, iTup, iRng1, iRng2, iStr, tYes, tDNewK, tDisp, tPairs, List.getElem?_cons_zero, List.getElem?_cons_succ, List.set_cons_zero, List.set_cons_succ, List.append_nil, List.nil_append, List.cons_append, exSlot, exBl, exInt, exStr, exRef, rI_int, rI0_int, rU_int, rAddA_int, rAddA_str, rInA_str, rNotInA_str, rLenA_str, rSlA_str, rIx_str, CMul, CDiv, CPow, rIsi_str_str, rIsi_bl_bool, tComp_eq, ite_tt, ite_ft, ite_tf, ite_ff, decide_eq_true_eq, Bool.not_eq_true', decide_eq_false_iff_not, decide_true, decide_false, rEqH_str, rEqH_int, rEqH_bl, rNeH_str, rNeH_int, rStarts_at, rEnds_at, rFind_at, rSplit_at, rPart_at, tyV_str, rInt1_bl, rInt1_int, gTup, gCons, gNil, gSub, rIsN_ref, rIsN_non, rIsN_str, rNotN_ref, rNotN_non, tDGet, tDIn, tDNotIn, sDPut, tDGet1, tDGet2, tFld, sFld, tMeth, tMake, tCMeth, rLtA_int, rLtA_str, spMix_at]
    refine ⟨by decide, by decide, fun D hD => ?_⟩
    refine ⟨_, rfl, by omega, by omega, ?_⟩
    refine for_range (n := (2 + n % 8).toNat) (lo := 0) (fun i σ H' => ∃ (ls : List Str) (k l : Option V), σ = [some (V.int c), some (V.int (2 + n % 8)), some (V.ref D), k, l] ∧ Same H H' ∧ H' D = some (.lst (ls.map V.str)) ∧ ls.length ≤ i ∧ (0 < i → ls ≠ []) ∧ ∀ z ∈ ls, PyData.strOk z = true) ?_ ?_ ?_
    · exact ⟨[], _, _, rfl, Same.upd hD, upd_same, Nat.le_refl _, fun z => absurd z (Nat.lt_irrefl _), by simp⟩
    · rintro i σ H' hi ⟨ls, k, l, rfl, s, hL, hl, hne, hok⟩
      try simp only [tSeq, tAsg, tOp, tUn, tVar, tC, tRet, tRetN, tDrop, tNext, tIfS, tNever, gName, tCons, tNil, tCall, tCB, tAndV, tOrV, tNotV, tAnd, tOr, tNot, tTest, tB, tIf, tChain, tLst, tTup, tSl, tNoPart, tPart, tBM, tBM0, tFor_eq, iList, iTup, iRng1, iRng2, iStr, tYes, tDNewK, tDisp, tPairs, List.getElem?_cons_zero, List.getElem?_cons_succ, List.set_cons_zero, List.set_cons_succ, List.append_nil, List.nil_append, List.cons_append, exSlot, exBl, exInt, exStr, exRef, rI_int, rI0_int, rU_int, rAddA_int, rAddA_str, rInA_str, rNotInA_str, rLenA_str, rSlA_str, rIx_str, CMul, CDiv, CPow, rIsi_str_str, rIsi_bl_bool, tComp_eq, ite_tt, ite_ft, ite_tf, ite_ff, decide_eq_true_eq, Bool.not_eq_true', decide_eq_false_iff_not, decide_true, decide_false, rEqH_str, rEqH_int, rEqH_bl, rNeH_str, rNeH_int, rStarts_at, rEnds_at, rFind_at, rSplit_at, rPart_at, tyV_str, rInt1_bl, rInt1_int, gTup, gCons, gNil, gSub, rIsN_ref, rIsN_non, rIsN_str, rNotN_ref, rNotN_non, tDGet, tDIn, tDNotIn, sDPut, tDGet1, tDGet2, tFld, sFld, tMeth, tMake, tCMeth, rLtA_int, rLtA_str, spMix_at]
      refine ⟨.inl (by decide), ?_⟩
      refine ⟨_, rfl, fun z hz1 hz2 => ?_⟩
      try simp only [tSeq, tAsg, tOp, tUn, tVar, tC, tRet, tRetN, tDrop, tNext, tIfS, tNever, gName, tCons, tNil, tCall, tCB, tAndV, tOrV, tNotV, tAnd, tOr, tNot, tTest, tB, tIf, tChain, tLst, tTup, tSl, tNoPart, tPart, tBM, tBM0, tFor_eq, iList, iTup, iRng1, iRng2, iStr, tYes, tDNewK, tDisp, tPairs, List.getElem?_cons_zero, List.getElem?_cons_succ, List.set_cons_zero, List.set_cons_succ, List.append_nil, List.nil_append, List.cons_append, exSlot, exBl, exInt, exStr, exRef, rI_int, rI0_int, rU_int, rAddA_int, rAddA_str, rInA_str, rNotInA_str, rLenA_str, rSlA_str, rIx_str, CMul, CDiv, CPow, rIsi_str_str, rIsi_bl_bool, tComp_eq, ite_tt, ite_ft, ite_tf, ite_ff, decide_eq_true_eq, Bool.not_eq_true', decide_eq_false_iff_not, decide_true, decide_false, rEqH_str, rEqH_int, rEqH_bl, rNeH_str, rNeH_int, rStarts_at, rEnds_at, rFind_at, rSplit_at, rPart_at, tyV_str, rInt1_bl, rInt1_int, gTup, gCons, gNil, gSub, rIsN_ref, rIsN_non, rIsN_str, rNotN_ref, rNotN_non, tDGet, tDIn, tDNotIn, sDPut, tDGet1, tDGet2, tFld, sFld, tMeth, tMake, tCMeth, rLtA_int, rLtA_str, spMix_at]
      refine rNotIn_lst (SqL.of hL) ?_
      try simp only [tSeq, tAsg, tOp, tUn, tVar, tC, tRet, tRetN, tDrop, tNext, tIfS, tNever, gName, tCons, tNil, tCall, tCB, tAndV, tOrV, tNotV, tAnd, tOr, tNot, tTest, tB, tIf, tChain, tLst, tTup, tSl, tNoPart, tPart, tBM, tBM0, tFor_eq, iList, iTup, iRng1, iRng2, iStr, tYes, tDNewK, tDisp, tPairs, List.getElem?_cons_zero, List.getElem?_cons_succ, List.set_cons_zero, List.set_cons_succ, List.append_nil, List.nil_append, List.cons_append, exSlot, exBl, exInt, exStr, exRef, rI_int, rI0_int, rU_int, rAddA_int, rAddA_str, rInA_str, rNotInA_str, rLenA_str, rSlA_str, rIx_str, CMul, CDiv, CPow, rIsi_str_str, rIsi_bl_bool, tComp_eq, ite_tt, ite_ft, ite_tf, ite_ff, decide_eq_true_eq, Bool.not_eq_true', decide_eq_false_iff_not, decide_true, decide_false, rEqH_str, rEqH_int, rEqH_bl, rNeH_str, rNeH_int, rStarts_at, rEnds_at, rFind_at, rSplit_at, rPart_at, tyV_str, rInt1_bl, rInt1_int, gTup, gCons, gNil, gSub, rIsN_ref, rIsN_non, rIsN_str, rNotN_ref, rNotN_non, tDGet, tDIn, tDNotIn, sDPut, tDGet1, tDGet2, tFld, sFld, tMeth, tMake, tCMeth, rLtA_int, rLtA_str, spMix_at]
      have hz : PyData.strOk (mk z) = true := strOk_mk fun c hc => by have := fig_lt (hz2 c hc); omega
      refine ite2 (fun c1 => ?_) (fun c1 => ?_)
      · refine ⟨.inl ⟨rfl, _, SqL.of hL⟩, D, _, _, rfl, rfl, hL, Nat.lt_of_le_of_lt (show _ ≤ 1000 by rw [List.length_map]; omega) (by decide), ls ++ [mk z], _, _, rfl, ?_, ?_, ?_, ?_, ?_⟩
        · intro b o e; rw [upd_ne (ne_of_none e hD)]; exact s b o e
        · rw [upd_same]; simp
        · simp; omega
        · intro _; simp
        · intro y hy
          rcases List.mem_append.mp hy with h | h
          · exact hok y h
          · rw [List.mem_singleton.mp h]; exact hz
      · refine ⟨ls, _, _, rfl, s, hL, by omega, fun _ e => ?_, hok⟩
        have c1' : mk z ∈ ls := by simpa using c1
        rw [e] at c1'; cases c1'
    · rintro σ H' ⟨ls, k, l, rfl, s, hL, hl, hne, hok⟩
      try simp only [tSeq, tAsg, tOp, tUn, tVar, tC, tRet, tRetN, tDrop, tNext, tIfS, tNever, gName, tCons, tNil, tCall, tCB, tAndV, tOrV, tNotV, tAnd, tOr, tNot, tTest, tB, tIf, tChain, tLst, tTup, tSl, tNoPart, tPart, tBM, tBM0, tFor_eq, iList, iTup, iRng1, iRng2, iStr, tYes, tDNewK, tDisp, tPairs, List.getElem?_cons_zero, List.getElem?_cons_succ, List.set_cons_zero, List.set_cons_succ, List.append_nil, List.nil_append, List.cons_append, exSlot, exBl, exInt, exStr, exRef, rI_int, rI0_int, rU_int, rAddA_int, rAddA_str, rInA_str, rNotInA_str, rLenA_str, rSlA_str, rIx_str, CMul, CDiv, CPow, rIsi_str_str, rIsi_bl_bool, tComp_eq, ite_tt, ite_ft, ite_tf, ite_ff, decide_eq_true_eq, Bool.not_eq_true', decide_eq_false_iff_not, decide_true, decide_false, rEqH_str, rEqH_int, rEqH_bl, rNeH_str, rNeH_int, rStarts_at, rEnds_at, rFind_at, rSplit_at, rPart_at, tyV_str, rInt1_bl, rInt1_int, gTup, gCons, gNil, gSub, rIsN_ref, rIsN_non, rIsN_str, rNotN_ref, rNotN_non, tDGet, tDIn, tDNotIn, sDPut, tDGet1, tDGet2, tFld, sFld, tMeth, tMake, tCMeth, rLtA_int, rLtA_str, spMix_at]
      exact q D ls H' s hD hL (hne (by omega)) (by omega) hok
end
end K15
namespace K15
open PySem L2 Tx

section
variable {P : Program} {w : World} {K : PySem.W.Frag} {mg : Str → Option Value} {base : Heap} {t : Adr}
theorem ok_d_l_steps (T : Txt K mg t) : FnOk P w K mg base CX0 1 t.f_d_l_steps t.fd_d_l_steps ["_law_pairs", "_law_labels_here", "_law_other"] (spLSteps K) := by
  refine T.F_d_l_steps.ok sc_d_l_steps (fun vs H Q E h => ?_) (fun cdv A outer s H vs Q E hr h => ?_)
  · obtain ⟨a, b, xs, ps, ls, o, rfl, ha, hb, hP, hW, q⟩ := h; rfl
  · obtain ⟨a, b, xs, ps, ls, o, rfl, ha, hb, hP, hW, q⟩ := h
    refine ⟨_, (@pss_cons _ _ _ _ _ (@ps_set _ _ (3) _ _ _ _ sc_d_l_steps.nd rfl (by first | exact Or.inl rfl | exact Or.inr rfl) (@pe_disp _ _ _ _ _ (@pps_cons _ _ _ _ _ _ _ _ _ (@pv _ 2 _ _ (by rfl) (by first | exact vis0 rfl | exact vis1 rfl | exact vis2 rfl) (by decide) (by decide)) (@pe_int _ _ _ _) (@pps_nil _ _)) rfl rfl (by simp) (by decide)) (by rfl) (by first | exact Or.inl rfl | exact Or.inr rfl | assumption)) (@pss_cons _ _ _ _ _ (@ps_for _ _ _ _ _ _ _ _ PassesOwn.never rfl (@pi_range2 _ _ _ _ _ _ _ rfl T.z_range (@pa_cons _ _ _ _ _ (@pe_int _ _ _ _) (@pa_cons _ _ _ _ _ (@pe_op _ _ _ _ _ _ _ _ op_addA (@pe_callB _ _ _ _ _ _ _ _ _ call_lenA rfl T.z_len boot_lenT (@pa_cons _ _ _ _ _ (@pv _ 1 _ _ (by rfl) (by first | exact vis0 rfl | exact vis1 rfl | exact vis2 rfl) (by decide) (by decide)) (@pa_nil _) (by rfl)) (by decide) (by decide) (by rfl) (by rfl)) (@pe_int _ _ _ _)) (@pa_nil _) (by rfl)) (by rfl)) (by rfl) (by rfl)) (@pg_name _ _ (4) _ sc_d_l_steps.nd rfl (by first | exact Or.inl rfl | exact Or.inr rfl) (by first | exact Or.inl rfl | exact Or.inr rfl | assumption)) (@pss_one _ _ _ (@ps_for _ _ _ _ _ _ _ _ PassesOwn.never rfl (@pi_list _ _ _ _ (@pv _ 0 _ _ (by rfl) (by first | exact vis0 rfl | exact vis1 rfl | exact vis2 rfl) (by decide) (by decide))) (@pg_tup _ _ _ _ _ _ rfl (@pgs_cons _ _ _ _ _ (@pg_name _ _ (5) _ sc_d_l_steps.nd rfl (by first | exact Or.inl rfl | exact Or.inr rfl) (by first | exact Or.inl rfl | exact Or.inr rfl | assumption)) (@pgs_cons _ _ _ _ _ (@pg_name _ _ (6) _ sc_d_l_steps.nd rfl (by first | exact Or.inl rfl | exact Or.inr rfl) (by first | exact Or.inl rfl | exact Or.inr rfl | assumption)) (@pgs_nil _) (by rfl)) (by rfl)) (by rfl) (by rfl)) (@pss_one _ _ _ (@ps_if _ _ _ _ _ _ _ _ (@PW.pt _ _ _ (@pw_and _ _ _ _ _ _ _ (@pt_cmpR _ _ _ _ _ _ _ _ (op_eqH hr.units) (@pe_dget2 _ _ _ _ _ _ _ _ _ (hu_of hr) (@pv _ 3 _ _ (by rfl) (by first | exact vis0 rfl | exact vis1 rfl | exact vis2 rfl) (by decide) (by decide)) (@pv _ 6 _ _ (by rfl) (by first | exact vis0 rfl | exact vis1 rfl | exact vis2 rfl) (by decide) (by decide)) (@pv _ 4 _ _ (by rfl) (by first | exact vis0 rfl | exact vis1 rfl | exact vis2 rfl) (by decide) (by decide)) ⟨rfl , rfl , rfl , rfl⟩) (@pe_op _ _ _ _ _ _ _ _ op_sub (@pv _ 4 _ _ (by rfl) (by first | exact vis0 rfl | exact vis1 rfl | exact vis2 rfl) (by decide) (by decide)) (@pe_int _ _ _ _)) (nomark _)) (@pw_and1 _ _ _ _ (@pt_cmp _ _ _ _ _ _ (@pc_dnotin _ _ _ _ _ (hu_of hr) (@pv _ 5 _ _ (by rfl) (by first | exact vis0 rfl | exact vis1 rfl | exact vis2 rfl) (by decide) (by decide)) (@pv _ 3 _ _ (by rfl) (by first | exact vis0 rfl | exact vis1 rfl | exact vis2 rfl) (by decide) (by decide))) (by with_unfolding_all rfl))))) (@pss_one _ _ _ (@ps_dput _ _ _ _ _ _ _ _ _ (hu_of hr) (@pv _ 3 _ _ (by rfl) (by first | exact vis0 rfl | exact vis1 rfl | exact vis2 rfl) (by decide) (by decide)) (@pv _ 5 _ _ (by rfl) (by first | exact vis0 rfl | exact vis1 rfl | exact vis2 rfl) (by decide) (by decide)) (@pv _ 4 _ _ (by rfl) (by first | exact vis0 rfl | exact vis1 rfl | exact vis2 rfl) (by decide) (by decide)) rfl)) (@pss_nil _))) (by intro _ ; rfl))) (by intro _ ; rfl)) (@pss_one _ _ _ (@ps_ret _ _ _ _ (@pv _ 3 _ _ (by rfl) (by first | exact vis0 rfl | exact vis1 rfl | exact vis2 rfl) (by decide) (by decide)))))), ?_⟩
    rw [show start n_d_l_steps [V.ref a, V.ref b, V.str o] = [some (V.ref a), some (V.ref b), some (V.str o), none, none, none, none] from rfl]
    try simp only [tSeq, tAsg, tOp, tUn, tVar, tC, tRet, tRetN, tDrop, tNext, tIfS, tNever, gName, tCons, tNil, tCall, tCB, tAndV, tOrV, tNotV, tAnd, tOr, tNot, tTest, tB, tIf, tChain, tLst, tTup, tSl, tNoPart, tPart, tBM, tBM0, tFor_eq, iList, iTup, iRng1, iRng2, iStr, tYes, tDNewK, tDisp, tPairs, List.getElem?_cons_zero, List.getElem?_cons_succ, List.set_cons_zero, List.set_cons_succ, List.append_nil, List.nil_append, List.cons_append, exSlot, exBl, exInt, exStr, exRef, rI_int, rI0_int, rU_int, rAddA_int, rAddA_str, rInA_str, rNotInA_str, rLenA_str, rSlA_str, rIx_str, CMul, CDiv, CPow, rIsi_str_str, rIsi_bl_bool, tComp_eq, ite_tt, ite_ft, ite_tf, ite_ff, decide_eq_true_eq, Bool.not_eq_true', decide_eq_false_iff_not, decide_true, decide_false, rEqH_str, rEqH_int, rEqH_bl, rNeH_str, rNeH_int, rStarts_at, rEnds_at, rFind_at, rSplit_at, rPart_at, tyV_str, rInt1_bl, rInt1_int, gTup, gCons, gNil, gSub, rIsN_ref, rIsN_non, rIsN_str, rNotN_ref, rNotN_non, tDGet, tDIn, tDNotIn, sDPut, tDGet1, tDGet2, tFld, sFld, tMeth, tMake, tCMeth, rLtA_int, rLtA_str, spMix_at]
    intro S hS
    refine ⟨upd_same, [(Sum.inr o, V.int 0)], rfl, by simp, ?_⟩
    obtain ⟨H1, e1, s1, h1⟩ : ∃ H', upd (upd H S (.dK [])) S (.dK (mergeK [] [(Sum.inr o, V.int 0)])) = H' ∧ Same H H' ∧ H' S = some (.dK (dv (dD ps o 0))) := ⟨_, rfl, fun b u e => by rw [upd_ne (ne_of_none e hS), upd_ne (ne_of_none e hS)]; exact e, upd_same⟩
    rw [e1]
    refine rLenA_lst (SqL.of (s1 _ _ hb)) ?_
    try simp only [tSeq, tAsg, tOp, tUn, tVar, tC, tRet, tRetN, tDrop, tNext, tIfS, tNever, gName, tCons, tNil, tCall, tCB, tAndV, tOrV, tNotV, tAnd, tOr, tNot, tTest, tB, tIf, tChain, tLst, tTup, tSl, tNoPart, tPart, tBM, tBM0, tFor_eq, iList, iTup, iRng1, iRng2, iStr, tYes, tDNewK, tDisp, tPairs, List.getElem?_cons_zero, List.getElem?_cons_succ, List.set_cons_zero, List.set_cons_succ, List.append_nil, List.nil_append, List.cons_append, exSlot, exBl, exInt, exStr, exRef, rI_int, rI0_int, rU_int, rAddA_int, rAddA_str, rInA_str, rNotInA_str, rLenA_str, rSlA_str, rIx_str, CMul, CDiv, CPow, rIsi_str_str, rIsi_bl_bool, tComp_eq, ite_tt, ite_ft, ite_tf, ite_ff, decide_eq_true_eq, Bool.not_eq_true', decide_eq_false_iff_not, decide_true, decide_false, rEqH_str, rEqH_int, rEqH_bl, rNeH_str, rNeH_int, rStarts_at, rEnds_at, rFind_at, rSplit_at, rPart_at, tyV_str, rInt1_bl, rInt1_int, gTup, gCons, gNil, gSub, rIsN_ref, rIsN_non, rIsN_str, rNotN_ref, rNotN_non, tDGet, tDIn, tDNotIn, sDPut, tDGet1, tDGet2, tFld, sFld, tMeth, tMake, tCMeth, rLtA_int, rLtA_str, spMix_at]
    have hwl := hW.2.1
    rw [List.length_map]
    refine ⟨_, _, rfl, ⟨by omega, by omega, by omega, by omega⟩, ?_⟩
    rw [show ((ls.length : Int) + 1 - 1).toNat = ls.length by omega]
    refine for_range (n := ls.length) (lo := 1) (fun i σ H' => ∃ (fa on ne : Option V), σ = [some (V.ref a), some (V.ref b), some (V.str o), some (V.ref S), fa, on, ne] ∧ Same H H' ∧ H' S = some (.dK (dv (dD ps o i)))) ⟨_, _, _, rfl, s1, h1⟩ ?_ ?_
    · rintro n σ H2 hn ⟨fa, on, ne, rfl, s2, hS2⟩
      have hK := Ok.at' (o := o) hW.1 n
      try simp only [tSeq, tAsg, tOp, tUn, tVar, tC, tRet, tRetN, tDrop, tNext, tIfS, tNever, gName, tCons, tNil, tCall, tCB, tAndV, tOrV, tNotV, tAnd, tOr, tNot, tTest, tB, tIf, tChain, tLst, tTup, tSl, tNoPart, tPart, tBM, tBM0, tFor_eq, iList, iTup, iRng1, iRng2, iStr, tYes, tDNewK, tDisp, tPairs, List.getElem?_cons_zero, List.getElem?_cons_succ, List.set_cons_zero, List.set_cons_succ, List.append_nil, List.nil_append, List.cons_append, exSlot, exBl, exInt, exStr, exRef, rI_int, rI0_int, rU_int, rAddA_int, rAddA_str, rInA_str, rNotInA_str, rLenA_str, rSlA_str, rIx_str, CMul, CDiv, CPow, rIsi_str_str, rIsi_bl_bool, tComp_eq, ite_tt, ite_ft, ite_tf, ite_ff, decide_eq_true_eq, Bool.not_eq_true', decide_eq_false_iff_not, decide_true, decide_false, rEqH_str, rEqH_int, rEqH_bl, rNeH_str, rNeH_int, rStarts_at, rEnds_at, rFind_at, rSplit_at, rPart_at, tyV_str, rInt1_bl, rInt1_int, gTup, gCons, gNil, gSub, rIsN_ref, rIsN_non, rIsN_str, rNotN_ref, rNotN_non, tDGet, tDIn, tDNotIn, sDPut, tDGet1, tDGet2, tFld, sFld, tMeth, tMake, tCMeth, rLtA_int, rLtA_str, spMix_at]
      refine ⟨⟨_, s2.seq ha⟩, ?_⟩
      refine for_list (K := K) (a := a) (xs := xs) (fun j σ H' => ∃ (on ne : Option V), σ = [some (V.ref a), some (V.ref b), some (V.str o), some (V.ref S), some (V.int (1 + n)), on, ne] ∧ Same H H' ∧ H' S = some (.dK (dv (rnd (ps.take j) n (dD ps o n)))))
        ⟨_, _, rfl, s2, by simpa [rnd] using hS2⟩ (fun j σ H' _ h => by obtain ⟨_, _, _, s, _⟩ := h; exact s.seq ha) ?_ ?_
      · rintro j x σ H3 hj ⟨on, ne, rfl, s3, hS3⟩
        obtain ⟨p, q', hpj, rfl, hq⟩ := (hP.same s3).at hj
        have et : rnd (ps.take (j + 1)) n (dD ps o n) = stp n (rnd (ps.take j) n (dD ps o n)) p := by
          unfold rnd
          rw [List.take_succ, hpj, List.foldl_append]; rfl
        rw [et]
        have hKj : Ok ps ls o (rnd (ps.take j) n (dD ps o n)) := hK.goR n (fun p h => List.mem_of_mem_take h) hW.1
        have hlen := hKj.len
        generalize rnd (ps.take j) n (dD ps o n) = dj at hS3 hKj hlen
        try simp only [tSeq, tAsg, tOp, tUn, tVar, tC, tRet, tRetN, tDrop, tNext, tIfS, tNever, gName, tCons, tNil, tCall, tCB, tAndV, tOrV, tNotV, tAnd, tOr, tNot, tTest, tB, tIf, tChain, tLst, tTup, tSl, tNoPart, tPart, tBM, tBM0, tFor_eq, iList, iTup, iRng1, iRng2, iStr, tYes, tDNewK, tDisp, tPairs, List.getElem?_cons_zero, List.getElem?_cons_succ, List.set_cons_zero, List.set_cons_succ, List.append_nil, List.nil_append, List.cons_append, exSlot, exBl, exInt, exStr, exRef, rI_int, rI0_int, rU_int, rAddA_int, rAddA_str, rInA_str, rNotInA_str, rLenA_str, rSlA_str, rIx_str, CMul, CDiv, CPow, rIsi_str_str, rIsi_bl_bool, tComp_eq, ite_tt, ite_ft, ite_tf, ite_ff, decide_eq_true_eq, Bool.not_eq_true', decide_eq_false_iff_not, decide_true, decide_false, rEqH_str, rEqH_int, rEqH_bl, rNeH_str, rNeH_int, rStarts_at, rEnds_at, rFind_at, rSplit_at, rPart_at, tyV_str, rInt1_bl, rInt1_int, gTup, gCons, gNil, gSub, rIsN_ref, rIsN_non, rIsN_str, rNotN_ref, rNotN_non, tDGet, tDIn, tDNotIn, sDPut, tDGet1, tDGet2, tFld, sFld, tMeth, tMake, tCMeth, rLtA_int, rLtA_str, spMix_at]
        refine ⟨q', _, rfl, SqT.of hq, rfl, _, _, rfl, _, _, rfl, rfl, ?_⟩
        try simp only [tSeq, tAsg, tOp, tUn, tVar, tC, tRet, tRetN, tDrop, tNext, tIfS, tNever, gName, tCons, tNil, tCall, tCB, tAndV, tOrV, tNotV, tAnd, tOr, tNot, tTest, tB, tIf, tChain, tLst, tTup, tSl, tNoPart, tPart, tBM, tBM0, tFor_eq, iList, iTup, iRng1, iRng2, iStr, tYes, tDNewK, tDisp, tPairs, List.getElem?_cons_zero, List.getElem?_cons_succ, List.set_cons_zero, List.set_cons_succ, List.append_nil, List.nil_append, List.cons_append, exSlot, exBl, exInt, exStr, exRef, rI_int, rI0_int, rU_int, rAddA_int, rAddA_str, rInA_str, rNotInA_str, rLenA_str, rSlA_str, rIx_str, CMul, CDiv, CPow, rIsi_str_str, rIsi_bl_bool, tComp_eq, ite_tt, ite_ft, ite_tf, ite_ff, decide_eq_true_eq, Bool.not_eq_true', decide_eq_false_iff_not, decide_true, decide_false, rEqH_str, rEqH_int, rEqH_bl, rNeH_str, rNeH_int, rStarts_at, rEnds_at, rFind_at, rSplit_at, rPart_at, tyV_str, rInt1_bl, rInt1_int, gTup, gCons, gNil, gSub, rIsN_ref, rIsN_non, rIsN_str, rNotN_ref, rNotN_non, tDGet, tDIn, tDNotIn, sDPut, tDGet1, tDGet2, tFld, sFld, tMeth, tMake, tCMeth, rLtA_int, rLtA_str, spMix_at]
        refine ⟨isD_of hS3, _, dask hS3 p.2, ?_⟩
        have key : ∀ (Q : VK), Q (.bl (decide (lk dj p.2 = some n))) H3 → rEqH K (((lk dj p.2).map fun m : Nat => V.int m).getD (V.int (1 + (n : Int)))) (V.int (1 + (n : Int) - 1)) H3 Q := by
          intro Q hQ
          cases e2 : lk dj p.2 with
          | none =>
            rw [e2, decide_eq_false (by simp)] at hQ
            show rEqH K (V.int _) (V.int _) H3 _
            try simp only [tSeq, tAsg, tOp, tUn, tVar, tC, tRet, tRetN, tDrop, tNext, tIfS, tNever, gName, tCons, tNil, tCall, tCB, tAndV, tOrV, tNotV, tAnd, tOr, tNot, tTest, tB, tIf, tChain, tLst, tTup, tSl, tNoPart, tPart, tBM, tBM0, tFor_eq, iList, iTup, iRng1, iRng2, iStr, tYes, tDNewK, tDisp, tPairs, List.getElem?_cons_zero, List.getElem?_cons_succ, List.set_cons_zero, List.set_cons_succ, List.append_nil, List.nil_append, List.cons_append, exSlot, exBl, exInt, exStr, exRef, rI_int, rI0_int, rU_int, rAddA_int, rAddA_str, rInA_str, rNotInA_str, rLenA_str, rSlA_str, rIx_str, CMul, CDiv, CPow, rIsi_str_str, rIsi_bl_bool, tComp_eq, ite_tt, ite_ft, ite_tf, ite_ff, decide_eq_true_eq, Bool.not_eq_true', decide_eq_false_iff_not, decide_true, decide_false, rEqH_str, rEqH_int, rEqH_bl, rNeH_str, rNeH_int, rStarts_at, rEnds_at, rFind_at, rSplit_at, rPart_at, tyV_str, rInt1_bl, rInt1_int, gTup, gCons, gNil, gSub, rIsN_ref, rIsN_non, rIsN_str, rNotN_ref, rNotN_non, tDGet, tDIn, tDNotIn, sDPut, tDGet1, tDGet2, tFld, sFld, tMeth, tMake, tCMeth, rLtA_int, rLtA_str, spMix_at]
            rw [decide_eq_false (by omega)]; exact hQ
          | some k =>
            rw [e2] at hQ
            show rEqH K (V.int k) (V.int _) H3 _
            try simp only [tSeq, tAsg, tOp, tUn, tVar, tC, tRet, tRetN, tDrop, tNext, tIfS, tNever, gName, tCons, tNil, tCall, tCB, tAndV, tOrV, tNotV, tAnd, tOr, tNot, tTest, tB, tIf, tChain, tLst, tTup, tSl, tNoPart, tPart, tBM, tBM0, tFor_eq, iList, iTup, iRng1, iRng2, iStr, tYes, tDNewK, tDisp, tPairs, List.getElem?_cons_zero, List.getElem?_cons_succ, List.set_cons_zero, List.set_cons_succ, List.append_nil, List.nil_append, List.cons_append, exSlot, exBl, exInt, exStr, exRef, rI_int, rI0_int, rU_int, rAddA_int, rAddA_str, rInA_str, rNotInA_str, rLenA_str, rSlA_str, rIx_str, CMul, CDiv, CPow, rIsi_str_str, rIsi_bl_bool, tComp_eq, ite_tt, ite_ft, ite_tf, ite_ff, decide_eq_true_eq, Bool.not_eq_true', decide_eq_false_iff_not, decide_true, decide_false, rEqH_str, rEqH_int, rEqH_bl, rNeH_str, rNeH_int, rStarts_at, rEnds_at, rFind_at, rSplit_at, rPart_at, tyV_str, rInt1_bl, rInt1_int, gTup, gCons, gNil, gSub, rIsN_ref, rIsN_non, rIsN_str, rNotN_ref, rNotN_non, tDGet, tDIn, tDNotIn, sDPut, tDGet1, tDGet2, tFld, sFld, tMeth, tMake, tCMeth, rLtA_int, rLtA_str, spMix_at]
            have : decide ((k : Int) = 1 + (n : Int) - 1) = decide (some k = some n) := by
              rw [Bool.eq_iff_iff, decide_eq_true_eq, decide_eq_true_eq, Option.some.injEq]
              constructor <;> intro h <;> omega
            rw [this]; exact hQ
        refine key _ ?_
        try simp only [tSeq, tAsg, tOp, tUn, tVar, tC, tRet, tRetN, tDrop, tNext, tIfS, tNever, gName, tCons, tNil, tCall, tCB, tAndV, tOrV, tNotV, tAnd, tOr, tNot, tTest, tB, tIf, tChain, tLst, tTup, tSl, tNoPart, tPart, tBM, tBM0, tFor_eq, iList, iTup, iRng1, iRng2, iStr, tYes, tDNewK, tDisp, tPairs, List.getElem?_cons_zero, List.getElem?_cons_succ, List.set_cons_zero, List.set_cons_succ, List.append_nil, List.nil_append, List.cons_append, exSlot, exBl, exInt, exStr, exRef, rI_int, rI0_int, rU_int, rAddA_int, rAddA_str, rInA_str, rNotInA_str, rLenA_str, rSlA_str, rIx_str, CMul, CDiv, CPow, rIsi_str_str, rIsi_bl_bool, tComp_eq, ite_tt, ite_ft, ite_tf, ite_ff, decide_eq_true_eq, Bool.not_eq_true', decide_eq_false_iff_not, decide_true, decide_false, rEqH_str, rEqH_int, rEqH_bl, rNeH_str, rNeH_int, rStarts_at, rEnds_at, rFind_at, rSplit_at, rPart_at, tyV_str, rInt1_bl, rInt1_int, gTup, gCons, gNil, gSub, rIsN_ref, rIsN_non, rIsN_str, rNotN_ref, rNotN_non, tDGet, tDIn, tDNotIn, sDPut, tDGet1, tDGet2, tFld, sFld, tMeth, tMake, tCMeth, rLtA_int, rLtA_str, spMix_at]
        refine ite2 (fun c2 => ?_) (fun c2 => ?_)
        · refine ⟨S, _, rfl, dask hS3 p.1, ?_⟩
          try simp only [tSeq, tAsg, tOp, tUn, tVar, tC, tRet, tRetN, tDrop, tNext, tIfS, tNever, gName, tCons, tNil, tCall, tCB, tAndV, tOrV, tNotV, tAnd, tOr, tNot, tTest, tB, tIf, tChain, tLst, tTup, tSl, tNoPart, tPart, tBM, tBM0, tFor_eq, iList, iTup, iRng1, iRng2, iStr, tYes, tDNewK, tDisp, tPairs, List.getElem?_cons_zero, List.getElem?_cons_succ, List.set_cons_zero, List.set_cons_succ, List.append_nil, List.nil_append, List.cons_append, exSlot, exBl, exInt, exStr, exRef, rI_int, rI0_int, rU_int, rAddA_int, rAddA_str, rInA_str, rNotInA_str, rLenA_str, rSlA_str, rIx_str, CMul, CDiv, CPow, rIsi_str_str, rIsi_bl_bool, tComp_eq, ite_tt, ite_ft, ite_tf, ite_ff, decide_eq_true_eq, Bool.not_eq_true', decide_eq_false_iff_not, decide_true, decide_false, rEqH_str, rEqH_int, rEqH_bl, rNeH_str, rNeH_int, rStarts_at, rEnds_at, rFind_at, rSplit_at, rPart_at, tyV_str, rInt1_bl, rInt1_int, gTup, gCons, gNil, gSub, rIsN_ref, rIsN_non, rIsN_str, rNotN_ref, rNotN_non, tDGet, tDIn, tDNotIn, sDPut, tDGet1, tDGet2, tFld, sFld, tMeth, tMake, tCMeth, rLtA_int, rLtA_str, spMix_at]
          refine ite2 (fun c3 => ?_) (fun c3 => ?_)
          · have hno : lk dj p.1 = none := by
              cases e : lk dj p.1 with
              | none => rfl
              | some m => rw [e] at c3; simp at c3
            refine ⟨S, _, rfl, by have := dput hS3 hno (by omega) (n + 1); rw [show V.int ((n + 1 : Nat) : Int) = V.int (1 + (n : Int)) by rw [Int.natCast_add, Int.add_comm]; rfl] at this; exact this, _, _, rfl, ?_, ?_⟩
            · intro b u e
              rw [upd_ne (ne_of_none e hS)]; exact s3 b u e
            · rw [upd_same]; unfold stp; rw [if_pos ⟨c2, hno⟩]
          · refine ⟨_, _, rfl, s3, ?_⟩
            unfold stp; rw [if_neg (fun z => c3 (by rw [z.2]; rfl))]; exact hS3
        · refine ⟨_, _, rfl, s3, ?_⟩
          unfold stp; rw [if_neg (fun z => c2 z.1)]; exact hS3
      · rintro σ H3 ⟨on, ne, rfl, s3, hS3⟩
        rw [hP.len, List.take_length] at hS3
        exact ⟨_, _, _, rfl, s3, hS3⟩
    · rintro σ H2 ⟨fa, on, ne, rfl, s2, hS2⟩
      try simp only [tSeq, tAsg, tOp, tUn, tVar, tC, tRet, tRetN, tDrop, tNext, tIfS, tNever, gName, tCons, tNil, tCall, tCB, tAndV, tOrV, tNotV, tAnd, tOr, tNot, tTest, tB, tIf, tChain, tLst, tTup, tSl, tNoPart, tPart, tBM, tBM0, tFor_eq, iList, iTup, iRng1, iRng2, iStr, tYes, tDNewK, tDisp, tPairs, List.getElem?_cons_zero, List.getElem?_cons_succ, List.set_cons_zero, List.set_cons_succ, List.append_nil, List.nil_append, List.cons_append, exSlot, exBl, exInt, exStr, exRef, rI_int, rI0_int, rU_int, rAddA_int, rAddA_str, rInA_str, rNotInA_str, rLenA_str, rSlA_str, rIx_str, CMul, CDiv, CPow, rIsi_str_str, rIsi_bl_bool, tComp_eq, ite_tt, ite_ft, ite_tf, ite_ff, decide_eq_true_eq, Bool.not_eq_true', decide_eq_false_iff_not, decide_true, decide_false, rEqH_str, rEqH_int, rEqH_bl, rNeH_str, rNeH_int, rStarts_at, rEnds_at, rFind_at, rSplit_at, rPart_at, tyV_str, rInt1_bl, rInt1_int, gTup, gCons, gNil, gSub, rIsN_ref, rIsN_non, rIsN_str, rNotN_ref, rNotN_non, tDGet, tDIn, tDNotIn, sDPut, tDGet1, tDGet2, tFld, sFld, tMeth, tMake, tCMeth, rLtA_int, rLtA_str, spMix_at]
      exact q S H2 hS s2 hS2
end
end K15
namespace K15
open PySem L2 Tx

section
variable {P : Program} {w : World} {K : PySem.W.Frag} {mg : Str → Option Value} {base : Heap} {t : Adr}
theorem ok_d_l_road (T : Txt K mg t) : FnOk P w K mg base CX0 3 t.f_d_l_road t.fd_d_l_road ["_law_pairs", "_law_labels_here", "_law_one", "_law_other"] (spLRoad K) := by
  refine T.F_d_l_road.ok sc_d_l_road (fun vs H Q E h => ?_) (fun cdv A outer s H vs Q E hr h => ?_)
  · obtain ⟨a, b, xs, ps, ls, one, o, rfl, ha, hb, hP, hW, q⟩ := h; rfl
  · obtain ⟨a, b, xs, ps, ls, one, o, rfl, ha, hb, hP, hW, q⟩ := h
    refine ⟨_, (@pss_cons _ _ _ _ _ (@ps_set _ _ (4) _ _ _ _ sc_d_l_road.nd rfl (by first | exact Or.inl rfl | exact Or.inr rfl) (@pe_call _ _ _ _ _ _ _ _ _ _ _ _ _ _ _ _ (ok_d_l_steps T) (hr.mono (by decide)) rfl T.g_d_l_steps T.F_d_l_steps.kp T.b_d_l_steps .nil pass0 (@pa_cons _ _ _ _ _ (@pv _ 0 _ _ (by rfl) (by first | exact vis0 rfl | exact vis1 rfl | exact vis2 rfl) (by decide) (by decide)) (@pa_cons _ _ _ _ _ (@pv _ 1 _ _ (by rfl) (by first | exact vis0 rfl | exact vis1 rfl | exact vis2 rfl) (by decide) (by decide)) (@pa_cons _ _ _ _ _ (@pv _ 3 _ _ (by rfl) (by first | exact vis0 rfl | exact vis1 rfl | exact vis2 rfl) (by decide) (by decide)) (@pa_nil _) (by rfl)) (by rfl)) (by rfl)) (by decide) (by rfl) (by rfl)) (by rfl) (by first | exact Or.inl rfl | exact Or.inr rfl | assumption)) (@pss_cons _ _ _ _ _ (@ps_if _ _ _ _ _ _ _ _ (@pt_cmp _ _ _ _ _ _ (@pc_dnotin _ _ _ _ _ (hu_of hr) (@pv _ 2 _ _ (by rfl) (by first | exact vis0 rfl | exact vis1 rfl | exact vis2 rfl) (by decide) (by decide)) (@pv _ 4 _ _ (by rfl) (by first | exact vis0 rfl | exact vis1 rfl | exact vis2 rfl) (by decide) (by decide))) (by with_unfolding_all rfl)) (@pss_one _ _ _ (@ps_ret _ _ _ _ (@pe_non _ _ _))) (@pss_nil _)) (@pss_cons _ _ _ _ _ (@ps_set _ _ (5) _ _ _ _ sc_d_l_road.nd rfl (by first | exact Or.inl rfl | exact Or.inr rfl) (@pe_lst _ _ _ _ (@pa_cons _ _ _ _ _ (@pv _ 2 _ _ (by rfl) (by first | exact vis0 rfl | exact vis1 rfl | exact vis2 rfl) (by decide) (by decide)) (@pa_nil _) (by rfl))) (by rfl) (by first | exact Or.inl rfl | exact Or.inr rfl | assumption)) (@pss_cons _ _ _ _ _ (@ps_while _ _ _ _ _ _ PassesOwn.never (@pt_cmpR _ _ _ _ _ _ _ _ (op_neH hr.units) (@pe_ix _ _ _ _ _ _ _ ix_seq (@pv _ 5 _ _ (by rfl) (by first | exact vis0 rfl | exact vis1 rfl | exact vis2 rfl) (by decide) (by decide)) (@pe_un _ _ _ _ _ _ un_neg (@pe_int _ _ _ _)) (fun _ _ => rfl)) (@pv _ 3 _ _ (by rfl) (by first | exact vis0 rfl | exact vis1 rfl | exact vis2 rfl) (by decide) (by decide)) (nomark _)) (@pss_cons _ _ _ _ _ (@ps_setComp _ _ _ _ _ _ _ _ _ _ _ _ _ (6) _ _ _ (@compOk_of _ (defScope s_d_l_road) (n_d_l_road) (["_law_label_here" , "_law_next_one" , "_law_steps_here" , "_law_found"]) ([none , none , some 4 , some 5]) _ rfl rfl (by decide +kernel)) rfl (@pi_list _ _ _ _ (@pv _ 0 _ _ (by rfl) (by first | exact vis0 rfl | exact vis1 rfl | exact vis2 rfl) (by decide) (by decide))) (fun _ _ _ _ _ => (@pg_tupK _ (K) _ _ _ _ (2) rfl rfl (@pgs_cons _ _ _ _ _ (@pg_name _ _ (0) _ (show List.Nodup (["_law_label_here" , "_law_next_one" , "_law_steps_here" , "_law_found"] : List Str) by decide +kernel) rfl (by first | exact Or.inl rfl | exact Or.inr rfl) (by first | exact Or.inl rfl | exact Or.inr rfl | assumption)) (@pgs_cons _ _ _ _ _ (@pg_name _ _ (1) _ (show List.Nodup (["_law_label_here" , "_law_next_one" , "_law_steps_here" , "_law_found"] : List Str) by decide +kernel) rfl (by first | exact Or.inl rfl | exact Or.inr rfl) (by first | exact Or.inl rfl | exact Or.inr rfl | assumption)) (@pgs_nil _) (by rfl)) (by rfl)) (by rfl) (by rfl))) (fun _ _ _ _ _ => @pts_one _ _ _ (@PW.pt _ _ _ (@pw_and _ _ _ _ _ _ _ (@pt_cmpR _ _ _ _ _ _ _ _ (op_eqK hr.units (K := K) rfl) (@pv _ 0 _ _ (by rfl) (by first | exact vis0 rfl | exact vis1 rfl | exact vis2 rfl) (by decide) (by decide)) (@pe_ix _ _ _ _ _ _ _ (ix_seqK (K := K) rfl) (@pv _ 3 _ _ (by rfl) (by first | exact vis0 rfl | exact vis1 rfl | exact vis2 rfl) (by decide) (by decide)) (@pe_un _ _ _ _ _ _ un_neg (@pe_int _ _ _ _)) (fun _ _ => rfl)) (nomark _)) (@pw_and1 _ _ _ _ (@pt_cmp _ _ _ _ _ _ (pc_din (hu_of hr) (@pv _ 1 _ _ (by rfl) (by first | exact vis0 rfl | exact vis1 rfl | exact vis2 rfl) (by decide) (by decide)) (@pv _ 2 _ _ (by rfl) (by first | exact vis0 rfl | exact vis1 rfl | exact vis2 rfl) (by decide) (by decide))) (by with_unfolding_all rfl)))))) (fun _ _ _ _ _ => (@pv _ 1 _ _ (by rfl) (by first | exact vis0 rfl | exact vis1 rfl | exact vis2 rfl) (by decide) (by decide))) sc_d_l_road.nd rfl (by first | exact Or.inl rfl | exact Or.inr rfl) rfl (by intro _ ; rfl) (by first | exact Or.inl rfl | exact Or.inr rfl | assumption)) (@pss_cons _ _ _ _ _ (@ps_setComp _ _ _ _ _ _ _ _ _ _ _ _ _ (6) _ _ _ (@compOk_of _ (defScope s_d_l_road) (n_d_l_road) (["_law_label_here" , "_law_steps_here" , "_law_found"]) ([none , some 4 , some 5]) _ rfl rfl (by decide +kernel)) rfl (@pi_list _ _ _ _ (@pv _ 6 _ _ (by rfl) (by first | exact vis0 rfl | exact vis1 rfl | exact vis2 rfl) (by decide) (by decide))) (fun _ _ _ _ _ => (@pg_name _ _ (0) _ (show List.Nodup (["_law_label_here" , "_law_steps_here" , "_law_found"] : List Str) by decide +kernel) rfl (by first | exact Or.inl rfl | exact Or.inr rfl) (by first | exact Or.inl rfl | exact Or.inr rfl | assumption))) (fun _ _ _ _ _ => @pts_one _ _ _ (@pt_cmpR _ _ _ _ _ _ _ _ (op_eqK hr.units (K := K) rfl) (@pe_dget _ _ _ _ _ _ (hu_of hr) (@pv _ 1 _ _ (by rfl) (by first | exact vis0 rfl | exact vis1 rfl | exact vis2 rfl) (by decide) (by decide)) (@pv _ 0 _ _ (by rfl) (by first | exact vis0 rfl | exact vis1 rfl | exact vis2 rfl) (by decide) (by decide)) (fun _ _ => rfl)) (@pe_op _ _ _ _ _ _ _ _ op_sub (@pe_dget _ _ _ _ _ _ (hu_of hr) (@pv _ 1 _ _ (by rfl) (by first | exact vis0 rfl | exact vis1 rfl | exact vis2 rfl) (by decide) (by decide)) (@pe_ix _ _ _ _ _ _ _ (ix_seqK (K := K) rfl) (@pv _ 2 _ _ (by rfl) (by first | exact vis0 rfl | exact vis1 rfl | exact vis2 rfl) (by decide) (by decide)) (@pe_un _ _ _ _ _ _ un_neg (@pe_int _ _ _ _)) (fun _ _ => rfl)) (fun _ _ => rfl)) (@pe_int _ _ _ _)) (nomark _))) (fun _ _ _ _ _ => (@pv _ 0 _ _ (by rfl) (by first | exact vis0 rfl | exact vis1 rfl | exact vis2 rfl) (by decide) (by decide))) sc_d_l_road.nd rfl (by first | exact Or.inl rfl | exact Or.inr rfl) rfl (by intro _ ; rfl) (by first | exact Or.inl rfl | exact Or.inr rfl | assumption)) (@pss_one _ _ _ (@ps_expr _ _ _ _ (@pe_bm _ _ _ _ _ _ _ _ _ _ _ _ PySem.F.plainAttrs_list PySem.F.slot_list_append PySem.F.type_list_append mt_append (@pv _ 5 _ _ (by rfl) (by first | exact vis0 rfl | exact vis1 rfl | exact vis2 rfl) (by decide) (by decide)) (@pa_cons _ _ _ _ _ (@pe_callB _ _ _ _ _ _ _ _ _ (call_min_strs rfl) rfl T.z_min boot_minT (@pa_cons _ _ _ _ _ (@pv _ 6 _ _ (by rfl) (by first | exact vis0 rfl | exact vis1 rfl | exact vis2 rfl) (by decide) (by decide)) (@pa_nil _) (by rfl)) (by decide) (by decide) (by rfl) (by rfl)) (@pa_nil _) (by rfl)) (by rfl) (by rfl) (by rfl) (by rfl) (by rfl)) (by rfl)))))) (@pss_one _ _ _ (@ps_ret _ _ _ _ (@pv _ 5 _ _ (by rfl) (by first | exact vis0 rfl | exact vis1 rfl | exact vis2 rfl) (by decide) (by decide)))))))), ?_⟩
    rw [show start n_d_l_road [V.ref a, V.ref b, V.str one, V.str o] = [some (V.ref a), some (V.ref b), some (V.str one), some (V.str o), none, none, none] from rfl]
    try simp only [tSeq, tAsg, tOp, tUn, tVar, tC, tRet, tRetN, tDrop, tNext, tIfS, tNever, gName, tCons, tNil, tCall, tCB, tAndV, tOrV, tNotV, tAnd, tOr, tNot, tTest, tB, tIf, tChain, tLst, tTup, tSl, tNoPart, tPart, tBM, tBM0, tFor_eq, iList, iTup, iRng1, iRng2, iStr, tYes, tDNewK, tDisp, tPairs, List.getElem?_cons_zero, List.getElem?_cons_succ, List.set_cons_zero, List.set_cons_succ, List.append_nil, List.nil_append, List.cons_append, exSlot, exBl, exInt, exStr, exRef, rI_int, rI0_int, rU_int, rAddA_int, rAddA_str, rInA_str, rNotInA_str, rLenA_str, rSlA_str, rIx_str, CMul, CDiv, CPow, rIsi_str_str, rIsi_bl_bool, tComp_eq, ite_tt, ite_ft, ite_tf, ite_ff, decide_eq_true_eq, Bool.not_eq_true', decide_eq_false_iff_not, decide_true, decide_false, rEqH_str, rEqH_int, rEqH_bl, rNeH_str, rNeH_int, rStarts_at, rEnds_at, rFind_at, rSplit_at, rPart_at, tyV_str, rInt1_bl, rInt1_int, gTup, gCons, gNil, gSub, rIsN_ref, rIsN_non, rIsN_str, rNotN_ref, rNotN_non, tDGet, tDIn, tDNotIn, sDPut, tDGet1, tDGet2, tFld, sFld, tMeth, tMake, tCMeth, rLtA_int, rLtA_str, spMix_at]
    refine ⟨a, b, xs, ps, ls, o, rfl, ha, hb, hP, hW, fun S H1 hSn s1 hS => ?_⟩
    have hK := Ok.at' (o := o) hW.1 ls.length
    obtain ⟨q1, q2⟩ := q
    generalize dD ps o ls.length = F at hS hK q1 q2
    try simp only [tSeq, tAsg, tOp, tUn, tVar, tC, tRet, tRetN, tDrop, tNext, tIfS, tNever, gName, tCons, tNil, tCall, tCB, tAndV, tOrV, tNotV, tAnd, tOr, tNot, tTest, tB, tIf, tChain, tLst, tTup, tSl, tNoPart, tPart, tBM, tBM0, tFor_eq, iList, iTup, iRng1, iRng2, iStr, tYes, tDNewK, tDisp, tPairs, List.getElem?_cons_zero, List.getElem?_cons_succ, List.set_cons_zero, List.set_cons_succ, List.append_nil, List.nil_append, List.cons_append, exSlot, exBl, exInt, exStr, exRef, rI_int, rI0_int, rU_int, rAddA_int, rAddA_str, rInA_str, rNotInA_str, rLenA_str, rSlA_str, rIx_str, CMul, CDiv, CPow, rIsi_str_str, rIsi_bl_bool, tComp_eq, ite_tt, ite_ft, ite_tf, ite_ff, decide_eq_true_eq, Bool.not_eq_true', decide_eq_false_iff_not, decide_true, decide_false, rEqH_str, rEqH_int, rEqH_bl, rNeH_str, rNeH_int, rStarts_at, rEnds_at, rFind_at, rSplit_at, rPart_at, tyV_str, rInt1_bl, rInt1_int, gTup, gCons, gNil, gSub, rIsN_ref, rIsN_non, rIsN_str, rNotN_ref, rNotN_non, tDGet, tDIn, tDNotIn, sDPut, tDGet1, tDGet2, tFld, sFld, tMeth, tMake, tCMeth, rLtA_int, rLtA_str, spMix_at]
    refine ⟨S, _, rfl, dask hS one, ?_⟩
    try simp only [tSeq, tAsg, tOp, tUn, tVar, tC, tRet, tRetN, tDrop, tNext, tIfS, tNever, gName, tCons, tNil, tCall, tCB, tAndV, tOrV, tNotV, tAnd, tOr, tNot, tTest, tB, tIf, tChain, tLst, tTup, tSl, tNoPart, tPart, tBM, tBM0, tFor_eq, iList, iTup, iRng1, iRng2, iStr, tYes, tDNewK, tDisp, tPairs, List.getElem?_cons_zero, List.getElem?_cons_succ, List.set_cons_zero, List.set_cons_succ, List.append_nil, List.nil_append, List.cons_append, exSlot, exBl, exInt, exStr, exRef, rI_int, rI0_int, rU_int, rAddA_int, rAddA_str, rInA_str, rNotInA_str, rLenA_str, rSlA_str, rIx_str, CMul, CDiv, CPow, rIsi_str_str, rIsi_bl_bool, tComp_eq, ite_tt, ite_ft, ite_tf, ite_ff, decide_eq_true_eq, Bool.not_eq_true', decide_eq_false_iff_not, decide_true, decide_false, rEqH_str, rEqH_int, rEqH_bl, rNeH_str, rNeH_int, rStarts_at, rEnds_at, rFind_at, rSplit_at, rPart_at, tyV_str, rInt1_bl, rInt1_int, gTup, gCons, gNil, gSub, rIsN_ref, rIsN_non, rIsN_str, rNotN_ref, rNotN_non, tDGet, tDIn, tDNotIn, sDPut, tDGet1, tDGet2, tFld, sFld, tMeth, tMake, tCMeth, rLtA_int, rLtA_str, spMix_at]
    refine ite2 (fun c1 => ?_) (fun c1 => ?_)
    · refine q1 ?_ _ s1
      cases e : lk F one with
      | none => rfl
      | some m => rw [e] at c1; simp at c1
    obtain ⟨M, hM⟩ : ∃ M, lk F one = some M := by
      cases e : lk F one with
      | none => rw [e] at c1; simp at c1
      | some m => exact ⟨m, rfl⟩
    refine ⟨by simp only [List.length_cons, List.length_nil]; decide, fun T hT => ?_⟩
    have hTS : T ≠ S := fun z => by rw [z, hS] at hT; cases hT
    have hTn : H T = none := none_of s1 hT
    refine while_w (fun k σ H' => ∃ (y : Str) (tl : List Str) (nr : Option V), σ = [some (V.ref a), some (V.ref b), some (V.str one), some (V.str o), some (V.ref S), some (V.ref T), nr] ∧ Same H1 H' ∧ lk F y = some k ∧ H' T = some (.lst ((tl ++ [y]).map V.str)) ∧ (tl ++ [y]) ++ path minS ps F k y = one :: path minS ps F M one ∧ tl.length + k ≤ M)
      M ⟨one, [], _, rfl, Same.upd hT, hM, upd_same, rfl, by simp⟩ ?_
    rintro k σ H2 ⟨y, tl, nr, rfl, s2, hy, hT2, hpa, hle⟩
    try simp only [tSeq, tAsg, tOp, tUn, tVar, tC, tRet, tRetN, tDrop, tNext, tIfS, tNever, gName, tCons, tNil, tCall, tCB, tAndV, tOrV, tNotV, tAnd, tOr, tNot, tTest, tB, tIf, tChain, tLst, tTup, tSl, tNoPart, tPart, tBM, tBM0, tFor_eq, iList, iTup, iRng1, iRng2, iStr, tYes, tDNewK, tDisp, tPairs, List.getElem?_cons_zero, List.getElem?_cons_succ, List.set_cons_zero, List.set_cons_succ, List.append_nil, List.nil_append, List.cons_append, exSlot, exBl, exInt, exStr, exRef, rI_int, rI0_int, rU_int, rAddA_int, rAddA_str, rInA_str, rNotInA_str, rLenA_str, rSlA_str, rIx_str, CMul, CDiv, CPow, rIsi_str_str, rIsi_bl_bool, tComp_eq, ite_tt, ite_ft, ite_tf, ite_ff, decide_eq_true_eq, Bool.not_eq_true', decide_eq_false_iff_not, decide_true, decide_false, rEqH_str, rEqH_int, rEqH_bl, rNeH_str, rNeH_int, rStarts_at, rEnds_at, rFind_at, rSplit_at, rPart_at, tyV_str, rInt1_bl, rInt1_int, gTup, gCons, gNil, gSub, rIsN_ref, rIsN_non, rIsN_str, rNotN_ref, rNotN_non, tDGet, tDIn, tDNotIn, sDPut, tDGet1, tDGet2, tFld, sFld, tMeth, tMake, tCMeth, rLtA_int, rLtA_str, spMix_at]
    refine rIx_lst (SqL.of hT2) (v := .str y) (by rw [List.map_append]; exact atI_neg _ _) ?_
    try simp only [tSeq, tAsg, tOp, tUn, tVar, tC, tRet, tRetN, tDrop, tNext, tIfS, tNever, gName, tCons, tNil, tCall, tCB, tAndV, tOrV, tNotV, tAnd, tOr, tNot, tTest, tB, tIf, tChain, tLst, tTup, tSl, tNoPart, tPart, tBM, tBM0, tFor_eq, iList, iTup, iRng1, iRng2, iStr, tYes, tDNewK, tDisp, tPairs, List.getElem?_cons_zero, List.getElem?_cons_succ, List.set_cons_zero, List.set_cons_succ, List.append_nil, List.nil_append, List.cons_append, exSlot, exBl, exInt, exStr, exRef, rI_int, rI0_int, rU_int, rAddA_int, rAddA_str, rInA_str, rNotInA_str, rLenA_str, rSlA_str, rIx_str, CMul, CDiv, CPow, rIsi_str_str, rIsi_bl_bool, tComp_eq, ite_tt, ite_ft, ite_tf, ite_ff, decide_eq_true_eq, Bool.not_eq_true', decide_eq_false_iff_not, decide_true, decide_false, rEqH_str, rEqH_int, rEqH_bl, rNeH_str, rNeH_int, rStarts_at, rEnds_at, rFind_at, rSplit_at, rPart_at, tyV_str, rInt1_bl, rInt1_int, gTup, gCons, gNil, gSub, rIsN_ref, rIsN_non, rIsN_str, rNotN_ref, rNotN_non, tDGet, tDIn, tDNotIn, sDPut, tDGet1, tDGet2, tFld, sFld, tMeth, tMake, tCMeth, rLtA_int, rLtA_str, spMix_at]
    have hS2 := s2 _ _ hS
    refine ite2 (fun c2 => ?_) (fun c2 => ?_)
    · obtain ⟨k', rfl⟩ : ∃ k', k = k' + 1 := by
        cases k with
        | zero => exact absurd (hK.zer _ (lk_mem hy) rfl) (by simpa using c2)
        | succ k' => exact ⟨k', rfl⟩
      refine ⟨fun σ' H' => ∃ m', m' < k' + 1 ∧ ∃ (y : Str) (tl : List Str) (nr : Option V), σ' = [some (V.ref a), some (V.ref b), some (V.str one), some (V.str o), some (V.ref S), some (V.ref T), nr] ∧ Same H1 H' ∧ lk F y = some m' ∧ H' T = some (.lst ((tl ++ [y]).map V.str)) ∧ (tl ++ [y]) ++ path minS ps F m' y = one :: path minS ps F M one ∧ tl.length + m' ≤ M, fun _ _ h => h, ?_⟩
      have s12 := s1.trans s2
      have ha2 : SqL K H2 a xs := s12.seq ha
      try simp only [tSeq, tAsg, tOp, tUn, tVar, tC, tRet, tRetN, tDrop, tNext, tIfS, tNever, gName, tCons, tNil, tCall, tCB, tAndV, tOrV, tNotV, tAnd, tOr, tNot, tTest, tB, tIf, tChain, tLst, tTup, tSl, tNoPart, tPart, tBM, tBM0, tFor_eq, iList, iTup, iRng1, iRng2, iStr, tYes, tDNewK, tDisp, tPairs, List.getElem?_cons_zero, List.getElem?_cons_succ, List.set_cons_zero, List.set_cons_succ, List.append_nil, List.nil_append, List.cons_append, exSlot, exBl, exInt, exStr, exRef, rI_int, rI0_int, rU_int, rAddA_int, rAddA_str, rInA_str, rNotInA_str, rLenA_str, rSlA_str, rIx_str, CMul, CDiv, CPow, rIsi_str_str, rIsi_bl_bool, tComp_eq, ite_tt, ite_ft, ite_tf, ite_ff, decide_eq_true_eq, Bool.not_eq_true', decide_eq_false_iff_not, decide_true, decide_false, rEqH_str, rEqH_int, rEqH_bl, rNeH_str, rNeH_int, rStarts_at, rEnds_at, rFind_at, rSplit_at, rPart_at, tyV_str, rInt1_bl, rInt1_int, gTup, gCons, gNil, gSub, rIsN_ref, rIsN_non, rIsN_str, rNotN_ref, rNotN_non, tDGet, tDIn, tDNotIn, sDPut, tDGet1, tDGet2, tFld, sFld, tMeth, tMake, tCMeth, rLtA_int, rLtA_str, spMix_at]
      refine ⟨⟨_, ha2⟩, ?_⟩
      refine comp_g (src_list (xs := xs)) (Nat.le_trans (show xs.length ≤ 1000 by rw [hP.len]; exact hW.2.2) (by decide)) (fun σ => ∃ u v, σ = [u, v, some (V.ref S), some (V.ref T)]) (fun i => [some (V.str ((ps[i]?).getD ("", "")).1), some (V.str ((ps[i]?).getD ("", "")).2), some (V.ref S), some (V.ref T)]) ⟨_, _, rfl⟩ (fun i _ => ⟨_, _, rfl⟩)
        (fun i => (decide (((ps[i]?).getD ("", "")).1 = y) && (lk F ((ps[i]?).getD ("", "")).2).isSome)) (fun i => V.str ((ps[i]?).getD ("", "")).2) (fun H' s => s.seq ha2) ?_ (fun i H' R hi s hR => ?_) (fun i H' R hi s hR => ?_) (fun N1 H3 hN1 s3 hL => ?_)
      · rintro i σ' H' R hi s ⟨u, v, rfl⟩ hR
        obtain ⟨p, q', hp, e, hq⟩ := (hP.same (s12.trans s)).at (List.getElem?_eq_getElem hi)
        rw [List.getElem?_eq_getElem hi, Option.getD_some, e]
        rw [hp, Option.getD_some] at hR
        try simp only [tSeq, tAsg, tOp, tUn, tVar, tC, tRet, tRetN, tDrop, tNext, tIfS, tNever, gName, tCons, tNil, tCall, tCB, tAndV, tOrV, tNotV, tAnd, tOr, tNot, tTest, tB, tIf, tChain, tLst, tTup, tSl, tNoPart, tPart, tBM, tBM0, tFor_eq, iList, iTup, iRng1, iRng2, iStr, tYes, tDNewK, tDisp, tPairs, List.getElem?_cons_zero, List.getElem?_cons_succ, List.set_cons_zero, List.set_cons_succ, List.append_nil, List.nil_append, List.cons_append, exSlot, exBl, exInt, exStr, exRef, rI_int, rI0_int, rU_int, rAddA_int, rAddA_str, rInA_str, rNotInA_str, rLenA_str, rSlA_str, rIx_str, CMul, CDiv, CPow, rIsi_str_str, rIsi_bl_bool, tComp_eq, ite_tt, ite_ft, ite_tf, ite_ff, decide_eq_true_eq, Bool.not_eq_true', decide_eq_false_iff_not, decide_true, decide_false, rEqH_str, rEqH_int, rEqH_bl, rNeH_str, rNeH_int, rStarts_at, rEnds_at, rFind_at, rSplit_at, rPart_at, tyV_str, rInt1_bl, rInt1_int, gTup, gCons, gNil, gSub, rIsN_ref, rIsN_non, rIsN_str, rNotN_ref, rNotN_non, tDGet, tDIn, tDNotIn, sDPut, tDGet1, tDGet2, tFld, sFld, tMeth, tMake, tCMeth, rLtA_int, rLtA_str, spMix_at]
        exact ⟨q', _, rfl, SqT.of hq, rfl, _, _, rfl, _, _, rfl, rfl, hR⟩
      · try simp only [tSeq, tAsg, tOp, tUn, tVar, tC, tRet, tRetN, tDrop, tNext, tIfS, tNever, gName, tCons, tNil, tCall, tCB, tAndV, tOrV, tNotV, tAnd, tOr, tNot, tTest, tB, tIf, tChain, tLst, tTup, tSl, tNoPart, tPart, tBM, tBM0, tFor_eq, iList, iTup, iRng1, iRng2, iStr, tYes, tDNewK, tDisp, tPairs, List.getElem?_cons_zero, List.getElem?_cons_succ, List.set_cons_zero, List.set_cons_succ, List.append_nil, List.nil_append, List.cons_append, exSlot, exBl, exInt, exStr, exRef, rI_int, rI0_int, rU_int, rAddA_int, rAddA_str, rInA_str, rNotInA_str, rLenA_str, rSlA_str, rIx_str, CMul, CDiv, CPow, rIsi_str_str, rIsi_bl_bool, tComp_eq, ite_tt, ite_ft, ite_tf, ite_ff, decide_eq_true_eq, Bool.not_eq_true', decide_eq_false_iff_not, decide_true, decide_false, rEqH_str, rEqH_int, rEqH_bl, rNeH_str, rNeH_int, rStarts_at, rEnds_at, rFind_at, rSplit_at, rPart_at, tyV_str, rInt1_bl, rInt1_int, gTup, gCons, gNil, gSub, rIsN_ref, rIsN_non, rIsN_str, rNotN_ref, rNotN_non, tDGet, tDIn, tDNotIn, sDPut, tDGet1, tDGet2, tFld, sFld, tMeth, tMake, tCMeth, rLtA_int, rLtA_str, spMix_at]
        refine rIx_lst (SqL.of (s _ _ hT2)) (v := .str y) (by rw [List.map_append]; exact atI_neg _ _) ?_
        try simp only [tSeq, tAsg, tOp, tUn, tVar, tC, tRet, tRetN, tDrop, tNext, tIfS, tNever, gName, tCons, tNil, tCall, tCB, tAndV, tOrV, tNotV, tAnd, tOr, tNot, tTest, tB, tIf, tChain, tLst, tTup, tSl, tNoPart, tPart, tBM, tBM0, tFor_eq, iList, iTup, iRng1, iRng2, iStr, tYes, tDNewK, tDisp, tPairs, List.getElem?_cons_zero, List.getElem?_cons_succ, List.set_cons_zero, List.set_cons_succ, List.append_nil, List.nil_append, List.cons_append, exSlot, exBl, exInt, exStr, exRef, rI_int, rI0_int, rU_int, rAddA_int, rAddA_str, rInA_str, rNotInA_str, rLenA_str, rSlA_str, rIx_str, CMul, CDiv, CPow, rIsi_str_str, rIsi_bl_bool, tComp_eq, ite_tt, ite_ft, ite_tf, ite_ff, decide_eq_true_eq, Bool.not_eq_true', decide_eq_false_iff_not, decide_true, decide_false, rEqH_str, rEqH_int, rEqH_bl, rNeH_str, rNeH_int, rStarts_at, rEnds_at, rFind_at, rSplit_at, rPart_at, tyV_str, rInt1_bl, rInt1_int, gTup, gCons, gNil, gSub, rIsN_ref, rIsN_non, rIsN_str, rNotN_ref, rNotN_non, tDGet, tDIn, tDNotIn, sDPut, tDGet1, tDGet2, tFld, sFld, tMeth, tMake, tCMeth, rLtA_int, rLtA_str, spMix_at]
        by_cases c3 : ((ps[i]?).getD ("", "")).1 = y
        · rw [if_pos (by simpa using c3)]
          rw [decide_eq_true c3, Bool.true_and] at hR
          refine ⟨S, _, rfl, dask (s _ _ hS2) _, ?_⟩
          try simp only [tSeq, tAsg, tOp, tUn, tVar, tC, tRet, tRetN, tDrop, tNext, tIfS, tNever, gName, tCons, tNil, tCall, tCB, tAndV, tOrV, tNotV, tAnd, tOr, tNot, tTest, tB, tIf, tChain, tLst, tTup, tSl, tNoPart, tPart, tBM, tBM0, tFor_eq, iList, iTup, iRng1, iRng2, iStr, tYes, tDNewK, tDisp, tPairs, List.getElem?_cons_zero, List.getElem?_cons_succ, List.set_cons_zero, List.set_cons_succ, List.append_nil, List.nil_append, List.cons_append, exSlot, exBl, exInt, exStr, exRef, rI_int, rI0_int, rU_int, rAddA_int, rAddA_str, rInA_str, rNotInA_str, rLenA_str, rSlA_str, rIx_str, CMul, CDiv, CPow, rIsi_str_str, rIsi_bl_bool, tComp_eq, ite_tt, ite_ft, ite_tf, ite_ff, decide_eq_true_eq, Bool.not_eq_true', decide_eq_false_iff_not, decide_true, decide_false, rEqH_str, rEqH_int, rEqH_bl, rNeH_str, rNeH_int, rStarts_at, rEnds_at, rFind_at, rSplit_at, rPart_at, tyV_str, rInt1_bl, rInt1_int, gTup, gCons, gNil, gSub, rIsN_ref, rIsN_non, rIsN_str, rNotN_ref, rNotN_non, tDGet, tDIn, tDNotIn, sDPut, tDGet1, tDGet2, tFld, sFld, tMeth, tMake, tCMeth, rLtA_int, rLtA_str, spMix_at]
          rw [Option.isSome_map]
          exact hR _ (Same.refl _)
        · rw [if_neg (by simpa using c3)]
          rw [decide_eq_false c3, Bool.false_and] at hR
          exact hR _ (Same.refl _)
      · try simp only [tSeq, tAsg, tOp, tUn, tVar, tC, tRet, tRetN, tDrop, tNext, tIfS, tNever, gName, tCons, tNil, tCall, tCB, tAndV, tOrV, tNotV, tAnd, tOr, tNot, tTest, tB, tIf, tChain, tLst, tTup, tSl, tNoPart, tPart, tBM, tBM0, tFor_eq, iList, iTup, iRng1, iRng2, iStr, tYes, tDNewK, tDisp, tPairs, List.getElem?_cons_zero, List.getElem?_cons_succ, List.set_cons_zero, List.set_cons_succ, List.append_nil, List.nil_append, List.cons_append, exSlot, exBl, exInt, exStr, exRef, rI_int, rI0_int, rU_int, rAddA_int, rAddA_str, rInA_str, rNotInA_str, rLenA_str, rSlA_str, rIx_str, CMul, CDiv, CPow, rIsi_str_str, rIsi_bl_bool, tComp_eq, ite_tt, ite_ft, ite_tf, ite_ff, decide_eq_true_eq, Bool.not_eq_true', decide_eq_false_iff_not, decide_true, decide_false, rEqH_str, rEqH_int, rEqH_bl, rNeH_str, rNeH_int, rStarts_at, rEnds_at, rFind_at, rSplit_at, rPart_at, tyV_str, rInt1_bl, rInt1_int, gTup, gCons, gNil, gSub, rIsN_ref, rIsN_non, rIsN_str, rNotN_ref, rNotN_non, tDGet, tDIn, tDNotIn, sDPut, tDGet1, tDGet2, tFld, sFld, tMeth, tMake, tCMeth, rLtA_int, rLtA_str, spMix_at]
        exact hR _ (Same.refl _)
      rw [hP.len, range_filter (("", "") : Str × Str) (fun p => decide (p.1 = y) && (lk F p.2).isSome) (fun p => V.str p.2) ps] at hL
      obtain ⟨ns, ens⟩ : ∃ ns, (ps.filter fun p => decide (p.1 = y) && (lk F p.2).isSome).map (·.2) = ns := ⟨_, rfl⟩
      have hL' : H3 N1 = some (.lst (ns.map V.str)) := by rw [← ens, List.map_map]; exact hL
      have hnl : ns.length ≤ 1000 := by
        rw [← ens, List.length_map]; exact Nat.le_trans (List.length_filter_le _ _) hW.2.2
      try simp only [tSeq, tAsg, tOp, tUn, tVar, tC, tRet, tRetN, tDrop, tNext, tIfS, tNever, gName, tCons, tNil, tCall, tCB, tAndV, tOrV, tNotV, tAnd, tOr, tNot, tTest, tB, tIf, tChain, tLst, tTup, tSl, tNoPart, tPart, tBM, tBM0, tFor_eq, iList, iTup, iRng1, iRng2, iStr, tYes, tDNewK, tDisp, tPairs, List.getElem?_cons_zero, List.getElem?_cons_succ, List.set_cons_zero, List.set_cons_succ, List.append_nil, List.nil_append, List.cons_append, exSlot, exBl, exInt, exStr, exRef, rI_int, rI0_int, rU_int, rAddA_int, rAddA_str, rInA_str, rNotInA_str, rLenA_str, rSlA_str, rIx_str, CMul, CDiv, CPow, rIsi_str_str, rIsi_bl_bool, tComp_eq, ite_tt, ite_ft, ite_tf, ite_ff, decide_eq_true_eq, Bool.not_eq_true', decide_eq_false_iff_not, decide_true, decide_false, rEqH_str, rEqH_int, rEqH_bl, rNeH_str, rNeH_int, rStarts_at, rEnds_at, rFind_at, rSplit_at, rPart_at, tyV_str, rInt1_bl, rInt1_int, gTup, gCons, gNil, gSub, rIsN_ref, rIsN_non, rIsN_str, rNotN_ref, rNotN_non, tDGet, tDIn, tDNotIn, sDPut, tDGet1, tDGet2, tFld, sFld, tMeth, tMake, tCMeth, rLtA_int, rLtA_str, spMix_at]
      refine ⟨⟨_, SqL.of hL'⟩, ?_⟩
      have hy3 : lk F y = some (k' + 1) := hy
      refine comp_f (src_list (xs := ns.map V.str)) (Nat.le_trans (show (ns.map V.str).length ≤ 1000 by simpa using hnl) (by decide)) [some (V.ref S), some (V.ref T)] rfl (fun i => decide (lk F ((ns[i]?).getD "") = some k')) (fun i => V.str ((ns[i]?).getD "")) (fun H' s => s.seq (SqL.of hL')) (fun i H' R hi s hR => ?_) (fun i H' R hi s hR => ?_) (fun N2 H4 hN2 s4 hL4 => ?_)
      · have hi' : i < ns.length := by simpa using hi
        have e2 : ((ns.map V.str)[i]?).getD .non = V.str ns[i] := by rw [List.getElem?_map, List.getElem?_eq_getElem hi']; rfl
        rw [e2]
        rw [List.getElem?_eq_getElem hi', Option.getD_some] at hR
        have hsome : (lk F ns[i]).isSome = true := by
          have hm : ns[i] ∈ (ps.filter fun p => decide (p.1 = y) && (lk F p.2).isSome).map (·.2) := by rw [ens]; exact List.getElem_mem hi'
          obtain ⟨p, hp, e⟩ := List.mem_map.mp hm
          have := (List.mem_filter.mp hp).2
          rw [← e]; simp at this; exact this.2
        obtain ⟨k2, ek2⟩ := Option.isSome_iff_exists.mp hsome
        have hS4 := s _ _ (s3 _ _ hS2)
        try simp only [tSeq, tAsg, tOp, tUn, tVar, tC, tRet, tRetN, tDrop, tNext, tIfS, tNever, gName, tCons, tNil, tCall, tCB, tAndV, tOrV, tNotV, tAnd, tOr, tNot, tTest, tB, tIf, tChain, tLst, tTup, tSl, tNoPart, tPart, tBM, tBM0, tFor_eq, iList, iTup, iRng1, iRng2, iStr, tYes, tDNewK, tDisp, tPairs, List.getElem?_cons_zero, List.getElem?_cons_succ, List.set_cons_zero, List.set_cons_succ, List.append_nil, List.nil_append, List.cons_append, exSlot, exBl, exInt, exStr, exRef, rI_int, rI0_int, rU_int, rAddA_int, rAddA_str, rInA_str, rNotInA_str, rLenA_str, rSlA_str, rIx_str, CMul, CDiv, CPow, rIsi_str_str, rIsi_bl_bool, tComp_eq, ite_tt, ite_ft, ite_tf, ite_ff, decide_eq_true_eq, Bool.not_eq_true', decide_eq_false_iff_not, decide_true, decide_false, rEqH_str, rEqH_int, rEqH_bl, rNeH_str, rNeH_int, rStarts_at, rEnds_at, rFind_at, rSplit_at, rPart_at, tyV_str, rInt1_bl, rInt1_int, gTup, gCons, gNil, gSub, rIsN_ref, rIsN_non, rIsN_str, rNotN_ref, rNotN_non, tDGet, tDIn, tDNotIn, sDPut, tDGet1, tDGet2, tFld, sFld, tMeth, tMake, tCMeth, rLtA_int, rLtA_str, spMix_at]
        refine ⟨S, _, rfl, dget hS4 ek2, ?_⟩
        refine rIx_lst (SqL.of (s _ _ (s3 _ _ hT2))) (v := .str y) (by rw [List.map_append]; exact atI_neg _ _) ?_
        refine ⟨S, _, rfl, dget hS4 hy3, ?_⟩
        try simp only [tSeq, tAsg, tOp, tUn, tVar, tC, tRet, tRetN, tDrop, tNext, tIfS, tNever, gName, tCons, tNil, tCall, tCB, tAndV, tOrV, tNotV, tAnd, tOr, tNot, tTest, tB, tIf, tChain, tLst, tTup, tSl, tNoPart, tPart, tBM, tBM0, tFor_eq, iList, iTup, iRng1, iRng2, iStr, tYes, tDNewK, tDisp, tPairs, List.getElem?_cons_zero, List.getElem?_cons_succ, List.set_cons_zero, List.set_cons_succ, List.append_nil, List.nil_append, List.cons_append, exSlot, exBl, exInt, exStr, exRef, rI_int, rI0_int, rU_int, rAddA_int, rAddA_str, rInA_str, rNotInA_str, rLenA_str, rSlA_str, rIx_str, CMul, CDiv, CPow, rIsi_str_str, rIsi_bl_bool, tComp_eq, ite_tt, ite_ft, ite_tf, ite_ff, decide_eq_true_eq, Bool.not_eq_true', decide_eq_false_iff_not, decide_true, decide_false, rEqH_str, rEqH_int, rEqH_bl, rNeH_str, rNeH_int, rStarts_at, rEnds_at, rFind_at, rSplit_at, rPart_at, tyV_str, rInt1_bl, rInt1_int, gTup, gCons, gNil, gSub, rIsN_ref, rIsN_non, rIsN_str, rNotN_ref, rNotN_non, tDGet, tDIn, tDNotIn, sDPut, tDGet1, tDGet2, tFld, sFld, tMeth, tMake, tCMeth, rLtA_int, rLtA_str, spMix_at]
        have : decide ((k2 : Int) = ((k' + 1 : Nat) : Int) - 1) = decide (lk F ns[i] = some k') := by
          rw [ek2, Bool.eq_iff_iff, decide_eq_true_eq, decide_eq_true_eq, Option.some.injEq]
          constructor <;> intro h <;> omega
        rw [this]
        exact hR _ (Same.refl _)
      · have hi' : i < ns.length := by simpa using hi
        have e2 : ((ns.map V.str)[i]?).getD .non = V.str ns[i] := by rw [List.getElem?_map, List.getElem?_eq_getElem hi']; rfl
        rw [e2]
        rw [List.getElem?_eq_getElem hi', Option.getD_some] at hR
        try simp only [tSeq, tAsg, tOp, tUn, tVar, tC, tRet, tRetN, tDrop, tNext, tIfS, tNever, gName, tCons, tNil, tCall, tCB, tAndV, tOrV, tNotV, tAnd, tOr, tNot, tTest, tB, tIf, tChain, tLst, tTup, tSl, tNoPart, tPart, tBM, tBM0, tFor_eq, iList, iTup, iRng1, iRng2, iStr, tYes, tDNewK, tDisp, tPairs, List.getElem?_cons_zero, List.getElem?_cons_succ, List.set_cons_zero, List.set_cons_succ, List.append_nil, List.nil_append, List.cons_append, exSlot, exBl, exInt, exStr, exRef, rI_int, rI0_int, rU_int, rAddA_int, rAddA_str, rInA_str, rNotInA_str, rLenA_str, rSlA_str, rIx_str, CMul, CDiv, CPow, rIsi_str_str, rIsi_bl_bool, tComp_eq, ite_tt, ite_ft, ite_tf, ite_ff, decide_eq_true_eq, Bool.not_eq_true', decide_eq_false_iff_not, decide_true, decide_false, rEqH_str, rEqH_int, rEqH_bl, rNeH_str, rNeH_int, rStarts_at, rEnds_at, rFind_at, rSplit_at, rPart_at, tyV_str, rInt1_bl, rInt1_int, gTup, gCons, gNil, gSub, rIsN_ref, rIsN_non, rIsN_str, rNotN_ref, rNotN_non, tDGet, tDIn, tDNotIn, sDPut, tDGet1, tDGet2, tFld, sFld, tMeth, tMake, tCMeth, rLtA_int, rLtA_str, spMix_at]
        exact hR _ (Same.refl _)
      rw [show (ns.map V.str).length = ns.length by simp, range_filter ("" : Str) (fun z => decide (lk F z = some k')) V.str ns] at hL4
      have enr : ns.filter (fun z => decide (lk F z = some k')) = near ps F y k' := by
        rw [← ens, List.filter_map, List.filter_filter]
        unfold near
        congr 1
        refine List.filter_congr fun p _ => ?_
        simp only [Function.comp]
        cases e : lk F p.2 with
        | none => simp
        | some k => simp [Bool.and_comm]
      rw [enr] at hL4
      have hnn := near_ne hK hy3
      have s24 := s3.trans s4
      have hT4 := s24 _ _ hT2
      have hM' := hK.lev hM
      have hwl := hW.2.1
      try simp only [tSeq, tAsg, tOp, tUn, tVar, tC, tRet, tRetN, tDrop, tNext, tIfS, tNever, gName, tCons, tNil, tCall, tCB, tAndV, tOrV, tNotV, tAnd, tOr, tNot, tTest, tB, tIf, tChain, tLst, tTup, tSl, tNoPart, tPart, tBM, tBM0, tFor_eq, iList, iTup, iRng1, iRng2, iStr, tYes, tDNewK, tDisp, tPairs, List.getElem?_cons_zero, List.getElem?_cons_succ, List.set_cons_zero, List.set_cons_succ, List.append_nil, List.nil_append, List.cons_append, exSlot, exBl, exInt, exStr, exRef, rI_int, rI0_int, rU_int, rAddA_int, rAddA_str, rInA_str, rNotInA_str, rLenA_str, rSlA_str, rIx_str, CMul, CDiv, CPow, rIsi_str_str, rIsi_bl_bool, tComp_eq, ite_tt, ite_ft, ite_tf, ite_ff, decide_eq_true_eq, Bool.not_eq_true', decide_eq_false_iff_not, decide_true, decide_false, rEqH_str, rEqH_int, rEqH_bl, rNeH_str, rNeH_int, rStarts_at, rEnds_at, rFind_at, rSplit_at, rPart_at, tyV_str, rInt1_bl, rInt1_int, gTup, gCons, gNil, gSub, rIsN_ref, rIsN_non, rIsN_str, rNotN_ref, rNotN_non, tDGet, tDIn, tDNotIn, sDPut, tDGet1, tDGet2, tFld, sFld, tMeth, tMake, tCMeth, rLtA_int, rLtA_str, spMix_at]
      refine ⟨.inl ⟨rfl, _, SqL.of hT4⟩, rMin_at (SqL.of hL4) hnn ⟨T, _, _, rfl, rfl, hT4, Nat.lt_of_le_of_lt (show _ ≤ 2000 by simp; omega) (by decide), k', by omega, minS (near ps F y k'), tl ++ [y], _, rfl, ?_, near_lk (minS_mem hnn), ?_, ?_, ?_⟩⟩
      · intro b u e
        rw [upd_ne (ne_of_none e hT)]; exact s24 _ _ (s2 b u e)
      · rw [upd_same]; simp
      · rw [← hpa]; simp [path]
      · simp; omega
    · have hyo : y = o := by simpa using c2
      have hk0 : k = 0 := by
        rw [hyo, hK.one] at hy; exact (Option.some.inj hy).symm
      subst hk0
      try simp only [tSeq, tAsg, tOp, tUn, tVar, tC, tRet, tRetN, tDrop, tNext, tIfS, tNever, gName, tCons, tNil, tCall, tCB, tAndV, tOrV, tNotV, tAnd, tOr, tNot, tTest, tB, tIf, tChain, tLst, tTup, tSl, tNoPart, tPart, tBM, tBM0, tFor_eq, iList, iTup, iRng1, iRng2, iStr, tYes, tDNewK, tDisp, tPairs, List.getElem?_cons_zero, List.getElem?_cons_succ, List.set_cons_zero, List.set_cons_succ, List.append_nil, List.nil_append, List.cons_append, exSlot, exBl, exInt, exStr, exRef, rI_int, rI0_int, rU_int, rAddA_int, rAddA_str, rInA_str, rNotInA_str, rLenA_str, rSlA_str, rIx_str, CMul, CDiv, CPow, rIsi_str_str, rIsi_bl_bool, tComp_eq, ite_tt, ite_ft, ite_tf, ite_ff, decide_eq_true_eq, Bool.not_eq_true', decide_eq_false_iff_not, decide_true, decide_false, rEqH_str, rEqH_int, rEqH_bl, rNeH_str, rNeH_int, rStarts_at, rEnds_at, rFind_at, rSplit_at, rPart_at, tyV_str, rInt1_bl, rInt1_int, gTup, gCons, gNil, gSub, rIsN_ref, rIsN_non, rIsN_str, rNotN_ref, rNotN_non, tDGet, tDIn, tDNotIn, sDPut, tDGet1, tDGet2, tFld, sFld, tMeth, tMake, tCMeth, rLtA_int, rLtA_str, spMix_at]
      refine q2 M hM T H2 hTn (s1.trans s2) ?_
      rw [← hpa]; simpa [path] using hT2
end
end K15
namespace K15
open PySem L2 Tx

section
variable {P : Program} {w : World} {K : PySem.W.Frag} {mg : Str → Option Value} {base : Heap} {t : Adr}
theorem ok_d_l_same (T : Txt K mg t) : FnOk P w K mg base CX0 1 t.f_d_l_same t.fd_d_l_same ["_law_found", "_law_due"] (spSameR K) := by
  refine T.F_d_l_same.ok sc_d_l_same (fun vs H Q E h => ?_) (fun cdv A outer s H vs Q E hr h => ?_)
  · obtain ⟨x, y, rfl, h, q⟩ := h; rfl
  · obtain ⟨x, y, rfl, h, q⟩ := h
    refine ⟨_, (@pss_cons _ _ _ _ _ (@ps_if _ _ _ _ _ _ _ _ (@pt_cmpR _ _ _ _ _ _ _ _ op_isX (@pv _ 1 _ _ (by rfl) (by first | exact vis0 rfl | exact vis1 rfl | exact vis2 rfl) (by decide) (by decide)) (@pe_non _ _ _) (nomark _)) (@pss_one _ _ _ (@ps_ret _ _ _ _ (@pe_cmpR _ _ _ _ _ _ _ _ op_isX (@pv _ 0 _ _ (by rfl) (by first | exact vis0 rfl | exact vis1 rfl | exact vis2 rfl) (by decide) (by decide)) (@pe_non _ _ _) (nomark _)))) (@pss_nil _)) (@pss_one _ _ _ (@ps_ret _ _ _ _ (@pe_and _ _ _ _ _ _ _ (@pe_callB _ _ _ _ _ _ _ _ _ call_isinst rfl T.z_isinstance boot_isinstanceT (@pa_cons _ _ _ _ _ (@pv _ 0 _ _ (by rfl) (by first | exact vis0 rfl | exact vis1 rfl | exact vis2 rfl) (by decide) (by decide)) (@pa_cons _ _ _ _ _ (@pe_bltn _ _ (.ty "list") _ _ rfl T.z_list boot_listT rfl (by decide) (by decide)) (@pa_nil _) (by rfl)) (by rfl)) (by decide) (by decide) (by rfl) (by rfl)) (@pe_one _ _ _ _ _ (@pe_cmpR _ _ _ _ _ _ _ _ (op_eqH hr.units) (@pv _ 0 _ _ (by rfl) (by first | exact vis0 rfl | exact vis1 rfl | exact vis2 rfl) (by decide) (by decide)) (@pv _ 1 _ _ (by rfl) (by first | exact vis0 rfl | exact vis1 rfl | exact vis2 rfl) (by decide) (by decide)) (nomark _))))))), ?_⟩
    rw [show start n_d_l_same [x, y] = [some (x), some (y)] from rfl]
    rcases h with ⟨rfl, rfl⟩ | ⟨f, d, zs, rfl, rfl, hf, hd, hz⟩
    · try simp only [tSeq, tAsg, tOp, tUn, tVar, tC, tRet, tRetN, tDrop, tNext, tIfS, tNever, gName, tCons, tNil, tCall, tCB, tAndV, tOrV, tNotV, tAnd, tOr, tNot, tTest, tB, tIf, tChain, tLst, tTup, tSl, tNoPart, tPart, tBM, tBM0, tFor_eq, iList, iTup, iRng1, iRng2, iStr, tYes, tDNewK, tDisp, tPairs, List.getElem?_cons_zero, List.getElem?_cons_succ, List.set_cons_zero, List.set_cons_succ, List.append_nil, List.nil_append, List.cons_append, exSlot, exBl, exInt, exStr, exRef, rI_int, rI0_int, rU_int, rAddA_int, rAddA_str, rInA_str, rNotInA_str, rLenA_str, rSlA_str, rIx_str, CMul, CDiv, CPow, rIsi_str_str, rIsi_bl_bool, tComp_eq, ite_tt, ite_ft, ite_tf, ite_ff, decide_eq_true_eq, Bool.not_eq_true', decide_eq_false_iff_not, decide_true, decide_false, rEqH_str, rEqH_int, rEqH_bl, rNeH_str, rNeH_int, rStarts_at, rEnds_at, rFind_at, rSplit_at, rPart_at, tyV_str, rInt1_bl, rInt1_int, gTup, gCons, gNil, gSub, rIsN_ref, rIsN_non, rIsN_str, rNotN_ref, rNotN_non, tDGet, tDIn, tDNotIn, sDPut, tDGet1, tDGet2, tFld, sFld, tMeth, tMake, tCMeth, rLtA_int, rLtA_str, spMix_at]
      exact q
    · try simp only [tSeq, tAsg, tOp, tUn, tVar, tC, tRet, tRetN, tDrop, tNext, tIfS, tNever, gName, tCons, tNil, tCall, tCB, tAndV, tOrV, tNotV, tAnd, tOr, tNot, tTest, tB, tIf, tChain, tLst, tTup, tSl, tNoPart, tPart, tBM, tBM0, tFor_eq, iList, iTup, iRng1, iRng2, iStr, tYes, tDNewK, tDisp, tPairs, List.getElem?_cons_zero, List.getElem?_cons_succ, List.set_cons_zero, List.set_cons_succ, List.append_nil, List.nil_append, List.cons_append, exSlot, exBl, exInt, exStr, exRef, rI_int, rI0_int, rU_int, rAddA_int, rAddA_str, rInA_str, rNotInA_str, rLenA_str, rSlA_str, rIx_str, CMul, CDiv, CPow, rIsi_str_str, rIsi_bl_bool, tComp_eq, ite_tt, ite_ft, ite_tf, ite_ff, decide_eq_true_eq, Bool.not_eq_true', decide_eq_false_iff_not, decide_true, decide_false, rEqH_str, rEqH_int, rEqH_bl, rNeH_str, rNeH_int, rStarts_at, rEnds_at, rFind_at, rSplit_at, rPart_at, tyV_str, rInt1_bl, rInt1_int, gTup, gCons, gNil, gSub, rIsN_ref, rIsN_non, rIsN_str, rNotN_ref, rNotN_non, tDGet, tDIn, tDNotIn, sDPut, tDGet1, tDGet2, tFld, sFld, tMeth, tMake, tCMeth, rLtA_int, rLtA_str, spMix_at]
      refine rIsi_lst hf ?_
      try simp only [tSeq, tAsg, tOp, tUn, tVar, tC, tRet, tRetN, tDrop, tNext, tIfS, tNever, gName, tCons, tNil, tCall, tCB, tAndV, tOrV, tNotV, tAnd, tOr, tNot, tTest, tB, tIf, tChain, tLst, tTup, tSl, tNoPart, tPart, tBM, tBM0, tFor_eq, iList, iTup, iRng1, iRng2, iStr, tYes, tDNewK, tDisp, tPairs, List.getElem?_cons_zero, List.getElem?_cons_succ, List.set_cons_zero, List.set_cons_succ, List.append_nil, List.nil_append, List.cons_append, exSlot, exBl, exInt, exStr, exRef, rI_int, rI0_int, rU_int, rAddA_int, rAddA_str, rInA_str, rNotInA_str, rLenA_str, rSlA_str, rIx_str, CMul, CDiv, CPow, rIsi_str_str, rIsi_bl_bool, tComp_eq, ite_tt, ite_ft, ite_tf, ite_ff, decide_eq_true_eq, Bool.not_eq_true', decide_eq_false_iff_not, decide_true, decide_false, rEqH_str, rEqH_int, rEqH_bl, rNeH_str, rNeH_int, rStarts_at, rEnds_at, rFind_at, rSplit_at, rPart_at, tyV_str, rInt1_bl, rInt1_int, gTup, gCons, gNil, gSub, rIsN_ref, rIsN_non, rIsN_str, rNotN_ref, rNotN_non, tDGet, tDIn, tDNotIn, sDPut, tDGet1, tDGet2, tFld, sFld, tMeth, tMake, tCMeth, rLtA_int, rLtA_str, spMix_at]
      exact rEqD_same (.lst (SqL.of hf) (denStrs zs)) (.lst (SqL.of hd) (denStrs zs)) (shapedZ hz) q
end
end K15
namespace K15
open PySem L2 Tx

section
variable {P : Program} {w : World} {K : PySem.W.Frag} {mg : Str → Option Value} {base : Heap} {t : Adr}
theorem ok_d_least_nearer (T : Txt K mg t) : FnOk P w K mg base CX0 1 t.f_d_least_nearer t.fd_d_least_nearer ["pairs", "steps", "label"] (spLeast K) := by
  refine T.F_d_least_nearer.ok sc_d_least_nearer (fun vs H Q E h => ?_) (fun cdv A outer s H vs Q E hr h => ?_)
  · obtain ⟨a, S, xs, ps, F, x, m, rfl, ha, hP, hpl, hS, hx, hne, q⟩ := h; rfl
  · obtain ⟨a, S, xs, ps, F, x, m, rfl, ha, hP, hpl, hS, hx, hne, q⟩ := h
    refine ⟨_, (@pss_one _ _ _ (@ps_ret _ _ _ _ (@pe_callB _ _ _ _ _ _ _ _ _ (call_min_strs rfl) rfl T.z_min boot_minT (@pa_cons _ _ _ _ _ (@pe_comp _ _ _ _ _ _ _ _ _ _ _ _ _ (@compOk_of _ (defScope s_d_least_nearer) (n_d_least_nearer) (["pair" , "label" , "steps"]) ([none , some 2 , some 1]) _ rfl rfl (by decide +kernel)) rfl (@pi_list _ _ _ _ (@pv _ 0 _ _ (by rfl) (by first | exact vis0 rfl | exact vis1 rfl | exact vis2 rfl) (by decide) (by decide))) (fun _ _ _ _ _ => (@pg_name _ _ (0) _ (show List.Nodup (["pair" , "label" , "steps"] : List Str) by decide +kernel) rfl (by first | exact Or.inl rfl | exact Or.inr rfl) (by first | exact Or.inl rfl | exact Or.inr rfl | assumption))) (fun _ _ _ _ _ => @pts_one _ _ _ (@PW.pt _ _ _ (@pw_and _ _ _ _ _ _ _ (@pt_cmpR _ _ _ _ _ _ _ _ (op_eqK hr.units (K := K) rfl) (@pe_ix _ _ _ _ _ _ _ (ix_seqK (K := K) rfl) (@pv _ 0 _ _ (by rfl) (by first | exact vis0 rfl | exact vis1 rfl | exact vis2 rfl) (by decide) (by decide)) (@pe_int _ _ _ _) (fun _ _ => rfl)) (@pv _ 1 _ _ (by rfl) (by first | exact vis0 rfl | exact vis1 rfl | exact vis2 rfl) (by decide) (by decide)) (nomark _)) (@pw_and1 _ _ _ _ (@pt_cmpR _ _ _ _ _ _ _ _ (op_eqK hr.units (K := K) rfl) (@pe_dget1 _ _ _ _ _ _ _ (hu_of hr) (@pv _ 2 _ _ (by rfl) (by first | exact vis0 rfl | exact vis1 rfl | exact vis2 rfl) (by decide) (by decide)) (@pe_ix _ _ _ _ _ _ _ (ix_seqK (K := K) rfl) (@pv _ 0 _ _ (by rfl) (by first | exact vis0 rfl | exact vis1 rfl | exact vis2 rfl) (by decide) (by decide)) (@pe_int _ _ _ _) (fun _ _ => rfl)) ⟨rfl , rfl , rfl , rfl⟩) (@pe_op _ _ _ _ _ _ _ _ op_sub (@pe_dget _ _ _ _ _ _ (hu_of hr) (@pv _ 2 _ _ (by rfl) (by first | exact vis0 rfl | exact vis1 rfl | exact vis2 rfl) (by decide) (by decide)) (@pv _ 1 _ _ (by rfl) (by first | exact vis0 rfl | exact vis1 rfl | exact vis2 rfl) (by decide) (by decide)) (fun _ _ => rfl)) (@pe_int _ _ _ _)) (nomark _)))))) (fun _ _ _ _ _ => (@pe_ix _ _ _ _ _ _ _ (ix_seqK (K := K) rfl) (@pv _ 0 _ _ (by rfl) (by first | exact vis0 rfl | exact vis1 rfl | exact vis2 rfl) (by decide) (by decide)) (@pe_int _ _ _ _) (fun _ _ => rfl))) (by intro _ ; rfl)) (@pa_nil _) (by rfl)) (by decide) (by decide) (by rfl) (by rfl)))), ?_⟩
    rw [show start n_d_least_nearer [V.ref a, V.ref S, V.str x] = [some (V.ref a), some (V.ref S), some (V.str x)] from rfl]
    try simp only [tSeq, tAsg, tOp, tUn, tVar, tC, tRet, tRetN, tDrop, tNext, tIfS, tNever, gName, tCons, tNil, tCall, tCB, tAndV, tOrV, tNotV, tAnd, tOr, tNot, tTest, tB, tIf, tChain, tLst, tTup, tSl, tNoPart, tPart, tBM, tBM0, tFor_eq, iList, iTup, iRng1, iRng2, iStr, tYes, tDNewK, tDisp, tPairs, List.getElem?_cons_zero, List.getElem?_cons_succ, List.set_cons_zero, List.set_cons_succ, List.append_nil, List.nil_append, List.cons_append, exSlot, exBl, exInt, exStr, exRef, rI_int, rI0_int, rU_int, rAddA_int, rAddA_str, rInA_str, rNotInA_str, rLenA_str, rSlA_str, rIx_str, CMul, CDiv, CPow, rIsi_str_str, rIsi_bl_bool, tComp_eq, ite_tt, ite_ft, ite_tf, ite_ff, decide_eq_true_eq, Bool.not_eq_true', decide_eq_false_iff_not, decide_true, decide_false, rEqH_str, rEqH_int, rEqH_bl, rNeH_str, rNeH_int, rStarts_at, rEnds_at, rFind_at, rSplit_at, rPart_at, tyV_str, rInt1_bl, rInt1_int, gTup, gCons, gNil, gSub, rIsN_ref, rIsN_non, rIsN_str, rNotN_ref, rNotN_non, tDGet, tDIn, tDNotIn, sDPut, tDGet1, tDGet2, tFld, sFld, tMeth, tMake, tCMeth, rLtA_int, rLtA_str, spMix_at]
    refine ⟨⟨_, ha⟩, ?_⟩
    refine comp_f (src_list (xs := xs)) (Nat.le_trans (show xs.length ≤ 1000 by rw [hP.len]; exact hpl) (by decide)) [some (V.str x), some (V.ref S)] rfl (fun i => (decide (((ps[i]?).getD ("", "")).1 = x) && decide (lk F ((ps[i]?).getD ("", "")).2 = some m))) (fun i => V.str ((ps[i]?).getD ("", "")).2) (fun H' s => s.seq ha) (fun i H' R hi s hR => ?_) (fun i H' R hi s hR => ?_) (fun D H' hD s hL => ?_)
    · obtain ⟨p, q', hp, e, hq⟩ := (hP.same s).at (List.getElem?_eq_getElem hi)
      rw [List.getElem?_eq_getElem hi, Option.getD_some, e]
      rw [hp, Option.getD_some] at hR
      have hS' := s _ _ hS
      try simp only [tSeq, tAsg, tOp, tUn, tVar, tC, tRet, tRetN, tDrop, tNext, tIfS, tNever, gName, tCons, tNil, tCall, tCB, tAndV, tOrV, tNotV, tAnd, tOr, tNot, tTest, tB, tIf, tChain, tLst, tTup, tSl, tNoPart, tPart, tBM, tBM0, tFor_eq, iList, iTup, iRng1, iRng2, iStr, tYes, tDNewK, tDisp, tPairs, List.getElem?_cons_zero, List.getElem?_cons_succ, List.set_cons_zero, List.set_cons_succ, List.append_nil, List.nil_append, List.cons_append, exSlot, exBl, exInt, exStr, exRef, rI_int, rI0_int, rU_int, rAddA_int, rAddA_str, rInA_str, rNotInA_str, rLenA_str, rSlA_str, rIx_str, CMul, CDiv, CPow, rIsi_str_str, rIsi_bl_bool, tComp_eq, ite_tt, ite_ft, ite_tf, ite_ff, decide_eq_true_eq, Bool.not_eq_true', decide_eq_false_iff_not, decide_true, decide_false, rEqH_str, rEqH_int, rEqH_bl, rNeH_str, rNeH_int, rStarts_at, rEnds_at, rFind_at, rSplit_at, rPart_at, tyV_str, rInt1_bl, rInt1_int, gTup, gCons, gNil, gSub, rIsN_ref, rIsN_non, rIsN_str, rNotN_ref, rNotN_non, tDGet, tDIn, tDNotIn, sDPut, tDGet1, tDGet2, tFld, sFld, tMeth, tMake, tCMeth, rLtA_int, rLtA_str, spMix_at]
      refine rIx_tup (SqT.of hq) (v := .str p.1) rfl ?_
      try simp only [tSeq, tAsg, tOp, tUn, tVar, tC, tRet, tRetN, tDrop, tNext, tIfS, tNever, gName, tCons, tNil, tCall, tCB, tAndV, tOrV, tNotV, tAnd, tOr, tNot, tTest, tB, tIf, tChain, tLst, tTup, tSl, tNoPart, tPart, tBM, tBM0, tFor_eq, iList, iTup, iRng1, iRng2, iStr, tYes, tDNewK, tDisp, tPairs, List.getElem?_cons_zero, List.getElem?_cons_succ, List.set_cons_zero, List.set_cons_succ, List.append_nil, List.nil_append, List.cons_append, exSlot, exBl, exInt, exStr, exRef, rI_int, rI0_int, rU_int, rAddA_int, rAddA_str, rInA_str, rNotInA_str, rLenA_str, rSlA_str, rIx_str, CMul, CDiv, CPow, rIsi_str_str, rIsi_bl_bool, tComp_eq, ite_tt, ite_ft, ite_tf, ite_ff, decide_eq_true_eq, Bool.not_eq_true', decide_eq_false_iff_not, decide_true, decide_false, rEqH_str, rEqH_int, rEqH_bl, rNeH_str, rNeH_int, rStarts_at, rEnds_at, rFind_at, rSplit_at, rPart_at, tyV_str, rInt1_bl, rInt1_int, gTup, gCons, gNil, gSub, rIsN_ref, rIsN_non, rIsN_str, rNotN_ref, rNotN_non, tDGet, tDIn, tDNotIn, sDPut, tDGet1, tDGet2, tFld, sFld, tMeth, tMake, tCMeth, rLtA_int, rLtA_str, spMix_at]
      by_cases c1 : p.1 = x
      · rw [if_pos (by simpa using c1)]
        rw [decide_eq_true c1, Bool.true_and] at hR
        refine ⟨isD_of hS', rIx_tup (SqT.of hq) (v := .str p.2) rfl ⟨_, dask hS' p.2, ⟨S, _, rfl, dget hS' hx, ?_⟩⟩⟩
        try simp only [tSeq, tAsg, tOp, tUn, tVar, tC, tRet, tRetN, tDrop, tNext, tIfS, tNever, gName, tCons, tNil, tCall, tCB, tAndV, tOrV, tNotV, tAnd, tOr, tNot, tTest, tB, tIf, tChain, tLst, tTup, tSl, tNoPart, tPart, tBM, tBM0, tFor_eq, iList, iTup, iRng1, iRng2, iStr, tYes, tDNewK, tDisp, tPairs, List.getElem?_cons_zero, List.getElem?_cons_succ, List.set_cons_zero, List.set_cons_succ, List.append_nil, List.nil_append, List.cons_append, exSlot, exBl, exInt, exStr, exRef, rI_int, rI0_int, rU_int, rAddA_int, rAddA_str, rInA_str, rNotInA_str, rLenA_str, rSlA_str, rIx_str, CMul, CDiv, CPow, rIsi_str_str, rIsi_bl_bool, tComp_eq, ite_tt, ite_ft, ite_tf, ite_ff, decide_eq_true_eq, Bool.not_eq_true', decide_eq_false_iff_not, decide_true, decide_false, rEqH_str, rEqH_int, rEqH_bl, rNeH_str, rNeH_int, rStarts_at, rEnds_at, rFind_at, rSplit_at, rPart_at, tyV_str, rInt1_bl, rInt1_int, gTup, gCons, gNil, gSub, rIsN_ref, rIsN_non, rIsN_str, rNotN_ref, rNotN_non, tDGet, tDIn, tDNotIn, sDPut, tDGet1, tDGet2, tFld, sFld, tMeth, tMake, tCMeth, rLtA_int, rLtA_str, spMix_at]
        cases e2 : lk F p.2 with
        | none =>
          rw [e2, decide_eq_false (by simp)] at hR
          show rEqH K V.non (V.int _) H' _
          exact rEqH_non_int ⟨_, rfl, hR _ (Same.refl _)⟩
        | some k =>
          rw [e2] at hR
          show rEqH K (V.int k) (V.int _) H' _
          try simp only [tSeq, tAsg, tOp, tUn, tVar, tC, tRet, tRetN, tDrop, tNext, tIfS, tNever, gName, tCons, tNil, tCall, tCB, tAndV, tOrV, tNotV, tAnd, tOr, tNot, tTest, tB, tIf, tChain, tLst, tTup, tSl, tNoPart, tPart, tBM, tBM0, tFor_eq, iList, iTup, iRng1, iRng2, iStr, tYes, tDNewK, tDisp, tPairs, List.getElem?_cons_zero, List.getElem?_cons_succ, List.set_cons_zero, List.set_cons_succ, List.append_nil, List.nil_append, List.cons_append, exSlot, exBl, exInt, exStr, exRef, rI_int, rI0_int, rU_int, rAddA_int, rAddA_str, rInA_str, rNotInA_str, rLenA_str, rSlA_str, rIx_str, CMul, CDiv, CPow, rIsi_str_str, rIsi_bl_bool, tComp_eq, ite_tt, ite_ft, ite_tf, ite_ff, decide_eq_true_eq, Bool.not_eq_true', decide_eq_false_iff_not, decide_true, decide_false, rEqH_str, rEqH_int, rEqH_bl, rNeH_str, rNeH_int, rStarts_at, rEnds_at, rFind_at, rSplit_at, rPart_at, tyV_str, rInt1_bl, rInt1_int, gTup, gCons, gNil, gSub, rIsN_ref, rIsN_non, rIsN_str, rNotN_ref, rNotN_non, tDGet, tDIn, tDNotIn, sDPut, tDGet1, tDGet2, tFld, sFld, tMeth, tMake, tCMeth, rLtA_int, rLtA_str, spMix_at]
          have : decide ((k : Int) = ((m + 1 : Nat) : Int) - 1) = decide (some k = some m) := by
            rw [Bool.eq_iff_iff, decide_eq_true_eq, decide_eq_true_eq, Option.some.injEq]
            constructor <;> intro h <;> omega
          rw [this]
          exact hR _ (Same.refl _)
      · rw [if_neg (by simpa using c1)]
        rw [decide_eq_false c1, Bool.false_and] at hR
        exact hR _ (Same.refl _)
    · obtain ⟨p, q', hp, e, hq⟩ := (hP.same s).at (List.getElem?_eq_getElem hi)
      rw [List.getElem?_eq_getElem hi, Option.getD_some, e]
      rw [hp, Option.getD_some] at hR
      try simp only [tSeq, tAsg, tOp, tUn, tVar, tC, tRet, tRetN, tDrop, tNext, tIfS, tNever, gName, tCons, tNil, tCall, tCB, tAndV, tOrV, tNotV, tAnd, tOr, tNot, tTest, tB, tIf, tChain, tLst, tTup, tSl, tNoPart, tPart, tBM, tBM0, tFor_eq, iList, iTup, iRng1, iRng2, iStr, tYes, tDNewK, tDisp, tPairs, List.getElem?_cons_zero, List.getElem?_cons_succ, List.set_cons_zero, List.set_cons_succ, List.append_nil, List.nil_append, List.cons_append, exSlot, exBl, exInt, exStr, exRef, rI_int, rI0_int, rU_int, rAddA_int, rAddA_str, rInA_str, rNotInA_str, rLenA_str, rSlA_str, rIx_str, CMul, CDiv, CPow, rIsi_str_str, rIsi_bl_bool, tComp_eq, ite_tt, ite_ft, ite_tf, ite_ff, decide_eq_true_eq, Bool.not_eq_true', decide_eq_false_iff_not, decide_true, decide_false, rEqH_str, rEqH_int, rEqH_bl, rNeH_str, rNeH_int, rStarts_at, rEnds_at, rFind_at, rSplit_at, rPart_at, tyV_str, rInt1_bl, rInt1_int, gTup, gCons, gNil, gSub, rIsN_ref, rIsN_non, rIsN_str, rNotN_ref, rNotN_non, tDGet, tDIn, tDNotIn, sDPut, tDGet1, tDGet2, tFld, sFld, tMeth, tMake, tCMeth, rLtA_int, rLtA_str, spMix_at]
      exact rIx_tup (SqT.of hq) (v := .str p.2) rfl (hR _ (Same.refl _))
    · rw [hP.len, range_filter (("", "") : Str × Str) (fun p => decide (p.1 = x) && decide (lk F p.2 = some m)) (fun p => V.str p.2) ps] at hL
      try simp only [tSeq, tAsg, tOp, tUn, tVar, tC, tRet, tRetN, tDrop, tNext, tIfS, tNever, gName, tCons, tNil, tCall, tCB, tAndV, tOrV, tNotV, tAnd, tOr, tNot, tTest, tB, tIf, tChain, tLst, tTup, tSl, tNoPart, tPart, tBM, tBM0, tFor_eq, iList, iTup, iRng1, iRng2, iStr, tYes, tDNewK, tDisp, tPairs, List.getElem?_cons_zero, List.getElem?_cons_succ, List.set_cons_zero, List.set_cons_succ, List.append_nil, List.nil_append, List.cons_append, exSlot, exBl, exInt, exStr, exRef, rI_int, rI0_int, rU_int, rAddA_int, rAddA_str, rInA_str, rNotInA_str, rLenA_str, rSlA_str, rIx_str, CMul, CDiv, CPow, rIsi_str_str, rIsi_bl_bool, tComp_eq, ite_tt, ite_ft, ite_tf, ite_ff, decide_eq_true_eq, Bool.not_eq_true', decide_eq_false_iff_not, decide_true, decide_false, rEqH_str, rEqH_int, rEqH_bl, rNeH_str, rNeH_int, rStarts_at, rEnds_at, rFind_at, rSplit_at, rPart_at, tyV_str, rInt1_bl, rInt1_int, gTup, gCons, gNil, gSub, rIsN_ref, rIsN_non, rIsN_str, rNotN_ref, rNotN_non, tDGet, tDIn, tDNotIn, sDPut, tDGet1, tDGet2, tFld, sFld, tMeth, tMake, tCMeth, rLtA_int, rLtA_str, spMix_at]
      refine rMin_at (ss := near ps F x m) (SqL.of (by unfold near; rw [List.map_map]; exact hL)) hne (q _ s)
end
end K15
namespace K15
open PySem L2 Tx

section
variable {P : Program} {w : World} {K : PySem.W.Frag} {mg : Str → Option Value} {base : Heap} {t : Adr}
theorem ok_d_steps_to (T : Txt K mg t) : FnOk P w K mg base CX0 1 t.f_d_steps_to t.fd_d_steps_to ["pairs", "other"] (spSteps K) := by
  refine T.F_d_steps_to.ok sc_d_steps_to (fun vs H Q E h => ?_) (fun cdv A outer s H vs Q E hr h => ?_)
  · obtain ⟨a, xs, ps, ls, o, rfl, ha, hP, hW, q⟩ := h; rfl
  · obtain ⟨a, xs, ps, ls, o, rfl, ha, hP, hW, q⟩ := h
    refine ⟨_, (@pss_cons _ _ _ _ _ (@ps_set _ _ (2) _ _ _ _ sc_d_steps_to.nd rfl (by first | exact Or.inl rfl | exact Or.inr rfl) (@pe_disp _ _ _ _ _ (@pps_cons _ _ _ _ _ _ _ _ _ (@pv _ 1 _ _ (by rfl) (by first | exact vis0 rfl | exact vis1 rfl | exact vis2 rfl) (by decide) (by decide)) (@pe_int _ _ _ _) (@pps_nil _ _)) rfl rfl (by simp) (by decide)) (by rfl) (by first | exact Or.inl rfl | exact Or.inr rfl | assumption)) (@pss_cons _ _ _ _ _ (@ps_set _ _ (3) _ _ _ _ sc_d_steps_to.nd rfl (by first | exact Or.inl rfl | exact Or.inr rfl) (@pe_lst _ _ _ _ (@pa_cons _ _ _ _ _ (@pv _ 1 _ _ (by rfl) (by first | exact vis0 rfl | exact vis1 rfl | exact vis2 rfl) (by decide) (by decide)) (@pa_nil _) (by rfl))) (by rfl) (by first | exact Or.inl rfl | exact Or.inr rfl | assumption)) (@pss_cons _ _ _ _ _ (@ps_while _ _ _ _ _ _ PassesOwn.never (@pt_cmpR _ _ _ _ _ _ _ _ op_gt (@pe_callB _ _ _ _ _ _ _ _ _ call_lenA rfl T.z_len boot_lenT (@pa_cons _ _ _ _ _ (@pv _ 3 _ _ (by rfl) (by first | exact vis0 rfl | exact vis1 rfl | exact vis2 rfl) (by decide) (by decide)) (@pa_nil _) (by rfl)) (by decide) (by decide) (by rfl) (by rfl)) (@pe_int _ _ _ _) (nomark _)) (@pss_cons _ _ _ _ _ (@ps_set _ _ (4) _ _ _ _ sc_d_steps_to.nd rfl (by first | exact Or.inl rfl | exact Or.inr rfl) (@pe_lst _ _ _ _ (@pa_nil _)) (by rfl) (by first | exact Or.inl rfl | exact Or.inr rfl | assumption)) (@pss_cons _ _ _ _ _ (@ps_for _ _ _ _ _ _ _ _ PassesOwn.never rfl (@pi_list _ _ _ _ (@pv _ 0 _ _ (by rfl) (by first | exact vis0 rfl | exact vis1 rfl | exact vis2 rfl) (by decide) (by decide))) (@pg_name _ _ (5) _ sc_d_steps_to.nd rfl (by first | exact Or.inl rfl | exact Or.inr rfl) (by first | exact Or.inl rfl | exact Or.inr rfl | assumption)) (@pss_one _ _ _ (@ps_if _ _ _ _ _ _ _ _ (@PW.pt _ _ _ (@pw_and _ _ _ _ _ _ _ (@pt_cmpR _ _ _ _ _ _ _ _ op_inA (@pe_ix _ _ _ _ _ _ _ ix_seq (@pv _ 5 _ _ (by rfl) (by first | exact vis0 rfl | exact vis1 rfl | exact vis2 rfl) (by decide) (by decide)) (@pe_int _ _ _ _) (fun _ _ => rfl)) (@pv _ 3 _ _ (by rfl) (by first | exact vis0 rfl | exact vis1 rfl | exact vis2 rfl) (by decide) (by decide)) (by with_unfolding_all rfl)) (@pw_and1 _ _ _ _ (@pt_cmp _ _ _ _ _ _ (@pc_dnotin _ _ _ _ _ (hu_of hr) (@pe_ix _ _ _ _ _ _ _ ix_seq (@pv _ 5 _ _ (by rfl) (by first | exact vis0 rfl | exact vis1 rfl | exact vis2 rfl) (by decide) (by decide)) (@pe_int _ _ _ _) (fun _ _ => rfl)) (@pv _ 2 _ _ (by rfl) (by first | exact vis0 rfl | exact vis1 rfl | exact vis2 rfl) (by decide) (by decide))) (by with_unfolding_all rfl))))) (@pss_cons _ _ _ _ _ (@ps_dput _ _ _ _ _ _ _ _ _ (hu_of hr) (@pv _ 2 _ _ (by rfl) (by first | exact vis0 rfl | exact vis1 rfl | exact vis2 rfl) (by decide) (by decide)) (@pe_ix _ _ _ _ _ _ _ ix_seq (@pv _ 5 _ _ (by rfl) (by first | exact vis0 rfl | exact vis1 rfl | exact vis2 rfl) (by decide) (by decide)) (@pe_int _ _ _ _) (fun _ _ => rfl)) (@pe_op _ _ _ _ _ _ _ _ op_addA (@pe_dget _ _ _ _ _ _ (hu_of hr) (@pv _ 2 _ _ (by rfl) (by first | exact vis0 rfl | exact vis1 rfl | exact vis2 rfl) (by decide) (by decide)) (@pe_ix _ _ _ _ _ _ _ ix_seq (@pv _ 5 _ _ (by rfl) (by first | exact vis0 rfl | exact vis1 rfl | exact vis2 rfl) (by decide) (by decide)) (@pe_int _ _ _ _) (fun _ _ => rfl)) (fun _ _ => rfl)) (@pe_int _ _ _ _)) rfl) (@pss_one _ _ _ (@ps_expr _ _ _ _ (@pe_bm _ _ _ _ _ _ _ _ _ _ _ _ PySem.F.plainAttrs_list PySem.F.slot_list_append PySem.F.type_list_append mt_append (@pv _ 4 _ _ (by rfl) (by first | exact vis0 rfl | exact vis1 rfl | exact vis2 rfl) (by decide) (by decide)) (@pa_cons _ _ _ _ _ (@pe_ix _ _ _ _ _ _ _ ix_seq (@pv _ 5 _ _ (by rfl) (by first | exact vis0 rfl | exact vis1 rfl | exact vis2 rfl) (by decide) (by decide)) (@pe_int _ _ _ _) (fun _ _ => rfl)) (@pa_nil _) (by rfl)) (by rfl) (by rfl) (by rfl) (by rfl) (by rfl)) (by rfl)))) (@pss_nil _))) (by intro _ ; rfl)) (@pss_one _ _ _ (@ps_set _ _ (3) _ _ _ _ sc_d_steps_to.nd rfl (by first | exact Or.inl rfl | exact Or.inr rfl) (@pv _ 4 _ _ (by rfl) (by first | exact vis0 rfl | exact vis1 rfl | exact vis2 rfl) (by decide) (by decide)) (by rfl) (by first | exact Or.inl rfl | exact Or.inr rfl | assumption)))))) (@pss_one _ _ _ (@ps_ret _ _ _ _ (@pv _ 2 _ _ (by rfl) (by first | exact vis0 rfl | exact vis1 rfl | exact vis2 rfl) (by decide) (by decide))))))), ?_⟩
    rw [show start n_d_steps_to [V.ref a, V.str o] = [some (V.ref a), some (V.str o), none, none, none, none] from rfl]
    try simp only [tSeq, tAsg, tOp, tUn, tVar, tC, tRet, tRetN, tDrop, tNext, tIfS, tNever, gName, tCons, tNil, tCall, tCB, tAndV, tOrV, tNotV, tAnd, tOr, tNot, tTest, tB, tIf, tChain, tLst, tTup, tSl, tNoPart, tPart, tBM, tBM0, tFor_eq, iList, iTup, iRng1, iRng2, iStr, tYes, tDNewK, tDisp, tPairs, List.getElem?_cons_zero, List.getElem?_cons_succ, List.set_cons_zero, List.set_cons_succ, List.append_nil, List.nil_append, List.cons_append, exSlot, exBl, exInt, exStr, exRef, rI_int, rI0_int, rU_int, rAddA_int, rAddA_str, rInA_str, rNotInA_str, rLenA_str, rSlA_str, rIx_str, CMul, CDiv, CPow, rIsi_str_str, rIsi_bl_bool, tComp_eq, ite_tt, ite_ft, ite_tf, ite_ff, decide_eq_true_eq, Bool.not_eq_true', decide_eq_false_iff_not, decide_true, decide_false, rEqH_str, rEqH_int, rEqH_bl, rNeH_str, rNeH_int, rStarts_at, rEnds_at, rFind_at, rSplit_at, rPart_at, tyV_str, rInt1_bl, rInt1_int, gTup, gCons, gNil, gSub, rIsN_ref, rIsN_non, rIsN_str, rNotN_ref, rNotN_non, tDGet, tDIn, tDNotIn, sDPut, tDGet1, tDGet2, tFld, sFld, tMeth, tMake, tCMeth, rLtA_int, rLtA_str, spMix_at]
    intro S hS
    refine ⟨upd_same, [(Sum.inr o, V.int 0)], rfl, by simp, ?_⟩
    obtain ⟨H1, e1, s1, h1⟩ : ∃ H', upd (upd H S (.dK [])) S (.dK (mergeK [] [(Sum.inr o, V.int 0)])) = H' ∧ Same H H' ∧ H' S = some (.dK (dv (dD ps o 0))) := ⟨_, rfl, fun b u e => by rw [upd_ne (ne_of_none e hS), upd_ne (ne_of_none e hS)]; exact e, upd_same⟩
    rw [e1]
    refine ⟨by simp only [List.length_cons, List.length_nil]; decide, fun R0 hR0 => ?_⟩
    have hRS : R0 ≠ S := fun z => by rw [z, h1] at hR0; cases hR0
    refine while_w (fun m σ H' => ∃ (n : Nat) (r : List Str) (R : Addr) (fr pr : Option V), m = ls.length + 2 - n ∧ σ = [some (V.ref a), some (V.str o), some (V.ref S), some (V.ref R), fr, pr] ∧ Same H H' ∧ H' S = some (.dK (dv (dD ps o n))) ∧ H' R = some (.lst (r.map V.str)) ∧ (∀ x, x ∈ r ↔ lk (dD ps o n) x = some n))
      (ls.length + 2) ⟨0, [o], R0, _, _, rfl, rfl, ?_, ?_, ?_, ?_⟩ ?_
    · intro b u e
      rw [upd_ne (ne_of_none (s1 b u e) hR0)]; exact s1 b u e
    · rw [upd_ne hRS.symm]; exact h1
    · exact upd_same
    · intro x
      rw [List.mem_singleton]
      constructor
      · rintro rfl; simp [dD, lk]
      · intro e; exact (Ok.at' hW.1 0).zer _ (lk_mem e) rfl
    rintro m σ H2 ⟨n, r, R, fr, pr, rfl, rfl, s2, hS2, hR2, hr⟩
    try simp only [tSeq, tAsg, tOp, tUn, tVar, tC, tRet, tRetN, tDrop, tNext, tIfS, tNever, gName, tCons, tNil, tCall, tCB, tAndV, tOrV, tNotV, tAnd, tOr, tNot, tTest, tB, tIf, tChain, tLst, tTup, tSl, tNoPart, tPart, tBM, tBM0, tFor_eq, iList, iTup, iRng1, iRng2, iStr, tYes, tDNewK, tDisp, tPairs, List.getElem?_cons_zero, List.getElem?_cons_succ, List.set_cons_zero, List.set_cons_succ, List.append_nil, List.nil_append, List.cons_append, exSlot, exBl, exInt, exStr, exRef, rI_int, rI0_int, rU_int, rAddA_int, rAddA_str, rInA_str, rNotInA_str, rLenA_str, rSlA_str, rIx_str, CMul, CDiv, CPow, rIsi_str_str, rIsi_bl_bool, tComp_eq, ite_tt, ite_ft, ite_tf, ite_ff, decide_eq_true_eq, Bool.not_eq_true', decide_eq_false_iff_not, decide_true, decide_false, rEqH_str, rEqH_int, rEqH_bl, rNeH_str, rNeH_int, rStarts_at, rEnds_at, rFind_at, rSplit_at, rPart_at, tyV_str, rInt1_bl, rInt1_int, gTup, gCons, gNil, gSub, rIsN_ref, rIsN_non, rIsN_str, rNotN_ref, rNotN_non, tDGet, tDIn, tDNotIn, sDPut, tDGet1, tDGet2, tFld, sFld, tMeth, tMake, tCMeth, rLtA_int, rLtA_str, spMix_at]
    refine rLenA_lst (SqL.of hR2) ?_
    try simp only [tSeq, tAsg, tOp, tUn, tVar, tC, tRet, tRetN, tDrop, tNext, tIfS, tNever, gName, tCons, tNil, tCall, tCB, tAndV, tOrV, tNotV, tAnd, tOr, tNot, tTest, tB, tIf, tChain, tLst, tTup, tSl, tNoPart, tPart, tBM, tBM0, tFor_eq, iList, iTup, iRng1, iRng2, iStr, tYes, tDNewK, tDisp, tPairs, List.getElem?_cons_zero, List.getElem?_cons_succ, List.set_cons_zero, List.set_cons_succ, List.append_nil, List.nil_append, List.cons_append, exSlot, exBl, exInt, exStr, exRef, rI_int, rI0_int, rU_int, rAddA_int, rAddA_str, rInA_str, rNotInA_str, rLenA_str, rSlA_str, rIx_str, CMul, CDiv, CPow, rIsi_str_str, rIsi_bl_bool, tComp_eq, ite_tt, ite_ft, ite_tf, ite_ff, decide_eq_true_eq, Bool.not_eq_true', decide_eq_false_iff_not, decide_true, decide_false, rEqH_str, rEqH_int, rEqH_bl, rNeH_str, rNeH_int, rStarts_at, rEnds_at, rFind_at, rSplit_at, rPart_at, tyV_str, rInt1_bl, rInt1_int, gTup, gCons, gNil, gSub, rIsN_ref, rIsN_non, rIsN_str, rNotN_ref, rNotN_non, tDGet, tDIn, tDNotIn, sDPut, tDGet1, tDGet2, tFld, sFld, tMeth, tMake, tCMeth, rLtA_int, rLtA_str, spMix_at]
    have hK := Ok.at' (o := o) hW.1 n
    refine ite2 (fun c1 => ?_) (fun c1 => ?_)
    · have hrl : 0 < r.length := by simpa using c1
      have hn : n ≤ ls.length := hK.lev ((hr _).mp (List.getElem_mem hrl))
      refine ⟨fun σ' H' => ∃ m', m' < ls.length + 2 - n ∧ ∃ (n : Nat) (r : List Str) (R : Addr) (fr pr : Option V), m' = ls.length + 2 - n ∧ σ' = [some (V.ref a), some (V.str o), some (V.ref S), some (V.ref R), fr, pr] ∧ Same H H' ∧ H' S = some (.dK (dv (dD ps o n))) ∧ H' R = some (.lst (r.map V.str)) ∧ (∀ x, x ∈ r ↔ lk (dD ps o n) x = some n), fun _ _ h => h, ?_⟩
      try simp only [tSeq, tAsg, tOp, tUn, tVar, tC, tRet, tRetN, tDrop, tNext, tIfS, tNever, gName, tCons, tNil, tCall, tCB, tAndV, tOrV, tNotV, tAnd, tOr, tNot, tTest, tB, tIf, tChain, tLst, tTup, tSl, tNoPart, tPart, tBM, tBM0, tFor_eq, iList, iTup, iRng1, iRng2, iStr, tYes, tDNewK, tDisp, tPairs, List.getElem?_cons_zero, List.getElem?_cons_succ, List.set_cons_zero, List.set_cons_succ, List.append_nil, List.nil_append, List.cons_append, exSlot, exBl, exInt, exStr, exRef, rI_int, rI0_int, rU_int, rAddA_int, rAddA_str, rInA_str, rNotInA_str, rLenA_str, rSlA_str, rIx_str, CMul, CDiv, CPow, rIsi_str_str, rIsi_bl_bool, tComp_eq, ite_tt, ite_ft, ite_tf, ite_ff, decide_eq_true_eq, Bool.not_eq_true', decide_eq_false_iff_not, decide_true, decide_false, rEqH_str, rEqH_int, rEqH_bl, rNeH_str, rNeH_int, rStarts_at, rEnds_at, rFind_at, rSplit_at, rPart_at, tyV_str, rInt1_bl, rInt1_int, gTup, gCons, gNil, gSub, rIsN_ref, rIsN_non, rIsN_str, rNotN_ref, rNotN_non, tDGet, tDIn, tDNotIn, sDPut, tDGet1, tDGet2, tFld, sFld, tMeth, tMake, tCMeth, rLtA_int, rLtA_str, spMix_at]
      refine ⟨by decide, fun F hF => ?_⟩
      have hFS : F ≠ S := fun z => by rw [z, hS2] at hF; cases hF
      have hFR : F ≠ R := fun z => by rw [z, hR2] at hF; cases hF
      refine ⟨⟨_, (Same.upd hF).seq (s2.seq ha)⟩, ?_⟩
      refine for_list (K := K) (a := a) (xs := xs) (fun j σ H' => ∃ (pr : Option V), σ = [some (V.ref a), some (V.str o), some (V.ref S), some (V.ref R), some (V.ref F), pr] ∧ Same H H' ∧ H' S = some (.dK (dv (rnd (ps.take j) n (dD ps o n)))) ∧ H' R = some (.lst (r.map V.str)) ∧ H' F = some (.lst ((((rnd (ps.take j) n (dD ps o n)).drop (dD ps o n).length).map (·.1)).map V.str)))
        ⟨_, rfl, ?_, ?_, ?_, ?_⟩ (fun j σ H' _ h => by obtain ⟨_, _, s, _⟩ := h; exact s.seq ha) ?_ ?_
      · intro b u e; rw [upd_ne (ne_of_none (s2 b u e) hF)]; exact s2 b u e
      · rw [upd_ne hFS.symm]; exact hS2
      · rw [upd_ne hFR.symm]; exact hR2
      · rw [upd_same]; simp [rnd]
      · rintro j x σ H3 hj ⟨pr, rfl, s3, hS3, hR3, hF3⟩
        obtain ⟨p, q', hpj, rfl, hq⟩ := (hP.same s3).at hj
        have hjl : j < ps.length := (List.getElem?_eq_some_iff.mp hpj).1
        have hpm : p ∈ ps := List.mem_of_getElem? hpj
        have et : rnd (ps.take (j + 1)) n (dD ps o n) = stp n (rnd (ps.take j) n (dD ps o n)) p := by
          unfold rnd
          rw [List.take_succ, hpj, List.foldl_append]; rfl
        rw [et]
        obtain ⟨ex, hx1, hx2⟩ := rnd_app (ps := ps.take j) n (dD ps o n)
        have hKj : Ok ps ls o (rnd (ps.take j) n (dD ps o n)) := hK.goR n (fun p h => List.mem_of_mem_take h) hW.1
        have hlen := hKj.len
        generalize rnd (ps.take j) n (dD ps o n) = dj at hS3 hF3 hx1 hKj hlen
        have hlv : lk dj p.2 = some n ↔ p.2 ∈ r := by
          rw [hr]
          constructor
          · intro e
            have := lk_mem e
            rw [hx1] at this
            rcases List.mem_append.mp this with z | z
            · exact lk_of hK.nd z
            · have := hx2 _ z; simp at this
          · intro e
            have := lk_of hKj.nd (p := (p.2, n)) (by rw [hx1]; exact List.mem_append_left _ (lk_mem e))
            exact this
        try simp only [tSeq, tAsg, tOp, tUn, tVar, tC, tRet, tRetN, tDrop, tNext, tIfS, tNever, gName, tCons, tNil, tCall, tCB, tAndV, tOrV, tNotV, tAnd, tOr, tNot, tTest, tB, tIf, tChain, tLst, tTup, tSl, tNoPart, tPart, tBM, tBM0, tFor_eq, iList, iTup, iRng1, iRng2, iStr, tYes, tDNewK, tDisp, tPairs, List.getElem?_cons_zero, List.getElem?_cons_succ, List.set_cons_zero, List.set_cons_succ, List.append_nil, List.nil_append, List.cons_append, exSlot, exBl, exInt, exStr, exRef, rI_int, rI0_int, rU_int, rAddA_int, rAddA_str, rInA_str, rNotInA_str, rLenA_str, rSlA_str, rIx_str, CMul, CDiv, CPow, rIsi_str_str, rIsi_bl_bool, tComp_eq, ite_tt, ite_ft, ite_tf, ite_ff, decide_eq_true_eq, Bool.not_eq_true', decide_eq_false_iff_not, decide_true, decide_false, rEqH_str, rEqH_int, rEqH_bl, rNeH_str, rNeH_int, rStarts_at, rEnds_at, rFind_at, rSplit_at, rPart_at, tyV_str, rInt1_bl, rInt1_int, gTup, gCons, gNil, gSub, rIsN_ref, rIsN_non, rIsN_str, rNotN_ref, rNotN_non, tDGet, tDIn, tDNotIn, sDPut, tDGet1, tDGet2, tFld, sFld, tMeth, tMake, tCMeth, rLtA_int, rLtA_str, spMix_at]
        refine rIx_tup (SqT.of hq) (v := .str p.2) rfl (rIn_lst (SqL.of hR3) ?_)
        try simp only [tSeq, tAsg, tOp, tUn, tVar, tC, tRet, tRetN, tDrop, tNext, tIfS, tNever, gName, tCons, tNil, tCall, tCB, tAndV, tOrV, tNotV, tAnd, tOr, tNot, tTest, tB, tIf, tChain, tLst, tTup, tSl, tNoPart, tPart, tBM, tBM0, tFor_eq, iList, iTup, iRng1, iRng2, iStr, tYes, tDNewK, tDisp, tPairs, List.getElem?_cons_zero, List.getElem?_cons_succ, List.set_cons_zero, List.set_cons_succ, List.append_nil, List.nil_append, List.cons_append, exSlot, exBl, exInt, exStr, exRef, rI_int, rI0_int, rU_int, rAddA_int, rAddA_str, rInA_str, rNotInA_str, rLenA_str, rSlA_str, rIx_str, CMul, CDiv, CPow, rIsi_str_str, rIsi_bl_bool, tComp_eq, ite_tt, ite_ft, ite_tf, ite_ff, decide_eq_true_eq, Bool.not_eq_true', decide_eq_false_iff_not, decide_true, decide_false, rEqH_str, rEqH_int, rEqH_bl, rNeH_str, rNeH_int, rStarts_at, rEnds_at, rFind_at, rSplit_at, rPart_at, tyV_str, rInt1_bl, rInt1_int, gTup, gCons, gNil, gSub, rIsN_ref, rIsN_non, rIsN_str, rNotN_ref, rNotN_non, tDGet, tDIn, tDNotIn, sDPut, tDGet1, tDGet2, tFld, sFld, tMeth, tMake, tCMeth, rLtA_int, rLtA_str, spMix_at]
        have hSF : S ≠ F := hFS.symm
        have hwl := hW.2.1
        refine ite2 (fun c2 => ?_) (fun c2 => ?_)
        · have hlp : lk dj p.2 = some n := hlv.mpr (by simpa using c2)
          refine rIx_tup (SqT.of hq) (v := .str p.1) rfl ⟨S, _, rfl, dask hS3 p.1, ?_⟩
          try simp only [tSeq, tAsg, tOp, tUn, tVar, tC, tRet, tRetN, tDrop, tNext, tIfS, tNever, gName, tCons, tNil, tCall, tCB, tAndV, tOrV, tNotV, tAnd, tOr, tNot, tTest, tB, tIf, tChain, tLst, tTup, tSl, tNoPart, tPart, tBM, tBM0, tFor_eq, iList, iTup, iRng1, iRng2, iStr, tYes, tDNewK, tDisp, tPairs, List.getElem?_cons_zero, List.getElem?_cons_succ, List.set_cons_zero, List.set_cons_succ, List.append_nil, List.nil_append, List.cons_append, exSlot, exBl, exInt, exStr, exRef, rI_int, rI0_int, rU_int, rAddA_int, rAddA_str, rInA_str, rNotInA_str, rLenA_str, rSlA_str, rIx_str, CMul, CDiv, CPow, rIsi_str_str, rIsi_bl_bool, tComp_eq, ite_tt, ite_ft, ite_tf, ite_ff, decide_eq_true_eq, Bool.not_eq_true', decide_eq_false_iff_not, decide_true, decide_false, rEqH_str, rEqH_int, rEqH_bl, rNeH_str, rNeH_int, rStarts_at, rEnds_at, rFind_at, rSplit_at, rPart_at, tyV_str, rInt1_bl, rInt1_int, gTup, gCons, gNil, gSub, rIsN_ref, rIsN_non, rIsN_str, rNotN_ref, rNotN_non, tDGet, tDIn, tDNotIn, sDPut, tDGet1, tDGet2, tFld, sFld, tMeth, tMake, tCMeth, rLtA_int, rLtA_str, spMix_at]
          refine ite2 (fun c3 => ?_) (fun c3 => ?_)
          · have hno : lk dj p.1 = none := by
              cases e : lk dj p.1 with
              | none => rfl
              | some m => rw [e] at c3; simp at c3
            refine rIx_tup (SqT.of hq) (v := .str p.2) rfl ⟨S, _, rfl, dget hS3 hlp, ?_⟩
            try simp only [tSeq, tAsg, tOp, tUn, tVar, tC, tRet, tRetN, tDrop, tNext, tIfS, tNever, gName, tCons, tNil, tCall, tCB, tAndV, tOrV, tNotV, tAnd, tOr, tNot, tTest, tB, tIf, tChain, tLst, tTup, tSl, tNoPart, tPart, tBM, tBM0, tFor_eq, iList, iTup, iRng1, iRng2, iStr, tYes, tDNewK, tDisp, tPairs, List.getElem?_cons_zero, List.getElem?_cons_succ, List.set_cons_zero, List.set_cons_succ, List.append_nil, List.nil_append, List.cons_append, exSlot, exBl, exInt, exStr, exRef, rI_int, rI0_int, rU_int, rAddA_int, rAddA_str, rInA_str, rNotInA_str, rLenA_str, rSlA_str, rIx_str, CMul, CDiv, CPow, rIsi_str_str, rIsi_bl_bool, tComp_eq, ite_tt, ite_ft, ite_tf, ite_ff, decide_eq_true_eq, Bool.not_eq_true', decide_eq_false_iff_not, decide_true, decide_false, rEqH_str, rEqH_int, rEqH_bl, rNeH_str, rNeH_int, rStarts_at, rEnds_at, rFind_at, rSplit_at, rPart_at, tyV_str, rInt1_bl, rInt1_int, gTup, gCons, gNil, gSub, rIsN_ref, rIsN_non, rIsN_str, rNotN_ref, rNotN_non, tDGet, tDIn, tDNotIn, sDPut, tDGet1, tDGet2, tFld, sFld, tMeth, tMake, tCMeth, rLtA_int, rLtA_str, spMix_at]
            refine rIx_tup (SqT.of hq) (v := .str p.1) rfl ⟨S, _, rfl, dput hS3 hno (by omega) (n + 1), ?_⟩
            have hq' : q' ≠ S := ne_of hq hS3 (by intro z; cases z)
            have hF' : upd H3 S (.dK (dv (dj ++ [(p.1, n + 1)]))) F = some (.lst ((((dj.drop (dD ps o n).length).map (·.1))).map V.str)) := by rw [upd_ne hFS]; exact hF3
            try simp only [tSeq, tAsg, tOp, tUn, tVar, tC, tRet, tRetN, tDrop, tNext, tIfS, tNever, gName, tCons, tNil, tCall, tCB, tAndV, tOrV, tNotV, tAnd, tOr, tNot, tTest, tB, tIf, tChain, tLst, tTup, tSl, tNoPart, tPart, tBM, tBM0, tFor_eq, iList, iTup, iRng1, iRng2, iStr, tYes, tDNewK, tDisp, tPairs, List.getElem?_cons_zero, List.getElem?_cons_succ, List.set_cons_zero, List.set_cons_succ, List.append_nil, List.nil_append, List.cons_append, exSlot, exBl, exInt, exStr, exRef, rI_int, rI0_int, rU_int, rAddA_int, rAddA_str, rInA_str, rNotInA_str, rLenA_str, rSlA_str, rIx_str, CMul, CDiv, CPow, rIsi_str_str, rIsi_bl_bool, tComp_eq, ite_tt, ite_ft, ite_tf, ite_ff, decide_eq_true_eq, Bool.not_eq_true', decide_eq_false_iff_not, decide_true, decide_false, rEqH_str, rEqH_int, rEqH_bl, rNeH_str, rNeH_int, rStarts_at, rEnds_at, rFind_at, rSplit_at, rPart_at, tyV_str, rInt1_bl, rInt1_int, gTup, gCons, gNil, gSub, rIsN_ref, rIsN_non, rIsN_str, rNotN_ref, rNotN_non, tDGet, tDIn, tDNotIn, sDPut, tDGet1, tDGet2, tFld, sFld, tMeth, tMake, tCMeth, rLtA_int, rLtA_str, spMix_at]
            refine ⟨.inl ⟨rfl, _, SqL.of hF'⟩, rIx_tup (SqT.of (by rw [upd_ne hq']; exact hq)) (v := .str p.1) rfl ⟨F, _, _, rfl, rfl, hF', Nat.lt_of_le_of_lt (show _ ≤ 2000 by simp; omega) (by decide), ?_⟩⟩
            refine ⟨_, rfl, ?_, ?_, ?_, ?_⟩
            · intro b u e
              rw [upd_ne (ne_of_none (s2 b u e) hF), upd_ne (ne_of_none e hS)]; exact s3 b u e
            · rw [upd_ne hSF, upd_same]; unfold stp; rw [if_pos ⟨hlp, hno⟩]
            · rw [upd_ne hFR.symm, upd_ne (ne_of hR3 hS3 (by intro z; cases z))]; exact hR3
            · rw [upd_same]; unfold stp; rw [if_pos ⟨hlp, hno⟩, List.drop_append_of_le_length (by rw [hx1]; simp)]; simp
          · refine ⟨_, rfl, s3, ?_, hR3, ?_⟩
            · unfold stp; rw [if_neg (fun z => c3 (by rw [z.2]; rfl))]; exact hS3
            · unfold stp; rw [if_neg (fun z => c3 (by rw [z.2]; rfl))]; exact hF3
        · refine ⟨_, rfl, s3, ?_, hR3, ?_⟩
          · unfold stp; rw [if_neg (fun z => c2 (by simpa using hlv.mp z.1))]; exact hS3
          · unfold stp; rw [if_neg (fun z => c2 (by simpa using hlv.mp z.1))]; exact hF3
      · rintro σ H3 ⟨pr, rfl, s3, hS3, hR3, hF3⟩
        rw [hP.len, List.take_length] at hS3 hF3
        obtain ⟨ex, hx1, hx2⟩ := rnd_app (ps := ps) n (dD ps o n)
        have hK1 := Ok.at' (o := o) hW.1 (n + 1)
        try simp only [tSeq, tAsg, tOp, tUn, tVar, tC, tRet, tRetN, tDrop, tNext, tIfS, tNever, gName, tCons, tNil, tCall, tCB, tAndV, tOrV, tNotV, tAnd, tOr, tNot, tTest, tB, tIf, tChain, tLst, tTup, tSl, tNoPart, tPart, tBM, tBM0, tFor_eq, iList, iTup, iRng1, iRng2, iStr, tYes, tDNewK, tDisp, tPairs, List.getElem?_cons_zero, List.getElem?_cons_succ, List.set_cons_zero, List.set_cons_succ, List.append_nil, List.nil_append, List.cons_append, exSlot, exBl, exInt, exStr, exRef, rI_int, rI0_int, rU_int, rAddA_int, rAddA_str, rInA_str, rNotInA_str, rLenA_str, rSlA_str, rIx_str, CMul, CDiv, CPow, rIsi_str_str, rIsi_bl_bool, tComp_eq, ite_tt, ite_ft, ite_tf, ite_ff, decide_eq_true_eq, Bool.not_eq_true', decide_eq_false_iff_not, decide_true, decide_false, rEqH_str, rEqH_int, rEqH_bl, rNeH_str, rNeH_int, rStarts_at, rEnds_at, rFind_at, rSplit_at, rPart_at, tyV_str, rInt1_bl, rInt1_int, gTup, gCons, gNil, gSub, rIsN_ref, rIsN_non, rIsN_str, rNotN_ref, rNotN_non, tDGet, tDIn, tDNotIn, sDPut, tDGet1, tDGet2, tFld, sFld, tMeth, tMake, tCMeth, rLtA_int, rLtA_str, spMix_at]
        refine ⟨ls.length + 2 - (n + 1), by omega, n + 1, _, F, _, _, rfl, rfl, s3, hS3, hF3, fun x => ?_⟩
        rw [hx1, List.drop_left]
        have hx3 : dD ps o (n + 1) = dD ps o n ++ ex := hx1
        constructor
        · intro h
          obtain ⟨p, hp, rfl⟩ := List.mem_map.mp h
          have := lk_of hK1.nd (p := p) (by rw [hx3]; exact List.mem_append_right _ hp)
          rw [this, hx2 p hp]
        · intro e
          have := lk_mem e
          rw [hx3] at this
          rcases List.mem_append.mp this with z | z
          · have := dD_top ps o n _ z; simp at this; omega
          · exact List.mem_map.mpr ⟨_, z, rfl⟩
    · have hr0 : r = [] := by
        cases r with
        | nil => rfl
        | cons x r => simp at c1
      have hno : ∀ x, lk (dD ps o n) x ≠ some n := fun x e => by
        have := (hr x).mpr e
        rw [hr0] at this; cases this
      rw [dD_stop hW.1 hno] at hS2
      try simp only [tSeq, tAsg, tOp, tUn, tVar, tC, tRet, tRetN, tDrop, tNext, tIfS, tNever, gName, tCons, tNil, tCall, tCB, tAndV, tOrV, tNotV, tAnd, tOr, tNot, tTest, tB, tIf, tChain, tLst, tTup, tSl, tNoPart, tPart, tBM, tBM0, tFor_eq, iList, iTup, iRng1, iRng2, iStr, tYes, tDNewK, tDisp, tPairs, List.getElem?_cons_zero, List.getElem?_cons_succ, List.set_cons_zero, List.set_cons_succ, List.append_nil, List.nil_append, List.cons_append, exSlot, exBl, exInt, exStr, exRef, rI_int, rI0_int, rU_int, rAddA_int, rAddA_str, rInA_str, rNotInA_str, rLenA_str, rSlA_str, rIx_str, CMul, CDiv, CPow, rIsi_str_str, rIsi_bl_bool, tComp_eq, ite_tt, ite_ft, ite_tf, ite_ff, decide_eq_true_eq, Bool.not_eq_true', decide_eq_false_iff_not, decide_true, decide_false, rEqH_str, rEqH_int, rEqH_bl, rNeH_str, rNeH_int, rStarts_at, rEnds_at, rFind_at, rSplit_at, rPart_at, tyV_str, rInt1_bl, rInt1_int, gTup, gCons, gNil, gSub, rIsN_ref, rIsN_non, rIsN_str, rNotN_ref, rNotN_non, tDGet, tDIn, tDNotIn, sDPut, tDGet1, tDGet2, tFld, sFld, tMeth, tMake, tCMeth, rLtA_int, rLtA_str, spMix_at]
      exact q S H2 hS s2 hS2
end
end K15
namespace K15
open PySem L2 Tx

section
variable {P : Program} {w : World} {K : PySem.W.Frag} {mg : Str → Option Value} {base : Heap} {t : Adr}
theorem ok_d_road (T : Txt K mg t) : FnOk P w K mg base CX0 3 t.f_d_road t.fd_d_road ["pairs", "one", "other"] (spRoad K) := by
  refine T.F_d_road.ok sc_d_road (fun vs H Q E h => ?_) (fun cdv A outer s H vs Q E hr h => ?_)
  · obtain ⟨a, xs, ps, ls, one, o, rfl, ha, hP, hW, q⟩ := h; rfl
  · obtain ⟨a, xs, ps, ls, one, o, rfl, ha, hP, hW, q⟩ := h
    refine ⟨_, (@pss_cons _ _ _ _ _ (@ps_set _ _ (3) _ _ _ _ sc_d_road.nd rfl (by first | exact Or.inl rfl | exact Or.inr rfl) (@pe_call _ _ _ _ _ _ _ _ _ _ _ _ _ _ _ _ (ok_d_steps_to T) (hr.mono (by decide)) rfl T.g_d_steps_to T.F_d_steps_to.kp T.b_d_steps_to .nil pass0 (@pa_cons _ _ _ _ _ (@pv _ 0 _ _ (by rfl) (by first | exact vis0 rfl | exact vis1 rfl | exact vis2 rfl) (by decide) (by decide)) (@pa_cons _ _ _ _ _ (@pv _ 2 _ _ (by rfl) (by first | exact vis0 rfl | exact vis1 rfl | exact vis2 rfl) (by decide) (by decide)) (@pa_nil _) (by rfl)) (by rfl)) (by decide) (by rfl) (by rfl)) (by rfl) (by first | exact Or.inl rfl | exact Or.inr rfl | assumption)) (@pss_cons _ _ _ _ _ (@ps_if _ _ _ _ _ _ _ _ (@pt_cmp _ _ _ _ _ _ (@pc_dnotin _ _ _ _ _ (hu_of hr) (@pv _ 1 _ _ (by rfl) (by first | exact vis0 rfl | exact vis1 rfl | exact vis2 rfl) (by decide) (by decide)) (@pv _ 3 _ _ (by rfl) (by first | exact vis0 rfl | exact vis1 rfl | exact vis2 rfl) (by decide) (by decide))) (by with_unfolding_all rfl)) (@pss_one _ _ _ (@ps_ret _ _ _ _ (@pe_non _ _ _))) (@pss_nil _)) (@pss_cons _ _ _ _ _ (@ps_set _ _ (4) _ _ _ _ sc_d_road.nd rfl (by first | exact Or.inl rfl | exact Or.inr rfl) (@pe_lst _ _ _ _ (@pa_cons _ _ _ _ _ (@pv _ 1 _ _ (by rfl) (by first | exact vis0 rfl | exact vis1 rfl | exact vis2 rfl) (by decide) (by decide)) (@pa_nil _) (by rfl))) (by rfl) (by first | exact Or.inl rfl | exact Or.inr rfl | assumption)) (@pss_cons _ _ _ _ _ (@ps_while _ _ _ _ _ _ PassesOwn.never (@pt_cmpR _ _ _ _ _ _ _ _ (op_neH hr.units) (@pe_ix _ _ _ _ _ _ _ ix_seq (@pv _ 4 _ _ (by rfl) (by first | exact vis0 rfl | exact vis1 rfl | exact vis2 rfl) (by decide) (by decide)) (@pe_un _ _ _ _ _ _ un_neg (@pe_int _ _ _ _)) (fun _ _ => rfl)) (@pv _ 2 _ _ (by rfl) (by first | exact vis0 rfl | exact vis1 rfl | exact vis2 rfl) (by decide) (by decide)) (nomark _)) (@pss_one _ _ _ (@ps_expr _ _ _ _ (@pe_bm _ _ _ _ _ _ _ _ _ _ _ _ PySem.F.plainAttrs_list PySem.F.slot_list_append PySem.F.type_list_append mt_append (@pv _ 4 _ _ (by rfl) (by first | exact vis0 rfl | exact vis1 rfl | exact vis2 rfl) (by decide) (by decide)) (@pa_cons _ _ _ _ _ (@pe_call _ _ _ _ _ _ _ _ _ _ _ _ _ _ _ _ (ok_d_least_nearer T) (hr.mono (by decide)) rfl T.g_d_least_nearer T.F_d_least_nearer.kp T.b_d_least_nearer .nil pass0 (@pa_cons _ _ _ _ _ (@pv _ 0 _ _ (by rfl) (by first | exact vis0 rfl | exact vis1 rfl | exact vis2 rfl) (by decide) (by decide)) (@pa_cons _ _ _ _ _ (@pv _ 3 _ _ (by rfl) (by first | exact vis0 rfl | exact vis1 rfl | exact vis2 rfl) (by decide) (by decide)) (@pa_cons _ _ _ _ _ (@pe_ix _ _ _ _ _ _ _ ix_seq (@pv _ 4 _ _ (by rfl) (by first | exact vis0 rfl | exact vis1 rfl | exact vis2 rfl) (by decide) (by decide)) (@pe_un _ _ _ _ _ _ un_neg (@pe_int _ _ _ _)) (fun _ _ => rfl)) (@pa_nil _) (by rfl)) (by rfl)) (by rfl)) (by decide) (by rfl) (by rfl)) (@pa_nil _) (by rfl)) (by rfl) (by rfl) (by rfl) (by rfl) (by rfl)) (by rfl)))) (@pss_one _ _ _ (@ps_ret _ _ _ _ (@pv _ 4 _ _ (by rfl) (by first | exact vis0 rfl | exact vis1 rfl | exact vis2 rfl) (by decide) (by decide)))))))), ?_⟩
    rw [show start n_d_road [V.ref a, V.str one, V.str o] = [some (V.ref a), some (V.str one), some (V.str o), none, none] from rfl]
    try simp only [tSeq, tAsg, tOp, tUn, tVar, tC, tRet, tRetN, tDrop, tNext, tIfS, tNever, gName, tCons, tNil, tCall, tCB, tAndV, tOrV, tNotV, tAnd, tOr, tNot, tTest, tB, tIf, tChain, tLst, tTup, tSl, tNoPart, tPart, tBM, tBM0, tFor_eq, iList, iTup, iRng1, iRng2, iStr, tYes, tDNewK, tDisp, tPairs, List.getElem?_cons_zero, List.getElem?_cons_succ, List.set_cons_zero, List.set_cons_succ, List.append_nil, List.nil_append, List.cons_append, exSlot, exBl, exInt, exStr, exRef, rI_int, rI0_int, rU_int, rAddA_int, rAddA_str, rInA_str, rNotInA_str, rLenA_str, rSlA_str, rIx_str, CMul, CDiv, CPow, rIsi_str_str, rIsi_bl_bool, tComp_eq, ite_tt, ite_ft, ite_tf, ite_ff, decide_eq_true_eq, Bool.not_eq_true', decide_eq_false_iff_not, decide_true, decide_false, rEqH_str, rEqH_int, rEqH_bl, rNeH_str, rNeH_int, rStarts_at, rEnds_at, rFind_at, rSplit_at, rPart_at, tyV_str, rInt1_bl, rInt1_int, gTup, gCons, gNil, gSub, rIsN_ref, rIsN_non, rIsN_str, rNotN_ref, rNotN_non, tDGet, tDIn, tDNotIn, sDPut, tDGet1, tDGet2, tFld, sFld, tMeth, tMake, tCMeth, rLtA_int, rLtA_str, spMix_at]
    refine ⟨a, xs, ps, ls, o, rfl, ha, hP, hW, fun S H1 hSn s1 hS => ?_⟩
    have hK := Ok.at' (o := o) hW.1 ls.length
    obtain ⟨q1, q2⟩ := q
    generalize dD ps o ls.length = F at hS hK q1 q2
    try simp only [tSeq, tAsg, tOp, tUn, tVar, tC, tRet, tRetN, tDrop, tNext, tIfS, tNever, gName, tCons, tNil, tCall, tCB, tAndV, tOrV, tNotV, tAnd, tOr, tNot, tTest, tB, tIf, tChain, tLst, tTup, tSl, tNoPart, tPart, tBM, tBM0, tFor_eq, iList, iTup, iRng1, iRng2, iStr, tYes, tDNewK, tDisp, tPairs, List.getElem?_cons_zero, List.getElem?_cons_succ, List.set_cons_zero, List.set_cons_succ, List.append_nil, List.nil_append, List.cons_append, exSlot, exBl, exInt, exStr, exRef, rI_int, rI0_int, rU_int, rAddA_int, rAddA_str, rInA_str, rNotInA_str, rLenA_str, rSlA_str, rIx_str, CMul, CDiv, CPow, rIsi_str_str, rIsi_bl_bool, tComp_eq, ite_tt, ite_ft, ite_tf, ite_ff, decide_eq_true_eq, Bool.not_eq_true', decide_eq_false_iff_not, decide_true, decide_false, rEqH_str, rEqH_int, rEqH_bl, rNeH_str, rNeH_int, rStarts_at, rEnds_at, rFind_at, rSplit_at, rPart_at, tyV_str, rInt1_bl, rInt1_int, gTup, gCons, gNil, gSub, rIsN_ref, rIsN_non, rIsN_str, rNotN_ref, rNotN_non, tDGet, tDIn, tDNotIn, sDPut, tDGet1, tDGet2, tFld, sFld, tMeth, tMake, tCMeth, rLtA_int, rLtA_str, spMix_at]
    refine ⟨S, _, rfl, dask hS one, ?_⟩
    try simp only [tSeq, tAsg, tOp, tUn, tVar, tC, tRet, tRetN, tDrop, tNext, tIfS, tNever, gName, tCons, tNil, tCall, tCB, tAndV, tOrV, tNotV, tAnd, tOr, tNot, tTest, tB, tIf, tChain, tLst, tTup, tSl, tNoPart, tPart, tBM, tBM0, tFor_eq, iList, iTup, iRng1, iRng2, iStr, tYes, tDNewK, tDisp, tPairs, List.getElem?_cons_zero, List.getElem?_cons_succ, List.set_cons_zero, List.set_cons_succ, List.append_nil, List.nil_append, List.cons_append, exSlot, exBl, exInt, exStr, exRef, rI_int, rI0_int, rU_int, rAddA_int, rAddA_str, rInA_str, rNotInA_str, rLenA_str, rSlA_str, rIx_str, CMul, CDiv, CPow, rIsi_str_str, rIsi_bl_bool, tComp_eq, ite_tt, ite_ft, ite_tf, ite_ff, decide_eq_true_eq, Bool.not_eq_true', decide_eq_false_iff_not, decide_true, decide_false, rEqH_str, rEqH_int, rEqH_bl, rNeH_str, rNeH_int, rStarts_at, rEnds_at, rFind_at, rSplit_at, rPart_at, tyV_str, rInt1_bl, rInt1_int, gTup, gCons, gNil, gSub, rIsN_ref, rIsN_non, rIsN_str, rNotN_ref, rNotN_non, tDGet, tDIn, tDNotIn, sDPut, tDGet1, tDGet2, tFld, sFld, tMeth, tMake, tCMeth, rLtA_int, rLtA_str, spMix_at]
    refine ite2 (fun c1 => ?_) (fun c1 => ?_)
    · refine q1 ?_ _ s1
      cases e : lk F one with
      | none => rfl
      | some m => rw [e] at c1; simp at c1
    obtain ⟨M, hM⟩ : ∃ M, lk F one = some M := by
      cases e : lk F one with
      | none => rw [e] at c1; simp at c1
      | some m => exact ⟨m, rfl⟩
    refine ⟨by simp only [List.length_cons, List.length_nil]; decide, fun T hT => ?_⟩
    have hTS : T ≠ S := fun z => by rw [z, hS] at hT; cases hT
    have hTn : H T = none := none_of s1 hT
    refine while_w (fun k σ H' => ∃ (y : Str) (tl : List Str), σ = [some (V.ref a), some (V.str one), some (V.str o), some (V.ref S), some (V.ref T)] ∧ Same H1 H' ∧ lk F y = some k ∧ H' T = some (.lst ((tl ++ [y]).map V.str)) ∧ (tl ++ [y]) ++ path minS ps F k y = one :: path minS ps F M one ∧ tl.length + k ≤ M)
      M ⟨one, [], rfl, Same.upd hT, hM, upd_same, rfl, by simp⟩ ?_
    rintro k σ H2 ⟨y, tl, rfl, s2, hy, hT2, hpa, hle⟩
    try simp only [tSeq, tAsg, tOp, tUn, tVar, tC, tRet, tRetN, tDrop, tNext, tIfS, tNever, gName, tCons, tNil, tCall, tCB, tAndV, tOrV, tNotV, tAnd, tOr, tNot, tTest, tB, tIf, tChain, tLst, tTup, tSl, tNoPart, tPart, tBM, tBM0, tFor_eq, iList, iTup, iRng1, iRng2, iStr, tYes, tDNewK, tDisp, tPairs, List.getElem?_cons_zero, List.getElem?_cons_succ, List.set_cons_zero, List.set_cons_succ, List.append_nil, List.nil_append, List.cons_append, exSlot, exBl, exInt, exStr, exRef, rI_int, rI0_int, rU_int, rAddA_int, rAddA_str, rInA_str, rNotInA_str, rLenA_str, rSlA_str, rIx_str, CMul, CDiv, CPow, rIsi_str_str, rIsi_bl_bool, tComp_eq, ite_tt, ite_ft, ite_tf, ite_ff, decide_eq_true_eq, Bool.not_eq_true', decide_eq_false_iff_not, decide_true, decide_false, rEqH_str, rEqH_int, rEqH_bl, rNeH_str, rNeH_int, rStarts_at, rEnds_at, rFind_at, rSplit_at, rPart_at, tyV_str, rInt1_bl, rInt1_int, gTup, gCons, gNil, gSub, rIsN_ref, rIsN_non, rIsN_str, rNotN_ref, rNotN_non, tDGet, tDIn, tDNotIn, sDPut, tDGet1, tDGet2, tFld, sFld, tMeth, tMake, tCMeth, rLtA_int, rLtA_str, spMix_at]
    refine rIx_lst (SqL.of hT2) (v := .str y) (by rw [List.map_append]; exact atI_neg _ _) ?_
    try simp only [tSeq, tAsg, tOp, tUn, tVar, tC, tRet, tRetN, tDrop, tNext, tIfS, tNever, gName, tCons, tNil, tCall, tCB, tAndV, tOrV, tNotV, tAnd, tOr, tNot, tTest, tB, tIf, tChain, tLst, tTup, tSl, tNoPart, tPart, tBM, tBM0, tFor_eq, iList, iTup, iRng1, iRng2, iStr, tYes, tDNewK, tDisp, tPairs, List.getElem?_cons_zero, List.getElem?_cons_succ, List.set_cons_zero, List.set_cons_succ, List.append_nil, List.nil_append, List.cons_append, exSlot, exBl, exInt, exStr, exRef, rI_int, rI0_int, rU_int, rAddA_int, rAddA_str, rInA_str, rNotInA_str, rLenA_str, rSlA_str, rIx_str, CMul, CDiv, CPow, rIsi_str_str, rIsi_bl_bool, tComp_eq, ite_tt, ite_ft, ite_tf, ite_ff, decide_eq_true_eq, Bool.not_eq_true', decide_eq_false_iff_not, decide_true, decide_false, rEqH_str, rEqH_int, rEqH_bl, rNeH_str, rNeH_int, rStarts_at, rEnds_at, rFind_at, rSplit_at, rPart_at, tyV_str, rInt1_bl, rInt1_int, gTup, gCons, gNil, gSub, rIsN_ref, rIsN_non, rIsN_str, rNotN_ref, rNotN_non, tDGet, tDIn, tDNotIn, sDPut, tDGet1, tDGet2, tFld, sFld, tMeth, tMake, tCMeth, rLtA_int, rLtA_str, spMix_at]
    have hS2 := s2 _ _ hS
    refine ite2 (fun c2 => ?_) (fun c2 => ?_)
    · obtain ⟨k', rfl⟩ : ∃ k', k = k' + 1 := by
        cases k with
        | zero => exact absurd (hK.zer _ (lk_mem hy) rfl) (by simpa using c2)
        | succ k' => exact ⟨k', rfl⟩
      refine ⟨fun σ' H' => ∃ m', m' < k' + 1 ∧ ∃ (y : Str) (tl : List Str), σ' = [some (V.ref a), some (V.str one), some (V.str o), some (V.ref S), some (V.ref T)] ∧ Same H1 H' ∧ lk F y = some m' ∧ H' T = some (.lst ((tl ++ [y]).map V.str)) ∧ (tl ++ [y]) ++ path minS ps F m' y = one :: path minS ps F M one ∧ tl.length + m' ≤ M, fun _ _ h => h, ?_⟩
      try simp only [tSeq, tAsg, tOp, tUn, tVar, tC, tRet, tRetN, tDrop, tNext, tIfS, tNever, gName, tCons, tNil, tCall, tCB, tAndV, tOrV, tNotV, tAnd, tOr, tNot, tTest, tB, tIf, tChain, tLst, tTup, tSl, tNoPart, tPart, tBM, tBM0, tFor_eq, iList, iTup, iRng1, iRng2, iStr, tYes, tDNewK, tDisp, tPairs, List.getElem?_cons_zero, List.getElem?_cons_succ, List.set_cons_zero, List.set_cons_succ, List.append_nil, List.nil_append, List.cons_append, exSlot, exBl, exInt, exStr, exRef, rI_int, rI0_int, rU_int, rAddA_int, rAddA_str, rInA_str, rNotInA_str, rLenA_str, rSlA_str, rIx_str, CMul, CDiv, CPow, rIsi_str_str, rIsi_bl_bool, tComp_eq, ite_tt, ite_ft, ite_tf, ite_ff, decide_eq_true_eq, Bool.not_eq_true', decide_eq_false_iff_not, decide_true, decide_false, rEqH_str, rEqH_int, rEqH_bl, rNeH_str, rNeH_int, rStarts_at, rEnds_at, rFind_at, rSplit_at, rPart_at, tyV_str, rInt1_bl, rInt1_int, gTup, gCons, gNil, gSub, rIsN_ref, rIsN_non, rIsN_str, rNotN_ref, rNotN_non, tDGet, tDIn, tDNotIn, sDPut, tDGet1, tDGet2, tFld, sFld, tMeth, tMake, tCMeth, rLtA_int, rLtA_str, spMix_at]
      refine ⟨.inl ⟨rfl, _, SqL.of hT2⟩, ?_⟩
      refine rIx_lst (SqL.of hT2) (v := .str y) (by rw [List.map_append]; exact atI_neg _ _) ?_
      have hnn := near_ne hK hy
      refine ⟨a, S, xs, ps, F, y, k', rfl, s2.seq (s1.seq ha), hP.same (s1.trans s2), hW.2.2, hS2, hy, hnn, fun H3 s3 => ?_⟩
      have hT3 := s3 _ _ hT2
      have hM' := hK.lev hM
      have hwl := hW.2.1
      refine ⟨T, _, _, rfl, rfl, hT3, Nat.lt_of_le_of_lt (show _ ≤ 2000 by simp; omega) (by decide), k', by omega, minS (near ps F y k'), tl ++ [y], (by trivial), ?_, near_lk (minS_mem hnn), ?_, ?_, ?_⟩
      · intro b u e
        rw [upd_ne (ne_of_none e hT)]; exact s3 _ _ (s2 b u e)
      · rw [upd_same]; simp
      · rw [← hpa]; simp [path]
      · simp; omega
    · have hyo : y = o := by simpa using c2
      have hk0 : k = 0 := by
        rw [hyo, hK.one] at hy; exact (Option.some.inj hy).symm
      subst hk0
      try simp only [tSeq, tAsg, tOp, tUn, tVar, tC, tRet, tRetN, tDrop, tNext, tIfS, tNever, gName, tCons, tNil, tCall, tCB, tAndV, tOrV, tNotV, tAnd, tOr, tNot, tTest, tB, tIf, tChain, tLst, tTup, tSl, tNoPart, tPart, tBM, tBM0, tFor_eq, iList, iTup, iRng1, iRng2, iStr, tYes, tDNewK, tDisp, tPairs, List.getElem?_cons_zero, List.getElem?_cons_succ, List.set_cons_zero, List.set_cons_succ, List.append_nil, List.nil_append, List.cons_append, exSlot, exBl, exInt, exStr, exRef, rI_int, rI0_int, rU_int, rAddA_int, rAddA_str, rInA_str, rNotInA_str, rLenA_str, rSlA_str, rIx_str, CMul, CDiv, CPow, rIsi_str_str, rIsi_bl_bool, tComp_eq, ite_tt, ite_ft, ite_tf, ite_ff, decide_eq_true_eq, Bool.not_eq_true', decide_eq_false_iff_not, decide_true, decide_false, rEqH_str, rEqH_int, rEqH_bl, rNeH_str, rNeH_int, rStarts_at, rEnds_at, rFind_at, rSplit_at, rPart_at, tyV_str, rInt1_bl, rInt1_int, gTup, gCons, gNil, gSub, rIsN_ref, rIsN_non, rIsN_str, rNotN_ref, rNotN_non, tDGet, tDIn, tDNotIn, sDPut, tDGet1, tDGet2, tFld, sFld, tMeth, tMake, tCMeth, rLtA_int, rLtA_str, spMix_at]
      refine q2 M hM T H2 hTn (s1.trans s2) ?_
      rw [← hpa]; simpa [path] using hT2
end
end K15
namespace K15
open PySem L2 Tx

section
variable {P : Program} {w : World} {K : PySem.W.Frag} {mg : Str → Option Value} {base : Heap} {t : Adr}
theorem ok_d_law (T : Txt K mg t) : FnOk P w K mg base CX0 6 t.f_d_law t.fd_d_law ["_law_script"] (spLaw K) := by
  refine T.F_d_law.ok sc_d_law (fun vs H Q E h => ?_) (fun cdv A outer s H vs Q E hr h => ?_)
  · obtain ⟨a, ns, rfl, hS, hl, q⟩ := h; rfl
  · obtain ⟨a, ns, rfl, hS, hl, q⟩ := h
    refine ⟨_, (@pss_cons _ _ _ _ _ (@ps_set _ _ (1) _ _ _ _ sc_d_law.nd rfl (by first | exact Or.inl rfl | exact Or.inr rfl) (@pe_call _ _ _ _ _ _ _ _ _ _ _ _ _ _ _ _ (ok_d_l_labels T) (hr.mono (by decide)) rfl T.g_d_l_labels T.F_d_l_labels.kp T.b_d_l_labels .nil pass0 (@pa_cons _ _ _ _ _ (@pe_call _ _ _ _ _ _ _ _ _ _ _ _ _ _ _ _ (ok_d_l_cell_at T) (hr.mono (by decide)) rfl T.g_d_l_cell_at T.F_d_l_cell_at.kp T.b_d_l_cell_at .nil pass0 (@pa_cons _ _ _ _ _ (@pv _ 0 _ _ (by rfl) (by first | exact vis0 rfl | exact vis1 rfl | exact vis2 rfl) (by decide) (by decide)) (@pa_cons _ _ _ _ _ (@pe_int _ _ _ _) (@pa_nil _) (by rfl)) (by rfl)) (by decide) (by rfl) (by rfl)) (@pa_nil _) (by rfl)) (by decide) (by rfl) (by rfl)) (by rfl) (by first | exact Or.inl rfl | exact Or.inr rfl | assumption)) (@pss_cons _ _ _ _ _ (@ps_set _ _ (2) _ _ _ _ sc_d_law.nd rfl (by first | exact Or.inl rfl | exact Or.inr rfl) (@pe_lst _ _ _ _ (@pa_nil _)) (by rfl) (by first | exact Or.inl rfl | exact Or.inr rfl | assumption)) (@pss_cons _ _ _ _ _ (@ps_for _ _ _ _ _ _ _ _ PassesOwn.never rfl (@pi_list _ _ _ _ (@pe_slice _ _ _ _ _ _ _ _ _ _ sl_any (@pv _ 0 _ _ (by rfl) (by first | exact vis0 rfl | exact vis1 rfl | exact vis2 rfl) (by decide) (by decide)) (@po_some _ _ _ (@pe_int _ _ _ _)) (@po_some _ _ _ (@pe_int _ _ _ _)))) (@pg_name _ _ (3) _ sc_d_law.nd rfl (by first | exact Or.inl rfl | exact Or.inr rfl) (by first | exact Or.inl rfl | exact Or.inr rfl | assumption)) (@pss_cons _ _ _ _ _ (@ps_set _ _ (4) _ _ _ _ sc_d_law.nd rfl (by first | exact Or.inl rfl | exact Or.inr rfl) (@pe_call _ _ _ _ _ _ _ _ _ _ _ _ _ _ _ _ (ok_d_l_mix T) (hr.mono (by decide)) rfl T.g_d_l_mix T.F_d_l_mix.kp T.b_d_l_mix .nil pass0 (@pa_cons _ _ _ _ _ (@pv _ 3 _ _ (by rfl) (by first | exact vis0 rfl | exact vis1 rfl | exact vis2 rfl) (by decide) (by decide)) (@pa_cons _ _ _ _ _ (@pe_int _ _ _ _) (@pa_nil _) (by rfl)) (by rfl)) (by decide) (by rfl) (by rfl)) (by rfl) (by first | exact Or.inl rfl | exact Or.inr rfl | assumption)) (@pss_one _ _ _ (@ps_expr _ _ _ _ (@pe_bm _ _ _ _ _ _ _ _ _ _ _ _ PySem.F.plainAttrs_list PySem.F.slot_list_append PySem.F.type_list_append mt_append (@pv _ 2 _ _ (by rfl) (by first | exact vis0 rfl | exact vis1 rfl | exact vis2 rfl) (by decide) (by decide)) (@pa_cons _ _ _ _ _ (@pe_tup _ _ _ _ _ (@pa_cons _ _ _ _ _ (@pe_ix _ _ _ _ _ _ _ ix_seq (@pv _ 1 _ _ (by rfl) (by first | exact vis0 rfl | exact vis1 rfl | exact vis2 rfl) (by decide) (by decide)) (@pe_op _ _ _ _ _ _ _ _ op_mod (@pv _ 4 _ _ (by rfl) (by first | exact vis0 rfl | exact vis1 rfl | exact vis2 rfl) (by decide) (by decide)) (@pe_callB _ _ _ _ _ _ _ _ _ call_lenA rfl T.z_len boot_lenT (@pa_cons _ _ _ _ _ (@pv _ 1 _ _ (by rfl) (by first | exact vis0 rfl | exact vis1 rfl | exact vis2 rfl) (by decide) (by decide)) (@pa_nil _) (by rfl)) (by decide) (by decide) (by rfl) (by rfl))) (fun _ _ => rfl)) (@pa_cons _ _ _ _ _ (@pe_ix _ _ _ _ _ _ _ ix_seq (@pv _ 1 _ _ (by rfl) (by first | exact vis0 rfl | exact vis1 rfl | exact vis2 rfl) (by decide) (by decide)) (@pe_op _ _ _ _ _ _ _ _ op_mod (@pe_op _ _ _ _ _ _ _ _ op_fdiv (@pv _ 4 _ _ (by rfl) (by first | exact vis0 rfl | exact vis1 rfl | exact vis2 rfl) (by decide) (by decide)) (@pe_int _ _ _ _)) (@pe_callB _ _ _ _ _ _ _ _ _ call_lenA rfl T.z_len boot_lenT (@pa_cons _ _ _ _ _ (@pv _ 1 _ _ (by rfl) (by first | exact vis0 rfl | exact vis1 rfl | exact vis2 rfl) (by decide) (by decide)) (@pa_nil _) (by rfl)) (by decide) (by decide) (by rfl) (by rfl))) (fun _ _ => rfl)) (@pa_nil _) (by rfl)) (by rfl))) (@pa_nil _) (by rfl)) (by rfl) (by rfl) (by rfl) (by rfl) (by rfl)) (by rfl)))) (by intro _ ; rfl)) (@pss_cons _ _ _ _ _ (@ps_for _ _ _ _ _ _ _ _ PassesOwn.never rfl (@pi_range1 _ _ _ _ _ _ rfl T.z_range (@pa_cons _ _ _ _ _ (@pe_int _ _ _ _) (@pa_nil _) (by rfl)) (by rfl)) (@pg_name _ _ (5) _ sc_d_law.nd rfl (by first | exact Or.inl rfl | exact Or.inr rfl) (by first | exact Or.inl rfl | exact Or.inr rfl | assumption)) (@pss_cons _ _ _ _ _ (@ps_set _ _ (4) _ _ _ _ sc_d_law.nd rfl (by first | exact Or.inl rfl | exact Or.inr rfl) (@pe_call _ _ _ _ _ _ _ _ _ _ _ _ _ _ _ _ (ok_d_l_mix T) (hr.mono (by decide)) rfl T.g_d_l_mix T.F_d_l_mix.kp T.b_d_l_mix .nil pass0 (@pa_cons _ _ _ _ _ (@pe_call _ _ _ _ _ _ _ _ _ _ _ _ _ _ _ _ (ok_d_l_cell_at T) (hr.mono (by decide)) rfl T.g_d_l_cell_at T.F_d_l_cell_at.kp T.b_d_l_cell_at .nil pass0 (@pa_cons _ _ _ _ _ (@pv _ 0 _ _ (by rfl) (by first | exact vis0 rfl | exact vis1 rfl | exact vis2 rfl) (by decide) (by decide)) (@pa_cons _ _ _ _ _ (@pe_int _ _ _ _) (@pa_nil _) (by rfl)) (by rfl)) (by decide) (by rfl) (by rfl)) (@pa_cons _ _ _ _ _ (@pe_op _ _ _ _ _ _ _ _ op_addA (@pe_int _ _ _ _) (@pv _ 5 _ _ (by rfl) (by first | exact vis0 rfl | exact vis1 rfl | exact vis2 rfl) (by decide) (by decide))) (@pa_nil _) (by rfl)) (by rfl)) (by decide) (by rfl) (by rfl)) (by rfl) (by first | exact Or.inl rfl | exact Or.inr rfl | assumption)) (@pss_cons _ _ _ _ _ (@ps_set _ _ (6) _ _ _ _ sc_d_law.nd rfl (by first | exact Or.inl rfl | exact Or.inr rfl) (@pe_ix _ _ _ _ _ _ _ ix_seq (@pv _ 1 _ _ (by rfl) (by first | exact vis0 rfl | exact vis1 rfl | exact vis2 rfl) (by decide) (by decide)) (@pe_op _ _ _ _ _ _ _ _ op_mod (@pv _ 4 _ _ (by rfl) (by first | exact vis0 rfl | exact vis1 rfl | exact vis2 rfl) (by decide) (by decide)) (@pe_callB _ _ _ _ _ _ _ _ _ call_lenA rfl T.z_len boot_lenT (@pa_cons _ _ _ _ _ (@pv _ 1 _ _ (by rfl) (by first | exact vis0 rfl | exact vis1 rfl | exact vis2 rfl) (by decide) (by decide)) (@pa_nil _) (by rfl)) (by decide) (by decide) (by rfl) (by rfl))) (fun _ _ => rfl)) (by rfl) (by first | exact Or.inl rfl | exact Or.inr rfl | assumption)) (@pss_cons _ _ _ _ _ (@ps_set _ _ (7) _ _ _ _ sc_d_law.nd rfl (by first | exact Or.inl rfl | exact Or.inr rfl) (@pe_ix _ _ _ _ _ _ _ ix_seq (@pv _ 1 _ _ (by rfl) (by first | exact vis0 rfl | exact vis1 rfl | exact vis2 rfl) (by decide) (by decide)) (@pe_op _ _ _ _ _ _ _ _ op_mod (@pe_op _ _ _ _ _ _ _ _ op_fdiv (@pv _ 4 _ _ (by rfl) (by first | exact vis0 rfl | exact vis1 rfl | exact vis2 rfl) (by decide) (by decide)) (@pe_int _ _ _ _)) (@pe_callB _ _ _ _ _ _ _ _ _ call_lenA rfl T.z_len boot_lenT (@pa_cons _ _ _ _ _ (@pv _ 1 _ _ (by rfl) (by first | exact vis0 rfl | exact vis1 rfl | exact vis2 rfl) (by decide) (by decide)) (@pa_nil _) (by rfl)) (by decide) (by decide) (by rfl) (by rfl))) (fun _ _ => rfl)) (by rfl) (by first | exact Or.inl rfl | exact Or.inr rfl | assumption)) (@pss_mid _ _ _ _ _ (@ps_if _ _ _ _ _ _ _ _ (@pt_cmpR _ _ _ _ _ _ _ _ (op_eqH hr.units) (@pe_op _ _ _ _ _ _ _ _ op_mod (@pe_op _ _ _ _ _ _ _ _ op_fdiv (@pv _ 4 _ _ (by rfl) (by first | exact vis0 rfl | exact vis1 rfl | exact vis2 rfl) (by decide) (by decide)) (@pe_int _ _ _ _)) (@pe_int _ _ _ _)) (@pe_int _ _ _ _) (nomark _)) (@pss_one _ _ _ (@ps_set _ _ (7) _ _ _ _ sc_d_law.nd rfl (by first | exact Or.inl rfl | exact Or.inr rfl) (@pe_str _ _ _ _) (by rfl) (by first | exact Or.inl rfl | exact Or.inr rfl | assumption))) (@pss_nil _)) (@pss_cons _ _ _ _ _ (@ps_set _ _ (8) _ _ _ _ sc_d_law.nd rfl (by first | exact Or.inl rfl | exact Or.inr rfl) (@pe_call _ _ _ _ _ _ _ _ _ _ _ _ _ _ _ _ (ok_d_l_road T) (hr.mono (by decide)) rfl T.g_d_l_road T.F_d_l_road.kp T.b_d_l_road .nil pass0 (@pa_cons _ _ _ _ _ (@pv _ 2 _ _ (by rfl) (by first | exact vis0 rfl | exact vis1 rfl | exact vis2 rfl) (by decide) (by decide)) (@pa_cons _ _ _ _ _ (@pv _ 1 _ _ (by rfl) (by first | exact vis0 rfl | exact vis1 rfl | exact vis2 rfl) (by decide) (by decide)) (@pa_cons _ _ _ _ _ (@pv _ 6 _ _ (by rfl) (by first | exact vis0 rfl | exact vis1 rfl | exact vis2 rfl) (by decide) (by decide)) (@pa_cons _ _ _ _ _ (@pv _ 7 _ _ (by rfl) (by first | exact vis0 rfl | exact vis1 rfl | exact vis2 rfl) (by decide) (by decide)) (@pa_nil _) (by rfl)) (by rfl)) (by rfl)) (by rfl)) (by decide) (by rfl) (by rfl)) (by rfl) (by first | exact Or.inl rfl | exact Or.inr rfl | assumption)) (@pss_cons _ _ _ _ _ (@ps_set _ _ (9) _ _ _ _ sc_d_law.nd rfl (by first | exact Or.inl rfl | exact Or.inr rfl) (@pe_callTy _ _ _ _ _ _ _ _ _ call_listOf rfl T.z_list boot_listT (@pa_cons _ _ _ _ _ (@pv _ 2 _ _ (by rfl) (by first | exact vis0 rfl | exact vis1 rfl | exact vis2 rfl) (by decide) (by decide)) (@pa_nil _) (by rfl)) (by decide) (by decide) (by rfl) (by rfl)) (by rfl) (by first | exact Or.inl rfl | exact Or.inr rfl | assumption)) (@pss_cons _ _ _ _ _ (@ps_set _ _ (10) _ _ _ _ sc_d_law.nd rfl (by first | exact Or.inl rfl | exact Or.inr rfl) (@pe_call _ _ _ _ _ _ _ _ _ _ _ _ _ _ _ _ (ok_d_road T) (hr.mono (by decide)) rfl T.g_d_road T.F_d_road.kp T.b_d_road .nil pass0 (@pa_cons _ _ _ _ _ (@pv _ 9 _ _ (by rfl) (by first | exact vis0 rfl | exact vis1 rfl | exact vis2 rfl) (by decide) (by decide)) (@pa_cons _ _ _ _ _ (@pv _ 6 _ _ (by rfl) (by first | exact vis0 rfl | exact vis1 rfl | exact vis2 rfl) (by decide) (by decide)) (@pa_cons _ _ _ _ _ (@pv _ 7 _ _ (by rfl) (by first | exact vis0 rfl | exact vis1 rfl | exact vis2 rfl) (by decide) (by decide)) (@pa_nil _) (by rfl)) (by rfl)) (by rfl)) (by decide) (by rfl) (by rfl)) (by rfl) (by first | exact Or.inl rfl | exact Or.inr rfl | assumption)) (@pss_mid _ _ _ _ _ (@ps_if _ _ _ _ _ _ _ _ (@PW.pt _ _ _ (@pw_or _ _ _ _ _ _ _ (@pt_not _ _ _ _ (@pt_val _ _ _ (@pe_call _ _ _ _ _ _ _ _ _ _ _ _ _ _ _ _ (ok_d_l_same T) (hr.mono (by decide)) rfl T.g_d_l_same T.F_d_l_same.kp T.b_d_l_same .nil pass0 (@pa_cons _ _ _ _ _ (@pv _ 10 _ _ (by rfl) (by first | exact vis0 rfl | exact vis1 rfl | exact vis2 rfl) (by decide) (by decide)) (@pa_cons _ _ _ _ _ (@pv _ 8 _ _ (by rfl) (by first | exact vis0 rfl | exact vis1 rfl | exact vis2 rfl) (by decide) (by decide)) (@pa_nil _) (by rfl)) (by rfl)) (by decide) (by rfl) (by rfl)) (by intro _ ; rfl))) (@pw_or1 _ _ _ _ (@pt_cmpR _ _ _ _ _ _ _ _ (op_neH hr.units) (@pv _ 9 _ _ (by rfl) (by first | exact vis0 rfl | exact vis1 rfl | exact vis2 rfl) (by decide) (by decide)) (@pv _ 2 _ _ (by rfl) (by first | exact vis0 rfl | exact vis1 rfl | exact vis2 rfl) (by decide) (by decide)) (nomark _))))) (@pss_one _ _ _ (@ps_ret _ _ _ _ (@pe_bl _ _ _ _))) (@pss_nil _)) (@pss_mid _ _ _ _ _ (@ps_if _ _ _ _ _ _ _ _ (@pt_cmpR _ _ _ _ _ _ _ _ op_isnotX (@pv _ 10 _ _ (by rfl) (by first | exact vis0 rfl | exact vis1 rfl | exact vis2 rfl) (by decide) (by decide)) (@pe_non _ _ _) (nomark _)) (@pss_one _ _ _ (@ps_expr _ _ _ _ (@pe_bm0 _ _ _ _ _ _ _ _ _ PySem.F.plainAttrs_list PySem.F.slot_list_clear PySem.F.type_list_clear mt_clear (@pv _ 10 _ _ (by rfl) (by first | exact vis0 rfl | exact vis1 rfl | exact vis2 rfl) (by decide) (by decide)) (by rfl) (by rfl)) (by rfl))) (@pss_nil _)) (@pss_one _ _ _ (@ps_if _ _ _ _ _ _ _ _ (@pt_not _ _ _ _ (@pt_val _ _ _ (@pe_call _ _ _ _ _ _ _ _ _ _ _ _ _ _ _ _ (ok_d_l_same T) (hr.mono (by decide)) rfl T.g_d_l_same T.F_d_l_same.kp T.b_d_l_same .nil pass0 (@pa_cons _ _ _ _ _ (@pe_call _ _ _ _ _ _ _ _ _ _ _ _ _ _ _ _ (ok_d_road T) (hr.mono (by decide)) rfl T.g_d_road T.F_d_road.kp T.b_d_road .nil pass0 (@pa_cons _ _ _ _ _ (@pv _ 9 _ _ (by rfl) (by first | exact vis0 rfl | exact vis1 rfl | exact vis2 rfl) (by decide) (by decide)) (@pa_cons _ _ _ _ _ (@pv _ 6 _ _ (by rfl) (by first | exact vis0 rfl | exact vis1 rfl | exact vis2 rfl) (by decide) (by decide)) (@pa_cons _ _ _ _ _ (@pv _ 7 _ _ (by rfl) (by first | exact vis0 rfl | exact vis1 rfl | exact vis2 rfl) (by decide) (by decide)) (@pa_nil _) (by rfl)) (by rfl)) (by rfl)) (by decide) (by rfl) (by rfl)) (@pa_cons _ _ _ _ _ (@pv _ 8 _ _ (by rfl) (by first | exact vis0 rfl | exact vis1 rfl | exact vis2 rfl) (by decide) (by decide)) (@pa_nil _) (by rfl)) (by rfl)) (by decide) (by rfl) (by rfl)) (by intro _ ; rfl))) (@pss_one _ _ _ (@ps_ret _ _ _ _ (@pe_bl _ _ _ _))) (@pss_nil _)))))))))))) (by intro _ ; rfl)) (@pss_one _ _ _ (@ps_ret _ _ _ _ (@pe_bl _ _ _ _))))))), ?_⟩
    rw [show start n_d_law [V.ref a] = [some (V.ref a), none, none, none, none, none, none, none, none, none, none] from rfl]
    try simp only [tSeq, tAsg, tOp, tUn, tVar, tC, tRet, tRetN, tDrop, tNext, tIfS, tNever, gName, tCons, tNil, tCall, tCB, tAndV, tOrV, tNotV, tAnd, tOr, tNot, tTest, tB, tIf, tChain, tLst, tTup, tSl, tNoPart, tPart, tBM, tBM0, tFor_eq, iList, iTup, iRng1, iRng2, iStr, tYes, tDNewK, tDisp, tPairs, List.getElem?_cons_zero, List.getElem?_cons_succ, List.set_cons_zero, List.set_cons_succ, List.append_nil, List.nil_append, List.cons_append, exSlot, exBl, exInt, exStr, exRef, rI_int, rI0_int, rU_int, rAddA_int, rAddA_str, rInA_str, rNotInA_str, rLenA_str, rSlA_str, rIx_str, CMul, CDiv, CPow, rIsi_str_str, rIsi_bl_bool, tComp_eq, ite_tt, ite_ft, ite_tf, ite_ff, decide_eq_true_eq, Bool.not_eq_true', decide_eq_false_iff_not, decide_true, decide_false, rEqH_str, rEqH_int, rEqH_bl, rNeH_str, rNeH_int, rStarts_at, rEnds_at, rFind_at, rSplit_at, rPart_at, tyV_str, rInt1_bl, rInt1_int, gTup, gCons, gNil, gSub, rIsN_ref, rIsN_non, rIsN_str, rNotN_ref, rNotN_non, tDGet, tDIn, tDNotIn, sDPut, tDGet1, tDGet2, tFld, sFld, tMeth, tMake, tCMeth, rLtA_int, rLtA_str, spMix_at]
    refine ⟨a, ns, 0, rfl, hS, hl, by decide, by decide, fun c0 => ?_⟩
    refine ⟨c0, rfl, fun L ls H1 s1 hLn hL hne hl9 hok => ?_⟩
    have hS1 : SqL K H1 a (ns.map V.int) := s1.seq hS
    have hlp := List.length_pos_iff.mpr hne
    try simp only [tSeq, tAsg, tOp, tUn, tVar, tC, tRet, tRetN, tDrop, tNext, tIfS, tNever, gName, tCons, tNil, tCall, tCB, tAndV, tOrV, tNotV, tAnd, tOr, tNot, tTest, tB, tIf, tChain, tLst, tTup, tSl, tNoPart, tPart, tBM, tBM0, tFor_eq, iList, iTup, iRng1, iRng2, iStr, tYes, tDNewK, tDisp, tPairs, List.getElem?_cons_zero, List.getElem?_cons_succ, List.set_cons_zero, List.set_cons_succ, List.append_nil, List.nil_append, List.cons_append, exSlot, exBl, exInt, exStr, exRef, rI_int, rI0_int, rU_int, rAddA_int, rAddA_str, rInA_str, rNotInA_str, rLenA_str, rSlA_str, rIx_str, CMul, CDiv, CPow, rIsi_str_str, rIsi_bl_bool, tComp_eq, ite_tt, ite_ft, ite_tf, ite_ff, decide_eq_true_eq, Bool.not_eq_true', decide_eq_false_iff_not, decide_true, decide_false, rEqH_str, rEqH_int, rEqH_bl, rNeH_str, rNeH_int, rStarts_at, rEnds_at, rFind_at, rSplit_at, rPart_at, tyV_str, rInt1_bl, rInt1_int, gTup, gCons, gNil, gSub, rIsN_ref, rIsN_non, rIsN_str, rNotN_ref, rNotN_non, tDGet, tDIn, tDNotIn, sDPut, tDGet1, tDGet2, tFld, sFld, tMeth, tMake, tCMeth, rLtA_int, rLtA_str, spMix_at]
    refine ⟨by decide, fun P hPn => ?_⟩
    have hLP : L ≠ P := fun z => by rw [z, hPn] at hL; cases hL
    refine .inr (.inl ⟨a, _, rfl, (Same.upd hPn).seq hS1, fun p1 hp1 => ?_⟩)
    have hc : ∀ v ∈ cutV (ns.map V.int) (some 3) (some 40), ∃ i, v = V.int i := fun v hv => by
      have := List.mem_of_mem_drop (List.mem_of_mem_take hv)
      obtain ⟨i, _, e⟩ := List.mem_map.mp this
      exact ⟨i, e.symm⟩
    have hcl : (cutV (ns.map V.int) (some 3) (some 40)).length ≤ 63 := by
      unfold cutV
      refine Nat.le_trans (List.length_take_le' _ _) ?_
      rw [List.length_drop, List.length_map]; omega
    generalize cutV (ns.map V.int) (some 3) (some 40) = ws at hc hcl
    have hp1P : p1 ≠ P := fun z => by rw [z, upd_same] at hp1; cases hp1
    have hp1n : H1 p1 = none := by rw [upd_ne hp1P] at hp1; exact hp1
    try simp only [tSeq, tAsg, tOp, tUn, tVar, tC, tRet, tRetN, tDrop, tNext, tIfS, tNever, gName, tCons, tNil, tCall, tCB, tAndV, tOrV, tNotV, tAnd, tOr, tNot, tTest, tB, tIf, tChain, tLst, tTup, tSl, tNoPart, tPart, tBM, tBM0, tFor_eq, iList, iTup, iRng1, iRng2, iStr, tYes, tDNewK, tDisp, tPairs, List.getElem?_cons_zero, List.getElem?_cons_succ, List.set_cons_zero, List.set_cons_succ, List.append_nil, List.nil_append, List.cons_append, exSlot, exBl, exInt, exStr, exRef, rI_int, rI0_int, rU_int, rAddA_int, rAddA_str, rInA_str, rNotInA_str, rLenA_str, rSlA_str, rIx_str, CMul, CDiv, CPow, rIsi_str_str, rIsi_bl_bool, tComp_eq, ite_tt, ite_ft, ite_tf, ite_ff, decide_eq_true_eq, Bool.not_eq_true', decide_eq_false_iff_not, decide_true, decide_false, rEqH_str, rEqH_int, rEqH_bl, rNeH_str, rNeH_int, rStarts_at, rEnds_at, rFind_at, rSplit_at, rPart_at, tyV_str, rInt1_bl, rInt1_int, gTup, gCons, gNil, gSub, rIsN_ref, rIsN_non, rIsN_str, rNotN_ref, rNotN_non, tDGet, tDIn, tDNotIn, sDPut, tDGet1, tDGet2, tFld, sFld, tMeth, tMake, tCMeth, rLtA_int, rLtA_str, spMix_at]
    refine ⟨⟨_, SqL.of upd_same⟩, ?_⟩
    refine for_list (K := K) (a := p1) (xs := ws) (fun i σ H' => ∃ (xs : List V) (ps : List (Str × Str)) (ce nu : Option V), σ = [some (V.ref a), some (V.ref L), some (V.ref P), ce, nu, none, none, none, none, none, none] ∧ Same H1 H' ∧ H' p1 = some (.lst ws) ∧ H' P = some (.lst xs) ∧ PrL H' xs ps ∧ ps.length ≤ i ∧ ∀ p ∈ ps, p.1 ∈ ls ∧ p.2 ∈ ls)
      ⟨[], [], _, _, rfl, ?_, upd_same, ?_, ⟨rfl, by simp⟩, Nat.le_refl _, by simp⟩ (fun i σ H' _ h => by obtain ⟨_, _, _, _, _, _, h, _⟩ := h; exact SqL.of h) ?_ ?_
    · intro b u e
      rw [upd_ne (ne_of_none e hp1n), upd_ne (ne_of_none e hPn)]; exact e
    · rw [upd_ne hp1P.symm, upd_same]
    · rintro i w σ H2 hi ⟨xs, ps, ce, nu, rfl, s2, hw2, hP2, hR2, hle, hin⟩
      obtain ⟨c, rfl⟩ := hc w (List.mem_of_getElem? hi)
      have hil := (List.getElem?_eq_some_iff.mp hi).1
      have hL2 := s2 _ _ hL
      try simp only [tSeq, tAsg, tOp, tUn, tVar, tC, tRet, tRetN, tDrop, tNext, tIfS, tNever, gName, tCons, tNil, tCall, tCB, tAndV, tOrV, tNotV, tAnd, tOr, tNot, tTest, tB, tIf, tChain, tLst, tTup, tSl, tNoPart, tPart, tBM, tBM0, tFor_eq, iList, iTup, iRng1, iRng2, iStr, tYes, tDNewK, tDisp, tPairs, List.getElem?_cons_zero, List.getElem?_cons_succ, List.set_cons_zero, List.set_cons_succ, List.append_nil, List.nil_append, List.cons_append, exSlot, exBl, exInt, exStr, exRef, rI_int, rI0_int, rU_int, rAddA_int, rAddA_str, rInA_str, rNotInA_str, rLenA_str, rSlA_str, rIx_str, CMul, CDiv, CPow, rIsi_str_str, rIsi_bl_bool, tComp_eq, ite_tt, ite_ft, ite_tf, ite_ff, decide_eq_true_eq, Bool.not_eq_true', decide_eq_false_iff_not, decide_true, decide_false, rEqH_str, rEqH_int, rEqH_bl, rNeH_str, rNeH_int, rStarts_at, rEnds_at, rFind_at, rSplit_at, rPart_at, tyV_str, rInt1_bl, rInt1_int, gTup, gCons, gNil, gSub, rIsN_ref, rIsN_non, rIsN_str, rNotN_ref, rNotN_non, tDGet, tDIn, tDNotIn, sDPut, tDGet1, tDGet2, tFld, sFld, tMeth, tMake, tCMeth, rLtA_int, rLtA_str, spMix_at]
      intro n hn
      try simp only [tSeq, tAsg, tOp, tUn, tVar, tC, tRet, tRetN, tDrop, tNext, tIfS, tNever, gName, tCons, tNil, tCall, tCB, tAndV, tOrV, tNotV, tAnd, tOr, tNot, tTest, tB, tIf, tChain, tLst, tTup, tSl, tNoPart, tPart, tBM, tBM0, tFor_eq, iList, iTup, iRng1, iRng2, iStr, tYes, tDNewK, tDisp, tPairs, List.getElem?_cons_zero, List.getElem?_cons_succ, List.set_cons_zero, List.set_cons_succ, List.append_nil, List.nil_append, List.cons_append, exSlot, exBl, exInt, exStr, exRef, rI_int, rI0_int, rU_int, rAddA_int, rAddA_str, rInA_str, rNotInA_str, rLenA_str, rSlA_str, rIx_str, CMul, CDiv, CPow, rIsi_str_str, rIsi_bl_bool, tComp_eq, ite_tt, ite_ft, ite_tf, ite_ff, decide_eq_true_eq, Bool.not_eq_true', decide_eq_false_iff_not, decide_true, decide_false, rEqH_str, rEqH_int, rEqH_bl, rNeH_str, rNeH_int, rStarts_at, rEnds_at, rFind_at, rSplit_at, rPart_at, tyV_str, rInt1_bl, rInt1_int, gTup, gCons, gNil, gSub, rIsN_ref, rIsN_non, rIsN_str, rNotN_ref, rNotN_non, tDGet, tDIn, tDNotIn, sDPut, tDGet1, tDGet2, tFld, sFld, tMeth, tMake, tCMeth, rLtA_int, rLtA_str, spMix_at]
      have m1 := mod_lt' (i := n) (j := (ls.length : Int)) (by omega)
      have m2 := mod_lt' (i := n / 9) (j := (ls.length : Int)) (by omega)
      obtain ⟨v1, e1, hv1, _⟩ := atI_in (xs := ls.map V.str) (i := n % (ls.length : Int)) m1.1 (by simpa using m1.2)
      obtain ⟨v2, e2, hv2, _⟩ := atI_in (xs := ls.map V.str) (i := n / 9 % (ls.length : Int)) m2.1 (by simpa using m2.2)
      obtain ⟨z1, hz1, rfl⟩ := List.mem_map.mp hv1
      obtain ⟨z2, hz2, rfl⟩ := List.mem_map.mp hv2
      refine ⟨.inl ⟨rfl, _, SqL.of hP2⟩, ?_⟩
      refine rLenA_lst (SqL.of hL2) ?_
      try simp only [tSeq, tAsg, tOp, tUn, tVar, tC, tRet, tRetN, tDrop, tNext, tIfS, tNever, gName, tCons, tNil, tCall, tCB, tAndV, tOrV, tNotV, tAnd, tOr, tNot, tTest, tB, tIf, tChain, tLst, tTup, tSl, tNoPart, tPart, tBM, tBM0, tFor_eq, iList, iTup, iRng1, iRng2, iStr, tYes, tDNewK, tDisp, tPairs, List.getElem?_cons_zero, List.getElem?_cons_succ, List.set_cons_zero, List.set_cons_succ, List.append_nil, List.nil_append, List.cons_append, exSlot, exBl, exInt, exStr, exRef, rI_int, rI0_int, rU_int, rAddA_int, rAddA_str, rInA_str, rNotInA_str, rLenA_str, rSlA_str, rIx_str, CMul, CDiv, CPow, rIsi_str_str, rIsi_bl_bool, tComp_eq, ite_tt, ite_ft, ite_tf, ite_ff, decide_eq_true_eq, Bool.not_eq_true', decide_eq_false_iff_not, decide_true, decide_false, rEqH_str, rEqH_int, rEqH_bl, rNeH_str, rNeH_int, rStarts_at, rEnds_at, rFind_at, rSplit_at, rPart_at, tyV_str, rInt1_bl, rInt1_int, gTup, gCons, gNil, gSub, rIsN_ref, rIsN_non, rIsN_str, rNotN_ref, rNotN_non, tDGet, tDIn, tDNotIn, sDPut, tDGet1, tDGet2, tFld, sFld, tMeth, tMake, tCMeth, rLtA_int, rLtA_str, spMix_at]
      try rw [List.length_map]
      refine ⟨by omega, rIx_lst (SqL.of hL2) e1 ?_⟩
      try simp only [tSeq, tAsg, tOp, tUn, tVar, tC, tRet, tRetN, tDrop, tNext, tIfS, tNever, gName, tCons, tNil, tCall, tCB, tAndV, tOrV, tNotV, tAnd, tOr, tNot, tTest, tB, tIf, tChain, tLst, tTup, tSl, tNoPart, tPart, tBM, tBM0, tFor_eq, iList, iTup, iRng1, iRng2, iStr, tYes, tDNewK, tDisp, tPairs, List.getElem?_cons_zero, List.getElem?_cons_succ, List.set_cons_zero, List.set_cons_succ, List.append_nil, List.nil_append, List.cons_append, exSlot, exBl, exInt, exStr, exRef, rI_int, rI0_int, rU_int, rAddA_int, rAddA_str, rInA_str, rNotInA_str, rLenA_str, rSlA_str, rIx_str, CMul, CDiv, CPow, rIsi_str_str, rIsi_bl_bool, tComp_eq, ite_tt, ite_ft, ite_tf, ite_ff, decide_eq_true_eq, Bool.not_eq_true', decide_eq_false_iff_not, decide_true, decide_false, rEqH_str, rEqH_int, rEqH_bl, rNeH_str, rNeH_int, rStarts_at, rEnds_at, rFind_at, rSplit_at, rPart_at, tyV_str, rInt1_bl, rInt1_int, gTup, gCons, gNil, gSub, rIsN_ref, rIsN_non, rIsN_str, rNotN_ref, rNotN_non, tDGet, tDIn, tDNotIn, sDPut, tDGet1, tDGet2, tFld, sFld, tMeth, tMake, tCMeth, rLtA_int, rLtA_str, spMix_at]
      refine ⟨⟨by decide, by decide⟩, rLenA_lst (SqL.of hL2) ?_⟩
      try simp only [tSeq, tAsg, tOp, tUn, tVar, tC, tRet, tRetN, tDrop, tNext, tIfS, tNever, gName, tCons, tNil, tCall, tCB, tAndV, tOrV, tNotV, tAnd, tOr, tNot, tTest, tB, tIf, tChain, tLst, tTup, tSl, tNoPart, tPart, tBM, tBM0, tFor_eq, iList, iTup, iRng1, iRng2, iStr, tYes, tDNewK, tDisp, tPairs, List.getElem?_cons_zero, List.getElem?_cons_succ, List.set_cons_zero, List.set_cons_succ, List.append_nil, List.nil_append, List.cons_append, exSlot, exBl, exInt, exStr, exRef, rI_int, rI0_int, rU_int, rAddA_int, rAddA_str, rInA_str, rNotInA_str, rLenA_str, rSlA_str, rIx_str, CMul, CDiv, CPow, rIsi_str_str, rIsi_bl_bool, tComp_eq, ite_tt, ite_ft, ite_tf, ite_ff, decide_eq_true_eq, Bool.not_eq_true', decide_eq_false_iff_not, decide_true, decide_false, rEqH_str, rEqH_int, rEqH_bl, rNeH_str, rNeH_int, rStarts_at, rEnds_at, rFind_at, rSplit_at, rPart_at, tyV_str, rInt1_bl, rInt1_int, gTup, gCons, gNil, gSub, rIsN_ref, rIsN_non, rIsN_str, rNotN_ref, rNotN_non, tDGet, tDIn, tDNotIn, sDPut, tDGet1, tDGet2, tFld, sFld, tMeth, tMake, tCMeth, rLtA_int, rLtA_str, spMix_at]
      try rw [List.length_map]
      refine ⟨by omega, rIx_lst (SqL.of hL2) e2 ?_⟩
      try simp only [tSeq, tAsg, tOp, tUn, tVar, tC, tRet, tRetN, tDrop, tNext, tIfS, tNever, gName, tCons, tNil, tCall, tCB, tAndV, tOrV, tNotV, tAnd, tOr, tNot, tTest, tB, tIf, tChain, tLst, tTup, tSl, tNoPart, tPart, tBM, tBM0, tFor_eq, iList, iTup, iRng1, iRng2, iStr, tYes, tDNewK, tDisp, tPairs, List.getElem?_cons_zero, List.getElem?_cons_succ, List.set_cons_zero, List.set_cons_succ, List.append_nil, List.nil_append, List.cons_append, exSlot, exBl, exInt, exStr, exRef, rI_int, rI0_int, rU_int, rAddA_int, rAddA_str, rInA_str, rNotInA_str, rLenA_str, rSlA_str, rIx_str, CMul, CDiv, CPow, rIsi_str_str, rIsi_bl_bool, tComp_eq, ite_tt, ite_ft, ite_tf, ite_ff, decide_eq_true_eq, Bool.not_eq_true', decide_eq_false_iff_not, decide_true, decide_false, rEqH_str, rEqH_int, rEqH_bl, rNeH_str, rNeH_int, rStarts_at, rEnds_at, rFind_at, rSplit_at, rPart_at, tyV_str, rInt1_bl, rInt1_int, gTup, gCons, gNil, gSub, rIsN_ref, rIsN_non, rIsN_str, rNotN_ref, rNotN_non, tDGet, tDIn, tDNotIn, sDPut, tDGet1, tDGet2, tFld, sFld, tMeth, tMake, tCMeth, rLtA_int, rLtA_str, spMix_at]
      refine ⟨by simp only [List.length_cons, List.length_nil]; decide, fun q' hq' => ?_⟩
      have hqP : P ≠ q' := fun z => by rw [← z, hP2] at hq'; cases hq'
      have hP3 : upd H2 q' (.tup [V.str z1, V.str z2]) P = some (.lst xs) := by rw [upd_ne hqP]; exact hP2
      refine ⟨P, _, _, rfl, rfl, hP3, Nat.lt_of_le_of_lt (show _ ≤ 2000 by rw [hR2.len]; omega) (by decide), xs ++ [V.ref q'], ps ++ [(z1, z2)], _, _, rfl, ?_, ?_, upd_same, ?_, by simp; omega, ?_⟩
      · intro b u e
        rw [upd_ne (ne_of_none e hPn), upd_ne (ne_of_none (s2 b u e) hq')]; exact s2 b u e
      · rw [upd_ne hp1P, upd_ne (fun z => by rw [z, hq'] at hw2; cases hw2)]; exact hw2
      · refine PrL.snoc ⟨hR2.len, fun i p e => ?_⟩ (p := (z1, z2)) ?_
        · obtain ⟨q2, h1, h2⟩ := hR2.get i p e
          refine ⟨q2, h1, ?_⟩
          rw [upd_ne (ne_of h2 hP2 (by intro z; cases z)), upd_ne (fun z => by rw [z, hq'] at h2; cases h2)]; exact h2
        · rw [upd_ne hqP.symm, upd_same]
      · intro p hp
        rcases List.mem_append.mp hp with h | h
        · exact hin p h
        · rw [List.mem_singleton.mp h]; exact ⟨hz1, hz2⟩
    rintro σ H2 ⟨xs, ps, ce, nu, rfl, s2, hw2, hP2, hR2, hle, hin⟩
    have hL2 := s2 _ _ hL
    have hS2 : SqL K H2 a (ns.map V.int) := s2.seq hS1
    have hW : Wel ps ls := ⟨fun p h => (hin p h).1, by omega, by omega⟩
    have hsp : ∀ p ∈ ps, PyData.strOk p.1 = true ∧ PyData.strOk p.2 = true := fun p h => ⟨hok _ (hin p h).1, hok _ (hin p h).2⟩
    try simp only [tSeq, tAsg, tOp, tUn, tVar, tC, tRet, tRetN, tDrop, tNext, tIfS, tNever, gName, tCons, tNil, tCall, tCB, tAndV, tOrV, tNotV, tAnd, tOr, tNot, tTest, tB, tIf, tChain, tLst, tTup, tSl, tNoPart, tPart, tBM, tBM0, tFor_eq, iList, iTup, iRng1, iRng2, iStr, tYes, tDNewK, tDisp, tPairs, List.getElem?_cons_zero, List.getElem?_cons_succ, List.set_cons_zero, List.set_cons_succ, List.append_nil, List.nil_append, List.cons_append, exSlot, exBl, exInt, exStr, exRef, rI_int, rI0_int, rU_int, rAddA_int, rAddA_str, rInA_str, rNotInA_str, rLenA_str, rSlA_str, rIx_str, CMul, CDiv, CPow, rIsi_str_str, rIsi_bl_bool, tComp_eq, ite_tt, ite_ft, ite_tf, ite_ff, decide_eq_true_eq, Bool.not_eq_true', decide_eq_false_iff_not, decide_true, decide_false, rEqH_str, rEqH_int, rEqH_bl, rNeH_str, rNeH_int, rStarts_at, rEnds_at, rFind_at, rSplit_at, rPart_at, tyV_str, rInt1_bl, rInt1_int, gTup, gCons, gNil, gSub, rIsN_ref, rIsN_non, rIsN_str, rNotN_ref, rNotN_non, tDGet, tDIn, tDNotIn, sDPut, tDGet1, tDGet2, tFld, sFld, tMeth, tMake, tCMeth, rLtA_int, rLtA_str, spMix_at]
    refine ⟨3, rfl, by decide, by decide, ?_⟩
    refine for_range (n := (3 : Int).toNat) (lo := 0) (fun i σ H' => ∃ (c3 c4 c5 c6 c7 c8 c9 c10 : Option V), σ = [some (V.ref a), some (V.ref L), some (V.ref P), c3, c4, c5, c6, c7, c8, c9, c10] ∧ Same H2 H') ⟨_, _, _, _, _, _, _, _, rfl, Same.refl _⟩ ?_ ?_
    · rintro i σ H3 hi ⟨c3, c4, c5, c6, c7, c8, c9, c10, rfl, s3⟩
      have hL3 := s3 _ _ hL2
      have hP3 := s3 _ _ hP2
      try simp only [tSeq, tAsg, tOp, tUn, tVar, tC, tRet, tRetN, tDrop, tNext, tIfS, tNever, gName, tCons, tNil, tCall, tCB, tAndV, tOrV, tNotV, tAnd, tOr, tNot, tTest, tB, tIf, tChain, tLst, tTup, tSl, tNoPart, tPart, tBM, tBM0, tFor_eq, iList, iTup, iRng1, iRng2, iStr, tYes, tDNewK, tDisp, tPairs, List.getElem?_cons_zero, List.getElem?_cons_succ, List.set_cons_zero, List.set_cons_succ, List.append_nil, List.nil_append, List.cons_append, exSlot, exBl, exInt, exStr, exRef, rI_int, rI0_int, rU_int, rAddA_int, rAddA_str, rInA_str, rNotInA_str, rLenA_str, rSlA_str, rIx_str, CMul, CDiv, CPow, rIsi_str_str, rIsi_bl_bool, tComp_eq, ite_tt, ite_ft, ite_tf, ite_ff, decide_eq_true_eq, Bool.not_eq_true', decide_eq_false_iff_not, decide_true, decide_false, rEqH_str, rEqH_int, rEqH_bl, rNeH_str, rNeH_int, rStarts_at, rEnds_at, rFind_at, rSplit_at, rPart_at, tyV_str, rInt1_bl, rInt1_int, gTup, gCons, gNil, gSub, rIsN_ref, rIsN_non, rIsN_str, rNotN_ref, rNotN_non, tDGet, tDIn, tDNotIn, sDPut, tDGet1, tDGet2, tFld, sFld, tMeth, tMake, tCMeth, rLtA_int, rLtA_str, spMix_at]
      refine ⟨a, ns, 1, rfl, s3.seq hS2, hl, by decide, by decide, fun c1 => ?_⟩
      try simp only [tSeq, tAsg, tOp, tUn, tVar, tC, tRet, tRetN, tDrop, tNext, tIfS, tNever, gName, tCons, tNil, tCall, tCB, tAndV, tOrV, tNotV, tAnd, tOr, tNot, tTest, tB, tIf, tChain, tLst, tTup, tSl, tNoPart, tPart, tBM, tBM0, tFor_eq, iList, iTup, iRng1, iRng2, iStr, tYes, tDNewK, tDisp, tPairs, List.getElem?_cons_zero, List.getElem?_cons_succ, List.set_cons_zero, List.set_cons_succ, List.append_nil, List.nil_append, List.cons_append, exSlot, exBl, exInt, exStr, exRef, rI_int, rI0_int, rU_int, rAddA_int, rAddA_str, rInA_str, rNotInA_str, rLenA_str, rSlA_str, rIx_str, CMul, CDiv, CPow, rIsi_str_str, rIsi_bl_bool, tComp_eq, ite_tt, ite_ft, ite_tf, ite_ff, decide_eq_true_eq, Bool.not_eq_true', decide_eq_false_iff_not, decide_true, decide_false, rEqH_str, rEqH_int, rEqH_bl, rNeH_str, rNeH_int, rStarts_at, rEnds_at, rFind_at, rSplit_at, rPart_at, tyV_str, rInt1_bl, rInt1_int, gTup, gCons, gNil, gSub, rIsN_ref, rIsN_non, rIsN_str, rNotN_ref, rNotN_non, tDGet, tDIn, tDNotIn, sDPut, tDGet1, tDGet2, tFld, sFld, tMeth, tMake, tCMeth, rLtA_int, rLtA_str, spMix_at]
      intro n hn
      have m1 := mod_lt' (i := n) (j := (ls.length : Int)) (by omega)
      have m2 := mod_lt' (i := n / 9) (j := (ls.length : Int)) (by omega)
      obtain ⟨v1, e1, hv1, _⟩ := atI_in (xs := ls.map V.str) (i := n % (ls.length : Int)) m1.1 (by simpa using m1.2)
      obtain ⟨v2, e2, hv2, _⟩ := atI_in (xs := ls.map V.str) (i := n / 9 % (ls.length : Int)) m2.1 (by simpa using m2.2)
      obtain ⟨one, hz1, rfl⟩ := List.mem_map.mp hv1
      obtain ⟨z2, hz2, rfl⟩ := List.mem_map.mp hv2
      try simp only [tSeq, tAsg, tOp, tUn, tVar, tC, tRet, tRetN, tDrop, tNext, tIfS, tNever, gName, tCons, tNil, tCall, tCB, tAndV, tOrV, tNotV, tAnd, tOr, tNot, tTest, tB, tIf, tChain, tLst, tTup, tSl, tNoPart, tPart, tBM, tBM0, tFor_eq, iList, iTup, iRng1, iRng2, iStr, tYes, tDNewK, tDisp, tPairs, List.getElem?_cons_zero, List.getElem?_cons_succ, List.set_cons_zero, List.set_cons_succ, List.append_nil, List.nil_append, List.cons_append, exSlot, exBl, exInt, exStr, exRef, rI_int, rI0_int, rU_int, rAddA_int, rAddA_str, rInA_str, rNotInA_str, rLenA_str, rSlA_str, rIx_str, CMul, CDiv, CPow, rIsi_str_str, rIsi_bl_bool, tComp_eq, ite_tt, ite_ft, ite_tf, ite_ff, decide_eq_true_eq, Bool.not_eq_true', decide_eq_false_iff_not, decide_true, decide_false, rEqH_str, rEqH_int, rEqH_bl, rNeH_str, rNeH_int, rStarts_at, rEnds_at, rFind_at, rSplit_at, rPart_at, tyV_str, rInt1_bl, rInt1_int, gTup, gCons, gNil, gSub, rIsN_ref, rIsN_non, rIsN_str, rNotN_ref, rNotN_non, tDGet, tDIn, tDNotIn, sDPut, tDGet1, tDGet2, tFld, sFld, tMeth, tMake, tCMeth, rLtA_int, rLtA_str, spMix_at]
      refine rLenA_lst (SqL.of hL3) ?_
      try simp only [tSeq, tAsg, tOp, tUn, tVar, tC, tRet, tRetN, tDrop, tNext, tIfS, tNever, gName, tCons, tNil, tCall, tCB, tAndV, tOrV, tNotV, tAnd, tOr, tNot, tTest, tB, tIf, tChain, tLst, tTup, tSl, tNoPart, tPart, tBM, tBM0, tFor_eq, iList, iTup, iRng1, iRng2, iStr, tYes, tDNewK, tDisp, tPairs, List.getElem?_cons_zero, List.getElem?_cons_succ, List.set_cons_zero, List.set_cons_succ, List.append_nil, List.nil_append, List.cons_append, exSlot, exBl, exInt, exStr, exRef, rI_int, rI0_int, rU_int, rAddA_int, rAddA_str, rInA_str, rNotInA_str, rLenA_str, rSlA_str, rIx_str, CMul, CDiv, CPow, rIsi_str_str, rIsi_bl_bool, tComp_eq, ite_tt, ite_ft, ite_tf, ite_ff, decide_eq_true_eq, Bool.not_eq_true', decide_eq_false_iff_not, decide_true, decide_false, rEqH_str, rEqH_int, rEqH_bl, rNeH_str, rNeH_int, rStarts_at, rEnds_at, rFind_at, rSplit_at, rPart_at, tyV_str, rInt1_bl, rInt1_int, gTup, gCons, gNil, gSub, rIsN_ref, rIsN_non, rIsN_str, rNotN_ref, rNotN_non, tDGet, tDIn, tDNotIn, sDPut, tDGet1, tDGet2, tFld, sFld, tMeth, tMake, tCMeth, rLtA_int, rLtA_str, spMix_at]
      try rw [List.length_map]
      refine ⟨by omega, rIx_lst (SqL.of hL3) e1 ?_⟩
      try simp only [tSeq, tAsg, tOp, tUn, tVar, tC, tRet, tRetN, tDrop, tNext, tIfS, tNever, gName, tCons, tNil, tCall, tCB, tAndV, tOrV, tNotV, tAnd, tOr, tNot, tTest, tB, tIf, tChain, tLst, tTup, tSl, tNoPart, tPart, tBM, tBM0, tFor_eq, iList, iTup, iRng1, iRng2, iStr, tYes, tDNewK, tDisp, tPairs, List.getElem?_cons_zero, List.getElem?_cons_succ, List.set_cons_zero, List.set_cons_succ, List.append_nil, List.nil_append, List.cons_append, exSlot, exBl, exInt, exStr, exRef, rI_int, rI0_int, rU_int, rAddA_int, rAddA_str, rInA_str, rNotInA_str, rLenA_str, rSlA_str, rIx_str, CMul, CDiv, CPow, rIsi_str_str, rIsi_bl_bool, tComp_eq, ite_tt, ite_ft, ite_tf, ite_ff, decide_eq_true_eq, Bool.not_eq_true', decide_eq_false_iff_not, decide_true, decide_false, rEqH_str, rEqH_int, rEqH_bl, rNeH_str, rNeH_int, rStarts_at, rEnds_at, rFind_at, rSplit_at, rPart_at, tyV_str, rInt1_bl, rInt1_int, gTup, gCons, gNil, gSub, rIsN_ref, rIsN_non, rIsN_str, rNotN_ref, rNotN_non, tDGet, tDIn, tDNotIn, sDPut, tDGet1, tDGet2, tFld, sFld, tMeth, tMake, tCMeth, rLtA_int, rLtA_str, spMix_at]
      refine ⟨⟨by decide, by decide⟩, rLenA_lst (SqL.of hL3) ?_⟩
      try simp only [tSeq, tAsg, tOp, tUn, tVar, tC, tRet, tRetN, tDrop, tNext, tIfS, tNever, gName, tCons, tNil, tCall, tCB, tAndV, tOrV, tNotV, tAnd, tOr, tNot, tTest, tB, tIf, tChain, tLst, tTup, tSl, tNoPart, tPart, tBM, tBM0, tFor_eq, iList, iTup, iRng1, iRng2, iStr, tYes, tDNewK, tDisp, tPairs, List.getElem?_cons_zero, List.getElem?_cons_succ, List.set_cons_zero, List.set_cons_succ, List.append_nil, List.nil_append, List.cons_append, exSlot, exBl, exInt, exStr, exRef, rI_int, rI0_int, rU_int, rAddA_int, rAddA_str, rInA_str, rNotInA_str, rLenA_str, rSlA_str, rIx_str, CMul, CDiv, CPow, rIsi_str_str, rIsi_bl_bool, tComp_eq, ite_tt, ite_ft, ite_tf, ite_ff, decide_eq_true_eq, Bool.not_eq_true', decide_eq_false_iff_not, decide_true, decide_false, rEqH_str, rEqH_int, rEqH_bl, rNeH_str, rNeH_int, rStarts_at, rEnds_at, rFind_at, rSplit_at, rPart_at, tyV_str, rInt1_bl, rInt1_int, gTup, gCons, gNil, gSub, rIsN_ref, rIsN_non, rIsN_str, rNotN_ref, rNotN_non, tDGet, tDIn, tDNotIn, sDPut, tDGet1, tDGet2, tFld, sFld, tMeth, tMake, tCMeth, rLtA_int, rLtA_str, spMix_at]
      try rw [List.length_map]
      refine ⟨by omega, rIx_lst (SqL.of hL3) e2 ?_⟩
      refine ⟨fun σ' H' => (∃ o : Str, σ' = [some (V.ref a), some (V.ref L), some (V.ref P), c3, some (V.int n), some (V.int (0 + (i : Int))), some (V.str one), some (V.str o), c8, c9, c10]) ∧ H3 = H', ?_, ?_⟩
      · try simp only [tSeq, tAsg, tOp, tUn, tVar, tC, tRet, tRetN, tDrop, tNext, tIfS, tNever, gName, tCons, tNil, tCall, tCB, tAndV, tOrV, tNotV, tAnd, tOr, tNot, tTest, tB, tIf, tChain, tLst, tTup, tSl, tNoPart, tPart, tBM, tBM0, tFor_eq, iList, iTup, iRng1, iRng2, iStr, tYes, tDNewK, tDisp, tPairs, List.getElem?_cons_zero, List.getElem?_cons_succ, List.set_cons_zero, List.set_cons_succ, List.append_nil, List.nil_append, List.cons_append, exSlot, exBl, exInt, exStr, exRef, rI_int, rI0_int, rU_int, rAddA_int, rAddA_str, rInA_str, rNotInA_str, rLenA_str, rSlA_str, rIx_str, CMul, CDiv, CPow, rIsi_str_str, rIsi_bl_bool, tComp_eq, ite_tt, ite_ft, ite_tf, ite_ff, decide_eq_true_eq, Bool.not_eq_true', decide_eq_false_iff_not, decide_true, decide_false, rEqH_str, rEqH_int, rEqH_bl, rNeH_str, rNeH_int, rStarts_at, rEnds_at, rFind_at, rSplit_at, rPart_at, tyV_str, rInt1_bl, rInt1_int, gTup, gCons, gNil, gSub, rIsN_ref, rIsN_non, rIsN_str, rNotN_ref, rNotN_non, tDGet, tDIn, tDNotIn, sDPut, tDGet1, tDGet2, tFld, sFld, tMeth, tMake, tCMeth, rLtA_int, rLtA_str, spMix_at]
        exact ⟨⟨by decide, by decide⟩, by decide, ite2 (fun _ => ⟨⟨_, rfl⟩, (by trivial)⟩) (fun _ => ⟨⟨_, rfl⟩, (by trivial)⟩)⟩
      rintro σ' H' ⟨⟨o, rfl⟩, rfl⟩
      try simp only [tSeq, tAsg, tOp, tUn, tVar, tC, tRet, tRetN, tDrop, tNext, tIfS, tNever, gName, tCons, tNil, tCall, tCB, tAndV, tOrV, tNotV, tAnd, tOr, tNot, tTest, tB, tIf, tChain, tLst, tTup, tSl, tNoPart, tPart, tBM, tBM0, tFor_eq, iList, iTup, iRng1, iRng2, iStr, tYes, tDNewK, tDisp, tPairs, List.getElem?_cons_zero, List.getElem?_cons_succ, List.set_cons_zero, List.set_cons_succ, List.append_nil, List.nil_append, List.cons_append, exSlot, exBl, exInt, exStr, exRef, rI_int, rI0_int, rU_int, rAddA_int, rAddA_str, rInA_str, rNotInA_str, rLenA_str, rSlA_str, rIx_str, CMul, CDiv, CPow, rIsi_str_str, rIsi_bl_bool, tComp_eq, ite_tt, ite_ft, ite_tf, ite_ff, decide_eq_true_eq, Bool.not_eq_true', decide_eq_false_iff_not, decide_true, decide_false, rEqH_str, rEqH_int, rEqH_bl, rNeH_str, rNeH_int, rStarts_at, rEnds_at, rFind_at, rSplit_at, rPart_at, tyV_str, rInt1_bl, rInt1_int, gTup, gCons, gNil, gSub, rIsN_ref, rIsN_non, rIsN_str, rNotN_ref, rNotN_non, tDGet, tDIn, tDNotIn, sDPut, tDGet1, tDGet2, tFld, sFld, tMeth, tMake, tCMeth, rLtA_int, rLtA_str, spMix_at]
      refine ⟨P, L, xs, ps, ls, one, o, rfl, SqL.of hP3, hL3, hR2.same s3, hW, roadq_of fun v1 H4 s4 r1 => ?_⟩
      have hP4 := s4 _ _ hP3
      try simp only [tSeq, tAsg, tOp, tUn, tVar, tC, tRet, tRetN, tDrop, tNext, tIfS, tNever, gName, tCons, tNil, tCall, tCB, tAndV, tOrV, tNotV, tAnd, tOr, tNot, tTest, tB, tIf, tChain, tLst, tTup, tSl, tNoPart, tPart, tBM, tBM0, tFor_eq, iList, iTup, iRng1, iRng2, iStr, tYes, tDNewK, tDisp, tPairs, List.getElem?_cons_zero, List.getElem?_cons_succ, List.set_cons_zero, List.set_cons_succ, List.append_nil, List.nil_append, List.cons_append, exSlot, exBl, exInt, exStr, exRef, rI_int, rI0_int, rU_int, rAddA_int, rAddA_str, rInA_str, rNotInA_str, rLenA_str, rSlA_str, rIx_str, CMul, CDiv, CPow, rIsi_str_str, rIsi_bl_bool, tComp_eq, ite_tt, ite_ft, ite_tf, ite_ff, decide_eq_true_eq, Bool.not_eq_true', decide_eq_false_iff_not, decide_true, decide_false, rEqH_str, rEqH_int, rEqH_bl, rNeH_str, rNeH_int, rStarts_at, rEnds_at, rFind_at, rSplit_at, rPart_at, tyV_str, rInt1_bl, rInt1_int, gTup, gCons, gNil, gSub, rIsN_ref, rIsN_non, rIsN_str, rNotN_ref, rNotN_non, tDGet, tDIn, tDNotIn, sDPut, tDGet1, tDGet2, tFld, sFld, tMeth, tMake, tCMeth, rLtA_int, rLtA_str, spMix_at]
      refine ⟨P, xs, rfl, .inl (SqL.of hP4), fun G hG => ?_⟩
      obtain ⟨H5, e5, s5, h5⟩ := newO hG (.lst xs); rw [e5]
      have hR5 := hR2.same ((s3.trans s4).trans s5)
      try simp only [tSeq, tAsg, tOp, tUn, tVar, tC, tRet, tRetN, tDrop, tNext, tIfS, tNever, gName, tCons, tNil, tCall, tCB, tAndV, tOrV, tNotV, tAnd, tOr, tNot, tTest, tB, tIf, tChain, tLst, tTup, tSl, tNoPart, tPart, tBM, tBM0, tFor_eq, iList, iTup, iRng1, iRng2, iStr, tYes, tDNewK, tDisp, tPairs, List.getElem?_cons_zero, List.getElem?_cons_succ, List.set_cons_zero, List.set_cons_succ, List.append_nil, List.nil_append, List.cons_append, exSlot, exBl, exInt, exStr, exRef, rI_int, rI0_int, rU_int, rAddA_int, rAddA_str, rInA_str, rNotInA_str, rLenA_str, rSlA_str, rIx_str, CMul, CDiv, CPow, rIsi_str_str, rIsi_bl_bool, tComp_eq, ite_tt, ite_ft, ite_tf, ite_ff, decide_eq_true_eq, Bool.not_eq_true', decide_eq_false_iff_not, decide_true, decide_false, rEqH_str, rEqH_int, rEqH_bl, rNeH_str, rNeH_int, rStarts_at, rEnds_at, rFind_at, rSplit_at, rPart_at, tyV_str, rInt1_bl, rInt1_int, gTup, gCons, gNil, gSub, rIsN_ref, rIsN_non, rIsN_str, rNotN_ref, rNotN_non, tDGet, tDIn, tDNotIn, sDPut, tDGet1, tDGet2, tFld, sFld, tMeth, tMake, tCMeth, rLtA_int, rLtA_str, spMix_at]
      refine ⟨G, xs, ps, ls, one, o, rfl, SqL.of h5, hR5, hW, roadq_of fun v2 H6 s6 r2 => ?_⟩
      have hR6 := hR5.same s6
      have hP6 := s6 _ _ (s5 _ _ hP4)
      have h56 := s6 _ _ h5
      have r16 := (r1.same s5).same s6
      refine ⟨fun σ' H' => σ' = [some (V.ref a), some (V.ref L), some (V.ref P), c3, some (V.int n), some (V.int (0 + (i : Int))), some (V.str one), some (V.str o), some v1, some (V.ref G), some v2] ∧ H6 = H', ?_, ?_⟩
      · try simp only [tSeq, tAsg, tOp, tUn, tVar, tC, tRet, tRetN, tDrop, tNext, tIfS, tNever, gName, tCons, tNil, tCall, tCB, tAndV, tOrV, tNotV, tAnd, tOr, tNot, tTest, tB, tIf, tChain, tLst, tTup, tSl, tNoPart, tPart, tBM, tBM0, tFor_eq, iList, iTup, iRng1, iRng2, iStr, tYes, tDNewK, tDisp, tPairs, List.getElem?_cons_zero, List.getElem?_cons_succ, List.set_cons_zero, List.set_cons_succ, List.append_nil, List.nil_append, List.cons_append, exSlot, exBl, exInt, exStr, exRef, rI_int, rI0_int, rU_int, rAddA_int, rAddA_str, rInA_str, rNotInA_str, rLenA_str, rSlA_str, rIx_str, CMul, CDiv, CPow, rIsi_str_str, rIsi_bl_bool, tComp_eq, ite_tt, ite_ft, ite_tf, ite_ff, decide_eq_true_eq, Bool.not_eq_true', decide_eq_false_iff_not, decide_true, decide_false, rEqH_str, rEqH_int, rEqH_bl, rNeH_str, rNeH_int, rStarts_at, rEnds_at, rFind_at, rSplit_at, rPart_at, tyV_str, rInt1_bl, rInt1_int, gTup, gCons, gNil, gSub, rIsN_ref, rIsN_non, rIsN_str, rNotN_ref, rNotN_non, tDGet, tDIn, tDNotIn, sDPut, tDGet1, tDGet2, tFld, sFld, tMeth, tMake, tCMeth, rLtA_int, rLtA_str, spMix_at]
        refine res_same hW.1 (hok _ hz1) (fun p h => (hsp p h).2) r2 r16 ?_
        try simp only [tSeq, tAsg, tOp, tUn, tVar, tC, tRet, tRetN, tDrop, tNext, tIfS, tNever, gName, tCons, tNil, tCall, tCB, tAndV, tOrV, tNotV, tAnd, tOr, tNot, tTest, tB, tIf, tChain, tLst, tTup, tSl, tNoPart, tPart, tBM, tBM0, tFor_eq, iList, iTup, iRng1, iRng2, iStr, tYes, tDNewK, tDisp, tPairs, List.getElem?_cons_zero, List.getElem?_cons_succ, List.set_cons_zero, List.set_cons_succ, List.append_nil, List.nil_append, List.cons_append, exSlot, exBl, exInt, exStr, exRef, rI_int, rI0_int, rU_int, rAddA_int, rAddA_str, rInA_str, rNotInA_str, rLenA_str, rSlA_str, rIx_str, CMul, CDiv, CPow, rIsi_str_str, rIsi_bl_bool, tComp_eq, ite_tt, ite_ft, ite_tf, ite_ff, decide_eq_true_eq, Bool.not_eq_true', decide_eq_false_iff_not, decide_true, decide_false, rEqH_str, rEqH_int, rEqH_bl, rNeH_str, rNeH_int, rStarts_at, rEnds_at, rFind_at, rSplit_at, rPart_at, tyV_str, rInt1_bl, rInt1_int, gTup, gCons, gNil, gSub, rIsN_ref, rIsN_non, rIsN_str, rNotN_ref, rNotN_non, tDGet, tDIn, tDNotIn, sDPut, tDGet1, tDGet2, tFld, sFld, tMeth, tMake, tCMeth, rLtA_int, rLtA_str, spMix_at]
        refine rNeD_same (.lst (SqL.of h56) hR6.den) (.lst (SqL.of hP6) hR6.den) (shapedP hsp) ?_
        try simp only [tSeq, tAsg, tOp, tUn, tVar, tC, tRet, tRetN, tDrop, tNext, tIfS, tNever, gName, tCons, tNil, tCall, tCB, tAndV, tOrV, tNotV, tAnd, tOr, tNot, tTest, tB, tIf, tChain, tLst, tTup, tSl, tNoPart, tPart, tBM, tBM0, tFor_eq, iList, iTup, iRng1, iRng2, iStr, tYes, tDNewK, tDisp, tPairs, List.getElem?_cons_zero, List.getElem?_cons_succ, List.set_cons_zero, List.set_cons_succ, List.append_nil, List.nil_append, List.cons_append, exSlot, exBl, exInt, exStr, exRef, rI_int, rI0_int, rU_int, rAddA_int, rAddA_str, rInA_str, rNotInA_str, rLenA_str, rSlA_str, rIx_str, CMul, CDiv, CPow, rIsi_str_str, rIsi_bl_bool, tComp_eq, ite_tt, ite_ft, ite_tf, ite_ff, decide_eq_true_eq, Bool.not_eq_true', decide_eq_false_iff_not, decide_true, decide_false, rEqH_str, rEqH_int, rEqH_bl, rNeH_str, rNeH_int, rStarts_at, rEnds_at, rFind_at, rSplit_at, rPart_at, tyV_str, rInt1_bl, rInt1_int, gTup, gCons, gNil, gSub, rIsN_ref, rIsN_non, rIsN_str, rNotN_ref, rNotN_non, tDGet, tDIn, tDNotIn, sDPut, tDGet1, tDGet2, tFld, sFld, tMeth, tMake, tCMeth, rLtA_int, rLtA_str, spMix_at]
        exact ⟨(by trivial), (by trivial)⟩
      rintro σ' H' ⟨rfl, rfl⟩
      refine ⟨fun σ' H' => σ' = [some (V.ref a), some (V.ref L), some (V.ref P), c3, some (V.int n), some (V.int (0 + (i : Int))), some (V.str one), some (V.str o), some v1, some (V.ref G), some v2] ∧ Same H5 H', ?_, ?_⟩
      · rcases id r2 with ⟨rfl, _⟩ | ⟨D, M, rfl, hDn, _, hD6⟩
        · try simp only [tSeq, tAsg, tOp, tUn, tVar, tC, tRet, tRetN, tDrop, tNext, tIfS, tNever, gName, tCons, tNil, tCall, tCB, tAndV, tOrV, tNotV, tAnd, tOr, tNot, tTest, tB, tIf, tChain, tLst, tTup, tSl, tNoPart, tPart, tBM, tBM0, tFor_eq, iList, iTup, iRng1, iRng2, iStr, tYes, tDNewK, tDisp, tPairs, List.getElem?_cons_zero, List.getElem?_cons_succ, List.set_cons_zero, List.set_cons_succ, List.append_nil, List.nil_append, List.cons_append, exSlot, exBl, exInt, exStr, exRef, rI_int, rI0_int, rU_int, rAddA_int, rAddA_str, rInA_str, rNotInA_str, rLenA_str, rSlA_str, rIx_str, CMul, CDiv, CPow, rIsi_str_str, rIsi_bl_bool, tComp_eq, ite_tt, ite_ft, ite_tf, ite_ff, decide_eq_true_eq, Bool.not_eq_true', decide_eq_false_iff_not, decide_true, decide_false, rEqH_str, rEqH_int, rEqH_bl, rNeH_str, rNeH_int, rStarts_at, rEnds_at, rFind_at, rSplit_at, rPart_at, tyV_str, rInt1_bl, rInt1_int, gTup, gCons, gNil, gSub, rIsN_ref, rIsN_non, rIsN_str, rNotN_ref, rNotN_non, tDGet, tDIn, tDNotIn, sDPut, tDGet1, tDGet2, tFld, sFld, tMeth, tMake, tCMeth, rLtA_int, rLtA_str, spMix_at]
          exact ⟨(by trivial), s6⟩
        · try simp only [tSeq, tAsg, tOp, tUn, tVar, tC, tRet, tRetN, tDrop, tNext, tIfS, tNever, gName, tCons, tNil, tCall, tCB, tAndV, tOrV, tNotV, tAnd, tOr, tNot, tTest, tB, tIf, tChain, tLst, tTup, tSl, tNoPart, tPart, tBM, tBM0, tFor_eq, iList, iTup, iRng1, iRng2, iStr, tYes, tDNewK, tDisp, tPairs, List.getElem?_cons_zero, List.getElem?_cons_succ, List.set_cons_zero, List.set_cons_succ, List.append_nil, List.nil_append, List.cons_append, exSlot, exBl, exInt, exStr, exRef, rI_int, rI0_int, rU_int, rAddA_int, rAddA_str, rInA_str, rNotInA_str, rLenA_str, rSlA_str, rIx_str, CMul, CDiv, CPow, rIsi_str_str, rIsi_bl_bool, tComp_eq, ite_tt, ite_ft, ite_tf, ite_ff, decide_eq_true_eq, Bool.not_eq_true', decide_eq_false_iff_not, decide_true, decide_false, rEqH_str, rEqH_int, rEqH_bl, rNeH_str, rNeH_int, rStarts_at, rEnds_at, rFind_at, rSplit_at, rPart_at, tyV_str, rInt1_bl, rInt1_int, gTup, gCons, gNil, gSub, rIsN_ref, rIsN_non, rIsN_str, rNotN_ref, rNotN_non, tDGet, tDIn, tDNotIn, sDPut, tDGet1, tDGet2, tFld, sFld, tMeth, tMake, tCMeth, rLtA_int, rLtA_str, spMix_at]
          refine ⟨.inl ⟨rfl, _, SqL.of hD6⟩, D, _, rfl, rfl, hD6, (by trivial), ?_⟩
          intro b u e
          rw [upd_ne (ne_of_none e hDn)]; exact s6 b u e
      rintro σ' H7 ⟨rfl, s7⟩
      try simp only [tSeq, tAsg, tOp, tUn, tVar, tC, tRet, tRetN, tDrop, tNext, tIfS, tNever, gName, tCons, tNil, tCall, tCB, tAndV, tOrV, tNotV, tAnd, tOr, tNot, tTest, tB, tIf, tChain, tLst, tTup, tSl, tNoPart, tPart, tBM, tBM0, tFor_eq, iList, iTup, iRng1, iRng2, iStr, tYes, tDNewK, tDisp, tPairs, List.getElem?_cons_zero, List.getElem?_cons_succ, List.set_cons_zero, List.set_cons_succ, List.append_nil, List.nil_append, List.cons_append, exSlot, exBl, exInt, exStr, exRef, rI_int, rI0_int, rU_int, rAddA_int, rAddA_str, rInA_str, rNotInA_str, rLenA_str, rSlA_str, rIx_str, CMul, CDiv, CPow, rIsi_str_str, rIsi_bl_bool, tComp_eq, ite_tt, ite_ft, ite_tf, ite_ff, decide_eq_true_eq, Bool.not_eq_true', decide_eq_false_iff_not, decide_true, decide_false, rEqH_str, rEqH_int, rEqH_bl, rNeH_str, rNeH_int, rStarts_at, rEnds_at, rFind_at, rSplit_at, rPart_at, tyV_str, rInt1_bl, rInt1_int, gTup, gCons, gNil, gSub, rIsN_ref, rIsN_non, rIsN_str, rNotN_ref, rNotN_non, tDGet, tDIn, tDNotIn, sDPut, tDGet1, tDGet2, tFld, sFld, tMeth, tMake, tCMeth, rLtA_int, rLtA_str, spMix_at]
      refine ⟨G, xs, ps, ls, one, o, rfl, SqL.of (s7 _ _ h5), hR5.same s7, hW, roadq_of fun v3 H8 s8 r3 => ?_⟩
      refine res_same hW.1 (hok _ hz1) (fun p h => (hsp p h).2) r3 (((r1.same s5).same s7).same s8) ?_
      try simp only [tSeq, tAsg, tOp, tUn, tVar, tC, tRet, tRetN, tDrop, tNext, tIfS, tNever, gName, tCons, tNil, tCall, tCB, tAndV, tOrV, tNotV, tAnd, tOr, tNot, tTest, tB, tIf, tChain, tLst, tTup, tSl, tNoPart, tPart, tBM, tBM0, tFor_eq, iList, iTup, iRng1, iRng2, iStr, tYes, tDNewK, tDisp, tPairs, List.getElem?_cons_zero, List.getElem?_cons_succ, List.set_cons_zero, List.set_cons_succ, List.append_nil, List.nil_append, List.cons_append, exSlot, exBl, exInt, exStr, exRef, rI_int, rI0_int, rU_int, rAddA_int, rAddA_str, rInA_str, rNotInA_str, rLenA_str, rSlA_str, rIx_str, CMul, CDiv, CPow, rIsi_str_str, rIsi_bl_bool, tComp_eq, ite_tt, ite_ft, ite_tf, ite_ff, decide_eq_true_eq, Bool.not_eq_true', decide_eq_false_iff_not, decide_true, decide_false, rEqH_str, rEqH_int, rEqH_bl, rNeH_str, rNeH_int, rStarts_at, rEnds_at, rFind_at, rSplit_at, rPart_at, tyV_str, rInt1_bl, rInt1_int, gTup, gCons, gNil, gSub, rIsN_ref, rIsN_non, rIsN_str, rNotN_ref, rNotN_non, tDGet, tDIn, tDNotIn, sDPut, tDGet1, tDGet2, tFld, sFld, tMeth, tMake, tCMeth, rLtA_int, rLtA_str, spMix_at]
      exact ⟨_, _, _, _, _, _, _, _, rfl, (((s3.trans s4).trans s5).trans s7).trans s8⟩
    · rintro σ H3 ⟨c3, c4, c5, c6, c7, c8, c9, c10, rfl, s3⟩
      try simp only [tSeq, tAsg, tOp, tUn, tVar, tC, tRet, tRetN, tDrop, tNext, tIfS, tNever, gName, tCons, tNil, tCall, tCB, tAndV, tOrV, tNotV, tAnd, tOr, tNot, tTest, tB, tIf, tChain, tLst, tTup, tSl, tNoPart, tPart, tBM, tBM0, tFor_eq, iList, iTup, iRng1, iRng2, iStr, tYes, tDNewK, tDisp, tPairs, List.getElem?_cons_zero, List.getElem?_cons_succ, List.set_cons_zero, List.set_cons_succ, List.append_nil, List.nil_append, List.cons_append, exSlot, exBl, exInt, exStr, exRef, rI_int, rI0_int, rU_int, rAddA_int, rAddA_str, rInA_str, rNotInA_str, rLenA_str, rSlA_str, rIx_str, CMul, CDiv, CPow, rIsi_str_str, rIsi_bl_bool, tComp_eq, ite_tt, ite_ft, ite_tf, ite_ff, decide_eq_true_eq, Bool.not_eq_true', decide_eq_false_iff_not, decide_true, decide_false, rEqH_str, rEqH_int, rEqH_bl, rNeH_str, rNeH_int, rStarts_at, rEnds_at, rFind_at, rSplit_at, rPart_at, tyV_str, rInt1_bl, rInt1_int, gTup, gCons, gNil, gSub, rIsN_ref, rIsN_non, rIsN_str, rNotN_ref, rNotN_non, tDGet, tDIn, tDNotIn, sDPut, tDGet1, tDGet2, tFld, sFld, tMeth, tMake, tCMeth, rLtA_int, rLtA_str, spMix_at]
      exact q _
end
end K15
open PySem PySem.W PyProof.Rows
set_option maxRecDepth 100000 in
set_option maxHeartbeats 0 in
theorem PySem.Challenge.cw_mostwise_k15_roads_holds : PySem.Challenge.rw_mostwise_k15_roads.Holds := by
  w_on; o_law; k_head; (case hw => w_witness2)
  k_fill
  refine L2.walk_ofK (l := PySem.Challenge.rw_mostwise_k15_roads) (n := 63) (k := 6) (x := "_law_script") (CX := L2.CX0) (sp := K15.spLaw) rfl (by decide) rfl ⟨rfl, by decide, by decide⟩ (fun w h Y => PySem.W.kIn_of Y) ?F (fun K H a ns hl hO hS => K15.spLaw_of hl hO hS) (fun _ _ _ _ z => z)
  case F =>
    intro w mg fa h KX G hmg
    have T : ∃ t : K15.Adr, K15.Txt (L2.KOf KX) mg t := by
      dsimp only [L2.KOf]
      refine' Exists.imp (fun _ h => h.2.2) (K15.txt_mk KX G ?a_d_steps_to ?l_d_steps_to ?c_d_steps_to ?p_d_steps_to ?a_d_least_nearer ?l_d_least_nearer ?c_d_least_nearer ?p_d_least_nearer ?a_d_road ?l_d_road ?c_d_road ?p_d_road ?a_d_l_cell_at ?l_d_l_cell_at ?c_d_l_cell_at ?p_d_l_cell_at ?a_d_l_mix ?l_d_l_mix ?c_d_l_mix ?p_d_l_mix ?a_d_l_text ?l_d_l_text ?c_d_l_text ?p_d_l_text ?a_d_l_label ?l_d_l_label ?c_d_l_label ?p_d_l_label ?a_d_l_labels ?l_d_l_labels ?c_d_l_labels ?p_d_l_labels ?a_d_l_steps ?l_d_l_steps ?c_d_l_steps ?p_d_l_steps ?a_d_l_road ?l_d_l_road ?c_d_l_road ?p_d_l_road ?a_d_l_same ?l_d_l_same ?c_d_l_same ?p_d_l_same ?a_d_law ?l_d_law ?c_d_law ?p_d_law ?z_isinstance ?z_len ?z_list ?z_min ?z_range)
      (case a_d_steps_to => k_is)
      (case l_d_steps_to => k_is)
      (case c_d_steps_to => k_is)
      (case p_d_steps_to => k_is)
      (case a_d_least_nearer => k_is)
      (case l_d_least_nearer => k_is)
      (case c_d_least_nearer => k_is)
      (case p_d_least_nearer => k_is)
      (case a_d_road => k_is)
      (case l_d_road => k_is)
      (case c_d_road => k_is)
      (case p_d_road => k_is)
      (case a_d_l_cell_at => k_is)
      (case l_d_l_cell_at => k_is)
      (case c_d_l_cell_at => k_is)
      (case p_d_l_cell_at => k_is)
      (case a_d_l_mix => k_is)
      (case l_d_l_mix => k_is)
      (case c_d_l_mix => k_is)
      (case p_d_l_mix => k_is)
      (case a_d_l_text => k_is)
      (case l_d_l_text => k_is)
      (case c_d_l_text => k_is)
      (case p_d_l_text => k_is)
      (case a_d_l_label => k_is)
      (case l_d_l_label => k_is)
      (case c_d_l_label => k_is)
      (case p_d_l_label => k_is)
      (case a_d_l_labels => k_is)
      (case l_d_l_labels => k_is)
      (case c_d_l_labels => k_is)
      (case p_d_l_labels => k_is)
      (case a_d_l_steps => k_is)
      (case l_d_l_steps => k_is)
      (case c_d_l_steps => k_is)
      (case p_d_l_steps => k_is)
      (case a_d_l_road => k_is)
      (case l_d_l_road => k_is)
      (case c_d_l_road => k_is)
      (case p_d_l_road => k_is)
      (case a_d_l_same => k_is)
      (case l_d_l_same => k_is)
      (case c_d_l_same => k_is)
      (case p_d_l_same => k_is)
      (case a_d_law => k_is)
      (case l_d_law => k_is)
      (case c_d_law => k_is)
      (case p_d_law => k_is)
      (case z_isinstance => k_is)
      (case z_len => k_is)
      (case z_list => k_is)
      (case z_min => k_is)
      (case z_range => k_is)
    obtain ⟨t, T⟩ := T
    obtain ⟨_, _, _, _, _, _, _, _, _, e2, _, _⟩ := T.F_d_law.ex
    have e0 := hmg.symm.trans T.g_d_law
    cases e0
    exact ⟨t.fd_d_law, fun s u => by rw [e2]; exact .of_eq rfl, fun base kb nb => K15.ok_d_law T⟩
